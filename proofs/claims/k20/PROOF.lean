import PyProof.Rows.All
import Wide.All
import OpenK.AllK
import Wide.FinOn
import Lean
import PyProof.EqAt
import PyProof.EqKinds
import PyProof.TupleCall
import PyProof.NeKinds
import PyProof.Draws
import PyProof.ZipIter
import KE.KSortTup
import PyProof.DictWalks
import KE.KDictList
import KE.KDictSum
import PyProof.AttrMissSeq
import PyProof.MinMaxWalk
import PyProof.AttrMissHeap
import PyProof.FactsAll.zip
import PyProof.Rows.SortRuns
import PyProof.Rows.SortKey
import PyProof.ExcBaseAll.ValueError
import OpenK.KOwn
import PyProof.InstStoreFacts
import PyProof.ExcInit
import PyProof.RulesDel
import PyProof.RulesAs
import KE.KItemsList
import PyProof.SetRoads
import PyProof.WalksMore
import PyProof.Rows.SetFrom
import PyProof.IsRules
import PyProof.Cells
import PyProof.ListRange
import PyProof.ListTruth
import KE.KEqDict
import KE.KRevIter
import PyProof.StrLawsIn
import KE.KTupSum
import PyProof.MeetsStr3
import PyProof.StrCalls6
import PySem.Challenge.RW_roomtally_k20_tallies_of_a_handed_knot
set_option Elab.async false
set_option linter.all false
set_option compiler.extract_closed false
set_option maxRecDepth 100000
set_option maxHeartbeats 4000000
noncomputable section
open PySem List
abbrev No(x:PySem.Str):Prop:=(x==("__debug__":PySem.Str))=false
abbrev N_(x:PySem.Str):Prop:=(x==("__classdict__":PySem.Str))=false
abbrev At:=List PySem.Str
abbrev By:=List Int
abbrev Do:=List PySem.Value
abbrev Ex:=Option PySem.Value
abbrev FG:=Array PySem.Value
abbrev Ge:=List Nat
abbrev Go:=Option PySem.Addr
abbrev Ha:=List PySem.Addr
abbrev Hq:=List PySem.Stmt
abbrev dE{α:Sort u}{β:Sort v}{a:α->β}(i:α):a i=a i:=rfl
abbrev dF{α:Sort u}{γ:α->Sort w}{β:Sort v}{a:∀i,γ i->β}(i:α)(j:γ i):a i j=a i j:=rfl
abbrev aA:=@length_map
abbrev aB:=@if_neg
abbrev aC:=@if_pos
abbrev aF:=@mem_cons
abbrev aG:=@length_append
abbrev aH:=@getElem?_eq_getElem
abbrev aI:=@List.getElem?_eq_some_iff
abbrev aJ:=@Option.map_eq_some_iff
abbrev aK:=@decide_eq_true
abbrev aL:=@of_decide_eq_true
abbrev aM:=@mem_of_getElem?
abbrev aO:=@length_take
abbrev aP:=@mem_map_of_mem
abbrev aQ:=@Nat.le_refl
abbrev aR:=@Nat.le_trans
abbrev aS:=@Heap.get?_push_of_some
abbrev aT:=@congrArg
abbrev aU:=@Nat.lt_of_lt_of_le
abbrev aW:=@decide_eq_true_iff
abbrev aX:=@Nat.lt_irrefl
abbrev aY:=@Nat.le_of_lt
abbrev aZ:=@take_of_length_le
abbrev bA:=@mem_append
abbrev bB:=@not_mem_nil
abbrev bC:=@nodup_cons
abbrev bD:=@perm_ext_iff_of_nodup
abbrev bG:=@length_range
abbrev bH:=@mem_range
abbrev bI:=@mem_singleton
abbrev bJ:=@take_add_one
abbrev bK:=@append_assoc
abbrev bL:=@wpAny_mono
abbrev bM:=@wpAny_holding
abbrev bN:=@Heap.lt_size
abbrev bO:=@getElem?_map
abbrev bP:=@Heap.get?_push_size
abbrev bQ:=@getElem?_eq_none
abbrev bR:=@Array.length_toList
abbrev bS:=@absurd
abbrev bT:=@mem_cons_of_mem
abbrev bU:=@mem_map
abbrev bV:=@getElem?_set_ne
abbrev bW:=@getD_eq_getElem?_getD
abbrev bX:=@Nat.ne_of_lt
abbrev bY:=@getElem?_set_self
abbrev bZ:=@map_map
abbrev cA:=@mem_cons_self
abbrev cB:=@Bool.and_eq_true
abbrev cC:=@mem_append_right
abbrev cD:=@Nat.zero_le
abbrev cE:=@Nat.lt_or_ge
abbrev cF:=@map_congr_left
abbrev cG:=@wpAny_newObj_type
abbrev cH:=@Bool.false_ne_true
abbrev cJ:=@decide_eq_false
abbrev cK:=@Array.getElem?_eq_getElem
abbrev cL:=@Heap.get?_update_other
abbrev cM:=@eq_nil_of_length_eq_zero
abbrev cN:=@map_append
abbrev cP:=@wpAny_call_entry
abbrev cR:=@Nat.le_succ
abbrev cS:=@pairwise_cons
abbrev cT:=@sizeLine_eq
abbrev cU:=@PySem.W.mg_none_of
abbrev cW:=@mem_filter
abbrev dC:=@if_true
abbrev VS:=Value->Shared->Prop
abbrev oI:=@Option.some.inj
abbrev Fg:=PySem.W.Frag
local macro_rules
 |`(nofun)=>`(by decide +kernel)
variable{fd:FuncData}{ps ys N ks N' ss qI qC row U:At}{G:Do}{x qual:Str}{u v' u':Value}{a it d z i1 i2 l1 l2 D I:Addr}{h h' base:Heap}{w:World}{L:List By}{p:Array Nat}{qA:List (Addr×Obj)}{s:Shared}{t' i j n nrem ep:Nat}{A:Around}{E Q:VS}{pos pos' qK qJ:Pos}{c tg iter ce:Expr}{st:Stmt}{es ifs elts:List Expr}{lo:Int}{fp:Ha}{r ns:By}{mg m:Str->Ex}{sc scope:Scope}{prog P':Program}{qG:FG}{env:Env}{q:By×Int}{qD:List (Option Nat)}{O:KeyOrd}{Z:Addr->Prop}{Kf:Fg}{rs:List At}
abbrev wB:=@PySem.wpAny_bind
abbrev wP:=@PySem.wpAny_pure
local macro_rules
 |`(tactic| trivial)=>`(tactic| first|exact .inl rfl|exact .inr rfl|exact .inr (.inl rfl)|exact .inr (.inr rfl)|assumption)
local macro_rules|`('0')=>`(⟨rfl,rfl,rfl,by decide +kernel,rfl,by decide +kernel,by decide +kernel⟩)
local macro_rules|`('1')=>`(⟨rfl,by decide +kernel,by decide +kernel,by decide +kernel,by decide +kernel,rfl,by decide +kernel⟩)
local macro_rules|`('2')=>`(by simp)
local macro_rules|`('3')=>`(by decide)
local macro_rules|`('4')=>`(by simp;lia)
local macro_rules|`('5')=>`(λz=>nomatch z)
local macro_rules|`('6')=>`(λ_ z=>nomatch z)
local macro_rules|`('7')=>`(λ_=>PassesOwn.never)
local macro_rules|`('8')=>`(λ_ _ _=>rfl)
local macro_rules|`('9')=>`(λ_ _=>False)
local macro_rules|`('A')=>`(wpAny _ _)
local macro_rules|`(~~~$a)=>`(by simpa using $a)
local macro_rules|`(tactic|rfl)=>`(tactic|(intro _;eq_refl))
local macro_rules|`($a\$b)=>`($a=some $b)
local macro_rules|`('B')=>return Lean.Syntax.mkApp (Lean.mkIdent `wpAny) #[Lean.Syntax.mkApp (Lean.mkIdent `model) #[(Lean.mkIdent `X.prog),(Lean.mkIdent `X.w)],(Lean.mkIdent `X.A)]
local macro_rules|`('C')=>return Lean.Syntax.mkApp (Lean.mkIdent `wpAny) #[Lean.Syntax.mkApp (Lean.mkIdent `model) #[(Lean.mkIdent `prog),(Lean.mkIdent `w)],(Lean.mkIdent `A)]
local macro_rules|`('E')=>return Lean.Syntax.mkApp (Lean.mkIdent `Fn) #[(Lean.mkIdent `P'),(Lean.mkIdent `w),(Lean.mkIdent `K),(Lean.mkIdent `mg),(Lean.mkIdent `base)]
local macro_rules|`('F')=>return (Lean.mkIdent `s.heap.get?)
local macro_rules|`('H')=>return (Lean.mkIdent `s.heap.objs.size)
local macro_rules|`('I')=>`(λ_=>$(Lean.mkIdent `T.b_len))
local macro_rules|`('J')=>`(λ_=>$(Lean.mkIdent `Aw))
local macro_rules|`('K')=>`(λ_=>$(Lean.mkIdent `T.b_tuple))
local macro_rules|`(⋯)=>`(by lia)
namespace L2
open PySem PySem.Spec PyProof.Rows
theorem EY(h:G.length=1)(k:∀a,bindArgs fd ⟨[a],[]⟩=pure (ps.zip [a])):bindArgs fd ⟨G,[]⟩=pure (ps.zip G):=by
 cases G with
 |nil=>cases h
 |cons a l=>cases l with
  |nil=>exact k a
  |cons _ _=>cases h
theorem Bo(h:G.length=2)(k:∀a b,bindArgs fd ⟨[a,b],[]⟩=pure (ps.zip [a,b])):bindArgs fd ⟨G,[]⟩=pure (ps.zip G):=by
 rcases G with _|⟨a,_|⟨b,_|⟨_,_⟩⟩⟩<;>first|exact k _ _|cases h
theorem GR(h:G.length=3)(k:∀a b c,bindArgs fd ⟨[a,b,c],[]⟩=pure (ps.zip [a,b,c])):bindArgs fd ⟨G,[]⟩=pure (ps.zip G):=by
 rcases G with _|⟨a,_|⟨b,_|⟨c,_|⟨_,_⟩⟩⟩⟩<;>first|exact k _ _ _|cases h
theorem ND(h:G.length=4)(k:∀a b c d,bindArgs fd ⟨[a,b,c,d],[]⟩=pure (ps.zip [a,b,c,d])):bindArgs fd ⟨G,[]⟩=pure (ps.zip G):=by
 rcases G with _|⟨a,_|⟨b,_|⟨c,_|⟨d,_|⟨_,_⟩⟩⟩⟩⟩<;>first|exact k _ _ _ _|cases h
abbrev AK:=Sum Int Str
def Fd:AK->Value->Bool
 |.inl k,v=>Value.isInt k v
 |.inr x,v=>Value.isStrOf x v
def Ti(w:World):AK->Int
 |.inl k=>hashInt k
 |.inr x=>hashStr w x
theorem Dr:∀{k:AK} {v:Value},Fd k v=true->(∃i t,k=Sum.inl i/\v=Value.int i t)\/(∃x t,k=Sum.inr x/\v=Value.str x t)
 |.inl i,v,h=>by
  obtain⟨t,e⟩:=Value.isInt_shape (k:=i) (v:=v) h;exact .inl ⟨i,t,rfl,e⟩
 |.inr x,v,h=>by
  obtain⟨t,e⟩:=Value.isStrOf_shape (x:=x) (v:=v) h;exact .inr ⟨x,t,rfl,e⟩
theorem Tj(i:Int)(t:Tok):Fd (.inl i) (.int i t)=true:=by simp[Fd,Value.isInt]
theorem Tk(x:Str)(t:Tok):Fd (.inr x) (.str x t)=true:=by simp[Fd,Value.isStrOf]
theorem Tn(a b:Int):decide ((Sum.inl a:AK)=Sum.inl b)=(a==b):=by
 by_cases e:a=b
 ·subst e;simp
 ·have h:¬(Sum.inl a:AK)=Sum.inl b:=λq=>e (Sum.inl.inj q);rw[cJ h];exact(beq_eq_false_iff_ne.mpr e).symm
theorem Tp(a b:Str):decide ((Sum.inr a:AK)=Sum.inr b)=decide (a=b):=by
 by_cases e:a=b
 ·subst e;simp
 ·have h:¬(Sum.inr a:AK)=Sum.inr b:=λq=>e (Sum.inr.inj q);rw[cJ h,cJ e]
theorem Tq(a:Int)(b:Str):decide ((Sum.inl a:AK)=Sum.inr b)=false:=cJ (λq=>nomatch q)
theorem Tr(a:Str)(b:Int):decide ((Sum.inr a:AK)=Sum.inl b)=false:=cJ (λq=>nomatch q)
def Bq(prog:Program)(w:World):PySem.KeyKind prog w AK where
 is:=Fd
 hash:=Ti w
 inj:=λv a b ha hb=>by
  rcases Dr ha with⟨i,t,rfl,rfl⟩|⟨x,t,rfl,rfl⟩
  ·rcases Dr hb with⟨j,u,rfl,e⟩|⟨y,u,rfl,e⟩
   ·injection e with e1 _;rw[e1]
   ·exact nomatch e
  ·rcases Dr hb with⟨j,u,rfl,e⟩|⟨y,u,rfl,e⟩
   ·exact nomatch e
   ·injection e with e1 _;rw[e1]
 byValue:=λk v h=>by
  rcases Dr h with⟨i,t,rfl,rfl⟩|⟨x,t,rfl,rfl⟩<;>rfl
 pyHash:=λhv h=>by
  rcases Dr hv with⟨i,t,rfl,rfl⟩|⟨x,t,rfl,rfl⟩
  ·exact wpAny_pyHash_int h
  ·exact wpAny_pyHash_str h
 eqBool:=λhu hv h=>by
  rcases Dr hu with⟨i,t,rfl,rfl⟩|⟨x,t,rfl,rfl⟩
  ·rcases Dr hv with⟨j,u,rfl,rfl⟩|⟨y,u,rfl,rfl⟩
   ·rw[Tn]at h;exact wpAny_eqBool_int h
   ·rw[Tq]at h;exact SeqAt.EqAt.int_str i t y u _ _ _ _ h
  ·rcases Dr hv with⟨j,u,rfl,rfl⟩|⟨y,u,rfl,rfl⟩
   ·rw[Tr]at h;exact SeqAt.EqAt.str_int x t j u _ _ _ _ h
   ·rw[Tp]at h;exact wpAny_eqBool_str h
 «strs»:=λk x t v h=>by
  rcases Dr h with⟨i,u,rfl,e⟩|⟨y,u,rfl,e⟩
  ·exact nomatch e
  ·injection e with e1 _
   subst e1;cases v<;>rfl
theorem Ts(prog:Program)(w:World)(i:Int)(t:Tok):(Bq prog w).is (.inl i) (.int i t)=true:=Tj i t
theorem Tt(prog:Program)(w:World)(x:Str)(t:Tok):(Bq prog w).is (.inr x) (.str x t)=true:=Tk x t
inductive V where
 |non|bl (b:Bool)|int (i:Int)|str (x:Str)|byt (b:Array UInt8)|flt (b:UInt64)|ref (a:Addr)|ty (n:String)
 deriving DecidableEq
abbrev dG:=List V
def AJ:V->Value->Prop
 |.non,u=>u=Value.none
 |.bl b,u=>u=Value.bool b
 |.int i,u=>∃t,u=Value.int i t
 |.str x,u=>∃t,u=Value.str x t
 |.byt b,u=>∃t,u=Value.bytes b t
 |.flt b,u=>∃t,u=Value.float b t
 |.ref a,u=>u=Value.ref a
 |.ty n,u=>u=Value.type n
abbrev AQ:dG->Do->Prop:=Paired AJ
theorem AQ.length{xs:dG}(r:AQ xs G):xs.length=G.length:=Paired.length r
theorem AQ.get:∀{xs:dG} {G:Do} {i:Nat} {x:V},AQ xs G->xs[i]?\x->∃u,G[i]?\u/\AJ x u
 |_,_,_,_,.nil,e=>by simp at e
 |_,_,0,_,.cons r _,e=>by simp at e;subst e;exact⟨_,rfl,r⟩
 |_,_,i+1,x,.cons _ t,e=>by
  obtain⟨u,h1,h2⟩:=AQ.get (i:=i) (x:=x) t (~~~e);exact⟨u,by simpa using h1,h2⟩
theorem AQ.set{x:V}{u:Value}(r:AJ x u):∀{xs:dG} {G:Do} (i:Nat),AQ xs G->AQ (xs.set i x) (G.set i u)
 |_,_,_,.nil=>.nil
 |_,_,0,.cons _ t=>.cons r t
 |_,_,i+1,.cons q t=>.cons q (AQ.set r i t)
theorem AQ.append{xs ys:dG}{ws:Do}(h:AQ xs G)(s:AQ ys ws):AQ (xs++ys) (G++ws):=by
 unfold AQ at h
 induction h with
 |nil=>exact s
 |cons r t a=>exact .cons r a
theorem AQ.take:∀{xs:dG} {G:Do} (n:Nat),AQ xs G->AQ (xs.take n) (G.take n)
 |_,_,0,_=>.nil
 |_,_,_+1,.nil=>.nil
 |_,_,n+1,.cons r t=>.cons r (AQ.take n t)
theorem AQ.drop:∀{xs:dG} {G:Do} (n:Nat),AQ xs G->AQ (xs.drop n) (G.drop n)
 |_,_,0,r=>r
 |_,_,_+1,.nil=>.nil
 |_,_,n+1,.cons _ t=>AQ.drop n t
def Cv:Option V->Ex->Prop
 |some v,some u=>AJ v u
 |none,none=>True
 |_,_=>False
def KV{κ:Type}:List (κ×V)->List (κ×Value)->Prop:=Paired λ(p:κ×V) (q:κ×Value)=>p.1=q.1/\AJ p.2 q.2
def kV:AK->V
 |.inl i=>.int i
 |.inr x=>.str x
inductive HO where
 |lst (xs:dG)
 |tup (xs:dG)
 |dK (qH:List (AK×V))|dT (qH:List (List AK×V))
 |set (S:Int->Bool) (n:Nat)
 |ins (C dx:Addr) (fs:List (Str×V))
 |own (x:Addr)
 |xd (fs:List (Str×V))
 |met (f x:Addr)
 |rng (lo hi:Int)
 |frz (o:Obj) (u:HO)
 |tbl (ps:FG)
 |ext (φ:Heap->Prop)
abbrev Hp:=Addr->Option HO
def AD(H:Hp)(a:Addr)(o:HO):Hp:=λb=>if b=a then some o else H b
theorem AX{H:Hp}{o:HO}:AD H a o a\o:=by unfold AD;rw[aC rfl]
theorem AI{H:Hp}{b:Addr}{o:HO}(h:b≠a):AD H a o b=H b:=by unfold AD;rw[aB h]
theorem Fe{H:Hp}{o u:HO}:AD (AD H a o) a u=AD H a u:=by
 funext b;unfold AD;split<;>rfl
theorem EZ{H:Hp}{b:Addr}{o u:HO}(h:H a\o)(h':H b\u)(d:o≠u):a≠b:=by
 intro e;subst e;rw[h]at h';exact d (oI h')
theorem Ao{H:Hp}{b:Addr}{o:HO}(h:H a\o)(h':H b=none):a≠b:=by
 intro e;subst e;rw[h]at h';cases h'
def DX(h:Heap)(a:Addr)(items:FG):Prop:=∃o,h.get? a\o/\o.cls=.type "tuple"/\(∃n,o.data=.seq items n)/\o.dict=none
theorem DX.tup{items:FG}(x:DX h a items):IsTup h a items:=by obtain⟨o,e,c,d,_⟩:=x;exact ⟨o,e,c,d⟩
theorem DX.new(h:Heap)(items:FG):DX (h.push { cls:=.type "tuple",data:=.seq items }) h.objs.size items:=⟨_,bP _ rfl,rfl,⟨_,rfl⟩,rfl⟩
section
variable(P:Program)(w:World)
def A3(H:Hp)(h:Heap)(a:Addr):HO->Prop
 |.lst xs=>xs.length<=sizeLine/\∃(qG:Do) (n:Nat),AQ xs qG/\h.get? a\{ cls:=.type "list",data:=.seq qG.toArray n }
 |.tup xs=>xs.length<=sizeLine/\∃qG:Do,AQ xs qG/\DX h a qG.toArray
 |.dK qH=>qH.length<=sizeLine/\(a==sysModules)=false/\∃vs,KV qH vs/\h.DictOf (Bq P w) a vs
 |.dT qH=>qH.length<=sizeLine/\(a==sysModules)=false/\∃xs:List (List AK×Addr×Value),
   Paired (λ(p:List AK×V) (q:List AK×Addr×Value)=>p.1=q.1/\H q.2.1\(.tup (p.1.map kV))/\AJ p.2 q.2.2) qH xs /\
   ∃o es ep,h.get? a\o/\o.ExactDict/\o.data=.dict es ep/\es.toList=xs.map (entryOfKey (tupleKind (Bq P w)))/\(xs.map (·.1)).Nodup
 |.set S n=>h.SetOf (intKind P w) a S n
 |.ins C dx fs=>H dx\(.own a)/\fs.length<=1000/\dx≠a/\h.get? a\(PySem.W.instObj C dx) /\
   ∃mA,h.Ns1 dx mA/\(∀f,Cv (fs.lookup f) (mA f))/\PySem.Within mA (fs.map (·.1))
 |.own _=>∃o,h.get? a\o
 |.xd fs=>∃mA,h.Ns1 a mA/\∀f,Cv (fs.lookup f) (mA f)
 |.rng lo hi=>∃t u v,h.get? a\{ cls:=.type "range",data:=.fields #[.int lo t,.int hi u,.int 1 v] }
 |.frz o u=>h.get? a\o/\A3 H h a u
 |.tbl ps=>h.get? a\{ cls:=.none,data:=.fields ps }
 |.met f x=>h.get? a\(PySem.W.methodObj (.ref f) (.ref x))
 |.ext φ=>φ h/\(∃o,h.get? a\o)/\∀h1 h2:Heap,φ h1->(∀o,h1.get? a\o->h2.get? a\o)->φ h2
def A7(H:Hp)(h:Heap):Prop:=∀a o,H a\o->A3 P w H h a o
end
section
variable{P:Program}{H H':Hp}{o:HO}
theorem A3.lt(x:A3 P w H h a o):a<h.objs.size:=by
 cases o with
 |lst xs=>obtain⟨_,_,_,_,e⟩:=x;exact bN e
 |tup xs=>obtain⟨_,_,_,p⟩:=x;exact p.tup.lt
 |dK qH=>obtain⟨_,_,_,_,o,_,_,e,_⟩:=x;exact bN e
 |dT qH=>obtain⟨_,_,_,_,o,_,_,e,_⟩:=x;exact bN e
 |set S n=>obtain⟨o,_,_,_,e,_⟩:=x;exact bN e
 |ins C dx fs=>obtain⟨_,_,_,e,_⟩:=x;exact bN e
 |own y=>obtain⟨_,e⟩:=x;exact bN e
 |xd fs=>obtain⟨_,⟨_,_,_,e,_⟩,_⟩:=x;exact bN e
 |rng lo hi=>obtain⟨_,_,_,e⟩:=x;exact bN e
 |frz ob u=>obtain⟨e,_⟩:=x;exact bN e
 |tbl ps=>exact bN (show h.get? a\_ from x)
 |met f y=>exact bN (show h.get? a\_ from x)
 |ext φ=>obtain⟨_,⟨_,e⟩,_⟩:=x;exact bN e
theorem Paired.mapP{α d:Type}{F us:α->d->Prop}{c:List α}{l₂:List d}(h:Paired F c l₂)(f:∀a b,F a b->us a b):Paired us c l₂:=by
 induction h with
 |nil=>exact .nil
 |cons r t e=>exact .cons (f _ _ r) e
theorem A3.stay(x:A3 P w H h a o)(k:∀b u,(b=a\/H b\(.own a))->h.get? b\u->h'.get? b\u)
  (j:∀b,H b\(.own a)->H' b\(.own a)) (i:∀b xs,H b\(.tup xs)->H' b\(.tup xs)):A3 P w H' h' a o:=by
 induction o with
 |lst xs=>obtain⟨z,qG,n,r,e⟩:=x;exact⟨z,qG,n,r,k _ _ (.inl rfl) e⟩
 |tup xs=>obtain⟨z,qG,r,ob,e,c⟩:=x;exact⟨z,qG,r,ob,k _ _ (.inl rfl) e,c⟩
 |dK qH=>obtain⟨z,y,vs,r,ob,es,ep,e,c⟩:=x;exact⟨z,y,vs,r,ob,es,ep,k _ _ (.inl rfl) e,c⟩
 |dT qH =>
  obtain⟨z,y,xs,r,ob,es,ep,e,c⟩:=x;exact⟨z,y,xs,Paired.mapP r λp q z=>⟨z.1,i _ _ z.2.1,z.2.2⟩,ob,es,ep,k _ _ (.inl rfl) e,c⟩
 |set S n=>obtain⟨ob,es,ep,t,e,c⟩:=x;exact⟨ob,es,ep,t,k _ _ (.inl rfl) e,c⟩
 |ins C dx fs =>
  obtain⟨d,z,ne,e,mA,⟨od,es,ep,l,c⟩,r⟩:=x;exact⟨j _ d,z,ne,k _ _ (.inl rfl) e,mA,⟨od,es,ep,k _ _ (.inr d) l,c⟩,r⟩
 |own y=>obtain⟨ob,e⟩:=x;exact⟨ob,k _ _ (.inl rfl) e⟩
 |xd fs=>obtain⟨mA,⟨od,es,ep,e,c⟩,r⟩:=x;exact⟨mA,⟨od,es,ep,k _ _ (.inl rfl) e,c⟩,r⟩
 |rng lo hi=>obtain⟨t,u,v,e⟩:=x;exact⟨t,u,v,k _ _ (.inl rfl) e⟩
 |frz ob u g=>obtain⟨e,q⟩:=x;exact⟨k _ _ (.inl rfl) e,g q⟩
 |tbl ps =>
  have e:h.get? a\{ cls:=.none,data:=.fields ps }:=x;show h'.get? a\{ cls:=.none,data:=.fields ps };exact k a _ (.inl rfl) e
 |met f y =>
  have e:h.get? a\(PySem.W.methodObj (.ref f) (.ref y)):=x;show h'.get? a\(PySem.W.methodObj (.ref f) (.ref y));exact k a _ (.inl rfl) e
 |ext φ=>obtain⟨p,⟨o,e⟩,st⟩:=x;exact⟨st _ _ p λo q=>k _ _ (.inl rfl) q,⟨o,k _ _ (.inl rfl) e⟩,st⟩
theorem A7.lt(x:A7 P w H h)(e:H a\o):a<h.objs.size:=(x a o e).lt
theorem A7.fresh(x:A7 P w H h)(e:h.objs.size<=a):H a=none:=by
 cases q:H a with
 |none=>rfl
 |some u=>exact bS (aU (x.lt q) e) (aX _)
theorem A7.kept(x:A7 P w H h)(k:∀b u,h.get? b\u->h'.get? b\u):A7 P w H h':=λa o e =>
 (x a o e).stay (λb u _ q=>k b u q) (λ_ q=>q) λ_ _ q=>q
theorem A7.laid(x:A7 P w H h)(k:∀b u,h.get? b\u->h'.get? b\u)(f:h.objs.size<=a)(new:A3 P w (AD H a o) h' a o):A7 P w (AD H a o) h':=λb u e=>by
 have hn:=x.fresh f;by_cases d:b=a
 ·subst d;rw[AX]at e;cases e;exact new
 ·rw[AI d]at e;exact(x b u e).stay (λc v _ q=>k c v q) (λc q=>by rw[AI (Ao q hn)];exact q) λc xs q=>by rw[AI (Ao q hn)];exact q
end
def Rd(H:Hp)(a:Addr)(u:HO):Prop:=H a\u\/∃o,H a\(.frz o u)
theorem Rd.of{H:Hp}{u:HO}(h:H a\u):Rd H a u:=.inl h
theorem Rd.ok{P:Program}{H:Hp}{u:HO}(r:Rd H a u)(x:A7 P w H h):A3 P w H h a u:=by
 rcases r with r|⟨o,r⟩
 ·exact x a u r
 ·obtain⟨_,q⟩:=x a _ r;exact q
def GS:Option HO->Prop
 |some (.lst _)=>True
 |some (.dK _)=>True
 |some (.dT _)=>True
 |some (.set _ _)=>True
 |some (.ins _ _ _)=>True
 |some (.ext _)=>True
 |_=>False
section
variable{P:Program}{H:Hp}{x e:Addr}{o':HO}
theorem A7.write(ok:A7 P w H h)(g:GS (H x))(l:e=x\/H e\(.own x))(k:∀b u,b≠e->h.get? b\u->h'.get? b\u)(j:∃u,h'.get? e\u)
  (new:A3 P w (AD H x o') h' x o'):A7 P w (AD H x o') h':=λb u q=>by
 have d:∀c y,H c\(.own y)->c≠x:=λc y r z=>by subst z;rw[r]at g;exact g
 have f:∀c xs,H c\(.tup xs)->c≠x:=λc xs r z=>by subst z;rw[r]at g;exact g
 by_cases i:b=x
 ·subst i;rw[AX]at q;cases q;exact new
 ·rw[AI i]at q;by_cases a:b=e
  ·have q':H b\(.own x):=by
    rcases l with z|z
    ·exact bS (a.trans z) i
    ·rw[a];exact z
   rw[q]at q';cases q';obtain⟨v,m⟩:=j;exact⟨v,by rw[a];exact m⟩
  ·refine(ok b u q).stay (λc v hc r=>k c v ?_ r) (λc r=>by rw[AI (d c b r)];exact r) λc xs r=>by rw[AI (f c xs r)];exact r
   rcases hc with rfl|hc
   ·exact a
   ·rintro rfl;rcases l with z|z
    ·exact d c b hc z
    ·rw[hc]at z;cases z;exact i rfl
end
structure Un(fs ex:Ha)(H H':Hp)(h h':Heap):Prop where
 keep:∀b o,h.get? b\o->H b=none->b∉fs->b∉ex->h'.get? b\o
 slot:∀b o,h.get? b\o->H b=none->b∈fs->b∉ex->∃sl,h'.get? b\{ o with slots:=sl }
 free:∀b o,h.get? b\o->H b=none->b∉ex->H' b=none
 there:∀b o,h.get? b\o->b∉ex->∃o',h'.get? b\o'
 tups:∀b xs,H b\(.tup xs)->H' b\(.tup xs)
 frzs:∀b o u,H b\(.frz o u)->H' b\(.frz o u)
 tbls:∀b ps,H b\(.tbl ps)->∃more,H' b\(.tbl (ps++more))
section
variable{fs fs' ex ex':Ha}{H H1 H2:Hp}{h1 h2:Heap}{x e:Addr}{o:HO}
theorem Un.any(u:Un fs ex H H1 h h1){b:Addr}{ob:Obj}(q:h.get? b\ob)(n:H b=none)(a:b∉ex):∃sl,h1.get? b\{ ob with slots:=sl }:=by
 by_cases c:b∈fs
 ·exact u.slot b ob q n c a
 ·exact⟨ob.slots,u.keep b ob q n c a⟩
theorem Un.trans(a:Un fs ex H H1 h h1)(b:Un fs ex H1 H2 h1 h2):Un fs ex H H2 h h2 where
 keep:=λc ob q n f d=>b.keep c ob (a.keep c ob q n f d) (a.free c ob q n d) f d
 slot:=λc ob q n f d=>by
  obtain⟨sl,e⟩:=a.slot c ob q n f d;obtain⟨g,i⟩:=b.slot c _ e (a.free c ob q n d) f d;exact⟨g,i⟩
 free:=λc ob q n d=>by
  obtain⟨o',e⟩:=a.there c ob q d;exact b.free c o' e (a.free c ob q n d) d
 there:=λc ob q d=>by
  obtain⟨o',e⟩:=a.there c ob q d;exact b.there c o' e d
 tups:=λc xs q=>b.tups c xs (a.tups c xs q)
 frzs:=λc ob xs q=>b.frzs c ob xs (a.frzs c ob xs q)
 tbls:=λc ps q=>by
  obtain⟨l,e⟩:=a.tbls c ps q;obtain⟨j,i⟩:=b.tbls c _ e;exact⟨l++j,by rw[i,Array.append_assoc]⟩
theorem Un.kept(k:∀b u,h.get? b\u->h'.get? b\u):Un fs ex H H h h' :=
 ⟨λb ob q _ _ _=>k b ob q,λb ob q _ _ _=>⟨ob.slots,k b ob q⟩,λ_ _ _ n _=>n,λb ob q _=>⟨ob,k b ob q⟩,λ_ _ q=>q,λ_ _ _ q=>q,λ_ ps q=>⟨#[],by rw[q];simp⟩⟩
theorem Un.refl:Un fs ex H H h h:=Un.kept λ_ _ q=>q
theorem Un.laid(k:∀b u,h.get? b\u->h'.get? b\u)(c:h.objs.size<=a)(hn:H a=none):Un fs ex H (AD H a o) h h' where
 keep:=λb u q _ _ _=>k b u q
 slot:=λb u q _ _ _=>⟨u.slots,k b u q⟩
 free:=λb u q n _=>by rw[AI (bX (aU (bN q) c))];exact n
 there:=λb u q _=>⟨u,k b u q⟩
 tups:=λb xs q=>by rw[AI (Ao q hn)];exact q
 frzs:=λb u xs q=>by rw[AI (Ao q hn)];exact q
 tbls:=λb ps q=>⟨#[],by rw[AI (Ao q hn),q];simp⟩
theorem Un.write(c:GS (H x))(i:e=x\/H e\(.own x))(k:∀b u,b≠e->h.get? b\u->h'.get? b\u)(d:∃u,h'.get? e\u):Un fs ex H (AD H x o) h h':=by
 have f:∀b,H b=none->b≠x:=λb n z=>by subst z;rw[n]at c;exact c
 have g:∀b,H b=none->b≠e:=λb n z=>by
  subst z;rcases i with r|r
  ·exact f b n r
  ·rw[n]at r;cases r
 have hm:∀b u,H b\u->¬GS (some u)->b≠x:=λb u q nm z=>by subst z;rw[q]at c;exact nm c
 refine⟨λb u q n _ _=>k b u (g b n) q,λb u q n _ _=>⟨u.slots,k b u (g b n) q⟩,λb u q n _=>by rw[AI (f b n)];exact n,λb u q _=>?_,
  λb xs q=>by rw[AI (hm b _ q λz=>z)];exact q,λb u xs q=>by rw[AI (hm b _ q λz=>z)];exact q,λb ps q=>⟨#[],by rw[AI (hm b _ q λz=>z),q];simp⟩⟩
 by_cases a:b=e
 ·subst a;exact d
 ·exact⟨u,k b u a q⟩
end
def IK(h:Heap)(H:Hp):Ha:=(List.range h.objs.size).filter λa=>(H a).isSome
def D8(h:Heap)(H:Hp):Heap:=PySem.W.hideAll h (IK h H)
theorem Tu(h:Heap)(H:Hp):(D8 h H).objs.size=h.objs.size:=PySem.W.hideAll_size _ _
theorem Tv{H:Hp}{b:Addr}{o:Obj}(e:h.get? b\o)(n:H b=none):(D8 h H).get? b\o :=
 PySem.W.hideAll_get _ e λa=>by
  have q:(H b).isSome=true:=(cW.mp a).2;rw[n]at q;simp at q
theorem Tw{H:Hp}{b:Addr}{o:Obj}(e:(D8 h H).get? b\o):h.get? b\o/\H b=none:=by
 have a:h.get? b\o:=PySem.W.of_hideAll (IK h H) e;refine⟨a,?_⟩;cases q:H b with
 |none=>rfl
 |some x =>
  have c:b∈IK h H:=cW.mpr ⟨bH.mpr (bN a),by simp[q]⟩;have z:(D8 h H).get? b=none:=PySem.W.hideAll_none (IK h H) c;rw[z]at e;cases e
def D9(g h:Heap)(L:Addr):List (Addr×Obj):=(List.range h.objs.size).filterMap λa=>if a=L\/(g.get? a).isSome=true then none else(h.get? a).map λo=>(a,o)
theorem Ea{g:Heap}{L:Addr}{o:Obj}(h1:a≠L)(h2:g.get? a=none)(c:h.get? a\o):(a,o)∈D9 g h L :=
 mem_filterMap.mpr ⟨a,bH.mpr (bN c),by simp[h1,h2,c]⟩
theorem Tx{g:Heap}{L:Addr}{p:Addr×Obj}(c:p∈D9 g h L):p.1≠L/\g.get? p.1=none/\h.get? p.1\p.2:=by
 obtain⟨b,_,e⟩:=mem_filterMap.mp c;split at e
 ·cases e
 ·rename_i a;cases q:h.get? b with
  |none=>rw[q]at e;simp at e
  |some u =>
   rw[q]at e;simp only[Option.map_some,Option.some.injEq]at e;subst e;refine⟨λz=>a (.inl z),?_,q⟩;show g.get? b=none;cases r:g.get? b with
   |none=>rfl
   |some v=>exact(a (.inr (by simp[r]))).elim
def qF(g h:Heap)(L d:Addr):List (Addr×Obj):=(D9 g h L).filter λp=>decide (p.1≠d)
theorem NE{g:Heap}{L:Addr}:News g L h (D9 g h L):=λp d=>by obtain⟨a,b,c⟩:=Tx d;exact ⟨c,a,b⟩
structure Mod(K:Fg)(mg:Str->Ex)(base:Heap):Prop where
 kin:K.In base
 glob:base.Ns mainGlobals mg
 blt:∃mb,base.Ns builtinsNs mb/\∀x:Str,x≠"__name__"->mb x=bootBuiltins x
 nolimit:base.NoLimit
structure Cx where
 prog:Program
 w:World
 K:Fg
 mg:Str->Ex
 base:Heap
 A:Around
 N:At
 s₀:Shared
 H₀:Hp
 env:Env
 outer:List Env
 stack:List Env
 ex:Ha
 fn:Str->Bool
 calm:Bool
 pn:List (Addr×Obj)
 xe:VS
end L2
variable{H H' H1 H2 Hs:L2.Hp}{o:L2.HO}{X:L2.Cx}{v:L2.V}{vs:List L2.V}
namespace L2
open PySem PySem.Spec PyProof.Rows
def CS(l:List Env):Ha:=l.filterMap (·.frame)
abbrev Cx.fs(X:Cx):Ha:=CS X.outer
def Cw(sc:Scope)(x:Str):Prop:=sc.names.lookup x\.local\/sc.names.lookup x\.cell\/sc.names.lookup x\.free
def CU(sc:Scope)(x:Str):Prop:=sc.names.lookup x\.local\/sc.names.lookup x\.cell
def Tz(env:Env)(h:Heap)(m:Str->Ex)(x:Str)(u:Value):Prop :=
 (env.kindOf x\.local/\m x\u)\/((env.kindOf x\.cell\/env.kindOf x\.free)/\∃c,env.cells.lookup x\c/\h.IsCell c (some u))
structure Cx.Ok(X:Cx):Prop where
 mod:Mod X.K X.mg X.base
 kind:X.env.scope.kind=.function
 glob:X.env.globals=mainGlobals
 blt:X.env.builtins=builtinsNs
 above:X.s₀.heap.objs.size<=X.env.locals
 inj:∀x y c,X.env.cells.lookup x\c->X.env.cells.lookup y\c->x=y
 has:∀x,(X.env.kindOf x\.cell\/X.env.kindOf x\.free)->∃c,X.env.cells.lookup x\c
 cab:∀x c,X.fn x=true->X.env.cells.lookup x\c->X.s₀.heap.objs.size<=c
 hd:X.calm=true->X.A.handled=none
 frames:X.A.frames\X.stack
 stk:X.stack=X.outer\/(X.stack=X.env::X.outer/\X.env.frame\X.env.locals)
 exf:∀b∈X.ex,b≠X.env.locals/\∀x c,X.env.cells.lookup x\c->c≠b
 bs:∀b o,X.base.get? b\o->X.s₀.heap.get? b\o/\X.H₀ b=none
 bsz:X.base.objs.size<=X.s₀.heap.objs.size
 noex:∀b o,X.base.get? b\o->b∉X.ex
 exfs:∀b∈X.ex,b∉X.fs
 funs:X.s₀.heap.FunFrames X.base X.outer
 frf:∀b∈X.fs,X.H₀ b=none
structure Inv(X:Cx)(qA:List (Addr×Obj))(Y:List (Option V))(H:Hp)(s:Shared):Prop where
 ok:X.Ok
 os:s.os=X.s₀.os
 bare:AllBare s.gens
 base:Un X.fs X.ex X.H₀ H X.s₀.heap s.heap
 loc:∃m,s.heap.Ns X.env.locals m/\∀(i:Nat) (x:Str) (v:V),X.N[i]?\x->Y[i]?\(some v)->Cw X.env.scope x->∃u,AJ v u/\Tz X.env s.heap m x u
 cell:∀x c,X.env.cells.lookup x\c->∃v,s.heap.IsCell c v
 free:H X.env.locals=none
 freeC:∀x c,X.env.cells.lookup x\c->H c=none
 pin:∀p∈X.pn++qA,'F' p.1\p.2/\H p.1=none/\p.1≠X.env.locals/\p.1∉X.fs/\∀v,p.2.data≠.cell v
 hok:A7 X.prog X.w H s.heap
 len:Y.length=X.N.length
section
variable{Y:List (Option V)}
theorem Cx.Ok.nofr(ok:X.Ok){b:Addr}{o:Obj}(e:X.base.get? b\o):b∉X.fs:=λa=>by
 have:=(ok.funs.mem a).1;rw[e]at this;cases this
theorem Inv.bs(I:Inv X qA Y H s):∀b o,X.base.get? b\o->'F' b\o/\H b=none:=λb o e =>
 ⟨I.base.keep b o (I.ok.bs b o e).1 (I.ok.bs b o e).2 (I.ok.nofr e) (I.ok.noex b o e),I.base.free b o (I.ok.bs b o e).1 (I.ok.bs b o e).2 (I.ok.noex b o e)⟩
theorem Inv.bk(I:Inv X qA Y H s):∀b o,X.base.get? b\o->'F' b\o:=λb o e=>(I.bs b o e).1
theorem Inv.mod(I:Inv X qA Y H s):Mod X.K X.mg X.base:=I.ok.mod
theorem Inv.kIn(I:Inv X qA Y H s):X.K.In s.heap:=I.ok.mod.kin.keeps I.bk
theorem Inv.nolimit(I:Inv X qA Y H s):s.heap.NoLimit:=I.ok.mod.nolimit.keeps I.bk
theorem Inv.lt(I:Inv X qA Y H s):X.env.locals<'H':=by obtain⟨_,hn,_⟩:=I.loc;exact hn.lt
theorem Inv.sz(I:Inv X qA Y H s):X.s₀.heap.objs.size<='H':=aR I.ok.above (aY I.lt)
theorem Inv.nofs(I:Inv X qA Y H s)(h:'H'<=a):a∉X.fs:=λd=>by
 obtain⟨_,o,c,_⟩:=I.ok.funs.mem d;exact bS (aU (bN c) (aR I.sz h)) (aX _)
theorem Inv.cne(I:Inv X qA Y H s):∀x c,X.env.cells.lookup x\c->c≠X.env.locals:=λx c e z=>by
 obtain⟨v,o,f,hd⟩:=I.cell x c e;obtain⟨m,⟨o',es,ep,a,d,_⟩,_⟩:=I.loc;rw[z,a]at f;cases f;rw[d]at hd;cases hd
theorem Inv.funs(I:Inv X qA Y H s):s.heap.FunFrames X.base X.outer:=by
 have all:∀(l:List Env),(∀b∈CS l,b∈X.fs)->X.s₀.heap.FunFrames X.base l->s.heap.FunFrames X.base l:=by
  intro l
  induction l with
  |nil=>intro _ _;trivial
  |cons env r g =>
   rintro f⟨m,⟨L,o,a,hn,i,hd⟩,h⟩;have d:L∈X.fs:=f L (by unfold CS;rw[filterMap_cons,a];exact cA);obtain⟨sl,e⟩:=I.base.slot L o i (I.ok.frf L d) d λz=>I.ok.exfs L z d;exact⟨m,⟨L,_,a,hn,e,hd⟩,g (λb c=>f b (by unfold CS;rw[filterMap_cons,a];exact bT _ c)) h⟩
 exact all X.outer (λ_ c=>c) I.ok.funs
theorem Inv.stack(I:Inv X qA Y H s):s.heap.FunFrames X.base X.stack:=by
 rcases I.ok.stk with e|⟨e,a⟩
 ·rw[e];exact I.funs
 ·rw[e];obtain⟨m,hn,_⟩:=I.loc;refine .cons (by rw[I.ok.kind];decide) a hn ?_ I.funs;exact Heap.get?_none_of_le (aR I.ok.bsz I.ok.above)
theorem Inv.stkSub(I:Inv X qA Y H s):∀b∈CS X.stack,b∈X.env.locals::X.fs:=λb a=>by
 rcases I.ok.stk with e|⟨e,c⟩
 ·rw[e]at a;exact bT _ a
 ·rw[e]at a;unfold CS at a;rw[filterMap_cons,c]at a;exact a
theorem Inv.stkFree(I:Inv X qA Y H s):∀b∈CS X.stack,H b=none:=λb hb=>by
 rcases aF.mp (I.stkSub b hb)with e|hb
 ·rw[e];exact I.free
 ·obtain⟨_,o,a,_⟩:=I.ok.funs.mem hb;exact I.base.free b o a (I.ok.frf b hb) λz=>I.ok.exfs b z hb
theorem Inv.step{g':Array GenState}{d':Drawn}{ch:Ha}(I:Inv X qA Y H s)
  (g:∀b∈ch,(b∈X.ex\/X.s₀.heap.objs.size<=b)/\b≠X.env.locals/\(∀x c,X.env.cells.lookup x\c->c≠b)/\∀p∈X.pn++qA,p.1≠b)
  (keep:∀b o,b≠X.env.locals->b∉X.fs->b∉ch->'F' b\o->H b=none->h'.get? b\o)
  (slot:∀b o,b≠X.env.locals->b∈X.fs->b∉ch->'F' b\o->H b=none->∃sl,h'.get? b\{ o with slots:=sl }) (free:∀b o,b∉ch->'F' b\o->H b=none->H' b=none)
  (there:∀b o,b∉ch->'F' b\o->∃o',h'.get? b\o')
  (tups:∀b xs,H b\(.tup xs)->H' b\(.tup xs)) (frzs:∀b o u,H b\(.frz o u)->H' b\(.frz o u)) (tbls:∀b ps,H b\(.tbl ps)->∃more,H' b\(.tbl (ps++more)))
  (ns:∀m,s.heap.Ns X.env.locals m->h'.Ns X.env.locals m) (hok:A7 X.prog X.w H' h') (Q:AllBare g') :
  Inv X qA Y H' { s with heap:=h',gens:=g',drawn:=d',toks:=t' }:=by
 have C:∀b o,X.s₀.heap.get? b\o->b≠X.env.locals:=λb o e=>bX (aU (bN e) I.ok.above);have j:∀b o,X.s₀.heap.get? b\o->b∉X.ex->b∉ch:=λb o e a A=>by
  rcases(g b A).1 with z|z
  ·exact a z
  ·exact bS (aU (bN e) z) (aX _)
 have h:∀x c,X.env.cells.lookup x\c->∀v,s.heap.IsCell c v->h'.IsCell c v:=λx c e v ⟨o,B,hd⟩=>by
  have f:c∉ch:=λz=>(g c z).2.2.1 x c e rfl;by_cases L:c∈X.fs
  ·obtain⟨sl,q⟩:=slot c o (I.cne x c e) L f B (I.freeC x c e);exact⟨_,q,hd⟩
  ·exact⟨o,keep c o (I.cne x c e) L f B (I.freeC x c e),hd⟩
 refine⟨I.ok,I.os,Q,⟨λb o e n A a=>?_,λb o e n A a=>?_,λb o e n a=>?_,λb o e a=>?_,λb xs e=>tups b xs (I.base.tups b xs e),λb o xs e=>frzs b o xs (I.base.frzs b o xs e),λb ps e=>?_⟩,?_,λx c e=>?_,?_,λx c e=>?_,λp ρ=>?_,hok,I.len⟩
 ·exact keep b o (C b o e) A (j b o e a) (I.base.keep b o e n A a) (I.base.free b o e n a)
 ·obtain⟨sl,y⟩:=I.base.slot b o e n A a;obtain⟨E,D⟩:=slot b _ (C b o e) A (j b o e a) y (I.base.free b o e n a);exact⟨E,D⟩
 ·obtain⟨o',y⟩:=I.base.there b o e a;exact free b o' (j b o e a) y (I.base.free b o e n a)
 ·obtain⟨o',y⟩:=I.base.there b o e a;exact there b o' (j b o e a) y
 ·obtain⟨N,y⟩:=I.base.tbls b ps e;obtain⟨M,D⟩:=tbls b _ y;exact⟨N++M,by rw[D,Array.append_assoc]⟩
 ·obtain⟨m,hn,O⟩:=I.loc;refine⟨m,ns m hn,λi x v y D T=>?_⟩;obtain⟨u,r,l⟩:=O i x v y D T;refine⟨u,r,?_⟩;rcases l with l|⟨k,c,e,z⟩
  ·exact .inl l
  ·exact .inr ⟨k,c,e,h x c e _ z⟩
 ·obtain⟨v,z⟩:=I.cell x c e;exact⟨v,h x c e v z⟩
 ·obtain⟨m,⟨o,_,_,B,_⟩,_⟩:=I.loc;exact free _ o (λz=>(g _ z).2.1 rfl) B I.free
 ·obtain⟨v,o,B,hd⟩:=I.cell x c e;exact free c o (λz=>(g c z).2.2.1 x c e rfl) B (I.freeC x c e)
 ·obtain⟨e,n,ne,us,d⟩:=I.pin p ρ;have f:p.1∉ch:=λz=>(g p.1 z).2.2.2 p ρ rfl;exact⟨keep p.1 p.2 ne us f e n,free p.1 p.2 f e n,ne,us,d⟩
theorem Inv.un(I:Inv X qA Y H s)(u:Un X.fs [] H H' s.heap h')(hok:A7 X.prog X.w H' h'):Inv X qA Y H' { s with heap:=h',toks:=t' }:=by
 obtain⟨m,⟨o,es,ep,g,r⟩,_⟩:=id I.loc;obtain⟨sl,i⟩:=u.any g I.free '2';exact I.step (g':=s.gens) (d':=s.drawn) (ch:=[]) '6' (λb o _ c _ e n=>u.keep b o e n c '2') (λb o _ c _ e n=>u.slot b o e n c '2') (λb o _ e n=>u.free b o e n '2') (λb o _ e=>u.there b o e '2') u.tups u.frzs u.tbls (λj hm=>by
  obtain⟨o',d,f,a,h⟩:=hm;rw[g]at a;cases a;exact⟨_,d,f,i,h⟩) hok I.bare
theorem Inv.call{g':Array GenState}{d':Drawn}{ch:Ha}(I:Inv X qA Y H s)(u:Un (CS X.stack) ch H H' s.heap h')(hok:A7 X.prog X.w H' h')(q:AllBare g')
  (f:∀b∈ch,(b∈X.ex\/X.s₀.heap.objs.size<=b)/\b≠X.env.locals/\(∀x c,X.env.cells.lookup x\c->c≠b)/\∀p∈X.pn++qA,p.1≠b) :
  Inv X qA Y H' { s with heap:=h',gens:=g',drawn:=d',toks:=t' }:=by
 obtain⟨m,⟨o,es,ep,j,r⟩,_⟩:=id I.loc;obtain⟨sl,g⟩:=u.any j I.free λz=>(f _ z).2.1 rfl;exact I.step (ch:=ch) f (λb o g v a e n=>u.keep b o e n (λz=>(aF.mp (I.stkSub b z)).elim g v) a) (λb o _ _ a e n=>u.any e n a) (λb o a e n=>u.free b o e n a) (λb o a e=>u.there b o e a) u.tups u.frzs u.tbls (λy hm=>by
  obtain⟨o',h,i,d,l⟩:=hm;rw[j]at d;cases d;exact⟨_,h,i,g,l⟩) hok q
theorem Inv.turned(I:Inv X qA Y H s)(k:∀b o,b≠it->'F' b\o->h'.get? b\o)(hn:H it=none)(f:it≠X.env.locals)
  (h1:it∈X.ex\/X.s₀.heap.objs.size<=it) (h2:∀x c,X.env.cells.lookup x\c->c≠it) (i:∀p∈X.pn++qA,p.1≠it):Inv X qA Y H { s with heap:=h',toks:=t' }:=by
 have d:∀b u,H b\u->b≠it:=λb u e z=>by rw[z,hn]at e;cases e
 refine I.step (g':=s.gens) (d':=s.drawn) (ch:=[it]) (λb h=>?_) (λb o _ _ a e _=>k b o (λz=>a (by simp[z])) e) (λb o _ _ a e _=>⟨o.slots,k b o (λz=>a (by simp[z])) e⟩) (λ_ _ _ _ n=>n)
  (λb o a e=>⟨o,k b o (λz=>a (by simp[z])) e⟩) (λ_ _ e=>e) (λ_ _ _ e=>e) (λb ps e=>⟨#[],by rw[e];simp⟩) (λm hm=>?_) (λb u e=>?_) I.bare
 ·have e:b=it:=by simpa using h
  subst e;exact⟨h1,f,h2,i⟩
 ·obtain⟨o,es,ep,g,r⟩:=hm;exact⟨o,es,ep,k _ o (Ne.symm f) g,r⟩
 ·refine(I.hok b u e).stay (λc v a q=>k c v ?_ q) (λ_ q=>q) λ_ _ q=>q;rcases a with z|z
  ·rw[z];exact d b u e
  ·exact d c _ z
theorem Inv.tok(I:Inv X qA Y H s)(t:Nat):Inv X qA Y H { s with toks:=t }:=I.un (h':=s.heap) (t':=t) Un.refl I.hok
theorem Inv.kept(I:Inv X qA Y H s)(k:∀b u,'F' b\u->h'.get? b\u):Inv X qA Y H { s with heap:=h',toks:=t' }:=I.un (Un.kept k) (I.hok.kept k)
theorem Inv.laid(I:Inv X qA Y H s)(k:∀b u,'F' b\u->h'.get? b\u)(c:'H'<=a)(new:A3 X.prog X.w (AD H a o) h' a o) :
  Inv X qA Y (AD H a o) { s with heap:=h',toks:=t' }:=I.un (Un.laid k c (I.hok.fresh c)) (I.hok.laid k c new)
theorem Inv.write{x e:Addr}(I:Inv X qA Y H s)(c:GS (H x))(d:e=x\/H e\(.own x))(k:∀b u,b≠e->'F' b\u->h'.get? b\u)(a:∃u,h'.get? e\u)
  (new:A3 X.prog X.w (AD H x o) h' x o):Inv X qA Y (AD H x o) { s with heap:=h',toks:=t' }:=I.un (Un.write c d k a) (I.hok.write c d k a new)
theorem Inv.weak{σ':List (Option V)}(I:Inv X qA Y H s)(c:σ'.length=Y.length)(w:∀(i:Nat) v,σ'[i]?\(some v)->Y[i]?\(some v)):Inv X qA σ' H s :=
 ⟨I.ok,I.os,I.bare,I.base,(by obtain⟨m,hn,a⟩:=I.loc;exact ⟨m,hn,λi x v f e d=>a i x v f (w i v e) d⟩),I.cell,I.free,I.freeC,I.pin,I.hok,c.trans I.len⟩
theorem Inv.pins_of{a:List (Addr×Obj)}(I:Inv X qA Y H s)(h:∀p∈a,'F' p.1\p.2/\H p.1=none/\p.1≠X.env.locals/\p.1∉X.fs/\∀v,p.2.data≠.cell v):Inv X a Y H s :=
 ⟨I.ok,I.os,I.bare,I.base,I.loc,I.cell,I.free,I.freeC,λp c=>(bA.mp c).elim (λz=>I.pin p (mem_append_left _ z)) (h p),I.hok,I.len⟩
theorem NF(c:N.Nodup)(a:N[i]?\x)(b:N[j]?\x):i=j:=by
 obtain⟨h1,e⟩:=aI.mp a;obtain⟨h2,d⟩:=aI.mp b;exact(getElem_inj c).mp (e.trans d.symm)
theorem KU{M:Model}{Q:Unit->Shared->Prop}(I:Inv X qA Y H s)(hN:X.N.Nodup)(hi:X.N[i]?\x)(B:CU X.env.scope x)(r:AJ v u)
  (h:∀s',Inv X qA (Y.set i (some v)) H s'->(∃a,Heap.SameBut a s.heap s'.heap/\(a=X.env.locals\/X.env.cells.lookup x\a))->Q () s') (hf:X.fn x=true\/X.env.scope.names.lookup x\.local:=by trivial):wpAny M A (storeName X.env x u) Q E s:=by
 obtain⟨m,hn,hl⟩:=id I.loc;have σ:(X.env.scope.kind==.class||(X.env.scope.kind==.module&&X.env.locals != X.env.globals))=false:=by rw[I.ok.kind];rfl
 have us:i<Y.length:=by rw[I.len];exact(aI.mp hi).1
 have cne:=I.cne;have g:∀{a:Addr} {h':Heap},(∃o,'F' a\o/\H a=none)->Heap.SameBut a s.heap h'->A7 X.prog X.w H h':=λ{a h'} ha f b ob e=>by
  obtain⟨_,_,C⟩:=ha;refine(I.hok b ob e).stay (λc w' hc q=>(f.2 c ?_).trans q) (λ_ q=>q) λ_ _ q=>q;rintro rfl;rcases hc with rfl|hc
  ·rw[C]at e;cases e
  ·rw[C]at hc;cases hc
 rcases B with hk|hk
 ·refine wpAny_storeName_local hk hn (λh' a3 f=>?_) σ;obtain⟨oL,_,_,a2,_⟩:=id hn;refine h _ ⟨I.ok,I.os,I.bare,⟨λb o e n O B=>?_,λb o e n O B=>?_,I.base.free,λb o e B=>?_,I.base.tups,I.base.frzs,I.base.tbls⟩,⟨_,a3,λj y v' l D e3=>?_⟩,λy c e=>?_,I.free,I.freeC,λp hp=>?_,g ⟨oL,a2,I.free⟩ f,by simpa using I.len⟩ ⟨_,f,.inl rfl⟩
  ·exact(f.2 b (bX (aU (bN e) I.ok.above))).trans (I.base.keep b o e n O B)
  ·obtain⟨sl,l⟩:=I.base.slot b o e n O B;exact⟨sl,(f.2 b (bX (aU (bN e) I.ok.above))).trans l⟩
  ·obtain⟨o',l⟩:=I.base.there b o e B;exact⟨o',(f.2 b (bX (aU (bN e) I.ok.above))).trans l⟩
  ·by_cases ρ:j=i
   ·subst ρ;rw[hi]at l;cases l;rw[bY us]at D;cases D;exact⟨u,r,.inl ⟨hk,'2'⟩⟩
   ·rw[bV (Ne.symm ρ)]at D;obtain⟨u',r',q⟩:=hl j y v' l D e3;refine⟨u',r',?_⟩;rcases q with⟨k,e⟩|⟨k,c,e,z⟩
    ·refine .inl ⟨k,?_⟩;have:y≠x:=λe=>ρ (NF hN l (e▸hi));simp[this,e]
    ·exact .inr ⟨k,c,e,z.sameBut f (cne y c e)⟩
  ·obtain⟨w',z⟩:=I.cell y c e;exact⟨w',z.sameBut f (cne y c e)⟩
  ·obtain⟨e,n,ne,nf,d⟩:=I.pin p hp;exact⟨(f.2 p.1 ne).trans e,n,ne,nf,d⟩
 ·have L:X.fn x=true:=by
   rcases hf with z|z
   ·exact z
   ·rw[z]at hk;cases hk
  obtain⟨c,hc⟩:=I.ok.has x (.inl hk);obtain⟨w',z⟩:=I.cell x c hc;refine wpAny_storeName_cell I.ok.kind hk hc z (λh' a1 f=>?_);obtain⟨oc,U,T⟩:=id z;refine h { s with heap:=h' } ⟨I.ok,I.os,I.bare,⟨λb o e n O B=>?_,λb o e n O B=>?_,I.base.free,λb o e B=>?_,I.base.tups,I.base.frzs,I.base.tbls⟩,⟨m,hn.sameBut f (Ne.symm (cne x c hc)),λj y v' l D e3=>?_⟩,λy c' e=>?_,I.free,I.freeC,λp hp=>?_,g ⟨oc,U,I.freeC x c hc⟩ f,by simpa using I.len⟩ ⟨c,f,.inr hc⟩
  ·exact(f.2 b (bX (aU (bN e) (I.ok.cab x c L hc)))).trans (I.base.keep b o e n O B)
  ·obtain⟨sl,l⟩:=I.base.slot b o e n O B;exact⟨sl,(f.2 b (bX (aU (bN e) (I.ok.cab x c L hc)))).trans l⟩
  ·obtain⟨o',l⟩:=I.base.there b o e B;exact⟨o',(f.2 b (bX (aU (bN e) (I.ok.cab x c L hc)))).trans l⟩
  ·by_cases ρ:j=i
   ·subst ρ;rw[hi]at l;cases l;rw[bY us]at D;cases D;exact⟨u,r,.inr ⟨.inl hk,c,hc,a1⟩⟩
   ·rw[bV (Ne.symm ρ)]at D;obtain⟨u',r',q⟩:=hl j y v' l D e3;refine⟨u',r',?_⟩;rcases q with q|⟨k,c',e,z'⟩
    ·exact .inl q
    ·refine .inr ⟨k,c',e,z'.sameBut f ?_⟩;rintro rfl;exact ρ (NF hN l (I.ok.inj _ _ _ e hc▸hi))
  ·by_cases a0:c'=c
   ·subst a0;exact⟨_,a1⟩
   ·obtain⟨w2,z2⟩:=I.cell y c' e;exact⟨w2,z2.sameBut f a0⟩
  ·obtain⟨e,n,ne,nf,d⟩:=I.pin p hp;refine⟨(f.2 p.1 ?_).trans e,n,ne,nf,d⟩;intro q;rw[q,U]at e;have q':oc=p.2:=oI e;exact d w' (by rw[<-q'];exact T)
theorem KW{M:Model}{Q:Unit->Shared->Prop}(I:Inv X qA Y H s)(d:X.N.Nodup)(hi:X.N[i]?\x)(a:CU X.env.scope x)(r:AJ v u)
  (h:∀s',Inv X qA (Y.set i (some v)) H s'->Q () s') (c:X.fn x=true\/X.env.scope.names.lookup x\.local:=by trivial):wpAny M A (storeName X.env x u) Q E s :=
 KU I d hi a r (λs' e _=>h s' e) c
theorem Inv.call'{s':Shared}{ch:Ha}(I:Inv X qA Y H s)(d:s'.os=s.os)(u:Un (CS X.stack) ch H H' s.heap s'.heap)(hok:A7 X.prog X.w H' s'.heap)(f:AllBare s'.gens)
  (a:∀b∈ch,(b∈X.ex\/X.s₀.heap.objs.size<=b)/\b≠X.env.locals/\(∀x c,X.env.cells.lookup x\c->c≠b)/\∀p∈X.pn++qA,p.1≠b):Inv X qA Y H' s':=by
 obtain⟨h',g',d',t',o'⟩:=s';have e:o'=s.os:=d;subst e;exact I.call (g':=g') (t':=t') (d':=d') u hok f a
end
abbrev XK:=Value->Go->Hp->Prop
abbrev St:=List (Option V)
abbrev VK:=V->Hp->Prop
abbrev TE:=St->Hp->VK->Prop
end L2
variable{ι:Type}{Xs:ι->L2.Cx}
variable{Y σ':L2.St}{ta tb te:L2.TE}
namespace L2
open PySem PySem.Spec PyProof.Rows
abbrev TT:=St->Hp->(Bool->Hp->Prop)->Prop
abbrev TA:=St->Hp->(dG->Hp->Prop)->Prop
structure Ends where
 nx:St->Hp->Prop
 rt:VK
 bk:St->Hp->Prop:=λ_ _=>False
 ct:St->Hp->Prop:=λ_ _=>False
abbrev TS:=Ends->St->Hp->Prop
def EP(X:Cx)(qA:List (Addr×Obj))(Y:St)(Q:VK)(u:Value)(s':Shared):Prop:=∃v H',Inv X qA Y H' s'/\AJ v u/\Q v H'
def TP(X:Cx)(qA:List (Addr×Obj))(Y:St)(Q:Bool->Hp->Prop)(b:Bool)(s':Shared):Prop:=∃H',Inv X qA Y H' s'/\Q b H'
def AP(X:Cx)(qA:List (Addr×Obj))(Y:St)(Q:dG->Hp->Prop)(G:Do)(s':Shared):Prop:=∃vs H',Inv X qA Y H' s'/\AQ vs G/\Q vs H'
def SP(X:Cx)(qA:List (Addr×Obj))(D:Ends)(f:Flow)(s':Shared):Prop :=
 match f with
 |.next=>∃σ' H',Inv X qA σ' H' s'/\D.nx σ' H'
 |.brk=>∃σ' H',Inv X qA σ' H' s'/\D.bk σ' H'
 |.cont=>∃σ' H',Inv X qA σ' H' s'/\D.ct σ' H'
 |.ret u=>∃v σ' H',Inv X qA σ' H' s'/\AJ v u/\D.rt v H'
def PE(X:Cx)(e:Expr)(t:TE):Prop :=
 ∀(qA:List (Addr×Obj)) (s:Shared) (Y:St) (H:Hp) (Q:VK),Inv X qA Y H s->t Y H Q->'B' (eval e X.env) (EP X qA Y Q) X.xe s
def PT(X:Cx)(e:Expr)(t:TT):Prop :=
 ∀(qA:List (Addr×Obj)) (s:Shared) (Y:St) (H:Hp) (Q:Bool->Hp->Prop),Inv X qA Y H s->t Y H Q->'B' (isTrue e X.env (eval e X.env)) (TP X qA Y Q) X.xe s
def PW(X:Cx)(e:Expr)(t:TT):Prop :=
 ∀(whole:Sem Value) (qA:List (Addr×Obj)) (s:Shared) (Y:St) (H:Hp) (Q:Bool->Hp->Prop),Inv X qA Y H s->t Y H Q->'B' (isTrue e X.env whole) (TP X qA Y Q) X.xe s
theorem PW.pt{e:Expr}{t:TT}(h:PW X e t):PT X e t:=h _
def PA(X:Cx)(es:List Expr)(t:TA):Prop :=
 ∀(pos:Pos) (qA:List (Addr×Obj)) (s:Shared) (Y:St) (H:Hp) (Q:dG->Hp->Prop),Inv X qA Y H s->t Y H Q->'B' (spliced (backTo pos (starEach es X.env))) (AP X qA Y Q) X.xe s
def PS(X:Cx)(st:Stmt)(t:TS):Prop :=
 ∀(qA:List (Addr×Obj)) (s:Shared) (Y:St) (H:Hp) (D:Ends),Inv X qA Y H s->t D Y H->'B' (exec st X.env) (SP X qA D) X.xe s
def Be(X:Cx)(st:Hq)(t:TS):Prop :=
 ∀(qA:List (Addr×Obj)) (s:Shared) (Y:St) (H:Hp) (D:Ends),Inv X qA Y H s->t D Y H->'B' (execs st X.env) (SP X qA D) X.xe s
theorem AH{α:Type}{t:Sem α}{Q c:α->Shared->Prop}{M:Model}(h:wpAny M A t Q E s)(d:∀a s,Q a s->c a s):wpAny M A t c E s:=bL h d λ_ _ x=>x
section
def CV(i:Nat):TE:=λY H Q=>∃v,Y[i]?\(some v)/\Q v H
def tC(v:V):TE:=λ_ H Q=>Q v H
theorem Ds(w:X.N[i]?\x)(n:Cw X.env.scope x)(f:No x:=by decide)(g:N_ x:=by decide):PE X (.Name x pos) (CV i):=by
 rintro qA s Y H Q I⟨v,e,h⟩;obtain⟨m,o,q⟩:=I.loc;obtain⟨u,r,l⟩:=q i x v w e n;have d:EP X qA Y Q u s:=⟨v,H,I,r,h⟩;rcases l with⟨hk,p⟩|⟨hk,c,j,a⟩
 ·exact wpAny_Name (wpAny_loadName_local I.ok.kind hk o p d) f
 ·rcases hk with hk|hk
  ·exact wpAny_Name (wpAny_loadName_cell I.ok.kind hk j a d) f
  ·exact wpAny_Name (wpAny_loadName_free I.ok.kind hk j a d g) f
theorem Ae{i j pos}:PE X (.Constant (.int i) j pos) (tC (.int i)):=λ_ _ _ H _ I h=>wpAny_Constant_int ⟨.int i,H,I.tok _,⟨_,rfl⟩,h⟩
theorem T0{b j pos}:PE X (.Constant (.bool b) j pos) (tC (.bl b)):=λ_ _ _ H _ I h=>Constant_bool ⟨.bl b,H,I,rfl,h⟩
theorem T1{j pos}:PE X (.Constant .none j pos) (tC .non):=λ_ _ _ H _ I h=>Constant_none ⟨.non,H,I,rfl,h⟩
theorem IL{x j pos}:PE X (.Constant (.str x) j pos) (tC (.str x)):=λ_ _ _ H _ I h=>Calls.Constant_str ⟨.str x,H,I.tok _,⟨_,rfl⟩,h⟩
def Gl(X:Cx)(x:Str):Prop:=X.env.kindOf x\.globalImplicit
theorem T3(I:Inv X qA Y H s)(c:Gl X x)(a:X.mg x\u)(h:Q u s)
  (d:No x:=by decide):'B' (eval (.Name x pos) X.env) Q E s :=
 Calls.Name_function_global I.ok.kind c (Calls.loadGlobal_global (by rw[I.ok.glob];exact I.mod.glob.keeps I.bk) a h) d
theorem EA(I:Inv X qA Y H s)(e:Gl X x)(d:X.mg x=none)(a:bootBuiltins x\u)(h:Q u s)
  (c:x≠"__name__":=by decide) (f:No x:=by decide):'B' (eval (.Name x pos) X.env) Q E s:=by
 obtain⟨g,h1,h2⟩:=I.mod.blt;exact Calls.Name_function_global I.ok.kind e (Calls.loadGlobal_builtin (by rw[I.ok.glob];exact I.mod.glob.keeps I.bk) d (by rw[I.ok.blt];exact h1.keeps I.bk) ((h2 x c).trans a) h) f
theorem T4(e:Gl X x)(d:X.mg x=none)(a:bootBuiltins x\u)(r:AJ v u)(c:x≠"__name__":=by decide)(f:No x:=by decide):PE X (.Name x pos) (tC v) :=
 λ_ _ _ H _ I h=>EA I e d a ⟨v,H,I,r,h⟩ c f
variable{a b:Expr}
def tB(t:TE):TT:=λY H Q=>t Y H λx H1=>∃c,x=.bl c/\Q c H1
theorem T5{e:Expr}{t:TE}(h:PE X e t)(g:∀a,isTrue e X.env a=(do let v <-a;standAt e.pos;holding [v] (truthy v)):=by rfl):PT X e (tB t):=by
 intro qA s Y H Q I f;refine isTrue_plain (AH (h qA s Y H _ I f) λv j zz=>?_) (g _);obtain⟨x,H1,i,c,q1⟩:=zz;obtain⟨d,rfl,q⟩:=q1;cases c;exact wpAny_truthy_bool ⟨H1,i,q⟩
variable{tA tB':TT}{qF:List Expr}
def T6(t u:TT):TT:=λY H Q=>t Y H λc H1=>if c=true then u Y H1 Q else Q false H1
def T7(t u:TT):TT:=λY H Q=>t Y H λc H1=>if c=true then Q true H1 else u Y H1 Q
def T8(t:TT):TT:=λY H Q=>t Y H λc H1=>Q (!c) H1
theorem T9(d:PT X a tA):PW X (.BoolOp .And [a] pos) tA:=by
 intro f qA s Y H Q I h;refine isTrue_and (AH (d qA s Y H Q I h) λc g e=>?_);cases c with
 |true=>exact isTrue_and_nil e
 |false=>exact e
theorem NG(d:PT X a tA):PW X (.BoolOp .Or [a] pos) tA:=by
 intro f qA s Y H Q I h;refine isTrue_or (AH (d qA s Y H Q I h) λc g e=>?_);cases c with
 |false=>exact isTrue_or_nil e
 |true=>exact e
theorem UA(i:PT X a tA)(g:PW X (.BoolOp .And (b::qF) pos) tB'):PW X (.BoolOp .And (a::b::qF) pos) (T6 tA tB'):=by
 intro e qA s Y H Q I h;refine isTrue_and (AH (i qA s Y H _ I h) λc f zz=>?_);obtain⟨H1,d,q1⟩:=zz;cases c with
 |true=>exact g e qA f Y H1 Q d q1
 |false=>exact⟨H1,d,q1⟩
theorem NH(i:PT X a tA)(g:PW X (.BoolOp .Or (b::qF) pos) tB'):PW X (.BoolOp .Or (a::b::qF) pos) (T7 tA tB'):=by
 intro e qA s Y H Q I h;refine isTrue_or (AH (i qA s Y H _ I h) λc f zz=>?_);obtain⟨H1,d,q1⟩:=zz;cases c with
 |true=>exact⟨H1,d,q1⟩
 |false=>exact g e qA f Y H1 Q d q1
theorem UB(d:PT X a tA):PT X (.UnaryOp .Not a pos) (T8 tA):=by
 intro qA s Y H Q I h;exact isTrue_not (d qA s Y H (λc H1=>Q (!c) H1) I h)
def UC(ta tb:TE):TE:=λY H Q=>ta Y H λx H1=>∃c,x=.bl c/\if c=true then tb Y H1 Q else Q (.bl false) H1
def UD(ta:TE):TE:=λY H Q=>ta Y H λx H1=>∃c,x=.bl c/\Q (.bl (!c)) H1
theorem UE{op}{t:TE}(h:PE X a t):PE X (.BoolOp op [a] pos) t:=λqA s Y H Q I c=>BoolOp_one (h qA s Y H Q I c)
theorem UF(i:PE X a ta)(g:PE X (.BoolOp .And (b::qF) pos) tb):PE X (.BoolOp .And (a::b::qF) pos) (UC ta tb):=by
 intro qA s Y H Q I h;refine BoolOp_and (AH (i qA s Y H _ I h) λv e zz=>?_);obtain⟨x,H1,d,f,q1⟩:=zz;obtain⟨c,rfl,q1⟩:=q1;cases f;refine wpAny_truthy_bool ?_;cases c with
 |true=>exact g qA e Y H1 Q d q1
 |false=>exact⟨.bl false,H1,d,rfl,q1⟩
theorem UG(e:PE X a ta):PE X (.UnaryOp .Not a pos) (UD ta):=by
 intro qA s Y H Q I h;refine UnaryOp_ (AH (e qA s Y H _ I h) λv g zz=>?_);obtain⟨x,H1,f,d,q1⟩:=zz;obtain⟨c,rfl,q1⟩:=q1;cases d;exact not_of (wpAny_truthy_bool ⟨.bl (!c),H1,f,rfl,q1⟩)
def UH(t:TT)(ta tb:TE):TE:=λY H Q=>t Y H λc H1=>if c=true then ta Y H1 Q else tb Y H1 Q
theorem UI(g:PT X c tA)(j:PE X a ta)(i:PE X b tb):PE X (.IfExp c a b pos) (UH tA ta tb):=by
 intro qA s Y H Q I h;refine wpAny_IfExp (AH (g qA s Y H _ I h) λd e zz=>?_);obtain⟨H1,f,q1⟩:=zz;cases d with
 |true=>exact j qA e Y H1 Q f q1
 |false=>exact i qA e Y H1 Q f q1
end
def Am(K:Fg)(H:Hp)(a:Addr)(xs:dG):Prop :=
 Rd H a (.lst xs) \/
  ∃(o:Obj) (qG:FG) (n:Nat),K.lookup a\o/\o.cls=.type "list"/\o.dict=none/\o.data=.seq qG n/\qG.size<=sizeLine/\AQ xs qG.toList
def BO(K:Fg)(H:Hp)(a:Addr)(xs:dG):Prop :=
 Rd H a (.tup xs) \/
  ∃(o:Obj) (qG:FG) (n:Nat),K.lookup a\o/\o.cls=.type "tuple"/\o.data=.seq qG n/\qG.size<=sizeLine/\AQ xs qG.toList
def UJ:Value->Option V
 |.none=>some .non
 |.bool b=>some (.bl b)
 |.int i _=>some (.int i)
 |.str x _=>some (.str x)
 |.bytes b _=>some (.byt b)
 |.float b _=>some (.flt b)
 |.ref a=>some (.ref a)
 |.type n=>some (.ty n)
 |_=>none
theorem AJ.abs{x:V}(r:AJ x u):UJ u\x:=by
 cases x with
 |non=>cases r;rfl
 |bl _=>cases r;rfl
 |int _=>obtain⟨t,rfl⟩:=r;rfl
 |str _=>obtain⟨t,rfl⟩:=r;rfl
 |byt _=>obtain⟨t,rfl⟩:=r;rfl
 |flt _=>obtain⟨t,rfl⟩:=r;rfl
 |ref _=>cases r;rfl
 |ty _=>cases r;rfl
theorem AJ.inj{x y:V}(r:AJ x u)(q:AJ y u):x=y:=oI (r.abs.symm.trans q.abs)
theorem AQ.inj{xs ys:dG}(h:AQ xs G)(g:AQ ys G):xs=ys:=by
 unfold AQ at h
 induction h generalizing ys with
 |nil =>
  cases g;rfl
 |cons r t c =>
  cases g with
  |cons a t'=>rw[AJ.inj r a,c t']
section
variable{xs ys:dG}
theorem Am.of{K:Fg}(h:H a\(.lst xs)):Am K H a xs:=.inl (.inl h)
theorem BO.of{K:Fg}(h:H a\(.tup xs)):BO K H a xs:=.inl (.inl h)
theorem Inv.list(I:Inv X qA Y H s)(h:Am X.K H a xs):∃qG:Do,AQ xs qG/\PlainL s.heap a qG.toArray/\xs.length<=sizeLine:=by
 rcases h with h|⟨o,qG,n,d,f,hd,c,g,r⟩
 ·obtain⟨z,qG,n,r,e⟩:=h.ok I.hok;exact⟨qG,r,⟨_,n,e,rfl,rfl,rfl⟩,z⟩
 ·refine⟨qG.toList,r,⟨o,n,I.kIn a o d,f,hd,by simpa using c⟩,?_⟩;have e:=r.length;simp only[bR]at e;lia
theorem Inv.tuple(I:Inv X qA Y H s)(h:BO X.K H a xs):∃qG:Do,AQ xs qG/\IsTup s.heap a qG.toArray/\xs.length<=sizeLine:=by
 rcases h with h|⟨o,qG,n,d,f,c,g,r⟩
 ·obtain⟨z,qG,r,p⟩:=h.ok I.hok;exact⟨qG,r,p.tup,z⟩
 ·refine⟨qG.toList,r,⟨o,I.kIn a o d,f,n,by simpa using c⟩,?_⟩;have e:=r.length;simp only[bR]at e;lia
theorem Inv.list_inj(I:Inv X qA Y H s)(h:Am X.K H a xs)(h':Am X.K H a ys):xs=ys:=by
 obtain⟨qG,r,⟨o,n,e,_,_,d⟩,_⟩:=I.list h;obtain⟨its',g,⟨o',j,c,_,_,f⟩,_⟩:=I.list h';rw[e]at c;cases c;rw[d]at f;injection f with i _
 have:qG=its':=by simpa using aT Array.toList i
 subst this;exact r.inj g
theorem Inv.tuple_inj(I:Inv X qA Y H s)(h:BO X.K H a xs)(h':BO X.K H a ys):xs=ys:=by
 obtain⟨qG,r,⟨o,e,_,n,d⟩,_⟩:=I.tuple h;obtain⟨its',g,⟨o',c,_,j,f⟩,_⟩:=I.tuple h';rw[e]at c;cases c;rw[d]at f;injection f with i _
 have:qG=its':=by simpa using aT Array.toList i
 subst this;exact r.inj g
end
abbrev Cx.wish(X:Cx)(E:VS):Cx:={ X with xe:=E }
abbrev Cx.nox(X:Cx):Cx:=X.wish λ_ _=>False
theorem Cx.Ok.wish(ok:X.Ok)(E:VS):(X.wish E).Ok :=
 ⟨ok.mod,ok.kind,ok.glob,ok.blt,ok.above,ok.inj,ok.has,ok.cab,ok.hd,ok.frames,ok.stk,ok.exf,ok.bs,ok.bsz,ok.noex,ok.exfs,ok.funs,ok.frf⟩
theorem Cx.Ok.unwish(ok:(X.wish E).Ok):X.Ok :=
 ⟨ok.mod,ok.kind,ok.glob,ok.blt,ok.above,ok.inj,ok.has,ok.cab,ok.hd,ok.frames,ok.stk,ok.exf,ok.bs,ok.bsz,ok.noex,ok.exfs,ok.funs,ok.frf⟩
theorem Inv.wish(I:Inv X qA Y H s)(E:VS):Inv (X.wish E) qA Y H s:=⟨I.ok.wish E,I.os,I.bare,I.base,I.loc,I.cell,I.free,I.freeC,I.pin,I.hok,I.len⟩
theorem Inv.unwish(I:Inv (X.wish E) qA Y H s):Inv X qA Y H s:=⟨I.ok.unwish,I.os,I.bare,I.base,I.loc,I.cell,I.free,I.freeC,I.pin,I.hok,I.len⟩
theorem SP.unwish{D:Ends}{f:Flow}{s':Shared}(h:SP (X.wish E) qA D f s'):SP X qA D f s':=by
 cases f with
 |next=>obtain⟨σ',H',I,q⟩:=h;exact⟨σ',H',I.unwish,q⟩
 |brk=>obtain⟨σ',H',I,q⟩:=h;exact⟨σ',H',I.unwish,q⟩
 |cont=>obtain⟨σ',H',I,q⟩:=h;exact⟨σ',H',I.unwish,q⟩
 |ret u=>obtain⟨v,σ',H',I,r,q⟩:=h;exact⟨v,σ',H',I.unwish,r,q⟩
theorem Be.nox{st:Hq}{t:TS}(h:Be X.nox st t):Be X st t:=λqA s Y H D I a =>
 bL (h qA s Y H D (I.wish _) a) (λ_ _ q=>q.unwish) λ_ _ z=>False.elim z
section
variable{qF:Hq}{t u:TS}{e:Expr}
def UK:TS:=λD Y H=>D.nx Y H
def UL(t u:TS):TS:=λD Y H=>t { D with nx:=u D } Y H
theorem GU:Be X [] UK:=λ_ _ Y H _ I h=>wpAny_execs_nil ⟨Y,H,I,h⟩
theorem Br(h1:PS X st t)(h2:Be X qF u):Be X (st::qF) (UL t u):=by
 intro qA s Y H D I h;refine wpAny_execs_cons (AH (h1 qA s Y H { D with nx:=u D } I h) λf a q=>?_);cases f with
 |next =>
  obtain⟨σ',H',c,q⟩:=q;exact h2 qA a σ' H' D c q
 |ret v=>exact q
 |brk=>exact q
 |cont=>exact q
theorem Cy(h1:PS X st t):Be X [st] t:=by
 intro qA s Y H D I h;refine wpAny_execs_cons (AH (h1 qA s Y H D I h) λf a q=>?_);cases f with
 |next=>exact wpAny_execs_nil q
 |ret v=>exact q
 |brk=>exact q
 |cont=>exact q
theorem Inv.quiet(I:Inv X qA Y H s):interactive X.env=false:=by simp[interactive,I.ok.kind]
def IM(te:TE):TS:=λD Y H=>te Y H λ_ H1=>D.nx Y H1
theorem IN(c:PE X e te)(a:swapsWith e none pos.line X.env=pure false:=by rfl):PS X (.Expr e pos) (IM te):=by
 intro qA s Y H D I h;exact wpAny_Expr_any (AH (c qA s Y H _ I h) λv f zz=>(by obtain⟨x,H1,d,g,q1⟩:=zz;exact ⟨Y,H1,d,q1⟩)) I.quiet a
def UM(te:TE):TS:=λD Y H=>te Y H D.rt
theorem Ff(c:PE X e te):PS X (.Return (some e) pos) (UM te):=by
 intro qA s Y H D I h;exact wpAny_Return_some (AH (c qA s Y H _ I h) λv f zz=>(by obtain⟨x,H1,d,a,q1⟩:=zz;exact ⟨x,Y,H1,d,a,q1⟩))
def UN(c:TT)(t u:TS):TS:=λD Y H=>c Y H λb H1=>if b=true then t D Y H1 else u D Y H1
theorem GV{a b:Hq}{tc:TT}(g:PT X c tc)(j:Be X a t)(i:Be X b u):PS X (.If c a b pos) (UN tc t u):=by
 intro qA s Y H D I h;refine wpAny_If (AH (g qA s Y H _ I h) λd e zz=>?_);obtain⟨H1,f,q1⟩:=zz;cases d with
 |true=>exact j qA e Y H1 D f q1
 |false=>exact i qA e Y H1 D f q1
def UO:TS:=λ_ _ _=>False
theorem UP:PS X st UO:=λ_ _ _ _ _ _ h=>h.elim
end
abbrev TG:=V->St->Hp->(St->Hp->Prop)->Prop
abbrev Eb:=dG->St->Hp->(St->Hp->Prop)->Prop
def PG(X:Cx)(target:Expr)(t:TG):Prop :=
 ∀(qA:List (Addr×Obj)) (s:Shared) (Y:St) (H:Hp) (v:V) (u:Value) (Q:St->Hp->Prop),Inv X qA Y H s->AJ v u->t v Y H Q ->
  'B' (assign target X.env u) (λ_ s'=>∃σ' H',Inv X qA σ' H' s'/\Q σ' H') X.xe s
def E9(X:Cx)(ts:List Expr)(t:Eb):Prop :=
 ∀(qA:List (Addr×Obj)) (s:Shared) (Y:St) (H:Hp) (vs:dG) (G:Do) (Q:St->Hp->Prop),Inv X qA Y H s->AQ vs G->t vs Y H Q ->
  'B' (assignInOrder ((assignEach ts X.env).map (·.2)) G) (λ_ s'=>∃σ' H',Inv X qA σ' H' s'/\Q σ' H') X.xe s
abbrev GW:=V->V->V->Hp->(Hp->Prop)->Prop
def KY(X:Cx)(t:GW):Prop :=
 ∀(qA:List (Addr×Obj)) (s:Shared) (Y:St) (H:Hp) (o i v:V) (ov iv u:Value) (Q:Hp->Prop),Inv X qA Y H s->AJ o ov->AJ i iv->AJ v u->t o i v H Q ->
  'B' (setItem ov iv u) (λ_ s'=>∃H',Inv X qA Y H' s'/\Q H') X.xe s
abbrev Fh:=V->V->Hp->VK->Prop
def IP(X:Cx)(op:Operator)(t:Fh):Prop :=
 ∀(qA:List (Addr×Obj)) (s:Shared) (Y:St) (H:Hp) (x y:V) (v u:Value) (Q:VK),Inv X qA Y H s->AJ x v->AJ y u->t x y H Q ->
  'B' (inplaceOp op v u) (EP X qA Y Q) X.xe s
def CJ(i:Nat):TG:=λv Y H Q=>Q (Y.set i (some v)) H
theorem BF(d:X.N.Nodup)(hi:X.N[i]?\x)(a:CU X.env.scope x)(c:X.fn x=true\/X.env.scope.names.lookup x\.local:=by trivial):PG X (.Name x pos) (CJ i):=by
 intro qA s Y H v u Q I r h;exact wpAny_assign_Name (KW I d hi a r (λs' e=>⟨_,H,e,h⟩) c)
def KZ:Eb:=λvs Y H Q=>vs=[]/\Q Y H
def IQ(t:TG)(u:Eb):Eb:=λvs Y H Q=>∃v r,vs=v::r/\t v Y H λσ' H'=>u r σ' H' Q
theorem Dt:E9 X [] KZ:=by
 rintro qA s Y H vs G Q I r⟨e,h⟩;subst e;cases r;exact assignInOrder_nil ⟨Y,H,I,h⟩
theorem Bs{e:Expr}{t:TG}{u:Eb}(h1:PG X e t)(h2:E9 X es u)
  (f:(assignEach (e::es) X.env).map (·.2)=assign e X.env::(assignEach es X.env).map (·.2):=by rfl):E9 X (e::es) (IQ t u):=by
 rintro qA s Y H vs G Q I r⟨v,j,g,h⟩;subst g;cases r with
 |cons r d =>
  rw[f];refine assignInOrder_cons (AH (h1 qA s Y H _ _ _ I r h) λ_ c zz=>?_);obtain⟨a,H1,i,q1⟩:=zz;exact h2 qA c a H1 _ _ Q i d q1
def FA(K:Fg)(n:Nat)(t:Eb):TG:=λv Y H Q=>∃a xs,v=.ref a/\BO K H a xs/\xs.length=n/\t xs Y H Q
theorem Ka{k:Nat}{t:Eb}(m:X.calm=true)(h:E9 X es t)
  (j:(assignEach es X.env).length=n:=by rfl) (d:(assignEach es X.env).findIdx? (·.1)=none:=by rfl):PG X (.Tuple es k pos) (FA X.K n t):=by
 rintro qA s Y H v u Q I r⟨a,xs,p,i,l,c⟩;subst p;cases r;obtain⟨qG,rv,g,w⟩:=I.tuple i;refine assign_Tuple_tuple (I.ok.hd m) g (by simp[j,<-l,rv.length]) d λh' f=>?_;have q:Inv X qA Y H { s with heap:=h' }:=I.kept (t':=s.toks) λb o e=>f b o (bX (bN e)) e;exact h qA _ Y H xs _ Q q (~~~rv) c
def UQ(to ti:TE)(t:GW):TG:=λv Y H Q=>to Y H λo H1=>ti Y H1 λi H2=>t o i v H2 λH3=>Q Y H3
theorem NI{o i:Expr}{to d:TE}{t:GW}(n:PE X o to)(hi:PE X i d)(m:KY X t)
  (p:∀v,assign (.Subscript o i pos) X.env v=(do
   let a <-holding [v] (eval o X.env)
   let c <-holding [v,a] (eval i X.env)
   standAt pos
   holding [v,a,c] (setItem a c v)
   release [v,a,c] []):=by rfl):PG X (.Subscript o i pos) (UQ to d t):=by
 intro qA s Y H v u Q I r h;rw[p];refine wB (bM (AH (n qA s Y H _ I h) λa f zz=>?_));obtain⟨x,H1,z,j,q1⟩:=zz;refine wB (bM (AH (hi qA f Y H1 _ z q1) λc e zz=>?_));obtain⟨y,H2,w,g,q2⟩:=zz;refine wB (wpAny_standAt (wB (bM (AH (m qA e Y H2 x y v a c u _ w j g r q2) λ_ B zz=>?_))));obtain⟨A,q,l⟩:=zz;exact wpAny_release ⟨Y,A,q,l⟩
def Ec(te:TE)(g:TG):TS:=λD Y H=>te Y H λx H1=>g x Y H1 D.nx
theorem Kb{e:Expr}{g:TG}(i:PE X e te)(f:PG X tg g)(d:swapsWithSole [tg] e pos.line X.env=pure false:=by rfl)(hw:swappedStores [tg] e X.env=pure none:=by rfl)
  (h1:(assignEach [tg] X.env).map (·.2)=[assign tg X.env]:=by rfl):PS X (.Assign [tg] e pos) (Ec te g):=by
 intro qA s Y H D I h;refine wpAny_Assign_stores (AH (i qA s Y H _ I h) λv a zz=>?_) d hw;obtain⟨x,H1,j,c,q1⟩:=zz;rw[h1];exact AH (f qA a Y H1 x v _ j c q1) λ_ l q=>q
theorem CW{e:Expr}(j:X.N.Nodup)(hi:X.N[i]?\x)(c:CU X.env.scope x)(g:PE X e te)(d:swapsWith e (some (.Name x pos')) pos.line X.env=pure false:=by rfl)(f:X.fn x=true\/X.env.scope.names.lookup x\.local:=by trivial) :
  PS X (.Assign [.Name x pos'] e pos) (Ec te (CJ i)):=by
 intro qA s Y H D I h;refine wpAny_Assign_Name (AH (g qA s Y H _ I h) λv o zz=>?_) d;obtain⟨y,H1,m,a,q1⟩:=zz;exact KW m j hi c a (λn l=>⟨_,H1,l,q1⟩) f
def UR(i:Nat)(te:TE)(ti:Fh):TS:=λD Y H=>∃x,Y[i]?\(some x)/\te Y H λy H1=>ti x y H1 λz H2=>D.nx (Y.set i (some z)) H2
theorem US{e:Expr}{op:Operator}{n:Fh}(Q:X.N.Nodup)(hi:X.N[i]?\x)(j:CU X.env.scope x)(M:PE X e te)(C:IP X op n)(L:X.fn x=true\/X.env.scope.names.lookup x\.local:=by trivial) :
  PS X (.AugAssign (.Name x pos') op e pos) (UR i te n):=by
 rintro qA s Y H D I⟨v,T,h⟩;obtain⟨m,E,ρ⟩:=I.loc;have g:Cw X.env.scope x:=by rcases j with k|k;exact .inl k;exact .inr (.inl k)
 obtain⟨u,r,l⟩:=ρ i x v hi T g;refine wpAny_AugAssign_Name ?_;have o:'B' (eval e X.env) (λw f=>'B' (inplaceOp op u w) (λr d=>'B' (storeName X.env x r) (λ_=>SP X qA D .next) X.xe d) X.xe f) X.xe s:=by
  refine AH (M qA s Y H _ I h) λw p zz=>?_;obtain⟨y,H1,I1,B,q1⟩:=zz;refine AH (C qA p Y H1 v y u w _ I1 r B q1) λz s2 zz=>?_;obtain⟨zv,H2,σ,q,q2⟩:=zz;exact KW σ Q hi j q (λs3 U=>⟨_,H2,U,q2⟩) L
 rcases l with⟨hk,us⟩|⟨hk,c,O,a⟩
 ·exact wpAny_loadName_local I.ok.kind hk E us o
 ·rcases hk with hk|hk
  ·exact wpAny_loadName_cell I.ok.kind hk O a o
  ·rcases j with k|k
   ·have:X.env.scope.names.lookup x\.free:=hk;rw[k]at this;cases this
   ·have:X.env.scope.names.lookup x\.free:=hk;rw[k]at this;cases this
def UT(to ti te:TE)(tget:V->V->Hp->VK->Prop)(tip:Fh)(tset:GW):TS:=λD Y H=>to Y H λo H1=>ti Y H1 λi H2=>tget o i H2 λx H3=>te Y H3 λy H4=>tip x y H4 λz H5=>tset o i z H5 λH6=>D.nx Y H6
def NJ(X:Cx)(t:V->V->Hp->VK->Prop):Prop :=
 ∀(qA:List (Addr×Obj)) (s:Shared) (Y:St) (H:Hp) (o i:V) (ov iv:Value) (Q:VK),Inv X qA Y H s->AJ o ov->AJ i iv->t o i H Q ->
  'B' (getItem ov iv) (EP X qA Y Q) X.xe s
theorem UU{o i e:Expr}{to m:TE}{c:V->V->Hp->VK->Prop}{g:Fh}{a:GW}{op:Operator}{tpos:Pos}(Q:PE X o to)(hi:PE X i m)(T:NJ X c)(U:PE X e te)(O:IP X op g)(N:KY X a)
  (σ:∀d f new,augStore i d f new=(do holding [new,d,f] (setItem d f new);release [new,d,f] [];pure .next):=by intros;rfl):PS X (.AugAssign (.Subscript o i tpos) op e pos) (UT to m te c g a):=by
 intro qA s Y H D I h;refine wpAny_AugAssign_SubscriptAny (AH (Q qA s Y H _ I h) λd A zz=>?_) σ;obtain⟨x1,H1,I1,p,q1⟩:=zz;refine AH (hi qA A Y H1 _ I1 q1) λf z zz=>?_;obtain⟨l,H2,I2,n,q2⟩:=zz;refine AH (T qA z Y H2 x1 l d f _ I2 p n q2) λj y zz=>?_;obtain⟨u,H3,I3,E,M⟩:=zz;refine AH (U qA y Y H3 _ I3 M) λv x zz=>?_;obtain⟨r,H4,I4,C,L⟩:=zz;refine AH (O qA x Y H4 u r j v _ I4 E C L) λnew w zz=>?_;obtain⟨q,H5,I5,B,ρ⟩:=zz;exact AH (N qA w Y H5 x1 l q d f new _ I5 p n B ρ) λ_ s6 zz=>(by obtain⟨H6,I6,us⟩:=zz;exact ⟨Y,H6,I6,us⟩)
def NK(f:Int->Int->Int):Fh:=λx y H Q=>∃i j,x=.int i/\y=.int j/\Q (.int (f i j)) H
theorem NL:IP X .Add (NK λi j=>i+j):=by
 rintro qA s Y H x y v u Q I c a⟨i,j,e,d,q⟩;subst e;subst d;obtain⟨t,rfl⟩:=c;obtain⟨t',rfl⟩:=a;exact iadd_int ⟨.int _,H,I.tok _,⟨_,rfl⟩,q⟩
def UV(c:TT)(tb:TS):TS:=λD Y H=>∃W:Nat->St->Hp->Prop,(∃m,W m Y H)/\∀m Y H,W m Y H ->
 c Y H λb H1=>if b=true then∃N:St->Hp->Prop,(∀σ' H',N σ' H'->∃m',m'<m/\W m' σ' H')/\tb { D with nx:=N,ct:=N,bk:=D.nx } Y H1 else D.nx Y H1
theorem UW{body:Hq}{tc:TT}{tb:TS}(q:PassesOwn (model X.prog X.w) X.A X.env X.xe)(E:PT X c tc)(us:Be X body tb):PS X (.While c body [] pos) (UV tc tb):=by
 rintro qA s Y H D I⟨W,⟨C,y⟩,e⟩;refine wpAny_While (codeAny_whileLoop (λn s'=>∃σ' H',Inv X qA σ' H' s'/\W n σ' H') ?_ C ⟨Y,H,I,y⟩);rintro n B ⟨d,H1,ρ,x⟩;refine wpAny_passesOwn q (AH (E qA B d H1 _ ρ (e n d H1 x)) λb z zz=>?_);obtain⟨H2,u,q2⟩:=zz;cases b with
 |true =>
  obtain⟨N,r,q2⟩:=q2;rw[aC rfl];refine wpAny_passesOwn q (AH (us qA z d H2 _ u q2) λf L i=>?_);cases f with
  |next =>
   obtain⟨a,g,p,l⟩:=i;obtain⟨m,o,j⟩:=r a g l;exact⟨m,o,a,g,p,j⟩
  |cont =>
   obtain⟨a,g,p,l⟩:=i;obtain⟨m,o,j⟩:=r a g l;exact⟨m,o,a,g,p,j⟩
  |brk=>exact i
  |ret v=>exact i
 |false =>
  rw[aB cH];exact wpAny_execs_nil ⟨d,H2,u,q2⟩
structure It where
 go:Nat->Hp->Prop
 yld:Nat->Hp->V->Hp->Prop
 stop:Nat->Hp->Prop
def CC(X:Cx)(qA:List (Addr×Obj))(H:Hp)(b:Addr):Prop :=
 H b=none/\b≠X.env.locals/\b∉X.fs/\(b∈X.ex\/X.s₀.heap.objs.size<=b)/\(∀x c,X.env.cells.lookup x\c->c≠b)/\∀p∈X.pn++qA,p.1≠b
theorem Inv.fpOk{b:Addr}(I:Inv X qA Y H s)(a:'H'<=b)(hn:H' b=none):CC X qA H' b:=by
 refine⟨hn,Nat.ne_of_gt (aU I.lt a),I.nofs a,.inr (aR I.sz a),λx c e z=>?_,λp d z=>?_⟩
 ·obtain⟨v,q⟩:=I.cell x c e;exact bS (aU q.lt (by rw[z];exact a)) (aX _)
 ·exact bS (aU (bN (I.pin p d).1) (by rw[z];exact a)) (aX _)
structure Turn(P:Program)(w:World)(K:Fg)(tg:Expr)(ρ:It)(fp:Ha)(it:Addr)(tn:Nat->Heap->Prop):Prop where
 mem:it∈fp
 obj:∀i h,tn i h->∀b∈fp,∃o,h.get? b\o/\∀v,o.data≠.cell v
 keep:∀i h h',tn i h->(∀b∈fp,∀o,h.get? b\o->h'.get? b\o)->tn i h'
 item:∀(X:Cx),X.prog=P->X.w=w->X.K=K->X.calm=true->∀(i:Nat) (qA:List (Addr×Obj)) (s:Shared) (Y:St) (H:Hp) (E:VS),Inv X qA Y H s->(∀b∈fp,CC X qA H b)->tn i s.heap->ρ.go i H ->
  wpAny (model P w) X.A (pyNext (.ref it)) (λr s1=>∃u,r\u /\
   wpAny (model P w) X.A (letOwnedTupleGo tg (.ref it) u) (λ_ s2=>∃x H',Inv X qA Y H' s2/\AJ x u/\ρ.yld i H x H'/\tn (i+1) s2.heap/\∀b∈fp,H' b=none) E s1) E s
 done:∀(X:Cx),X.prog=P->X.w=w->X.K=K->X.calm=true->∀(i:Nat) (qA:List (Addr×Obj)) (s:Shared) (Y:St) (H:Hp) (E:VS),Inv X qA Y H s->(∀b∈fp,CC X qA H b)->tn i s.heap->ρ.stop i H ->
  wpAny (model P w) X.A (pyNext (.ref it)) (λr s1=>r=none/\Inv X qA Y H s1) E s
 self:∀(A:Around) (i:Nat) (s:Shared) (Q:VS) (E:VS),tn i s.heap->Q (.ref it) s->wpAny (model P w) A (pyIter (.ref it)) Q E s
abbrev TI:=St->Hp->(It->Hp->Prop)->Prop
end L2
variable{g:L2.TG}{wi:L2.TI}{tt:L2.TT}
namespace L2
open PySem PySem.Spec PyProof.Rows
def NM(X:Cx)(qA:List (Addr×Obj))(Y:St)(tg:Expr)(R:It->Hp->Prop)(itv:Value)(s2:Shared):Prop :=
 ∃(it:Addr) (fp:Ha) (tn:Nat->Heap->Prop) (ρ:It) (H':Hp),itv=.ref it/\Inv X qA Y H' s2/\Turn X.prog X.w X.K tg ρ fp it tn/\tn 0 s2.heap/\(∀b∈fp,CC X qA H' b)/\R ρ H'
def PI(X:Cx)(tg iter:Expr)(wi:TI):Prop :=
 ∀(qA:List (Addr×Obj)) (s:Shared) (Y:St) (H:Hp) (R:It->Hp->Prop),Inv X qA Y H s->wi Y H R ->
  'B' (eval iter X.env) (λv s1=>'B' (pyIter v) (NM X qA Y tg R) X.xe s1) X.xe s
theorem Kc {M : Model} {E : Value → Shared → Prop} {o : Obj} {n : String} {vs : FG} {Q : Unit → Shared → Prop} (c : 'F' it = some o) (f : o.cls = .type n) (e : o.data = .fields vs)
    (d : ["enumerate", "zip", "dict_itemiterator", "dict_reverseitemiterator", "odict_iterator", "itertools.zip_longest", "itertools.pairwise"].contains n = false) (a : Q () s) : wpAny M A (letOwnedTupleGo tg (.ref it) u) Q E s := by
  unfold letOwnedTupleGo;cases tg<;>first
    |exact wP a
    | (cases u <;> first
        |exact wP a
        | (refine wB (wpAny_load c ?_)
           rw[f, e];show wpAny M A (if(["enumerate", "zip", "dict_itemiterator", "dict_reverseitemiterator", "odict_iterator", "itertools.zip_longest", "itertools.pairwise"].contains n&&vs[0]?==some (rawInt _)) = true then _ else _) Q E s;rw[aB (by intro h; rw[d, Bool.false_and]at h; cases h)];exact wP a))
def DY(K:Fg)(a:Addr):It :=
 ⟨λi H=>∃xs x,Am K H a xs/\xs[i]?\x,λi H x H'=>H'=H/\∀xs,Am K H a xs->xs[i]?\x,λi H=>∃xs,Am K H a xs/\xs.length<=i⟩
def FB(K:Fg)(a:Addr):It :=
 ⟨λi H=>∃xs x,BO K H a xs/\xs[i]?\x,λi H x H'=>H'=H/\∀xs,BO K H a xs->xs[i]?\x,λi H=>∃xs,BO K H a xs/\xs.length<=i⟩
def DZ(lo:Int)(n:Nat):It:=⟨λi _=>i<n,λi H x H'=>H'=H/\x=.int (lo+i),λi _=>n<=i⟩
theorem UX{P:Program}{K:Fg}(a it:Addr):Turn P w K tg (DY K a) [it] it (λi h=>h.IsListIter it a i) where
 mem:='2'
 obj:=λi h st b f=>by
  have e:b=it:=by simpa using f
  subst e;obtain⟨o,e,c,d⟩:=st;exact⟨o,e,λv z=>by rw[d]at z;cases z⟩
 keep:=λi h h' st k=>st.at λo e=>k it '2' o e
 item:=by
  intro X r n y ρ i qA s Y H E I l st q;subst r n y;obtain⟨xs,x,j,m⟩:=q;obtain⟨qG,rv,p,N⟩:=I.list j;obtain⟨u,Q,M⟩:=rv.get m;obtain⟨us,D,T,C,B,A⟩:=l it '2';refine wpAny_pyNext_list_item st p.isList (x:=u) (~~~Q) λh' g L=>?_;have σ:Inv X qA Y H { s with heap:=h' }:=I.turned (t':=s.toks) (λb o f e=>(L.2 b f).trans e) us D C B A;obtain⟨o,e,c,d⟩:=id g;exact⟨u,rfl,Kc (s:={ s with heap:=h' }) e c d '3' ⟨x,H,σ,M,⟨rfl,λys O=>by rw[I.list_inj O j];exact m⟩,g,λb f=>(l b f).1⟩⟩
 done:=by
  intro X r n y ρ i qA s Y H E I l st q;subst r n y;obtain⟨xs,j,m⟩:=q;obtain⟨qG,rv,p,N⟩:=I.list j;obtain⟨us,D,T,C,B,A⟩:=l it '2';have hl:=rv.length;exact wpAny_pyNext_list_end (I.ok.hd ρ) st p.isList '4' λh' U=>⟨rfl,I.turned (t':=s.toks) (λb o f e=>U b o f e) us D C B A⟩
 self:=λ_ _ _ _ _ st h=>wpAny_pyIter_listiter st h
theorem UY{P:Program}{K:Fg}(a it:Addr):Turn P w K tg (FB K a) [it] it (λi h=>h.IsTupleIter it a i) where
 mem:='2'
 obj:=λi h st b f=>by
  have e:b=it:=by simpa using f
  subst e;obtain⟨o,e,c,d⟩:=st;exact⟨o,e,λv z=>by rw[d]at z;cases z⟩
 keep:=λi h h' st k=>st.at λo e=>k it '2' o e
 item:=by
  intro X r n y ρ i qA s Y H E I l st q;subst r n y;obtain⟨xs,x,j,m⟩:=q;obtain⟨qG,rv,p,N⟩:=I.tuple j;obtain⟨u,Q,M⟩:=rv.get m;obtain⟨us,D,T,C,B,A⟩:=l it '2';refine wpAny_pyNext_tuple_item st (show s.heap.IsTuple a qG.toArray from p) (x:=u) (~~~Q) λh' g L=>?_;have σ:Inv X qA Y H { s with heap:=h' }:=I.turned (t':=s.toks) (λb o f e=>(L.2 b f).trans e) us D C B A;obtain⟨o,e,c,d⟩:=id g;exact⟨u,rfl,Kc (s:={ s with heap:=h' }) e c d '3' ⟨x,H,σ,M,⟨rfl,λys O=>by rw[I.tuple_inj O j];exact m⟩,g,λb f=>(l b f).1⟩⟩
 done:=by
  intro X r n y ρ i qA s Y H E I l st q;subst r n y;obtain⟨xs,j,m⟩:=q;obtain⟨qG,rv,p,N⟩:=I.tuple j;obtain⟨us,D,T,C,B,A⟩:=l it '2';have hl:=rv.length;exact wpAny_pyNext_tuple_end (I.ok.hd ρ) st (show s.heap.IsTuple a qG.toArray from p) '4' λh' U=>⟨rfl,I.turned (t':=s.toks) (λb o f e=>U b o f e) us D C B A⟩
 self:=λ_ _ _ _ _ st h=>wpAny_pyIter_tupleiter st h
theorem UZ{P:Program}{K:Fg}(it:Addr)(lo:Int)(n:Nat):Turn P w K tg (DZ lo n) [it] it (λi h=>IsRangeIter h it (lo+(i:Nat) * 1) ((n:Int) - (i:Nat)) 1) where
 mem:='2'
 obj:=λi h st b a=>by
  have e:b=it:=by simpa using a
  subst e;exact⟨_,st,λv z=>by
   have y:Data.fields _=Data.cell v:=z;cases y⟩
 keep:=λi h h' st k=>k it '2' _ st
 item:=by
  intro X l f m j i qA s Y H E I d st g;subst l f m;obtain⟨x,u,C,r,q,p⟩:=d it '2';have W:=Walks.range (prog:=X.prog) (w:=X.w) (I.ok.hd j) it lo 1 n;refine W.item i s _ _ g st λv h' tk B c A=>?_;obtain⟨t,rfl⟩:=B;have us:Inv X qA Y H { s with heap:=h',toks:=tk }:=I.turned (λb o a e=>A b o (~~~a) e) x u r q p;refine⟨_,rfl,Kc (s:={ s with heap:=h',toks:=tk }) (n:="range_iterator") c rfl rfl '3' ⟨.int (lo+i),H,us,⟨t,?_⟩,⟨rfl,rfl⟩,c,λb a=>(d b a).1⟩⟩;rw[Int.mul_one]
 done:=by
  intro X l f m j i qA s Y H E I d st g;subst l f m;obtain⟨x,u,C,r,q,p⟩:=d it '2';exact wpAny_pyNext_range_end (I.ok.hd j) st (by have:n<=i:=g;lia) λh' D=>⟨rfl,I.turned (t':=s.toks) (λb o a e=>D b o a e) x u r q p⟩
 self:=λ_ _ _ _ _ st h=>wpAny_pyIter_rangeiter st h
def NN(K:Fg)(tl:TE):TI:=λY H R=>tl Y H λx H1=>∃a,x=.ref a/\(∃xs,Am K H1 a xs)/\R (DY K a) H1
def NO(K:Fg)(tl:TE):TI:=λY H R=>tl Y H λx H1=>∃a,x=.ref a/\(∃xs,BO K H1 a xs)/\R (FB K a) H1
theorem NP{l:Expr}{tl:TE}(i:PE X l tl):PI X tg l (NN X.K tl):=by
 intro qA s Y H R I h;refine AH (i qA s Y H _ I h) λv c zz=>?_;obtain⟨x,H1,d,f,q1⟩:=zz;obtain⟨a,e,⟨xs,g⟩,q⟩:=q1;subst e;cases f;obtain⟨qG,rv,p,m⟩:=d.list g;refine wpAny_pyIter_list p.isList ?_;refine⟨c.heap.objs.size,[c.heap.objs.size],_,_,H1,rfl,d.kept (t':=c.toks) λb o e=>aS _ e,UX a _,⟨_,bP _ rfl,rfl,rfl⟩,λb j=>?_,q⟩;have e:b=c.heap.objs.size:=by simpa using j
 subst e;exact d.fpOk (aQ _) (d.hok.fresh (aQ _))
theorem Ua{l:Expr}{tl:TE}(i:PE X l tl):PI X tg l (NO X.K tl):=by
 intro qA s Y H R I h;refine AH (i qA s Y H _ I h) λv c zz=>?_;obtain⟨x,H1,d,f,q1⟩:=zz;obtain⟨a,e,⟨xs,g⟩,q⟩:=q1;subst e;cases f;obtain⟨qG,rv,p,m⟩:=d.tuple g;refine wpAny_pyIter_tuple (show c.heap.IsTuple a qG.toArray from p) ?_;refine⟨c.heap.objs.size,[c.heap.objs.size],_,_,H1,rfl,d.kept (t':=c.toks) λb o e=>aS _ e,UY a _,⟨_,bP _ rfl,rfl,rfl⟩,λb j=>?_,q⟩;have e:b=c.heap.objs.size:=by simpa using j
 subst e;exact d.fpOk (aQ _) (d.hok.fresh (aQ _))
theorem NQ{R:It->Hp->Prop}{hi:Int}{t u v:Tok}{tk:Nat}(I:Inv X qA Y H s)(h1:-(2 ^ 62)<=lo)(h2:lo<2 ^ 62)(f:-(2 ^ 62)<=hi)(d:hi<2 ^ 62)
  (q:R (DZ lo (hi - lo).toNat) H):'B' (pyIter (.ref 'H')) (NM X qA Y tg R) E { s with heap:=s.heap.push { cls:=.type "range",data:=.fields #[.int lo t,.int hi u,.int 1 v] },toks:=tk }:=by
 refine wpAny_pyIter_range (IsRange.new ..) (small_one h1 h2 f d) ?_;have a:Inv X qA Y H { s with heap:=s.heap.push { cls:=.type "range",data:=.fields #[.int lo t,.int hi u,.int 1 v] },toks:=tk }:=I.kept λb o e=>aS _ e;refine⟨(s.heap.push { cls:=.type "range",data:=.fields #[.int lo t,.int hi u,.int 1 v] }).objs.size,[(s.heap.push { cls:=.type "range",data:=.fields #[.int lo t,.int hi u,.int 1 v] }).objs.size],_,_,H,rfl, a.kept (t':=tk) λb o e=>aS _ e,UZ _ lo (hi - lo).toNat,?_,λb c=>?_,q⟩
 ·have h:lo+((0:Nat):Int) * 1=lo:='2'
  have g:(((hi - lo).toNat:Nat):Int) - ((0:Nat):Int)=Builtin.Range.rangeSize lo hi 1:=by rw[rangeSize_one];split<;>lia
  show IsRangeIter _ _ (lo+((0:Nat):Int) * 1) ((((hi - lo).toNat:Nat):Int) - ((0:Nat):Int)) 1;rw[h,g];exact bP _ rfl
 ·have e:b=(s.heap.push { cls:=.type "range",data:=.fields #[.int lo t,.int hi u,.int 1 v] }).objs.size:=by simpa using c
  subst e;exact a.fpOk (aQ _) (a.hok.fresh (aQ _))
def NR(ta:TA):TI:=λY H R=>ta Y H λvs H1=>∃j:Int,vs=[.int j]/\-(2 ^ 62)<=j/\j<2 ^ 62/\R (DZ 0 j.toNat) H1
def Ub(ta:TA):TI:=λY H R=>ta Y H λvs H1=>∃i j:Int,vs=[.int i,.int j]/\(-(2 ^ 62)<=i/\i<2 ^ 62/\-(2 ^ 62)<=j/\j<2 ^ 62)/\R (DZ i (j - i).toNat) H1
theorem GX{a:Expr}{ta:TA}{p:Pos}(i:Gl X "range")(g:X.mg "range"=none)(l:PA X [a] ta)(f:starEach [a] X.env=[(false,eval a X.env)]:=by rfl):PI X tg (.Call (.Name "range" p) [a] [] pos) (NR ta):=by
 intro qA s Y H R I h;refine Call_ (EA I i g boot_range (PyProof.Rows.callWith_type1 (AH (l pos qA s Y H _ I h) λG n zz=>?_) f rfl));obtain⟨vs,H1,m,d,q1⟩:=zz;obtain⟨j,e,q1,q2,q⟩:=q1;subst e;cases d with
 |cons r c =>
  cases c;obtain⟨t,rfl⟩:=r;exact call_range_1 (NQ m ⋯ ⋯ q1 q2 (~~~q))
theorem Uc{a b:Expr}{ta:TA}{p:Pos}(u:Gl X "range")(o:X.mg "range"=none)(v:PA X [a,b] ta)(n:starEach [a,b] X.env=[(false,eval a X.env),(false,eval b X.env)]:=by rfl)(c:starEach [b] X.env=[(false,eval b X.env)]:=by rfl) :
  PI X tg (.Call (.Name "range" p) [a,b] [] pos) (Ub ta):=by
 intro qA s Y H R I h;refine Call_ (EA I u o boot_range (PyProof.Rows.callWith_type1 (AH (v pos qA s Y H _ I h) λG x zz=>?_) (by rw[n,c]) (by rw[c];rfl)));obtain⟨vs,H1,w,f,q1⟩:=zz;obtain⟨i,j,e,⟨q1,q2,m,l⟩,q⟩:=q1;subst e;cases f with
 |cons r d =>
  cases d with
  |cons g d =>
   cases d;obtain⟨t,rfl⟩:=r;obtain⟨t',rfl⟩:=g;exact call_range_2 (NQ w q1 q2 m l q)
def NS(wi:TI)(g:TG)(tb:TS):TS:=λD Y H=>wi Y H λρ H1=>∃W:Nat->Nat->St->Hp->Prop,(∃m,W 0 m Y H1)/\∀i m Y H,W i m Y H ->
 (ρ.stop i H/\D.nx Y H)\/(ρ.go i H/\∃N:St->Hp->Prop,(∀σ' H',N σ' H'->∃m',m'<m/\W (i+1) m' σ' H')/\∀x H',ρ.yld i H x H'->g x Y H' λσ2 H2=>tb { D with nx:=N,ct:=N,bk:=D.nx } σ2 H2)
def Ed(fp:Ha)(h:Heap):List (Addr×Obj):=fp.filterMap λb=>(h.get? b).map λo=>(b,o)
theorem Ee{b:Addr}{o:Obj}(a:b∈fp)(e:h.get? b\o):(b,o)∈Ed fp h:=mem_filterMap.mpr ⟨b,a,by rw[e];rfl⟩
theorem Ud{p:Addr×Obj}(a:p∈Ed fp h):p.1∈fp/\h.get? p.1\p.2:=by
 obtain⟨b,c,e⟩:=mem_filterMap.mp a;cases q:h.get? b with
 |none=>rw[q]at e;cases e
 |some o =>
  rw[q]at e;have d:(b,o)=p:=oI e;subst d;exact⟨c,q⟩
theorem Inv.pinned(I:Inv X qA Y H s)(h:∀b∈fp,CC X qA H b)(g:∀b∈fp,∃o,'F' b\o/\∀v,o.data≠.cell v):Inv X (qA++Ed fp s.heap) Y H s :=
 I.pins_of λp f=>(bA.mp f).elim (λz=>I.pin p (cC _ z)) λz=>by
  obtain⟨a,e⟩:=Ud z;obtain⟨l,j,i,_⟩:=h p.1 a;obtain⟨o,c,d⟩:=g p.1 a;rw[e]at c;cases c;exact⟨e,l,j,i,d⟩
theorem Inv.unpinned{pl:List (Addr×Obj)}(I:Inv X (qA++pl) Y H s):Inv X qA Y H s:=I.pins_of λp a=>I.pin p (cC _ (mem_append_left _ a))
theorem GY{body:Hq}{tb:TS}(L:PassesOwn (model X.prog X.w) X.A X.env X.xe)(hc:X.calm=true)(hi:PI X tg iter wi)(hg:PG X tg g)(l:Be X body tb)
  (hs:∀x,foldedSetIterable iter X.env x=pure x:=by rfl):PS X (.For tg iter body [] pos) (NS wi g tb):=by
 intro qA s Y H D I h;refine wpAny_For (AH (hi qA s Y H _ I h) λv s1 h1=>AH h1 λa2 s2 h2=>?_) hs;obtain⟨it,fp,tn,ρ,H2,e,I2,T,U,f2,W,⟨m0,w0⟩,B⟩:=h2;subst e;have j:∀{H':Hp},(∀b∈fp,H' b=none)->∀b∈fp,CC X qA H' b:=λhn b l=>⟨hn b l,(f2 b l).2⟩;refine codeAny_forLoop_any (λn s'=>∃i σ' H',Inv X qA σ' H' s'/\tn i s'.heap/\(∀b∈fp,H' b=none)/\W i n σ' H') ?_ m0 ⟨0,Y,H2,I2,U,λb l=>(f2 b l).1,w0⟩;rintro n s3 ⟨i,c,O,I3,E,M,w3⟩;rcases B i n c O w3 with⟨C,qn⟩|⟨go,N,hN,step⟩
 ·refine wpAny_passesOwn L (AH (T.done X rfl rfl rfl hc i qA s3 c O X.xe I3 (j M) E C) λr s4 zz=>?_);obtain⟨hr,I4⟩:=zz;subst hr;exact wpAny_execs_nil ⟨c,O,I4,qn⟩
 ·refine wpAny_passesOwn L (AH (T.item X rfl rfl rfl hc i qA s3 c O X.xe I3 (j M) E go) λr s4 zz=>?_);obtain⟨u,hr,h4⟩:=zz;subst hr;refine wpAny_passesOwn L (AH h4 λ_ s5 zz=>?_);obtain⟨x,H5,I5,r5,y5,z,a0⟩:=zz;have a1:=I5.pinned (j a0) (T.obj _ _ z);refine wpAny_passesOwn L (AH (hg _ s5 c H5 x u _ a1 r5 (step x H5 y5)) λ_ s6 zz=>?_);obtain⟨Q,H6,I6,q6⟩:=zz;refine wpAny_passesOwn L (AH (l _ s6 Q H6 _ I6 q6) λf σ y=>?_);have again:∀{a:St} {q:Hp},Inv X (qA++Ed fp s5.heap) a q σ->N a q->∃m,m<n/\∃i σ' H',Inv X qA σ' H' σ/\tn i σ.heap/\(∀b∈fp,H' b=none)/\W i m σ' H':=λ{a q} p us=>by
   obtain⟨m',hm,w7⟩:=hN a q us;refine⟨m',hm,i+1,a,q,p.unpinned,T.keep _ _ _ z λb l o e=>(p.pin (b,o) (cC _ (cC _ (Ee l e)))).1,λb l=>?_,w7⟩;obtain⟨o,e,d⟩:=T.obj _ _ z b l;exact(p.pin (b,o) (cC _ (cC _ (Ee l e)))).2.1
  cases f with
  |next=>obtain⟨a,q,p,us⟩:=y;exact again p us
  |cont=>obtain⟨a,q,p,us⟩:=y;exact again p us
  |brk=>obtain⟨a,q,p,y⟩:=y;exact⟨a,q,p.unpinned,y⟩
  |ret v=>obtain⟨x7,a,q,p,r7,y⟩:=y;exact⟨x7,a,q,p.unpinned,r7,y⟩
theorem Ue{K:Fg}{xs:dG}{tb:TS}{D:Ends}(Pv:Nat->St->Hp->Prop)(o:Pv 0 Y H)(l:∀i Y H,i<=xs.length->Pv i Y H->Am K H a xs)
  (j:∀i x Y H,xs[i]?\x->Pv i Y H->g x Y H λc H2=>tb { D with nx:=Pv (i+1),ct:=Pv (i+1),bk:=D.nx } c H2) (n:∀Y H,Pv xs.length Y H->D.nx Y H) :
  ∃W:Nat->Nat->St->Hp->Prop,(∃m,W 0 m Y H)/\∀i m Y H,W i m Y H ->
   ((DY K a).stop i H/\D.nx Y H)\/((DY K a).go i H/\∃N:St->Hp->Prop,(∀σ' H',N σ' H'->∃f,f<m/\W (i+1) f σ' H')/\∀x H',(DY K a).yld i H x H'->g x Y H' λc H2=>tb { D with nx:=N,ct:=N,bk:=D.nx } c H2):=by
 refine⟨λi m Y H=>m=xs.length - i/\i<=xs.length/\Pv i Y H,⟨xs.length,'2',cD _,o⟩,?_⟩;rintro i m Y H ⟨rfl,hi,p⟩;have q:=l i Y H hi p;by_cases d:i<xs.length
 ·refine .inr ⟨⟨xs,xs[i],q,by simp[d]⟩,Pv (i+1),λσ' H' h=>⟨xs.length - (i+1),⋯,rfl,d,h⟩,λx H' y=>?_⟩;obtain⟨e,y⟩:=y;subst e;exact j i x Y _ (y xs q) p
 ·have e:i=xs.length:=⋯;subst e;exact .inl ⟨⟨xs,q,aQ _⟩,n Y H p⟩
theorem NT{tb:TS}{D:Ends}(Pv:Nat->St->Hp->Prop)(l:Pv 0 Y H)
  (h:∀i Y H,i<n->Pv i Y H->g (.int (lo+i)) Y H λa H2=>tb { D with nx:=Pv (i+1),ct:=Pv (i+1),bk:=D.nx } a H2) (j:∀Y H,Pv n Y H->D.nx Y H) :
  ∃W:Nat->Nat->St->Hp->Prop,(∃m,W 0 m Y H)/\∀i m Y H,W i m Y H ->
   ((DZ lo n).stop i H/\D.nx Y H)\/((DZ lo n).go i H/\∃N:St->Hp->Prop,(∀σ' H',N σ' H'->∃d,d<m/\W (i+1) d σ' H')/\∀x H',(DZ lo n).yld i H x H'->g x Y H' λa H2=>tb { D with nx:=N,ct:=N,bk:=D.nx } a H2):=by
 refine⟨λi m Y H=>m=n - i/\i<=n/\Pv i Y H,⟨n,'2',cD _,l⟩,?_⟩;rintro i m Y H ⟨rfl,hi,p⟩;by_cases c:i<n
 ·refine .inr ⟨c,Pv (i+1),λσ' H' f=>⟨n - (i+1),⋯,rfl,c,f⟩,λx H' y=>?_⟩;obtain⟨e,y⟩:=y;subst e y;exact h i Y _ c p
 ·have e:i=n:=⋯;subst e;exact .inl ⟨aQ _,j Y H p⟩
abbrev R2:=V->V->Hp->VK->Prop
def Ay(X:Cx)(f:Value->Value->Sem Value)(r:R2):Prop :=
 ∀(qA:List (Addr×Obj)) (s:Shared) (Y:St) (H:Hp) (x y:V) (v u:Value) (Q:VK),Inv X qA Y H s->AJ x v->AJ y u->r x y H Q ->
  'B' (f v u) (EP X qA Y Q) X.xe s
def Kd(X:Cx)(f:Value->Sem Value)(r:V->Hp->VK->Prop):Prop :=
 ∀(qA:List (Addr×Obj)) (s:Shared) (Y:St) (H:Hp) (x:V) (v:Value) (Q:VK),Inv X qA Y H s->AJ x v->r x H Q ->
  'B' (f v) (EP X qA Y Q) X.xe s
def BK(X:Cx)(f:Value)(r:dG->Hp->VK->Prop):Prop :=
 ∀(qA:List (Addr×Obj)) (s:Shared) (Y:St) (H:Hp) (xs:dG) (G:Do) (Q:VK),Inv X qA Y H s->AQ xs G->r xs H Q ->
  'B' (call f G) (EP X qA Y Q) X.xe s
def FC(r:R2)(ta tb:TE):TE:=λY H Q=>ta Y H λx H1=>tb Y H1 λy H2=>r x y H2 Q
def Uf(r:V->Hp->VK->Prop)(ta:TE):TE:=λY H Q=>ta Y H λx H1=>r x H1 Q
def rI(C:Int->Int->Prop)(g:Int->Int->V):R2:=λx y H Q=>∃i j,x=.int i/\y=.int j/\C i j/\Q (g i j) H
def Cm(g:Int->Int->V):R2:=λx y H Q=>∃i j,x=.int i/\y=.int j/\Q (g i j) H
def rU(g:Int->V):V->Hp->VK->Prop:=λx H Q=>∃i,x=.int i/\Q (g i) H
section
variable{a b:Expr}{tc:TE}
theorem Ke(l:PE X a ta)(j:PE X b tb){R:V->V->Hp->Prop}(I:Inv X qA Y H s)
  (h:ta Y H λx H1=>tb Y H1 λy H2=>R x y H2) {f:Value->Value->Sem Value}
  (i:∀v u c x y H2,Inv X qA Y H2 c->AJ x v->AJ y u->R x y H2->'B' (f v u) Q X.xe c) :
  'B' (eval a X.env) (λv s₁=>'B' (eval b X.env) (λu s₂=>'B' (f v u) Q X.xe s₂) X.xe s₁) X.xe s:=by
 refine AH (l qA s Y H _ I h) λv d zz=>?_;obtain⟨x,H1,n,g,q1⟩:=zz;refine AH (j qA d Y H1 _ n q1) λu c zz=>?_;obtain⟨y,H2,m,e,q2⟩:=zz;exact i v u c x y H2 m g e q2
theorem BU{op:Operator}{r:R2}(f:Ay X (binaryOp op) r)(i:PE X a ta)(g:PE X b tb):PE X (.BinOp a op b pos) (FC r ta tb):=by
 intro qA s Y H Q I h;exact wpAny_BinOp (Ke i g I h λv u c x y H2 j e d q=>f qA c Y H2 x y v u Q j e d q)
theorem NU{op:UnaryOp}{r:V->Hp->VK->Prop}(e:Kd X (unaryOp op) r)(f:PE X a ta):PE X (.UnaryOp op a pos) (Uf r ta):=by
 intro qA s Y H Q I h;exact UnaryOp_ (AH (f qA s Y H _ I h) λv c zz=>(by obtain⟨x,H1,g,d,q1⟩:=zz;exact e qA c Y H1 x v Q g d q1))
theorem IR{f:Value->Value->Sem Value}{C:Int->Int->Prop}{g:Int->Int->Int}
  (rule:∀(i j:Int) (t u:Tok) (s:Shared) (Q:VS) (E:VS),C i j->Q (.int (g i j) s.toks) { s with toks:=s.toks+1 }->'B' (f (.int i t) (.int j u)) Q E s) :
  Ay X f (rI C λi j=>.int (g i j)):=by
 rintro qA s Y H x y v u Q I c a⟨i,j,rfl,rfl,d,q⟩;obtain⟨t,rfl⟩:=c;obtain⟨t',rfl⟩:=a;exact rule i j t t' s _ _ d ⟨.int (g i j),H,I.tok _,⟨_,rfl⟩,q⟩
theorem NV{f:Value->Value->Sem Value}{g:Int->Int->Int}
  (rule:∀(i j:Int) (t u:Tok) (s:Shared) (Q:VS) (E:VS),Q (.int (g i j) s.toks) { s with toks:=s.toks+1 }->'B' (f (.int i t) (.int j u)) Q E s) :
  Ay X f (Cm λi j=>.int (g i j)):=by
 rintro qA s Y H x y v u Q I c a⟨i,j,rfl,rfl,q⟩;obtain⟨t,rfl⟩:=c;obtain⟨t',rfl⟩:=a;exact rule i j t t' s _ _ ⟨.int (g i j),H,I.tok _,⟨_,rfl⟩,q⟩
theorem Kg{f:Value->Value->Sem Value}{g:Int->Int->Bool}
  (rule:∀(i j:Int) (t u:Tok) (s:Shared) (Q:VS) (E:VS),Q (.bool (g i j)) s->'B' (f (.int i t) (.int j u)) Q E s) :
  Ay X f (Cm λi j=>.bl (g i j)):=by
 rintro qA s Y H x y v u Q I c a⟨i,j,rfl,rfl,q⟩;obtain⟨t,rfl⟩:=c;obtain⟨t',rfl⟩:=a;exact rule i j t t' s _ _ ⟨.bl (g i j),H,I,rfl,q⟩
def Ug(i j:Int):Prop:=0<=j/\j<=1000000/\i.natAbs<2 ^ 64
def GZ(i j:Int):Prop:=(-(2 ^ 64)<i/\i<2 ^ 64)\/(-(2 ^ 64)<j/\j<2 ^ 64)
theorem GZ.ok{i j:Int}(h:GZ i j):IntMulOk i j:=by
 rcases h with⟨h1,h2⟩|⟨h1,h2⟩
 ·exact .of_left (intBits_le_64 h1 h2)
 ·exact .of_right (intBits_le_64 h1 h2)
theorem Da:Ay X (binaryOp .Add) (Cm λi j=>.int (i+j)):=NV λ_ _ _ _ _ _ _ q=>add_int q
theorem EB:Ay X (binaryOp .Sub) (Cm λi j=>.int (i - j)):=NV λ_ _ _ _ _ _ _ q=>sub_int q
theorem Ga:Ay X (binaryOp .Mult) (rI GZ λi j=>.int (i * j)):=IR λ_ _ _ _ _ _ _ a q=>mul_int q a.ok
theorem Ef:Ay X (binaryOp .Mod) (rI (λ_ j=>0<j) λi j=>.int (i % j)):=IR λi j _ _ _ _ _ a q=>by
 have h1:(0:Int)<j:=a;exact mod_int' ⋯ (by rw[Int.fmod_eq_emod_of_nonneg i ⋯];exact q)
theorem Uh:Ay X (binaryOp .Pow) (rI Ug λi j=>.int (i ^ j.toNat)):=IR λ_ _ _ _ _ _ _ a q=>pow_int_small a.1 a.2.1 a.2.2 q
theorem Ui{f:Value->Sem Value}{g:Int->Int}
  (rule:∀(i:Int) (t:Tok) (s:Shared) (Q:VS) (E:VS),Q (.int (g i) s.toks) { s with toks:=s.toks+1 }->'B' (f (.int i t)) Q E s) :
  Kd X f (rU λi=>.int (g i)):=by
 rintro qA s Y H x v Q I a⟨i,rfl,q⟩;obtain⟨t,rfl⟩:=a;exact rule i t s _ _ ⟨.int (g i),H,I.tok _,⟨_,rfl⟩,q⟩
theorem NW:Kd X (unaryOp .USub) (rU λi=>.int (-i)):=Ui λ_ _ _ _ _ q=>neg_int q
end
section
variable{a b:Expr}{tc:TE}
theorem Uj{Q:VK}{k a:Bool}(I:Inv X qA Y H s)(q:Q (.bl k) H)(e:k=a):EP X qA Y Q (.bool a) s:=by
 subst e;exact⟨.bl k,H,I,rfl,q⟩
theorem IS:Ay X (compareOp .Lt) (Cm λi j=>.bl (decide (i<j))):=Kg λ_ _ _ _ _ _ _ q=>lt_int q
theorem IT:Ay X (compareOp .LtE) (Cm λi j=>.bl (decide (i<=j))):=Kg λ_ _ _ _ _ _ _ q=>le_int q
theorem IU:Ay X (compareOp .Gt) (Cm λi j=>.bl (decide (j<i))):=Kg λ_ _ _ _ _ _ _ q=>gt_int q
theorem Uk:Ay X (compareOp .IsNot) (λx y H Q=>y=.non/\Q (.bl (!decide (x=.non))) H):=by
 rintro qA s Y H x y v u Q I a c⟨rfl,q⟩;cases c;refine isnot_none_gen (Uj I q ?_);cases x<;>first
  |(cases a;rfl)
  |(obtain⟨t,rfl⟩:=a;rfl)
theorem Ap(b:Expr){op:CmpOp}(h:op≠.In:=by decide)(h2:op≠.NotIn:=by decide):behindInMarks op b=false:=by
 have c:(op==CmpOp.In)=false:=by cases op<;>first|rfl|exact bS rfl h
 have a:(op==CmpOp.NotIn)=false:=by cases op<;>first|rfl|exact bS rfl h2
 cases b<;>simp[behindInMarks,c,a]
theorem Ul{op:CmpOp}{r:R2}(f:Ay X (compareOp op) r)(j:PE X a ta)(i:PE X b tb)(g:behindInMarks op b=false):PE X (.Compare a [op] [b] pos) (FC r ta tb):=by
 intro qA s Y H Q I h;exact wpAny_Compare1 (Ke j i I h λv u c x y H2 l e d q=>f qA c Y H2 x y v u Q l e d q) g
def NX(t:TE):TT:=λY H Q=>t Y H λx H'=>∃k,x=.bl k/\Q k H'
theorem Fi{op:CmpOp}{r:R2}(m:Ay X (compareOp op) r)(p:PE X a ta)(o:PE X b tb)(n:behindInMarks op b=false):PT X (.Compare a [op] [b] pos) (NX (FC r ta tb)):=by
 intro qA s Y H Q I h;refine wpAny_isTrue_Compare1 (AH (p qA s Y H _ I h) λv f zz=>?_) n;obtain⟨x,H1,A,j,q1⟩:=zz;refine AH (o qA f Y H1 _ A q1) λu d zz=>?_;obtain⟨y,H2,w,i,q2⟩:=zz;refine AH (m qA d Y H2 x y v u _ w j i q2) λc C zz=>?_;obtain⟨z,B,q,g,k,e,l⟩:=zz
 subst e;cases g;exact wpAny_truthy_bool ⟨B,q,l⟩
def NY(r r':R2)(ta tb tc:TE):TE:=λY H Q=>ta Y H λx H1=>tb Y H1 λy H2=>r x y H2 λz H3=>∃k,z=.bl k /\
 (if k=true then tc Y H3 λw' H4=>r' y w' H4 Q else Q (.bl false) H3)
theorem Um{op f:CmpOp}{r r':R2}(us:Ay X (compareOp op) r)(g:Ay X (compareOp f) r')(N:PE X a ta)(M:PE X b tb)(L:PE X c tc)
  (ρ:lastMarks [op,f] [b,c]=false:=by with_unfolding_all rfl):PE X (.Compare a [op,f] [b,c] pos) (NY r r' ta tb tc):=by
 intro qA s Y H Q I h;refine Compare_chain (AH (N qA s Y H _ I h) λv A zz=>?_) ρ;obtain⟨x,H1,U,D,q1⟩:=zz;refine chain_link (AH (M qA A Y H1 _ U q1) λu w zz=>?_);obtain⟨y,H2,T,i,q2⟩:=zz;refine AH (us qA w Y H2 x y v u _ T D i q2) λd q zz=>?_;obtain⟨z,m,l,C,k,e,j⟩:=zz
 subst e;cases C;refine wpAny_truthy_bool ?_;cases k with
 |false=>exact ite_ff ⟨.bl false,m,l,rfl,j⟩
 |true=>exact ite_tt (chain_last (AH (L qA q Y m _ l j) λo p zz=>(by obtain⟨n,σ,O,B,E⟩:=zz;exact g qA p Y σ y n u o Q O i B E)))
theorem FD:(sizeLine:Nat)<2 ^ 63:=by rw[cT];decide
theorem NZ:Ay X (binaryOp .Add) (λx y H Q=>∃i j,x=.str i/\y=.str j/\i.length+j.length<=sizeLine/\Q (.str (i++j)) H):=by
 rintro qA s Y H x y v u Q I c a⟨i,j,rfl,rfl,d,q⟩;obtain⟨t,rfl⟩:=c;obtain⟨t',rfl⟩:=a;exact add_str (λt' tk=>⟨.str (i++j),H,I.tok _,⟨_,rfl⟩,q⟩) d
theorem IV{x:V}(r:AQ [x] G):∃u,G=[u]/\AJ x u:=by
 cases r with
 |cons c a=>cases a;exact⟨_,rfl,c⟩
theorem Na{x y:V}(r:AQ [x,y] G):∃u w',G=[u,w']/\AJ x u/\AJ y w':=by
 cases r with
 |cons e d =>
  cases d with
  |cons c a=>cases a;exact⟨_,_,rfl,e,c⟩
end
structure ObjM(h:Heap)(x dx C:Addr)(mA:Str->Ex):Prop where
 obj:h.get? x\(PySem.W.instObj C dx)
 ns:h.Ns1 dx mA
 ne:dx≠x
theorem Uo{dx:Addr}{f:Str->Ex}(n:h.Ns1 dx f):∃d,h.get? dx\d/\∀name,PySem.W.lookIn name d\(f name):=by
 obtain⟨o,es,ep,i,m,l,_,j⟩:=n;refine⟨o,i,λname=>?_⟩;have e:=j name;unfold nsFind findBy at e;rw[<-Array.find?_toList]at e;unfold PySem.W.lookIn;rw[m];dsimp only;split
 ·rename_i y q;rw[q]at e;exact aT some e
 ·rename_i q;rw[q]at e;have a:es.toList.any (·.refKey)=false:=by
   rw[any_eq_false];intro y g;obtain⟨z,t,c⟩:=l y (Array.mem_toList_iff.mp g);simp[DictEntry.refKey,c]
  have p:¬es.toList.any (·.refKey)=true:=by rw[a];exact cH
  rw[aB p];exact aT some e
theorem ObjM.look{x dx C:Addr}{mA:Str->Ex}(I:ObjM h x dx C mA):∃od,PySem.W.InstAt h x (PySem.W.instObj C dx) C (some od)/\∀name,PySem.W.lookIn name od\(mA name) :=
 let⟨od,a,c⟩:=Uo I.ns
 ⟨od,⟨I.obj,rfl,rfl,a⟩,c⟩
theorem Cv.some_of{o:Ex}(r:Cv (some v) o):∃u,o\u/\AJ v u:=by
 cases o with
 |none=>exact(show False from r).elim
 |some u=>exact⟨u,rfl,r⟩
section
variable{P:Program}{C dx:Addr}{fs fs':List (Str×V)}
theorem Uq(g:A7 P w H h)(e:H a\(.ins C dx fs)):∃c,ObjM h a dx C c/\(∀f,Cv (fs.lookup f) (c f))/\PySem.Within c (fs.map (·.1))/\fs.length<=1000/\H dx\(.own a):=by
 obtain⟨d,z,j,i,c,n,r,q⟩:=(show A3 P w H h a (.ins C dx fs)from g a _ e);exact⟨c,⟨i,n,j⟩,r,q,z,d⟩
end
structure Cls(K:Fg)(C:Addr):Prop where
 pg:PySem.W.plainGet K C Str.empty=true
 hd:PySem.W.hasDictIn K C=true
 po:PySem.W.plainOver K C=true
 sa:PySem.W.findIn K (.ref C) "__setattr__"\(some (.builtin "object.__setattr__"))
theorem Cls.get{K:Fg}{C:Addr}(c:Cls K C)(f:Str):PySem.W.plainGet K C f=true:=c.pg
section
variable{c:Value}{b:Bool}
inductive TyOf(K:Fg)(H:Hp):V->Value->Prop where
 |non:TyOf K H .non (.type "NoneType")
 |bl (x:Bool):TyOf K H (.bl x) (.type "bool")
 |int (i:Int):TyOf K H (.int i) (.type "int")
 |str (x:Str):TyOf K H (.str x) (.type "str")
 |flt (x:UInt64):TyOf K H (.flt x) (.type "float")
 |lst {a:Addr} {xs:dG} (e:H a\(.lst xs)):TyOf K H (.ref a) (.type "list")
 |frz {a:Addr} {o:Obj} {xs:dG} (e:H a\(.frz o (.lst xs))):TyOf K H (.ref a) (.type "list")
 |tup {a:Addr} {xs:dG} (e:H a\(.tup xs)):TyOf K H (.ref a) (.type "tuple")
 |dK {a:Addr} {qH:List (AK×V)} (e:H a\(.dK qH)):TyOf K H (.ref a) (.type "dict")
 |dT {a:Addr} {qH:List (List AK×V)} (e:H a\(.dT qH)):TyOf K H (.ref a) (.type "dict")
 |fT {a:Addr} {o:Obj} {qH:List (List AK×V)} (e:H a\(.frz o (.dT qH))):TyOf K H (.ref a) (.type "dict")
 |ins {a C dx:Addr} {fs:List (Str×V)} (e:H a\(.ins C dx fs)) (cl:Cls K C) (ha:PySem.W.findIn K (.ref C) "__class__"\(some (.builtin "object.__class__")))
   (hn:PySem.W.specialIn K (.builtin "object.__class__") "__get__"\(some (.builtin "getset_descriptor.__get__"))) (htk:PySem.W.takesIn K (.builtin "object.__class__")\true)
   (hm:PySem.W.mroIn K C (.type "object")\true):TyOf K H (.ref a) (.ref C)
theorem Ur{x:V}{t:Value}(I:Inv X qA Y H s)(f:AJ x u)(ty:TyOf X.K H x t)(e:PySem.W.kitOne X.K t c\b)(h:∀tk,Q (.bool b) { s with toks:=tk }) :
  wpAny (model X.prog X.w) A (call (.builtin "isinstance") [u,c]) Q E s:=by
 cases ty with
 |non=>cases(show u=Value.none from f);exact PySem.W.kia_one PySem.W.kitx_none I.kIn True.intro e '5' h
 |bl y=>cases(show u=Value.bool y from f);exact PySem.W.kia_one PySem.W.kitx_bool I.kIn True.intro e '5' h
 |int i=>obtain⟨t,q⟩:=(show∃t,u=Value.int i t from f);cases q;exact PySem.W.kia_one PySem.W.kitx_int I.kIn True.intro e '5' h
 |str y=>obtain⟨t,q⟩:=(show∃t,u=Value.str y t from f);cases q;exact PySem.W.kia_one PySem.W.kitx_str I.kIn True.intro e '5' h
 |flt y=>obtain⟨t,q⟩:=(show∃t,u=Value.float y t from f);cases q;exact PySem.W.kia_one PySem.W.kitx_float I.kIn True.intro e '5' h
 |@lst a xs d =>
  cases(show u=Value.ref a from f);obtain⟨_,_,n,_,h1⟩:=(show A3 X.prog X.w H s.heap a (.lst xs)from I.hok a _ d);exact PySem.W.kia_one PySem.W.kitx_list I.kIn ⟨_,h1,rfl⟩ e '5' h
 |@frz a j xs d =>
  cases(show u=Value.ref a from f);obtain⟨_,_,_,n,_,h1⟩:=(show A3 X.prog X.w H s.heap a (.frz j (.lst xs))from I.hok a _ d);exact PySem.W.kia_one PySem.W.kitx_list I.kIn ⟨_,h1,rfl⟩ e '5' h
 |@tup a xs d =>
  cases(show u=Value.ref a from f);obtain⟨_,_,_,p⟩:=(show A3 X.prog X.w H s.heap a (.tup xs)from I.hok a _ d);obtain⟨o,h1,h2,_⟩:=p;exact PySem.W.kia_one PySem.W.kitx_tuple I.kIn ⟨o,h1,h2⟩ e '5' h
 |@dK a g d =>
  cases(show u=Value.ref a from f);obtain⟨_,_,vs,_,p⟩:=(show A3 X.prog X.w H s.heap a (.dK g)from I.hok a _ d);obtain⟨o,es,ep,h1,h2,_⟩:=p;exact PySem.W.kia_one PySem.W.kitx_dict I.kIn ⟨o,h1,h2.1⟩ e '5' h
 |@dT a g d =>
  cases(show u=Value.ref a from f);obtain⟨_,_,xs,_,o,es,ep,h1,h2,_⟩:=(show A3 X.prog X.w H s.heap a (.dT g)from I.hok a _ d);exact PySem.W.kia_one PySem.W.kitx_dict I.kIn ⟨o,h1,h2.1⟩ e '5' h
 |@fT a j g d =>
  cases(show u=Value.ref a from f);obtain⟨_,_,_,xs,_,o,es,ep,h1,h2,_⟩:=(show A3 X.prog X.w H s.heap a (.frz j (.dT g))from I.hok a _ d);exact PySem.W.kia_one PySem.W.kitx_dict I.kIn ⟨o,h1,h2.1⟩ e '5' h
 |@ins a C dx fs d m B r l v =>
  cases(show u=Value.ref a from f);obtain⟨us,O,_⟩:=Uq I.hok d;obtain⟨D,ρ,_⟩:=O.look;exact PySem.W.kia_one (PySem.W.kitx_own (m.get _) m.hd B r l v) I.kIn ρ e '5' h
end
structure Room(k:Nat)(A:Around):Prop where
 hd:A.handled=none
 dp:A.depth+3 * k+5<recursionLimit
 un:A.units+16 * k+200<cLine
theorem Room.mono{k:Nat}(r:Room k A)(h:j<=k):Room j A:=⟨r.hd,by have:=r.dp;lia,by have:=r.un;lia⟩
theorem Room.mq{j k:Nat}{A:Around}(h:Room k A)(e:j<=k:=by decide):Room j A:=h.mono e
theorem Room.deeper{k:Nat}(r:Room (k+1) A)(env:Env):Room k (A.deeper env) :=
 ⟨r.hd,by have:=r.dp;show A.depth+1+3 * k+5<_;lia,by have:=r.un;show A.units+3+16 * k+200<_;lia⟩
theorem Room.depth{k:Nat}(r:Room k A):A.depth<recursionLimit:=by have:=r.dp;lia
theorem Room.units{k:Nat}(r:Room k A):A.units+64<cLine:=by have:=r.un;lia
theorem Room.units0{k:Nat}(r:Room k A):A.units<cLine:=by have:=r.un;lia
def CD:TA:=λ_ H Q=>Q [] H
def Bx(ta:TE)(tr:TA):TA:=λY H Q=>ta Y H λx H1=>tr Y H1 λxs H2=>Q (x::xs) H2
section
variable{e:Expr}{t:TA}
theorem Az:PA X [] CD:=λ_ _ _ _ H Q I h=>Calls.spliced_nil ⟨[],H,I,.nil,h⟩
theorem Ag(i:PE X e te)(g:PA X es t)(f:starEach (e::es) X.env=(false,eval e X.env)::starEach es X.env:=by rfl):PA X (e::es) (Bx te t):=by
 intro pos qA s Y H Q I h;rw[f];show 'A' (spliced ((false,eval e X.env)::backTo pos (starEach es X.env))) _ _ s;refine Calls.spliced_cons (AH (i qA s Y H _ I h) λu a zz=>?_);obtain⟨x,H1,l,d,q1⟩:=zz;exact AH (g pos qA a Y H1 _ l q1) λG m zz=>(by obtain⟨xs,H2,j,c,q2⟩:=zz;exact ⟨x::xs,H2,j,.cons d c,q2⟩)
def Nb(t:TA):TE:=λY H Q=>t Y H λxs H1=>xs.length<=sizeLine/\∀p,H1 p=none->Q (.ref p) (AD H1 p (.tup xs))
def Kh(t:TA):TE:=λY H Q=>t Y H λxs H1=>xs.length<=sizeLine/\∀p,H1 p=none->Q (.ref p) (AD H1 p (.lst xs))
theorem Nc{x1}(h:PA X es t):PE X (.Tuple es x1 pos) (Nb t):=by
 intro qA s Y H Q I d;refine wpAny_Tuple_spliced (AH (h pos qA s Y H _ I d) λG a zz=>?_);obtain⟨xs,H1,c,r,z,q⟩:=zz;refine⟨by rw[<-r.length];exact z,?_⟩;have f:H1 a.heap.objs.size=none:=c.hok.fresh (aQ _);refine⟨.ref a.heap.objs.size,AD H1 a.heap.objs.size (.tup xs),c.laid (t':=a.toks) (λb u e=>aS _ e) (aQ _) ?_,rfl,q _ f⟩;exact⟨z,G,r,DX.new _ _⟩
theorem Gb(h:PA X es t):PE X (.List es pos) (Kh t):=by
 intro qA s Y H Q I d;refine wpAny_List_spliced (AH (h pos qA s Y H _ I d) λG a zz=>?_);obtain⟨xs,H1,c,r,z,q⟩:=zz;refine⟨by rw[<-r.length];exact z,?_⟩;have f:H1 a.heap.objs.size=none:=c.hok.fresh (aQ _);refine⟨.ref a.heap.objs.size,AD H1 a.heap.objs.size (.lst xs),c.laid (t':=a.toks) (λb u e=>aS _ e) (aQ _) ?_,rfl,q _ f⟩;exact⟨z,G,0,r,bP _ rfl⟩
end
abbrev Sp:=dG->Hp->VK->XK->Prop
abbrev DC:=List Env->Hp->Shared->XK->Value->Shared->Prop
structure Env0(P:Program)(w:World)(K:Fg)(mg:Str->Ex)(base:Heap)(A:Around)(outer:List Env)(s:Shared)(H:Hp):Prop where
 frames:A.frames\outer
 mod:Mod K mg base
 bs:∀b o,base.get? b\o->'F' b\o/\H b=none
 bsz:base.objs.size<='H'
 funs:s.heap.FunFrames base outer
 frf:∀b∈CS outer,H b=none
 hok:A7 P w H s.heap
 bare:AllBare s.gens
def CE(outer:List Env)(P:Program)(w:World)(H:Hp)(s:Shared)(Q:VK)(u:Value)(s':Shared):Prop :=
 ∃v H',s'.os=s.os/\AllBare s'.gens/\Un (CS outer) [] H H' s.heap s'.heap/\A7 P w H' s'.heap/\AJ v u/\Q v H'
def CR(CX:DC)(outer:List Env)(P:Program)(w:World)(H:Hp)(s:Shared)(Q:VK)(E:XK)(r:Result)(s':Shared):Prop :=
 match r with
 |.ok (.ret u)=>CE outer P w H s Q u s'
 |.ok _=>False
 |.error e=>CX outer H s E e s'
structure FnOk(P:Program)(w:World)(K:Fg)(mg:Str->Ex)(base:Heap)(CX:DC)(k:Nat)(f:Addr)(fd:FuncData)(ps:At)(sp:Sp):Prop where
 len:∀vs H Q E,sp vs H Q E->vs.length=ps.length
 run:∀(A:Around) (outer:List Env) (s:Shared) (H:Hp) (args:Args) (G:Do) (vs:dG) (Q:VK) (E:XK),Room k A->Env0 P w K mg base A outer s H->BindsTo s fd args (ps.zip G)->AQ vs G->sp vs H Q E ->
  codeAny (model P w) A (.call (.ref f) args) (CR CX outer P w H s Q E) s
theorem FnOk.imp{P:Program}{K:Fg}{CX:DC}{k:Nat}{f:Addr}{sp sp':Sp}(F:FnOk P w K mg base CX k f fd ps sp)
  (h:∀vs H Q E,sp' vs H Q E->sp vs H Q E):FnOk P w K mg base CX k f fd ps sp' :=
 ⟨λvs H Q E q=>F.len vs H Q E (h _ _ _ _ q),λA outer s H args G vs Q E d e g a c=>F.run A outer s H args G vs Q E d e g a (h _ _ _ _ c)⟩
section
variable{s':Shared}
theorem Inv.env0(I:Inv X qA Y H s):Env0 X.prog X.w X.K X.mg X.base X.A X.stack s H :=
 ⟨I.ok.frames,I.ok.mod,I.bs,aR I.ok.bsz I.sz,I.stack,I.stkFree,I.hok,I.bare⟩
theorem Inv.after{Q:VK}(I:Inv X qA Y H s)(h:CE X.stack X.prog X.w H s Q u s'):EP X qA Y Q u s':=by
 obtain⟨v,H',os,bare,un,hok,r,q⟩:=h;obtain⟨c,g,d,t,a⟩:=s';obtain rfl:a=s.os:=os;exact⟨v,H',I.call (h':=c) (g':=g) (d':=d) (t':=t) (ch:=[]) un hok bare (λb z=>bS z '2'),r,q⟩
end
def Gc(sp:Sp)(dvs:dG)(E:XK)(t:TA):TE:=λY H Q=>t Y H λvs H1=>sp (vs++dvs) H1 Q E
def Fj(K:Fg)(fd:FuncData)(ps:At)(ds:Do):Prop :=
 ∀(s:Shared) (G:Do),K.In s.heap->(G++ds).length=ps.length->BindsTo s fd ⟨G,[]⟩ (ps.zip (G++ds))
theorem Fj.all{K:Fg}(h:∀G:Do,G.length=ps.length->bindArgs fd ⟨G,[]⟩=pure (ps.zip G)):Fj K fd ps []:=λs G _ a=>by
 rw[append_nil]at a ⊢;exact .of_eq (h G a)
def Ki(CX:DC)(X:Cx)(E:XK):Prop:=∀(qA:List (Addr×Obj)) (Y:St) (H:Hp) (s:Shared) (e:Value) (s':Shared),Inv X qA Y H s->CX X.stack H s E e s'->X.xe e s'
section
variable{CX:DC}{k:Nat}{f C:Addr}{sp:Sp}{dvs:dG}{ds:Do}{E:XK}{m:Str}{p:Pos}{e o:Expr}{t:TA}
theorem Ut{Q:VK}(F:FnOk X.prog X.w X.K X.mg X.base CX k f fd ps sp)(g:Room k X.A)(l:Fj X.K fd ps ds)(j:AQ dvs ds)(d:Ki CX X E)
  (I:Inv X qA Y H s) (r:AQ vs G) (h:sp (vs++dvs) H Q E):'B' (call (.ref f) G) (EP X qA Y Q) X.xe s:=by
 have c:AQ (vs++dvs) (G++ds):=r.append j;have i:(G++ds).length=ps.length:=by rw[<-c.length];exact F.len _ _ _ _ h
 refine wpAny_call (codeAny_mono (F.run X.A X.stack s H ⟨G,[]⟩ (G++ds) (vs++dvs) Q E g I.env0 (l s G I.kIn i) c h) λr s' a=>?_);cases r with
 |error e=>exact d qA Y H s e s' I a
 |ok m =>
  cases m with
  |ret u=>exact I.after a
  |next=>exact False.elim a
  |brk=>exact False.elim a
  |cont=>exact False.elim a
theorem Uu(F:FnOk X.prog X.w X.K X.mg X.base CX k f fd ps sp)(i:Room k X.A)(m:Gl X x)(j:X.mg x\(.ref f))(l:PySem.W.keepIn X.K (.ref f)=true)(u:Fj X.K fd ps ds)(o:AQ dvs ds)(g:Ki CX X E)
  (v:PA X (e::es) t) (c:No x:=by decide) (n:starEach (e::es) X.env=(false,eval e X.env)::starEach es X.env:=by rfl) (a:(backTo pos (starEach es X.env)).any (·.1)=false:=by rfl) :
  PE X (.Call (.Name x p) (e::es) [] pos) (Gc sp dvs E t):=by
 intro qA s Y H Q I h;refine wpAny_Call_Name_kw (T3 I m j ?_ c);refine PySem.W.callWith_K (h₀:=X.base) I.ok.mod.kin l (AH (v pos qA s Y H _ I h) λG y zz=>?_) n a;obtain⟨vs,H1,d,r,q⟩:=zz;refine⟨d.kIn,?_⟩;exact Ut F i u o g d r q
end
section
variable{CX:DC}{k:Nat}{f C:Addr}{sp:Sp}{E:XK}{m:Str}{p kpos:Pos}{e o:Expr}{kws:List Keyword}{t tk:TA}{nm:Option Str}
variable{g:Do->Do->Do}{gV:dG->dG->dG}
end
structure FnScope(N P:At)(sc:Scope):Prop where
 kind:sc.kind=.function
 co:sc.isCoroutine=false
 gen:sc.isGenerator=false
 nd:N.Nodup
 pre:N.take P.length=P
 par:∀x∈P,sc.names.lookup x\.local\/sc.names.lookup x\.cell
 nofree:∀y∈sc.names,y.2≠.free
theorem Nd{kindOf:Str->Option NameKind}{x:Str}:∀{binds:List (Str×Value)} {m:Str->Ex},(∀v,(x,v)∉binds)->bindL kindOf binds m x=m x
 |[],_,_=>rfl
 |(n,v)::r,m,h=>by
  unfold bindL;rw[Nd λw a=>h w (bT _ a)];split
  ·have:x≠n:=by rintro rfl;exact h v cA
   simp[this]
  ·rfl
theorem Nf{kindOf:Str->Option NameKind}{x:Str}:∀{binds:List (Str×Value)} {m:Str->Ex},(∀v,(x,v)∉binds)->bindC kindOf binds m x=m x
 |[],_,_=>rfl
 |(n,v)::r,m,h=>by
  unfold bindC;rw[Nf λw a=>h w (bT _ a)];split
  ·rfl
  ·have:x≠n:=by rintro rfl;exact h v cA
   simp[this]
theorem Ng{kindOf:Str->Option NameKind}{x:Str}{v:Value}:∀{P:At} {vs:Do} {i:Nat} {m:Str->Ex},P.Nodup->P[i]?\x->vs[i]?\v->kindOf x\.local ->
  bindL kindOf (P.zip vs) m x\v
 |[],_,_,_,_,h,_,_=>by simp at h
 |_::_,[],_,_,_,_,h,_=>by simp at h
 |p::P,w::vs,0,m,nd,h1,h2,a=>by
  simp at h1 h2;subst h1;subst h2;show bindL kindOf ((p,w)::P.zip vs) m p=_;unfold bindL;rw[Nd λv c=>(bC.mp nd).1 (of_mem_zip c).1,aC a];simp
 |p::P,w::vs,i+1,m,nd,h1,h2,a=>by
  show bindL kindOf ((p,w)::P.zip vs) m x=_;unfold bindL;exact Ng (i:=i) (bC.mp nd).2 (~~~h1) (~~~h2) a
theorem Nh{kindOf:Str->Option NameKind}{x:Str}{v:Value}:∀{P:At} {vs:Do} {i:Nat} {m:Str->Ex},P.Nodup->P[i]?\x->vs[i]?\v->kindOf x≠some .local ->
  bindC kindOf (P.zip vs) m x\v
 |[],_,_,_,_,h,_,_=>by simp at h
 |_::_,[],_,_,_,_,h,_=>by simp at h
 |p::P,w::vs,0,m,nd,h1,h2,a=>by
  simp at h1 h2;subst h1;subst h2;show bindC kindOf ((p,w)::P.zip vs) m p=_;unfold bindC;rw[Nf λv c=>(bC.mp nd).1 (of_mem_zip c).1,aB a];simp
 |p::P,w::vs,i+1,m,nd,h1,h2,a=>by
  show bindC kindOf ((p,w)::P.zip vs) m x=_;unfold bindC;exact Nh (i:=i) (bC.mp nd).2 (~~~h1) (~~~h2) a
def Cn(N:At)(vs:dG):St:=vs.map some++replicate (N.length - vs.length) none
def Eg(CX:DC)(P:Program)(w:World)(K:Fg)(mg:Str->Ex)(base:Heap)(N:At)(qual:Str)(scope:Scope)(f:Addr)(cd:Value)(A:Around)(outer:List Env)(s:Shared)(H:Hp)(E:XK):Cx where
 prog:=P
 w:=w
 K:=K
 mg:=mg
 base:=base
 A:=A.deeper (envOfC qual scope 'H' f cd)
 N:=N
 s₀:=s
 H₀:=H
 env:=envOfC qual scope 'H' f cd
 outer:=outer
 stack:=envOfC qual scope 'H' f cd::outer
 ex:=[]
 calm:=true
 fn:=λ_=>true
 pn:=[]
 xe:=λe s'=>wpAny (model P w) (A.deeper (envOfC qual scope 'H' f cd)) (leaving (envOfC qual scope 'H' f cd) e) (λ_ s''=>CX outer H s E e s'') (λe' s''=>CX outer H s E e' s'') s'
theorem Ni(h:sc.names.lookup x\.cell):∃c,(cellsFrom n sc.names []).lookup x\c:=by
 have q:=PySem.W.cellsFrom_some sc.names n [] (.inl h);exact Option.isSome_iff_exists.mp q
theorem Uv{CX:DC}{P:Program}{K:Fg}{f:Addr}{m:Value}{outer:List Env}{s1:Shared}{E:XK}
  (S:FnScope N ps scope) (D:A.handled=none) (d:Env0 P w K mg base A outer s H) (I:vs.length=ps.length) (r:AQ vs G)
  (x:InCallC s 'H' (bindL (envOfC qual scope 'H' f m).kindOf (ps.zip G) λ_=>none) (cellsFrom ('H'+1) scope.names []) (bindC (envOfC qual scope 'H' f m).kindOf (ps.zip G) λ_=>none) s1) :
  Inv (Eg CX P w K mg base N qual scope f m A outer s H E) [] (Cn N vs) H s1:=by
 have C:ps.length<=N.length:=by have:=aT length S.pre;rw[aO]at this;lia
 obtain⟨h1,tk,rfl,B⟩:=x.done;have g:∀b:Addr,b∉(Eg CX P w K mg base N qual scope f m A outer s H E).ex:=λb z=>bS (show b∈([]:Ha)from z) '2';refine⟨⟨d.mod,S.kind,rfl,rfl,aQ _,λy z c h1 h2=>?_,λy hy=>?_,λy c _ h=>?_,λ_=>D,Around.frames_deeper d.frames,.inr ⟨rfl,rfl⟩,λb z=>bS z (g b),d.bs,d.bsz,λb _ _=>g b,λb z=>bS z (g b),d.funs,d.frf⟩, rfl,d.bare,Un.kept B,⟨_,x.toInCall.ns,λi y v h1 h2 ρ=>?_⟩,λy c h=>⟨_,x.cell y c h⟩,d.hok.fresh (aQ _),λy c h=>?_,λp l=>bS (show p∈([]:List (Addr×Obj))from l) '2',d.hok.kept B,?_⟩
 ·exact name_of_addr x.apart (PySem.mem_of_lookup h1) (PySem.mem_of_lookup h2)
 ·have hy:scope.names.lookup y\.cell\/scope.names.lookup y\.free:=hy;rcases hy with hy|hy
  ·exact Ni hy
  ·exact bS rfl (S.nofree _ (PySem.mem_of_lookup hy))
 ·exact aY (x.above y c (PySem.mem_of_lookup h))
 ·have hi:i<vs.length:=by
   unfold Cn at h2;by_cases hi:i<vs.length
   ·exact hi
   ·rw[getElem?_append_right (~~~hi)]at h2;rw[getElem?_replicate]at h2;split at h2<;>cases h2
  have us:vs[i]?\v:=by
   unfold Cn at h2;rw[getElem?_append_left (~~~hi),bO]at h2;cases e:vs[i]? with
   |none=>rw[e]at h2;cases h2
   |some a=>rw[e]at h2;cases h2;rfl
  obtain⟨u,o,rv⟩:=r.get us;have l:ps[i]?\y:=by
   rw[<-S.pre,getElem?_take_of_lt ⋯];exact h1
  have j:ps.Nodup:=by rw[<-S.pre];exact S.nd.sublist (take_sublist _ _)
  refine⟨u,rv,?_⟩;rcases S.par y (aM l)with k|k
  ·exact .inl ⟨k,Ng j l o k⟩
  ·obtain⟨c,e⟩:=Ni (n:='H'+1) k;refine .inr ⟨.inl k,c,e,?_⟩;have q:=x.cell y c e;rw[Nh j l o (by show scope.names.lookup y≠_;rw[k];decide)]at q;exact q
 ·exact d.hok.fresh (aY (x.above y c (PySem.mem_of_lookup h)))
 ·unfold Cn;show _=N.length;rw[aG,aA,length_replicate];lia
theorem Uw{CX:DC}{P:Program}{K:Fg}{k:Nat}{f:Addr}{name:Str}{c:Arguments}{body:Hq}{D kV doc C a ct O:Value}{us M:Go}
  {m:Array Ex} {sp:Sp} (T:K.lookup f\⟨O,M,.func (PySem.W.fnOf name qual c body scope D kV doc C us a ct),m⟩) (B:PySem.W.codeIn K a qual=true) (S:FnScope N ps scope)
  (len:∀vs H Q E,sp vs H Q E->vs.length=ps.length)
  (g:∀(A:Around) (outer:List Env) (s:Shared) (H:Hp) (vs:dG) (Q:VK) (E:XK),Room k (A.deeper (envOfC qual scope 'H' f a))->sp vs H Q E ->
   ∃t,Be (Eg CX P w K mg base N qual scope f a A outer s H E) body t/\t { nx:=λ_ H'=>Q .non H',rt:=Q } (Cn N vs) H) :
  FnOk P w K mg base CX (k+1) f (PySem.W.fnOf name qual c body scope D kV doc C us a ct) ps sp:=by
 refine⟨len,λA outer s H args G vs Q E z l hb r i=>?_⟩;have hl:=len _ _ _ _ i;have L:K.In s.heap:=l.mod.kin.keeps λb o e=>(l.bs b o e).1;have p:s.heap.NoLimit:=l.mod.nolimit.keeps λb o e=>(l.bs b o e).1;have d:∀y∈ps.zip G,scope.names.lookup y.1\.local\/(scope.names.lookup y.1\.cell/\((cellsFrom ('H'+1) scope.names []).lookup y.1).isSome=true):=λ⟨n,v⟩ U=>by
  rcases S.par n (of_mem_zip U).1 with q|q
  ·exact .inl q
  ·exact .inr ⟨q,PySem.W.cellsFrom_some _ _ _ (.inl q)⟩
 refine codeAny_call_function z.depth (L _ _ T) rfl S.co S.gen rfl (PySem.W.codeRec_of L B) (hb _ _ _ _ ?_);refine wpAny_newFunctionEnv_cells S.kind d λenv he s1 x=>?_;subst he;refine⟨p.keeps x.toInCall.keep,codeAny_func ?_⟩;obtain⟨t,σ,hq⟩:=g A outer s H vs Q E (z.deeper _) i;have I:Inv (Eg CX P w K mg base N qual scope f a A outer s H E) [] (Cn N vs) H s1:=Uv S z.hd l hl r x;refine bL (σ [] s1 (Cn N vs) H _ I hq) (λfl s' h=>?_) λe s' h=>h;have j:∀{σ':St} {H':Hp} {v:V} {u:Value},Inv (Eg CX P w K mg base N qual scope f a A outer s H E) [] σ' H' s'->AJ v u->Q v H'->CE outer P w H s Q u s' :=
  λ{σ' H' v u} ρ rv q=>⟨v,H',ρ.os,ρ.bare,ρ.base,ρ.hok,rv,q⟩
 cases fl with
 |ret u =>
  obtain⟨v,σ',H',ρ,rv,q⟩:=h;exact j ρ rv q
 |next =>
  obtain⟨σ',H',ρ,q⟩:=h;exact j (v:=V.non) (u:=Value.none) ρ rfl q
 |brk =>
  obtain⟨_,_,_,q⟩:=h;exact False.elim q
 |cont =>
  obtain⟨_,_,_,q⟩:=h;exact False.elim q
section
variable{p:Pos}{e:Expr}{t:TA}{id T:String}{r:dG->Hp->VK->Prop}
def DD(r:dG->Hp->VK->Prop)(t:TA):TE:=λY H Q=>t Y H λvs H1=>r vs H1 Q
theorem Eh(n:BK X (.builtin id) r)(l:Gl X x)(j:X.mg x=none)(g:bootBuiltins x\(.builtin id))(o:PA X (e::es) t)(i:x≠"__name__":=by decide)(c:No x:=by decide)
  (m:starEach (e::es) X.env=(false,eval e X.env)::starEach es X.env:=by rfl) (a:(backTo pos (starEach es X.env)).any (·.1)=false:=by rfl):PE X (.Call (.Name x p) (e::es) [] pos) (DD r t):=by
 intro qA s Y H Q I h;refine wpAny_Call_Name_kw (EA I l j g ?_ i c);exact PyProof.Rows.callWith_builtin1 (AH (o pos qA s Y H _ I h) λG d zz=>(by obtain⟨vs,H1,q,f,q1⟩:=zz;exact n qA d Y H1 vs G Q q f q1)) m a
theorem IW(n:BK X (.type T) r)(l:Gl X x)(j:X.mg x=none)(g:bootBuiltins x\(.type T))(o:PA X (e::es) t)(i:x≠"__name__":=by decide)(c:No x:=by decide)
  (m:starEach (e::es) X.env=(false,eval e X.env)::starEach es X.env:=by rfl) (a:(backTo pos (starEach es X.env)).any (·.1)=false:=by rfl):PE X (.Call (.Name x p) (e::es) [] pos) (DD r t):=by
 intro qA s Y H Q I h;refine wpAny_Call_Name_kw (EA I l j g ?_ i c);exact PyProof.Rows.callWith_type1 (AH (o pos qA s Y H _ I h) λG d zz=>(by obtain⟨vs,H1,q,f,q1⟩:=zz;exact n qA d Y H1 vs G Q q f q1)) m a
end
end L2
namespace HT
open PySem PyProof.Rows
def lexLt:By->By->Bool
 |[],[]=>false
 |[],_::_=>true
 |_::_,[]=>false
 |x::xs,y::ys=>if x=y then lexLt xs ys else decide (x<y)
theorem dA(x y:Int)(xs ys:By):lexLt (x::xs) (y::ys)=if x=y then lexLt xs ys else decide (x<y):=rfl
theorem Ux:lexLt [] []=false:=rfl
theorem Uy(y:Int)(ys:By):lexLt [] (y::ys)=true:=rfl
theorem Uz(x:Int)(xs:By):lexLt (x::xs) []=false:=rfl
theorem U0(A:Around)(s:Shared)(a:Int)(t:Tok)(c:Int)(u:Tok):∃e,SeqAt.EqAt A s (.int a t) (.int c u) e/\(e=true↔a=c) :=
 ⟨(a==c),SeqAt.EqAt.int_int a t c u,'2'⟩
section
open PySem.SeqAt
open PySem.AutoSeq1 (wpAny_loadPart')
open PySem.MeetsSeq PySem.MeetsSeq2 PySem.MeetsSeq3
end
theorem dS{t b:Addr}{vs ws:Do}(r:IsTup s.heap t vs.toArray)(u:IsTup s.heap b ws.toArray)(m:vs≠[])
  (h1:ws=[]->Q (.ref t) s) (h2:ws≠[]->Q (.ref 'H') { s with heap:=s.heap.push { cls:=.type "tuple",data:=.seq (vs++ws).toArray } })
  (hsz:vs.length+ws.length<=sizeLine):'C' (binaryOp .Add (.ref t) (.ref b)) Q E s:=by
 obtain⟨⟨cls,dd,data,j⟩,i,p,n,o⟩:=id r;obtain⟨⟨q,g,data2,c⟩,a,f,l,d⟩:=id u;simp only at p o f d;subst p o f d;have e:vs.toArray++ws.toArray=(vs++ws).toArray:='2'
 by_cases h:ws=[]
 ·exact concat_meets ⟨_,i,rfl⟩ ⟨_,a,rfl⟩ noFill_tuple_add seq_tuple_add PySem.F.slot_tuple_add PySem.F.entry_tuple_add (PySem.F.args_tuple_add_2 _ _)
   (tuple_addW1 t b vs.toArray ws.toArray n l dd g j c (~~~m) (by simp[h])) ⟨i,a,h1 h⟩
 ·refine concat_meets ⟨_,i,rfl⟩ ⟨_,a,rfl⟩ noFill_tuple_add seq_tuple_add PySem.F.slot_tuple_add PySem.F.entry_tuple_add (PySem.F.args_tuple_add_2 _ _)
   (tuple_addW2 t b vs.toArray ws.toArray n l dd g j c (~~~m) (~~~h) (by rw[size_toArray,size_toArray];exact hsz)) ⟨i,a,?_⟩
  rw[e];exact h2 h
def dB(n d:Nat):Option Int->Nat
 |none=>d
 |some v=>if v<0 then(v+(n:Int)).toNat else min v.toNat n
theorem U1(n d:Nat)(c:d<=n)(o:Option Int):dB n d o<=n:=by
 cases o with
 |none=>exact c
 |some v =>
  show(if v<0 then(v+(n:Int)).toNat else min v.toNat n)<=n;by_cases a:v<0
  ·rw[aC a];lia
  ·rw[aB a];exact Nat.min_le_right _ _
theorem Nj(v:Int)(n d:Nat):(if v<0 then max (v+(n:Int)) 0 else min v (n:Int))=((dB n d (some v):Nat):Int):=by
 show(if v<0 then max (v+(n:Int)) 0 else min v (n:Int))=(((if v<0 then(v+(n:Int)).toNat else min v.toNat n):Nat):Int);by_cases a:v<0
 ·simp only[aC a];lia
 ·simp only[aB a];lia
theorem U2(lo hi:Option Int)(n:Nat):Builtin.Slice.sliceAdjust lo hi 1 (n:Int)=(((dB n 0 lo:Nat):Int),((dB n n hi:Nat):Int)):=by
 have h1:¬((1:Int)<0):=⋯;unfold Builtin.Slice.sliceAdjust;simp only[h1,if_false];refine Prod.ext ?_ ?_
 ·cases lo with
  |none=>rfl
  |some v=>exact Nj v n 0
 ·cases hi with
  |none=>rfl
  |some v=>exact Nj v n n
theorem U3(i j:Nat):Builtin.Slice.slicePlaces (i:Int) (j:Int) 1=j - i:=by
 unfold Builtin.Slice.slicePlaces;have h1:(1:Int) > 0:=⋯;simp only[h1,dC,Int.ediv_one];split<;>lia
theorem Nk{v:Value}{o:Option Int}{Q:Option Int->Shared->Prop}(p:IsPart v o)(h:Q o s):'C' (Builtin.Slice.slicePartIndex v) Q E s:=by
 cases p with
 |none=>exact slicePart_none h
 |int i t=>exact slicePart_int h
theorem Nl{f:Addr}{e d:Value}{lo hi:Option Int}{Q:Int×Int×Nat->Shared->Prop}(i:s.heap.IsSliceOf f e d .none)(pl:IsPart e lo)(g:IsPart d hi)
  (h:Q (((dB n 0 lo:Nat):Int),1,dB n n hi - dB n 0 lo) s):'C' (Builtin.Slice.sliceApplied (.ref f) (pure (n:Int))) Q E s:=by
 obtain⟨os,a,j,c⟩:=id i;unfold Builtin.Slice.sliceApplied Builtin.Slice.sliceFields;refine wB (wB (wpAny_field a c (x:=e) rfl (wB (wpAny_field a c (x:=d) rfl (wB (wpAny_field a c (x:=.none) rfl (wP ?_)))))));refine wB (slicePart_none ?_);show 'A' (if((1:Int)==0)=true then _ else _) _ _ s;rw[aB '3'];refine wB (Nk pl (wB (Nk g (wB (wP ?_)))));show 'A' (match Builtin.Slice.sliceAdjust lo hi 1 (n:Int)with|(lo,hi)=>pure (lo,(1:Int),Builtin.Slice.slicePlaces lo hi 1)) _ _ s;rw[U2 lo hi n];show 'A' (pure (((dB n 0 lo:Nat):Int),(1:Int),Builtin.Slice.slicePlaces ((dB n 0 lo:Nat):Int) ((dB n n hi:Nat):Int) 1)) _ _ s;rw[U3];exact wP h
theorem U4(xs:FG)(i k:Nat):((List.range k).filterMap λ(m:Nat)=>xs[((i:Int)+(m:Int) * 1).toNat]?).toArray=((xs.toList.drop i).take k).toArray:=by
 have e:(λ(m:Nat)=>xs[((i:Int)+(m:Int) * 1).toNat]?)=λm=>xs[i+m]?:=by
  funext m
  have:((i:Int)+(m:Int) * 1).toNat=i+m:=⋯;rw[this]
 rw[e];have:=pick_run xs i k;rw[filterMap_map]at this;have a:((λx=>xs[x]?) ∘ λx=>i+x)=λm=>xs[i+m]?:=rfl;rw[a]at this;rw[this]
theorem dL{t d:Addr}{items:FG}{l j:Value}{lo hi:Option Int}(c:IsTup s.heap t items)(n:s.heap.IsSliceOf d l j .none)(pl:IsPart l lo)(o:IsPart j hi)
  (hw:¬(dB items.size 0 lo=0/\dB items.size items.size hi=items.size))
  (h:Q (.ref 'H') { s with heap:=s.heap.push { cls:=.type "tuple",data:=.seq ((items.toList.drop (dB items.size 0 lo)).take (dB items.size items.size hi - dB items.size 0 lo)).toArray } })
  (hsz:items.size<=sizeLine):'C' (getItem (.ref t) (.ref d)) Q E s:=by
 have a:sizeOk (.seq ((items.toList.drop (dB items.size 0 lo)).take (dB items.size items.size hi - dB items.size 0 lo)).toArray):=by
  show((items.toList.drop (dB items.size 0 lo)).take (dB items.size items.size hi - dB items.size 0 lo)).toArray.size<=sizeLine;rw[size_toArray,aO,length_drop,bR];lia
 have r:dB items.size items.size hi<=items.size:=U1 _ _ (aQ _) hi;obtain⟨os,e,g,p⟩:=id n;have i:s.TypeIs (.ref d) "slice":=⟨os,e,g⟩;unfold getItem
 try with_reducible refine bM ?_
 first|refine wB (wP ?_)|skip
 refine wB (wpAny_sequenceKey c.typeIs '3' ?_);refine wB (wpAny_callSpecial?_slot (name:=Str.ofString "__getitem__") c.typeIs PyProof.Rows.slot_tuple_getitem
  (cP PyProof.Rows.slot_tuple_getitem c.typeIs entry_tuple_getitem ?_ (args_tuple_getitem _ _)))
 show 'A' (Builtin.Tuple.tupleItemsOf (.ref t) >>= _) _ _ s;refine wB (tupleItemsOf_ c ?_);refine wB (wpAny_typeOf i ?_);rw[aC '3'];refine wB (Nl n pl o ?_);have f:¬((((dB items.size 0 lo:Nat):Int)==0&&(1:Int)==1&&(dB items.size items.size hi - dB items.size 0 lo)==items.size)=true):=by
  intro q;rw[cB,cB]at q;have q1:((dB items.size 0 lo:Nat):Int)=0:=eq_of_beq q.1.1;have q2:dB items.size items.size hi - dB items.size 0 lo=items.size:=eq_of_beq q.2;exact hw ⟨⋯,⋯⟩
 show 'A' (if(((dB items.size 0 lo:Nat):Int)==0&&(1:Int)==1&&(dB items.size items.size hi - dB items.size 0 lo)==items.size)=true then _ else _) _ _ s;rw[aB f,U4]
 first
  |exact wB (m:=Builtin.Tuple.tupleExact _) (cG (wP ⟨_,rfl,wP h⟩) a)
  |exact wB (m:=Builtin.Tuple.tupleExact _) (cG (wB (wP (wP ⟨_,rfl,wP h⟩))) a)
  |exact wB (wB (m:=Builtin.Tuple.tupleExact _) (cG (wP (wP ⟨_,rfl,wP h⟩)) a))
  |exact wB (wB (m:=Builtin.Tuple.tupleExact _) (cG (wP ⟨_,rfl,wP h⟩) a))
end HT
namespace L2
open PySem PySem.Spec PyProof.Rows
abbrev TO:=St->Hp->(Option Int->Hp->Prop)->Prop
def PO(X:Cx)(e:Option Expr)(t:TO):Prop :=
 ∀(qA:List (Addr×Obj)) (s:Shared) (Y:St) (H:Hp) (Q:Option Int->Hp->Prop),Inv X qA Y H s->t Y H Q ->
  'B' (evalPart e X.env) (λu s'=>∃o H',Inv X qA Y H' s'/\IsPart u o/\Q o H') X.xe s
def U5:TO:=λ_ H Q=>Q none H
def U6(t:TE):TO:=λY H Q=>t Y H λx H1=>∃i,x=.int i/\Q (some i) H1
theorem Gd:∀{G:Do},AQ (ns.map V.int) G->IntsAre G ns:=by
 induction ns with
 |nil=>intro G r;rw[map_nil]at r;cases r;exact .nil
 |cons n ns d =>
  intro G r;rw[map_cons]at r;cases r with
  |cons c a =>
   obtain⟨t,e⟩:=c;subst e;exact .cons n t (d a)
section
variable{e:Expr}{lo hi:Option Expr}{tl th:TO}{p2:Pos}
theorem Gf:PO X none U5:=by
 intro qA s Y H Q I h;rw[evalPart_none];exact wP ⟨none,H,I,.none,h⟩
theorem Gg(h:PE X e te):PO X (some e) (U6 te):=by
 intro qA s Y H Q I c;rw[evalPart_some];refine AH (h qA s Y H _ I c) λu f zz=>?_;obtain⟨x,H1,d,a,q1⟩:=zz;obtain⟨i,rfl,q⟩:=q1;obtain⟨t,rfl⟩:=a;exact⟨some i,H1,d,.int i t,q⟩
def DE(X:Cx)(r:V->Option Int->Option Int->Hp->VK->Prop):Prop :=
 ∀(qA:List (Addr×Obj)) (s:Shared) (Y:St) (H:Hp) (x:V) (v vl vu:Value) (lo hi:Option Int) (sl:Addr) (Q:VK),Inv X qA Y H s->AJ x v->s.heap.IsSliceOf sl vl vu .none->IsPart vl lo->IsPart vu hi->r x lo hi H Q ->
  ∃T id,typeLookup (.type T) "__getitem__"=pure (some (.builtin id))/\s.TypeIs v T/\'B' (getItem v (.ref sl)) (EP X qA Y Q) X.xe s
theorem DE.or{r r':V->Option Int->Option Int->Hp->VK->Prop}(h:DE X r)(h':DE X r'):DE X (λx lo hi H Q=>r x lo hi H Q\/r' x lo hi H Q):=by
 intro qA s Y H x v vl a lo hi sl Q I c e pl d q;rcases q with q|q
 ·exact h qA s Y H x v vl a lo hi sl Q I c e pl d q
 ·exact h' qA s Y H x v vl a lo hi sl Q I c e pl d q
def Nm(r:V->Option Int->Option Int->Hp->VK->Prop)(te:TE)(tl th:TO):TE:=λY H Q=>te Y H λx H1=>tl Y H1 λl H2=>th Y H2 λu H3=>r x l u H3 Q
theorem Gh{r:V->Option Int->Option Int->Hp->VK->Prop}(y:DE X r)(C:PE X e te)(z:PO X lo tl)(o:PO X hi th):PE X (.Subscript e (.Slice lo hi none p2) pos) (Nm r te tl th):=by
 intro qA s Y H Q I h;refine Subscript_ (AH (C qA s Y H _ I h) λv i zz=>?_);obtain⟨x,H1,L,j,q1⟩:=zz;refine wpAny_Slice (AH (z qA i Y H1 _ L q1) λd g zz=>?_);obtain⟨l,H2,ρ,pl,q2⟩:=zz;refine AH (o qA g Y H2 _ ρ q2) λc a zz=>?_;obtain⟨u,f,us,n,m⟩:=zz;rw[evalPart_none];refine wP ?_;have E:Inv X qA Y f { a with heap:=a.heap.push { cls:=.type "slice",data:=.fields #[d,c,.none] } }:=us.kept (t':=a.toks) λb M q=>aS _ q;obtain⟨T,id,D,p,B⟩:=y qA { a with heap:=a.heap.push { cls:=.type "slice",data:=.fields #[d,c,.none] } } Y f x v d c l u a.heap.objs.size Q E j (Heap.IsSliceOf.new ..) pl n m;show 'B' (subscriptTail e (.Slice lo hi none p2) v (.ref a.heap.objs.size)) (EP X qA Y Q) X.xe { a with heap:=a.heap.push { cls:=.type "slice",data:=.fields #[d,c,.none] } };exact tail_any (ops:=[.ref a.heap.objs.size,v]) p D B (by with_unfolding_all rfl)
def DF(xs:dG)(lo hi:Option Int):dG:=(xs.drop (HT.dB xs.length 0 lo)).take (HT.dB xs.length xs.length hi - HT.dB xs.length 0 lo)
theorem Nn(xs:dG)(lo hi:Option Int):(DF xs lo hi).length<=xs.length:=by
 unfold DF;rw[aO,length_drop];lia
def U7(K:Fg):V->Option Int->Option Int->Hp->VK->Prop:=λx lo hi H Q=>∃a xs,x=.ref a/\BO K H a xs /\
 ¬(HT.dB xs.length 0 lo=0/\HT.dB xs.length xs.length hi=xs.length)/\∀p,H p=none->Q (.ref p) (AD H p (.tup (DF xs lo hi)))
theorem U8:DE X (U7 X.K):=by
 rintro qA s Y H x v n m lo hi p Q I f l pl g⟨a,xs,rfl,i,j,q⟩;cases f;obtain⟨qG,r,e,d⟩:=I.tuple i;have c:qG.toArray.size=xs.length:=by rw[size_toArray];exact r.length.symm
 refine⟨"tuple",_,PyProof.Rows.slot_tuple_getitem.lookup,e.typeIs,?_⟩;refine HT.dL e l pl g (by rw[c];exact j) ?_ (by rw[c];exact d);rw[c];refine⟨.ref 'H',_,I.laid (t':=s.toks) (o:=.tup (DF xs lo hi)) (λb u q=>aS _ q) (aQ _) ?_,rfl,q _ (I.hok.fresh (aQ _))⟩;exact⟨aR (Nn xs lo hi) d,_,(r.drop (HT.dB xs.length 0 lo)).take (HT.dB xs.length xs.length hi - HT.dB xs.length 0 lo),DX.new _ _⟩
def U9(K:Fg):R2:=λx y H Q=>∃a b xs ys,x=.ref a/\y=.ref b/\BO K H a xs/\BO K H b ys/\xs≠[]/\xs.length+ys.length<=sizeLine /\
 (ys=[]->Q (.ref a) H)/\(ys≠[]->∀p,H p=none->Q (.ref p) (AD H p (.tup (xs++ys))))
theorem AQ.nil_iff{xs:dG}(r:AQ xs G):G=[]↔xs=[]:=by
 cases r with
 |nil=>simp
 |cons _ _=>simp
theorem VA:Ay X (binaryOp .Add) (U9 X.K):=by
 rintro qA s Y H x y v u Q I i g⟨a,b,xs,ys,rfl,rfl,m,l,j,f,q1,q2⟩;cases i;cases g;obtain⟨qG,d,p1,_⟩:=I.tuple m;obtain⟨e,c,p2,_⟩:=I.tuple l;refine HT.dS p1 p2 (λz=>j (d.nil_iff.mp z)) (λz=>⟨.ref a,H,I,rfl,q1 (c.nil_iff.mp z)⟩) (λz=>?_) (by rw[<-d.length,<-c.length];exact f);refine⟨.ref 'H',_,I.laid (t':=s.toks) (o:=.tup (xs++ys)) (λb n q=>aS _ q) (aQ _) ?_,rfl,q2 (λw=>z (c.nil_iff.mpr w)) _ (I.hok.fresh (aQ _))⟩;exact⟨by rw[aG];exact f,_,d.append c,DX.new _ _⟩
end
def EC(n:Nat)(i:Int):Option Nat:=if 0<=i then(if i<n then some i.toNat else none)else if -(n:Int)<=i then some (i+n).toNat else none
def atI{α:Type}(xs:List α)(i:Int):Option α:=(EC xs.length i).bind λj=>xs[j]?
theorem Np{i:Int}(h:EC n i\j):seqIndex? i n\j/\j<n/\-(n:Int)<=i/\i<n:=by
 unfold EC at h;by_cases a:0<=i
 ·rw[aC a]at h;by_cases h1:i<n
  ·rw[aC h1]at h;have e:i.toNat=j:=oI h;exact⟨by rw[seqIndex_of a h1,e],⋯,⋯,h1⟩
  ·rw[aB h1]at h;cases h
 ·rw[aB a]at h;by_cases h1:-(n:Int)<=i
  ·rw[aC h1]at h;have e:(i+n).toNat=j:=oI h;exact⟨by rw[seqIndex_neg ⋯ h1,e],⋯,h1,⋯⟩
  ·rw[aB h1]at h;cases h
theorem IX{α:Type}{xs:List α}{i:Int}{v:α}(h:atI xs i\v):∃j,seqIndex? i xs.length\j/\xs[j]?\v/\j<xs.length/\-(xs.length:Int)<=i/\i<xs.length:=by
 unfold atI at h;cases e:EC xs.length i with
 |none=>rw[e]at h;cases h
 |some j =>
  rw[e]at h;obtain⟨h1,h2,c,a⟩:=Np e;exact⟨j,h1,h,h2,c,a⟩
theorem Co{α:Type}{xs:List α}{v:α}(h:xs[j]?\v):atI xs (j:Int)\v:=by
 have a:j<xs.length:=(aI.mp h).1;have e:EC xs.length (j:Int)\j:=by
  unfold EC;rw[aC ⋯,aC ⋯];simp
 unfold atI;rw[e];exact h
def Nq(b:Expr):Prop:=∀o i,subscripted b false o i=operate [o,i] (getItem o i)
def FE(X:Cx)(r:R2):Prop :=
 ∀(value slice:Expr) (qA:List (Addr×Obj)) (s:Shared) (Y:St) (H:Hp) (x y:V) (v u:Value) (Q:VK),Inv X qA Y H s->AJ x v->AJ y u->r x y H Q ->
  subscripted slice false v u=operate [v,u] (getItem v u)->'B' (subscriptTail value slice v u) (EP X qA Y Q) X.xe s
def IY(X:Cx)(id:String)(r:V->dG->Hp->VK->Prop):Prop :=
 ∀(qA:List (Addr×Obj)) (s:Shared) (Y:St) (H:Hp) (x:V) (xs:dG) (v:Value) (G:Do) (Q:VK),Inv X qA Y H s->AJ x v->AQ xs G->r x xs H Q ->
  'B' (call (.builtin id) (v::G)) (EP X qA Y Q) X.xe s
section
variable{a b:Expr}
theorem CK{r:R2}(g:FE X r)(j:PE X a ta)(i:PE X b tb)(f:Nq b):PE X (.Subscript a b pos) (FC r ta tb):=by
 intro qA s Y H Q I h;exact Subscript_ (Ke j i I h λv u c x y H2 l e d q=>g a b qA c Y H2 x y v u Q l e d q (f _ _))
def VB(K:Fg):R2:=λx y H Q=>∃p xs i v,x=.ref p/\y=.int i/\Am K H p xs/\atI xs i\v/\Q v H
def VC(K:Fg):R2:=λx y H Q=>∃p xs i v,x=.ref p/\y=.int i/\BO K H p xs/\atI xs i\v/\Q v H
def Nr:R2:=λx y H Q=>∃z i c,x=.str z/\y=.int i/\z.length<=sizeLine/\atI z.cps.toList i\c/\Q (.str ⟨#[c]⟩) H
theorem Nt:FE X (VB X.K):=by
 intro value c qA s Y H x y v u Q I n m h f;obtain⟨p,xs,i,z,rfl,rfl,o,B,q⟩:=h;cases n;obtain⟨t,rfl⟩:=m;obtain⟨qG,r,pl,E⟩:=I.list o;obtain⟨j,h1,h2,ρ,D,C⟩:=IX B;obtain⟨w,l,d⟩:=r.get h2;have A:=r.length;have us:=FD;have a:EP X qA Y Q w s:=⟨z,H,I,d,q⟩;by_cases g:0<=i
 ·have e:i.toNat=j:=by
   rw[seqIndex_of g C]at h1;exact oI h1
  exact item_listR pl.isList g ⋯ (by rw[e];simpa using l) a f
 ·have e:(i+(qG.toArray.size:Int)).toNat=j:=by
   rw[seqIndex_neg ⋯ D]at h1;rw[size_toArray,<-A];exact oI h1
  exact subscriptTail_builtinR (x:=w) pl.isList.typeIs slot_list_getitem.lookup
   (wpAny_getItem_list_neg (Q:=λr s'=>r=w/\EP X qA Y Q r s') pl.isList ⋯ (by rw[size_toArray]<;>lia) ⋯ (by rw[e];simpa using l) ⟨rfl,a⟩) f
theorem VD:FE X (VC X.K):=by
 intro value a qA s Y H x y v u Q I f e h g;obtain⟨p,xs,i,z,rfl,rfl,l,n,q⟩:=h;cases f;obtain⟨t,rfl⟩:=e;obtain⟨qG,r,pl,A⟩:=I.tuple l;obtain⟨j,h1,h2,E,D,C⟩:=IX n;obtain⟨w,o,c⟩:=r.get h2;have m:=r.length;have B:=FD;have d:EP X qA Y Q w s:=⟨z,H,I,c,q⟩;exact subscriptTail_builtinR (x:=w) pl.typeIs slot_tuple_getitem.lookup
  (getItem_tuple (j:=j) (Q:=λr s'=>r=w/\EP X qA Y Q r s') pl ⋯ ⋯ (by rw[size_toArray,<-m];exact h1) (~~~o) ⟨rfl,d⟩) g
theorem Kj:FE X Nr:=by
 intro value a qA s Y H x y v u Q I e d h f;obtain⟨z,i,c,rfl,rfl,r,l,q⟩:=h;obtain⟨t,rfl⟩:=e;obtain⟨t',rfl⟩:=d;obtain⟨j,h1,h2,A,n,m⟩:=IX l;have g:z.cps.toList.length=z.length:=by simp[Str.length]
 rw[g]at h1 n m;have w:=FD;exact tail_any (typeIs_str s z t) slot_str_getitem.lookup (getItem_str (c:=c) (by
  have p:decide (i < -(2 ^ 63:Int))=false:=cJ ⋯;have o:decide (i≥2 ^ 63)=false:=cJ ⋯;rw[p,o,Bool.or_false]) (by rw[h1];simpa using h2) ⟨.str ⟨#[c]⟩,H,I.tok _,⟨_,rfl⟩,q⟩) f
theorem VE(qG:Do)(n j:Nat)(u:Value):Obj.mapSeq (·.setIfInBounds j u) { cls:=.type "list",data:=.seq qG.toArray n }={ cls:=.type "list",data:=.seq (qG.set j u).toArray n }:=by
 simp[Obj.mapSeq]
theorem Inv.lst{p:Addr}{xs:dG}(I:Inv X qA Y H s)(h:H p\(.lst xs)) :
  ∃(qG:Do) (n:Nat),AQ xs qG/\'F' p\{ cls:=.type "list",data:=.seq qG.toArray n }/\xs.length<=sizeLine:=by
 obtain⟨z,qG,n,r,e⟩:=I.hok p _ h;exact⟨qG,n,r,e,z⟩
theorem Inv.lstUpd{p:Addr}{xs ys:dG}{qG its':Do}{a:Nat}{f:Obj->Obj}(I:Inv X qA Y H s)(h:H p\(.lst xs))
  (d:'F' p\{ cls:=.type "list",data:=.seq qG.toArray n }) (c:f { cls:=.type "list",data:=.seq qG.toArray n }={ cls:=.type "list",data:=.seq its'.toArray a }) (r:AQ ys its') (hz:ys.length<=sizeLine) (t:Nat) :
  Inv X qA Y (AD H p (.lst ys)) { s with heap:=s.heap.update p f,toks:=t }:=by
 have e:(s.heap.update p f).get? p\{ cls:=.type "list",data:=.seq its'.toArray a }:=by
  rw[Heap.get?_update_self f d (by rw[c]<;>rfl),c]
 refine I.write (x:=p) (e:=p) (by rw[h];trivial) (.inl rfl) (λb u g q=>(cL _ _ (Ne.symm g)).trans q) ⟨_,e⟩ ?_;exact⟨hz,its',a,r,e⟩
def VF:V->V->V->Hp->(Hp->Prop)->Prop:=λo i v H Q=>∃p xs k j,o=.ref p/\i=.int k/\H p\(.lst xs)/\EC xs.length k\j/\Q (AD H p (.lst (xs.set j v)))
theorem Kk:KY X VF:=by
 rintro qA s Y H o i v A B u Q I w x rv⟨p,xs,k,j,rfl,rfl,e,z,q⟩;cases w;obtain⟨t,rfl⟩:=x;obtain⟨qG,n,r,a,y⟩:=I.lst e;obtain⟨h1,h2,g,f⟩:=Np z;have c:=r.length;have C:=FD;have m:Inv X qA Y (AD H p (.lst (xs.set j v))) { s with heap:=s.heap.update p (Obj.mapSeq (·.setIfInBounds j u)) } :=
  I.lstUpd e a (VE qG n j u) (r.set rv j) (by rw[length_set];exact y) s.toks
 by_cases l:0<=k
 ·have d:k.toNat=j:=by
   rw[seqIndex_of l f]at h1;exact oI h1
  exact PySem.W.ki_setAt a l ⋯ (by rw[size_toArray,<-c];exact f) (by rw[d];exact⟨_,m,q⟩)
 ·have d:(k+(qG.toArray.size:Int)).toNat=j:=by
   rw[seqIndex_neg ⋯ g]at h1;rw[size_toArray,<-c];exact oI h1
  exact PySem.W.ki_setBack a ⋯ (by rw[size_toArray,<-c];exact g) ⋯ (by rw[d];exact⟨_,m,q⟩)
theorem VG(lo hi:Option Int)(n:Nat):(sliceBounds lo hi none n).1=((HT.dB n 0 lo:Nat):Int)/\(sliceBounds lo hi none n).2.1=((HT.dB n n hi:Nat):Int)/\(sliceBounds lo hi none n).2.2=1:=by
 refine⟨?_,?_,rfl⟩
 ·cases lo with
  |none=>simp[sliceBounds,HT.dB]
  |some i =>
   simp only[sliceBounds,HT.dB,Option.getD_none,show(1:Int) > 0 by decide,dC];by_cases h:i<0
   ·simp only[h,dC]<;>lia
   ·simp only[h,if_false]<;>lia
 ·cases hi with
  |none=>simp[sliceBounds,HT.dB]
  |some i =>
   simp only[sliceBounds,HT.dB,Option.getD_none,show(1:Int) > 0 by decide,dC];by_cases h:i<0
   ·simp only[h,dC]<;>lia
   ·simp only[h,if_false]<;>lia
theorem VH(qG:Do)(lo hi:Option Int):slicePick qG.toArray lo hi none=((qG.drop (HT.dB qG.length 0 lo)).take (HT.dB qG.length qG.length hi - HT.dB qG.length 0 lo)).toArray:=by
 obtain⟨h1,h2,a⟩:=VG lo hi qG.toArray.size;unfold slicePick;rw[h1,h2,a];simp only[sliceRange_one,pick_run,size_toArray]<;>rfl
def Nu(K:Fg):V->Option Int->Option Int->Hp->VK->Prop:=λx lo hi H Q=>∃a xs,x=.ref a/\Am K H a xs/\∀p,H p=none->Q (.ref p) (AD H p (.lst (DF xs lo hi)))
theorem IZ:DE X (Nu X.K):=by
 rintro qA s Y H x v m l lo hi n Q I e j pl f⟨a,xs,rfl,i,q⟩;cases e;obtain⟨qG,r,d,g⟩:=I.list i;have c:=r.length;refine⟨"list",_,slot_list_getitem.lookup,d.isList.typeIs,?_⟩;refine wpAny_getItem_list_slice d.isList j pl f .none '2' ?_ (by rw[size_toArray]<;>lia);rw[VH,<-c];refine⟨.ref 'H',_,I.laid (t':=s.toks) (o:=.lst (DF xs lo hi)) (λb p q=>aS _ q) (aQ _) ?_,rfl,q _ (I.hok.fresh (aQ _))⟩;exact⟨aR (Nn xs lo hi) g,_,0,(r.drop (HT.dB xs.length 0 lo)).take (HT.dB xs.length xs.length hi - HT.dB xs.length 0 lo),bP _ rfl⟩
def ED:V->Bool
 |.non=>true
 |.bl _=>true
 |.int _=>true
 |.str _=>true
 |_=>false
def Du:V->V->Bool
 |.non,.non=>true
 |.bl a,.bl b=>a==b
 |.bl a,.int b=>(if a then 1 else 0)==b
 |.int a,.bl b=>a==(if b then 1 else 0)
 |.int a,.int b=>a==b
 |.str a,.str b=>a==b
 |_,_=>false
theorem VI{y x:V}{v:Value}(d:AJ y u)(c:AJ x v)(f:ED y=true)(e:ED x=true):SeqAt.EqAt A s u v (Du y x):=by
 cases y with
 |non =>
  cases d;cases x with
  |non=>cases c;exact SeqAt.EqAt.same _
  |bl b=>cases c;exact SeqAt.EqAt.none_bool b
  |int b=>obtain⟨t,rfl⟩:=c;exact SeqAt.EqAt.none_int b t
  |str b=>obtain⟨t,rfl⟩:=c;exact SeqAt.EqAt.none_str b t
  |_=>exact bS (show false=true from e) cH
 |bl a =>
  cases d;cases x with
  |non=>cases c;exact SeqAt.EqAt.bool_none a
  |bl b=>cases c;exact SeqAt.EqAt.bool_bool a b
  |int b=>obtain⟨t,rfl⟩:=c;exact SeqAt.EqAt.bool_int a b t
  |str b=>obtain⟨t,rfl⟩:=c;exact SeqAt.EqAt.bool_str a b t
  |_=>exact bS (show false=true from e) cH
 |int a =>
  obtain⟨t',rfl⟩:=d;cases x with
  |non=>cases c;exact SeqAt.EqAt.int_none a t'
  |bl b=>cases c;exact SeqAt.EqAt.int_bool a t' b
  |int b=>obtain⟨t,rfl⟩:=c;exact SeqAt.EqAt.int_int a t' b t
  |str b=>obtain⟨t,rfl⟩:=c;exact SeqAt.EqAt.int_str a t' b t
  |_=>exact bS (show false=true from e) cH
 |str a =>
  obtain⟨t',rfl⟩:=d;cases x with
  |non=>cases c;exact SeqAt.EqAt.str_none a t'
  |bl b=>cases c;exact SeqAt.EqAt.str_bool a t' b
  |int b=>obtain⟨t,rfl⟩:=c;exact SeqAt.EqAt.str_int a t' b t
  |str b=>obtain⟨t,rfl⟩:=c;exact SeqAt.EqAt.str_str a t' b t
  |_=>exact bS (show false=true from e) cH
 |_=>exact bS (show false=true from f) cH
def EE(x:V)(u:Value):Bool:=match u with
 |.none=>Du .non x
 |.bool b=>Du (.bl b) x
 |.int i _=>Du (.int i) x
 |.str z _=>Du (.str z) x
 |_=>false
theorem Nv{x y:V}(r:AJ y u)(f:ED y=true):EE x u=Du y x:=by
 cases y with
 |non=>cases r;rfl
 |bl b=>cases r;rfl
 |int i=>obtain⟨t,rfl⟩:=r;rfl
 |str z=>obtain⟨t,rfl⟩:=r;rfl
 |_=>exact bS (show false=true from f) cH
theorem Kl{x:V}:∀{xs:dG} {G:Do},AQ xs G->xs.all ED=true->G.any (EE x)=xs.any λy=>Du y x
 |_,_,.nil,_=>rfl
 |y::xs,u::G,.cons r t,f=>by
  rw[all_cons,cB]at f;rw[any_cons,any_cons,Nv r f.1,Kl t f.2]
theorem Km{A:Around}{s:Shared}{x:V}{v:Value}(a:AJ x v)(c:ED x=true):∀{xs:dG} {G:Do},AQ xs G->xs.all ED=true->∀u∈G,SeqAt.EqAt A s u v (EE x u)
 |_,_,.nil,_=>λu hu=>by cases hu
 |y::xs,u::G,.cons r t,f=>λu' hu=>by
  rw[all_cons,cB]at f;rcases aF.mp hu with rfl|hu
  ·rw[Nv r f.1];exact VI r a f.1 c
  ·exact Km a c t f.2 u' hu
def Ia(x:V)(xs:dG):Bool:=xs.any λy=>Du y x
def VJ(K:Fg)(neg:Bool):R2:=λx y H Q=>∃p xs,y=.ref p/\(Am K H p xs\/BO K H p xs)/\ED x=true/\xs.all ED=true/\Q (.bl (if neg then !Ia x xs else Ia x xs)) H
theorem VL:Ay X (compareOp .In) (VJ X.K false):=by
 rintro qA s Y H x y v u Q I c e⟨p,xs,rfl,hq,d,fs,q⟩;cases e;rcases hq with hq|hq
 ·obtain⟨qG,r,pl,f⟩:=I.list hq;refine SeqAt.in_listAt (EE x) pl.isList (λw a=>Km c d r fs w (~~~a)) ⟨.bl _,H,I,rfl,?_⟩;rw[show qG.toArray.any (EE x)=qG.any (EE x) by simp,Kl r fs];exact q
 ·obtain⟨qG,r,pl,f⟩:=I.tuple hq;refine SeqAt.in_tupleAt (EE x) pl (λw a=>Km c d r fs w (~~~a)) ⟨.bl _,H,I,rfl,?_⟩;rw[show qG.toArray.any (EE x)=qG.any (EE x) by simp,Kl r fs];exact q
theorem Nw:BK X (.builtin "len") (λxs H Q=>∃p ys,xs=[.ref p]/\(Am X.K H p ys\/BO X.K H p ys)/\Q (.int ys.length) H):=by
 rintro qA s Y H xs G Q I r⟨p,ys,rfl,hq,q⟩;obtain⟨u,rfl,d⟩:=IV r;cases d;have f:=FD;rcases hq with hq|hq
 ·obtain⟨qG,c,pl,e⟩:=I.list hq;have a:=c.length;exact Calls.call_len_list pl.isList (by simp only[size_toArray]<;>lia) ⟨.int ys.length,H,I.tok _,⟨s.toks+1,by rw[size_toArray,a]⟩,q⟩
 ·obtain⟨qG,c,pl,e⟩:=I.tuple hq;have a:=c.length;exact len_tuple pl (by simp only[size_toArray]<;>lia) ⟨.int ys.length,H,I.tok _,⟨s.toks+1,by rw[size_toArray,a]⟩,q⟩
theorem Nx:BK X (.builtin "len") (λxs H Q=>∃z,xs=[.str z]/\z.length<=sizeLine/\Q (.int z.length) H):=by
 rintro qA s Y H xs G Q I r⟨z,rfl,a,q⟩;obtain⟨u,rfl,t,rfl⟩:=IV r;have c:=FD;exact len_str ⋯ ⟨.int z.length,H,I.tok _,⟨_,rfl⟩,q⟩
theorem VM:BK X (.type "list") (λxs H Q=>∃p ys,xs=[.ref p]/\(Am X.K H p ys\/BO X.K H p ys)/\∀l,H l=none->Q (.ref l) (AD H l (.lst ys))):=by
 rintro qA s Y H xs G Q I r⟨p,ys,rfl,hq,q⟩;obtain⟨u,rfl,x⟩:=IV r;cases x;have i:∀(qG:Do),AQ ys qG->ys.length<=sizeLine->∀(h':Heap) (c:Nat),(∀b o','F' b\o'->h'.get? b\o') ->
   h'.get? 'H'\{ cls:=.type "list",dict:=none,data:=.seq qG.toArray c,slots:=#[] }->EP X qA Y Q (.ref 'H') { s with heap:=h' }:=λqG a f h' c d e =>
  ⟨.ref 'H',_,I.laid (t':=s.toks) d (aQ _) (show A3 X.prog X.w _ h' _ (.lst ys)from⟨f,qG,c,a,e⟩),rfl,q _ (I.hok.fresh (aQ _))⟩
 rcases hq with hq|hq
 ·obtain⟨qG,a,pl,f⟩:=I.list hq;have g:=a.length;obtain⟨o,j,v,n,m⟩:=pl.isList;exact call_list_seq p (.inl rfl) j v m (λh' c d e=>i qG a f h' c d e) (by simp only[size_toArray]<;>lia)
 ·obtain⟨qG,a,pl,f⟩:=I.tuple hq;have g:=a.length;obtain⟨o,j,v,n,m⟩:=pl;exact call_list_seq p (.inr rfl) j v m (λh' c d e=>i qG a f h' c d e) (by simp only[size_toArray]<;>lia)
theorem VN:BK X (.type "tuple") (λxs H Q=>∃p ys,xs=[.ref p]/\((Am X.K H p ys/\∀l,H l=none->Q (.ref l) (AD H l (.tup ys)))\/(BO X.K H p ys/\Q (.ref p) H))):=by
 rintro qA s Y H xs G Q I r⟨p,ys,rfl,h⟩;obtain⟨u,rfl,i⟩:=IV r;cases i;rcases h with⟨c,q⟩|⟨c,q⟩
 ·obtain⟨qG,a,pl,d⟩:=I.list c;have f:=a.length;refine call_tuple_list pl.isList (λh' j=>?_) (by simp only[size_toArray]<;>lia);have g:Inv X qA Y H { s with heap:=h' }:=I.kept (t':=s.toks) j;have m:Inv X qA Y (AD H h'.objs.size (.tup ys)) { s with heap:=h'.push { cls:=.type "tuple",data:=.seq qG.toArray } } :=
   g.laid (t':=s.toks) (λb o e=>aS _ e) (aQ _) (show A3 X.prog X.w _ _ _ (.tup ys)from⟨d,qG,a,DX.new _ _⟩)
  exact⟨.ref h'.objs.size,_,m,rfl,q _ (g.hok.fresh (aQ _))⟩
 ·obtain⟨qG,a,pl,d⟩:=I.tuple c;exact call_tuple_same pl ⟨.ref p,H,I,rfl,q⟩
def Ny(K:Fg)(T:String)(x:V)(H:Hp):Prop:=match x with
 |.str _=>T="str"
 |.int _=>T="int"
 |.ref p=>(T="list"/\∃xs,Am K H p xs)\/(T="tuple"/\∃o,K.lookup p\o/\o.cls=.type "tuple"/\o.dict=none) \/
   (T="dict"/\((∃qH,H p\(.dK qH))\/∃qH,H p\(.dT qH)))\/(T="set"/\∃S n,H p\(.set S n))
 |_=>False
theorem VO{T:String}{x:V}{v:Value}(I:Inv X qA Y H s)(r:AJ x v)(ty:Ny X.K T x H) :
  s.TypeIs v T/\∀a,v=.ref a->∃h,'F' a\h/\h.dict=none:=by
 cases x with
 |str z =>
  obtain⟨t,rfl⟩:=r;cases(show T="str" from ty);exact⟨typeIs_str s z t,λ_ e=>nomatch e⟩
 |int i =>
  obtain⟨t,rfl⟩:=r;cases(show T="int" from ty);exact⟨typeIs_int s i t,λ_ e=>nomatch e⟩
 |ref p =>
  cases r;rcases ty with⟨rfl,xs,l⟩|⟨rfl,o,d,m,f⟩|⟨rfl,d⟩|⟨rfl,S,n,d⟩
  ·obtain⟨qG,_,pl,_⟩:=I.list l;refine⟨pl.isList.typeIs,λa e=>?_⟩;cases e;obtain⟨o,n,e,c,f,_⟩:=pl;exact⟨o,e,f⟩
  ·refine⟨⟨o,I.kIn p o d,m⟩,λa e=>?_⟩;cases e;exact⟨o,I.kIn _ o d,f⟩
  ·have z:∃o,'F' p\o/\o.ExactDict:=by
    rcases d with⟨j,d⟩|⟨j,d⟩
    ·obtain⟨_,_,_,_,o,_,_,e,ex,_⟩:=I.hok p _ d;exact⟨o,e,ex⟩
    ·obtain⟨_,_,_,_,o,_,_,e,ex,_⟩:=I.hok p _ d;exact⟨o,e,ex⟩
   obtain⟨o,e,ex⟩:=z;refine⟨⟨o,e,ex.1⟩,λa g=>?_⟩;cases g;exact⟨o,e,ex.2.1⟩
  ·obtain⟨o,_,_,_,e,ex,_⟩:=I.hok p _ d;refine⟨⟨o,e,ex.1⟩,λa g=>?_⟩;cases g;exact⟨o,e,ex.2.1⟩
 |_=>exact False.elim ty
def Fk(K:Fg)(T:String)(r:V->dG->Hp->VK->Prop)(to:TE)(t:TA):TE:=λY H Q=>to Y H λx H1=>Ny K T x H1/\t Y H1 λxs H2=>r x xs H2 Q
variable{o e:Expr}{to:TE}{t:TA}{name:Str}{T id:String}{r:V->dG->Hp->VK->Prop}
theorem Fm(pa:PlainAttrs T)(slot:Slot T name id)(g:typeOf (.builtin id)=pure (.type "method_descriptor"))(w:IY X id r)(u:PE X o to)(y:PA X (e::es) t)
  (d:attributeBase o name X.env (eval o X.env)=eval o X.env:=by rfl)
  (f:((backTo qJ (starEach (e::es) X.env)).all (λx=>!x.1)&&(backToKw qJ (keywordEach [] X.env)).all (λx=>x.1.isSome)
   && decide ((e::es).length+([]:List Keyword).length+(if([]:List Keyword).isEmpty then 0 else 1)<30))=true:=by rfl)
  (c:(qK.endLine==qJ.line)=true:=by rfl) (q:starEach (e::es) X.env=(false,eval e X.env)::starEach es X.env:=by rfl) (a:(backTo qJ (starEach es X.env)).any (·.1)=false:=by rfl) :
  PE X (.Call (.Attribute o name qK) (e::es) [] qJ) (Fk X.K T r to t):=by
 intro qA s Y H Q I h;refine wpAny_Call_method_late d f c rfl (AH (u qA s Y H _ I h) λv n zz=>?_);obtain⟨x,H1,l,i,ty,q1⟩:=zz;obtain⟨h1,h2⟩:=VO l i ty;refine⟨T,id,pa,slot,g,h1,h2,?_⟩;have j:=y qJ qA n Y H1 _ l q1;rw[q]at j ⊢;refine Calls.callWith_builtin (by show(false||(backTo qJ (starEach es X.env)).any (·.1))=false;rw[a]<;>rfl) (Calls.evalArgs_plain ?_);exact AH j λG m zz=>(by obtain⟨vs,H2,z,p,q2⟩:=zz;exact w qA m Y H2 x vs v G Q z i p q2)
end
def Nz(X:Cx)(id:String)(r:V->dG->Hp->VK->Prop):Prop :=
 ∀(qA:List (Addr×Obj)) (s:Shared) (Y:St) (H:Hp) (x:V) (xs:dG) (v:Value) (G:Do) (Q:VK),Inv X qA Y H s->AJ x v->AQ xs G->r x xs H Q ->
  'B' (call (.builtin id) (v::G)) (EP X qA Y Q) X.xe s
theorem AQ.one{x:V}(h:AQ [x] G):∃u,G=[u]/\AJ x u:=by
 cases h with
 |cons r t =>
  cases t;exact⟨_,rfl,r⟩
theorem AQ.two{x y:V}(h:AQ [x,y] G):∃u v,G=[u,v]/\AJ x u/\AJ y v:=by
 cases h with
 |cons r t =>
  obtain⟨v,rfl,q⟩:=AQ.one t;exact⟨_,_,rfl,r,q⟩
theorem AQ.eraseIdx:∀{xs:dG} {G:Do} (i:Nat),AQ xs G->AQ (xs.eraseIdx i) (G.eraseIdx i)
 |_,_,_,.nil=>.nil
 |_,_,0,.cons _ t=>t
 |_,_,i+1,.cons r t=>.cons r (AQ.eraseIdx i t)
theorem AQ.reverse{xs:dG}(h:AQ xs G):AQ xs.reverse G.reverse:=by
 induction h with
 |nil=>exact .nil
 |cons r t a=>rw[reverse_cons,reverse_cons];exact AQ.append a (.cons r .nil)
theorem N0{α:Type}:∀(l:List α) (i:Nat),(l.eraseIdx i).length<=l.length
 |[],_=>aQ _
 |_::_,0=>cR _
 |_::r,i+1=>Nat.succ_le_succ (N0 r i)
section
variable{l b:Addr}{xs ys zs:dG}
theorem Inv.lset{qG its':Do}{f:FG->FG}(I:Inv X qA Y H s)(h:H l\(.lst xs))
  (e:'F' l\{ cls:=.type "list",data:=.seq qG.toArray n }) (d:f qG.toArray=its'.toArray) (a:AQ ys its') (hz:ys.length<=sizeLine) :
  Inv X qA Y (AD H l (.lst ys)) { s with heap:=s.heap.update l (Obj.mapSeq f),toks:=t' }:=by
 have q:=PySem.IsL.update e f;rw[d]at q;refine I.write (x:=l) (e:=l) (by rw[h];exact trivial) (.inl rfl) (λi u g c=>(cL s.heap (Obj.mapSeq f) (Ne.symm g)).trans c) ⟨_,q⟩ ?_;exact⟨hz,its',_,a,q⟩
theorem Inv.lnew{qG:Do}(I:Inv X qA Y H s)(a:AQ ys qG)(hz:ys.length<=sizeLine) :
  Inv X qA Y (AD H 'H' (.lst ys)) { s with heap:=s.heap.push { cls:=.type "list",data:=.seq qG.toArray },toks:=t' } :=
 I.laid (λ_ _ q=>aS _ q) (aQ _) ⟨hz,qG,0,a,bP _ rfl⟩
theorem Inv.fresh(I:Inv X qA Y H s):H 'H'=none:=I.hok.fresh (aQ _)
theorem Inv.lstM(I:Inv X qA Y H s)(a:H l\(.lst xs)):xs.length<=sizeLine/\∃(qG:Do) (n:Nat),AQ xs qG/\xs.length=qG.length/\'F' l\{ cls:=.type "list",data:=.seq qG.toArray n }:=by
 obtain⟨z,qG,n,r,e⟩:=I.hok l _ a;exact⟨z,qG,n,r,r.length,e⟩
theorem dW(h:n<=sizeLine):Builtin.List.listTooLong n=false:=by
 unfold Builtin.List.listTooLong;exact cJ ⋯
end
def Gi:V->dG->Hp->VK->Prop:=λx vs H Q=>∃l xs y,x=.ref l/\vs=[y]/\H l\(.lst xs)/\xs.length<sizeLine/\Q .non (AD H l (.lst (xs++[y])))
theorem Fo:Nz X "list.append" Gi:=by
 rintro qA s Y H x vs v G Q I c rv⟨l,xs,y,rfl,rfl,a,f,q⟩;cases c;obtain⟨u,rfl,d⟩:=rv.one;obtain⟨z,qG,n,r,g,e⟩:=I.lstM a;refine call_meets F.slot_list_append ⟨_,e,rfl⟩ F.entry_list_append (F.args_list_append_2 _ _) (PySem.list_append l qG.toArray n u (by rw[size_toArray];lia)) ⟨e,?_⟩;refine⟨.non,_,I.lset (its':=qG++[u]) a e '2' (r.append (.cons d .nil)) ?_,rfl,q⟩;rw[aG,length_singleton];lia
def N1:V->dG->Hp->VK->Prop:=λx vs H Q=>∃l xs i k y,x=.ref l/\vs=[.int i]/\H l\(.lst xs)/\-(2 ^ 63)<=i/\i<2 ^ 63/\seqIndex? i xs.length\k/\xs[k]?\y/\Q y (AD H l (.lst (xs.eraseIdx k)))
theorem VP:Nz X "list.pop" N1:=by
 rintro qA s Y H x vs v G Q I d rv⟨l,xs,i,k,y,rfl,rfl,c,h1,h2,o,g,q⟩;cases d;obtain⟨u,rfl,f⟩:=rv.one;obtain⟨t,rfl⟩:=f;obtain⟨z,qG,n,r,m,e⟩:=I.lstM c;obtain⟨w,j,a⟩:=r.get g;refine call_meets F.slot_list_pop ⟨_,e,rfl⟩ F.entry_list_pop (F.args_list_pop_2 _ _)
  (MeetsSeq.list_pop_at l qG.toArray n i t k w (fitsIndex_both h1 h2) (by rw[size_toArray,<-m];exact o) (by rw[<-Array.getElem?_toList];exact j) (by rw[size_toArray];lia)) ⟨e,?_⟩
 refine⟨y,_,I.lset (its':=qG.eraseIdx k) c e ?_ (r.eraseIdx k) ?_,a,q⟩
 ·show qG.toArray.eraseIdxIfInBounds k=(qG.eraseIdx k).toArray;rw[eraseIdxIfInBounds_toArray]
 ·have:=N0 xs k;lia
def VQ:R2:=λx y H Q=>∃l b xs zs,x=.ref l/\y=.ref b/\H l\(.lst xs)/\H b\(.lst zs)/\xs.length+zs.length<=sizeLine/\∀p,H p=none->Q (.ref p) (AD H p (.lst (xs++zs)))
theorem VR:Ay X (binaryOp .Add) VQ:=by
 rintro qA s Y H x y v u Q I d c⟨l,b,xs,zs,rfl,rfl,i,j,A,q⟩;cases d;cases c;obtain⟨z,qG,n,r,B,e⟩:=I.lstM i;obtain⟨p,a,w,f,g,o⟩:=I.lstM j;refine PySem.P.add_list e o ?_ (by rw[size_toArray,size_toArray];lia);have m:qG.toArray++a.toArray=(qG++a).toArray:='2'
 rw[m];exact⟨.ref _,_,I.lnew (t':=s.toks) (r.append f) (by rw[aG];lia),rfl,q _ I.fresh⟩
section
variable{κ:Type}[DecidableEq κ]
def BG(qH:List (κ×V))(k:κ):Option V:=(qH.find? λkv=>decide (kv.1=k)).map (·.2)
def BB(qH:List (κ×V))(k:κ)(v:V):List (κ×V) :=
 if(qH.any λkv=>decide (kv.1=k))=true then qH.map (λkv=>if kv.1=k then(kv.1,v)else kv)else qH++[(k,v)]
theorem Gj{p:κ×V}{r:List (κ×V)}{k:κ}(e:p.1=k):BG (p::r) k\p.2:=by simp[BG,find?_cons,e]
theorem Ko{p:κ×V}{r:List (κ×V)}{k:κ}(e:¬p.1=k):BG (p::r) k=BG r k:=by simp[BG,find?_cons,e]
theorem N3(k:κ):∀qH:List (κ×V),(qH.any λa=>decide (a.1=k))=(BG qH k).isSome
 |[]=>rfl
 |p::r=>by
  rw[any_cons];by_cases e:p.1=k
  ·simp only[Gj e,aK e,Bool.true_or,Option.isSome_some]
  ·rw[Ko e,cJ e,Bool.false_or];exact N3 k r
theorem FF(qH:List (κ×V))(k:κ)(v:V):(BB qH k v).length<=qH.length+1:=by
 unfold BB;split
 ·rw[aA];lia
 ·rw[aG,length_cons,length_nil];lia
theorem Cv.isSome_eq{o:Option V}{u:Ex}(r:Cv o u):o.isSome=u.isSome:=by
 cases o with
 |none=>cases u with
  |none=>rfl
  |some _=>exact(show False from r).elim
 |some _=>cases u with
  |none=>exact(show False from r).elim
  |some _=>rfl
theorem Cv.getD{o:Option V}{u:Ex}{d:V}{d':Value}(r:Cv o u)(a:AJ d d'):AJ (o.getD d) (u.getD d'):=by
 cases o with
 |none=>cases u with
  |none=>exact a
  |some _=>exact(show False from r).elim
 |some _=>cases u with
  |none=>exact(show False from r).elim
  |some _=>exact r
theorem KV.val{qH:List (κ×V)}{vs:List (κ×Value)}(r:KV qH vs)(k:κ):Cv (BG qH k) (valueAt vs k):=by
 unfold KV at r
 induction r with
 |nil=>exact True.intro
 |@cons p q ps a h t d =>
  obtain⟨h1,h2⟩:=h;by_cases e:p.1=k
  ·have c:q.1=k:=h1.symm.trans e;have b:valueAt (q::a) k\q.2:=by simp[valueAt,find?_cons,c]
   rw[Gj e,b];exact h2
  ·have c:¬q.1=k:=λz=>e (h1.trans z);have b:valueAt (q::a) k=valueAt a k:=by simp[valueAt,find?_cons,c]
   rw[Ko e,b];exact d
theorem KV.any{qH:List (κ×V)}{vs:List (κ×Value)}(r:KV qH vs)(k:κ):(qH.any λa=>decide (a.1=k))=vs.any λa=>decide (a.1=k):=by
 unfold KV at r
 induction r with
 |nil=>rfl
 |cons h t c=>rw[any_cons,any_cons,c,h.1]
theorem KV.repl{qH:List (κ×V)}{vs:List (κ×Value)}(r:KV qH vs)(k:κ){y:V}(c:AJ y u) :
  KV (qH.map λa=>if a.1=k then(a.1,y)else a) (vs.map λa=>if a.1=k then(a.1,u)else a):=by
 unfold KV at r ⊢
 induction r with
 |nil=>exact .nil
 |@cons p q ps f h t d =>
  rw[map_cons,map_cons];refine .cons ?_ d;obtain⟨h1,h2⟩:=h;by_cases e:p.1=k
  ·rw[aC e,aC (h1.symm.trans e)];exact⟨h1,c⟩
  ·rw[aB e,aB (λz=>e (h1.trans z))];exact⟨h1,h2⟩
theorem KV.put{qH:List (κ×V)}{vs:List (κ×Value)}(r:KV qH vs)(k:κ){y:V}(a:AJ y u):KV (BB qH k y) (stored vs k u):=by
 unfold BB stored;rw[r.any k];by_cases e:(vs.any λc=>decide (c.1=k))=true
 ·rw[aC e,aC e];exact r.repl k a
 ·rw[aB e,aB e];exact Paired.snoc r ⟨rfl,a⟩
theorem KV.length{qH:List (κ×V)}{vs:List (κ×Value)}(r:KV qH vs):qH.length=vs.length:=Paired.length r
end
theorem Gk{P:Program}{k:AK}(r:AJ (kV k) u):(Bq P w).is k u=true:=by
 cases k with
 |inl i=>obtain⟨t,e⟩:=(show∃t,u=Value.int i t from r);subst e;exact Ts P w i t
 |inr x=>obtain⟨t,e⟩:=(show∃t,u=Value.str x t from r);subst e;exact Tt P w x t
theorem N4{P:Program}{w:World}:∀{ks:List AK} {G:Do},AQ (ks.map kV) G->ItemsAre (Bq P w) ks G
 |[],_,r=>by rw[map_nil]at r;cases r;exact .nil
 |k::ks,_,r=>by
  rw[map_cons]at r;cases r with
  |cons h t=>exact .cons (Gk h) (N4 t)
abbrev KT(H:Hp):List (List AK×V)->List (List AK×Addr×Value)->Prop:=Paired λp q=>p.1=q.1/\H q.2.1\(.tup (p.1.map kV))/\AJ p.2 q.2.2
theorem KT.val{qH:List (List AK×V)}{xs:List (List AK×Addr×Value)}(r:KT H qH xs)(k:List AK):Cv (BG qH k) ((atKey xs k).map (·.2)):=by
 induction r with
 |nil=>exact True.intro
 |@cons p q ps a h t d =>
  obtain⟨h1,_,h2⟩:=h;by_cases e:p.1=k
  ·have c:q.1=k:=h1.symm.trans e;have b:atKey (q::a) k\q.2:=by simp[atKey,find?_cons,c]
   rw[Gj e,b];exact h2
  ·have c:¬q.1=k:=λz=>e (h1.trans z);have b:atKey (q::a) k=atKey a k:=by simp[atKey,find?_cons,c]
   rw[Ko e,b];exact d
theorem KT.repl{qH:List (List AK×V)}{xs:List (List AK×Addr×Value)}(r:KT H qH xs)(k:List AK){y:V}(c:AJ y u) :
  KT H (qH.map λa=>if a.1=k then(a.1,y)else a) (xs.map (putAt k u)):=by
 induction r with
 |nil=>exact .nil
 |@cons p q ps g h t d =>
  rw[map_cons,map_cons];refine .cons ?_ d;obtain⟨h1,h2,f⟩:=h;unfold putAt;by_cases e:p.1=k
  ·rw[aC e,aC (h1.symm.trans e)];exact⟨h1,h2,c⟩
  ·rw[aB e,aB (λz=>e (h1.trans z))];exact⟨h1,h2,f⟩
theorem KT.put{qH:List (List AK×V)}{xs:List (List AK×Addr×Value)}(r:KT H qH xs)(k:List AK){b:Addr}{y:V}(d:H b\(.tup (k.map kV)))(a:AJ y u) :
  KT H (BB qH k y) (storedH xs k b u):=by
 have e:(qH.any λc=>decide (c.1=k))=(atKey xs k).isSome:=by
  rw[N3,(r.val k).isSome_eq,Option.isSome_map]
 unfold BB storedH;rw[e];by_cases q:(atKey xs k).isSome=true
 ·rw[aC q,aC q];exact r.repl k a
 ·rw[aB q,aB q];exact Paired.snoc r ⟨rfl,d,a⟩
theorem KT.keeps{qH:List (List AK×V)}{xs:List (List AK×Addr×Value)}(r:KT H qH xs)(a:∀b ys,H b\(.tup ys)->H' b\(.tup ys)):KT H' qH xs :=
 Paired.mapP r λ_ _ z=>⟨z.1,a _ _ z.2.1,z.2.2⟩
section
variable{P:Program}
theorem N5{u:HO}(ok:A7 P w H h)(e:Rd H a u):A3 P w H h a u:=e.ok ok
theorem Gm{qH:List (AK×V)}(ok:A7 P w H h)(e:Rd H a (.dK qH)):qH.length<=sizeLine/\(a==sysModules)=false/\∃vs,KV qH vs/\h.DictOf (Bq P w) a vs :=
 show A3 P w H h a (.dK qH)from N5 ok e
theorem Kp{qH:List (AK×V)}(ok:A7 P w H h)(e:H a\(.dK qH)):qH.length<=sizeLine/\(a==sysModules)=false/\∃vs,KV qH vs/\h.DictOf (Bq P w) a vs:=Gm ok (.inl e)
theorem Fp{ks:List AK}(ok:A7 P w H h)(e:H a\(.tup (ks.map kV))):(tupleKind (Bq P w)).is h ks a:=by
 obtain⟨_,qG,r,o,h1,h2,⟨n,c⟩,_⟩:=(show A3 P w H h a (.tup (ks.map kV))from ok a _ e);exact⟨o,qG.toArray,n,h1,h2,c,by simpa using N4 r⟩
theorem Gn{qH:List (List AK×V)}(ok:A7 P w H h)(e:Rd H a (.dT qH)):qH.length<=sizeLine/\(a==sysModules)=false /\
  ∃xs,KT H qH xs/\h.DictOfH (tupleKind (Bq P w)) a xs:=by
 obtain⟨z,y,xs,r,o,es,ep,h1,h2,i,g,f⟩:=(show A3 P w H h a (.dT qH)from N5 ok e);refine⟨z,y,xs,r,o,es,ep,h1,h2,i,g,λx hx=>?_,f⟩;have all:∀{l:List (List AK×V)} {m:List (List AK×Addr×Value)},KT H l m->∀x∈m,(tupleKind (Bq P w)).is h x.1 x.2.1:=by
  intro l m q
  induction q with
  |nil=>intro x hx;exact nomatch hx
  |@cons p q ps j c t d =>
   intro x hx;rcases aF.mp hx with e|hx
   ·subst e;exact Fp ok (by rw[<-c.1];exact c.2.1)
   ·exact d x hx
 exact all r x hx
theorem Kq{qH:List (List AK×V)}(ok:A7 P w H h)(e:H a\(.dT qH)):qH.length<=sizeLine/\(a==sysModules)=false /\
  ∃xs,KT H qH xs/\h.DictOfH (tupleKind (Bq P w)) a xs:=Gn ok (.inl e)
end
def Cp(H:Hp)(a:Addr)(y:V)(r:Option V):Prop :=
 (∃qH k,Rd H a (.dK qH)/\y=kV k/\r=BG qH k)\/∃qH k b,Rd H a (.dT qH)/\y=.ref b/\H b\(.tup (k.map kV))/\r=BG qH k
def Ei(H:Hp)(a:Addr)(y v:V)(H':Hp):Prop :=
 (∃qH k,H a\(.dK qH)/\y=kV k/\qH.length<sizeLine/\H'=AD H a (.dK (BB qH k v))) \/
 ∃qH k b,H a\(.dT qH)/\y=.ref b/\H b\(.tup (k.map kV))/\qH.length<sizeLine/\H'=AD H a (.dT (BB qH k v))
theorem Cp.k{qH:List (AK×V)}{k:AK}(e:H a\(.dK qH)):Cp H a (kV k) (BG qH k):=.inl ⟨qH,k,.inl e,rfl,rfl⟩
theorem Cp.t{b:Addr}{qH:List (List AK×V)}{k:List AK}(e:H a\(.dT qH))(c:H b\(.tup (k.map kV))):Cp H a (.ref b) (BG qH k):=.inr ⟨qH,k,b,.inl e,rfl,c,rfl⟩
theorem Ei.k{qH:List (AK×V)}{k:AK}(e:H a\(.dK qH))(c:qH.length<sizeLine):Ei H a (kV k) v (AD H a (.dK (BB qH k v))):=.inl ⟨qH,k,e,rfl,c,rfl⟩
theorem Ei.t{b:Addr}{qH:List (List AK×V)}{k:List AK}(e:H a\(.dT qH))(d:H b\(.tup (k.map kV)))(c:qH.length<sizeLine) :
  Ei H a (.ref b) v (AD H a (.dT (BB qH k v))):=.inr ⟨qH,k,b,e,rfl,d,c,rfl⟩
section
variable{y:V}{r:Value}{o:Option V}
theorem Inv.big(I:Inv X qA Y H s):sysModules<'H':=by
 have h:mainGlobals<'H':=(I.mod.glob.keeps I.bk).lt;exact Nat.lt_trans '3' h
theorem VT(q:A.units+1<cLine)(I:Inv X qA Y H s)(g:Cp H a y (some v))(m:AJ y u)(h:∀w' s',Inv X qA Y H s'->AJ v w'->Q w' s') :
  wpAny (model X.prog X.w) A (getItem (.ref a) u) Q E s:=by
 rcases g with⟨n,k,e,j,l⟩|⟨n,k,b,e,j,B,l⟩
 ·subst j;obtain⟨z,x,vs,d,dd⟩:=Gm I.hok e;obtain⟨w',f,c⟩:=Cv.some_of (v:=v) (o:=valueAt vs k) (by rw[l];exact d.val k);exact wpAny_getItem_of (Gk m) dd.mapOf f (h w' _ (I.tok _) c)
 ·subst j;cases(show u=Value.ref b from m);obtain⟨z,x,xs,d,dd⟩:=Gn I.hok e;obtain⟨w',f,c⟩:=Cv.some_of (v:=v) (o:=(atKey xs k).map (·.2)) (by rw[l];exact d.val k);obtain⟨p,r,i⟩:=aJ.mp f;refine wpAny_getItem_heap (tupleKind_room_in1 q) (Fp I.hok B) dd r ?_;rw[i];exact h w' _ (I.tok _) c
theorem Gp{c:HO}(I:Inv X qA Y H s)(d:GS (H a))(f:Heap.SameBut a s.heap h')(g:∃q,h'.get? a\q)(new:A3 X.prog X.w (AD H a c) h' a c) :
  Inv X qA Y (AD H a c) { s with heap:=h',toks:=t' } :=
 I.write (x:=a) (e:=a) d (.inl rfl) (λb q h z=>(f.2 b h).trans z) g new
theorem N6{P:Program}{qH:List (AK×V)}{vs:List (AK×Value)}(z:qH.length<=sizeLine)(d:(a==sysModules)=false)(c:KV qH vs)(dd:h'.DictOf (Bq P w) a vs) :
  A3 P w H' h' a (.dK qH):=⟨z,d,vs,c,dd⟩
theorem VU{Q:Unit->Shared->Prop}(us:A.units+1<cLine)(I:Inv X qA Y H s)(g:Ei H a y v H')(B:AJ y u)(rv:AJ v r)(h:∀s',Inv X qA Y H' s'->Q () s') :
  wpAny (model X.prog X.w) A (setItem (.ref a) u r) Q E s:=by
 rcases g with⟨f,k,e,p,l,x⟩|⟨f,k,b,e,p,D,l,x⟩
 ·subst p x;obtain⟨z,o,vs,d,dd⟩:=Kp I.hok e;have j:vs.length<=sizeLine:=by rw[<-d.length];exact z
  have n:(BB f k v).length<=sizeLine:=by have:=FF f k v;lia
  refine wpAny_setItem_pairs (hsz:=j) (Gk B) dd λh' dd' m=>h _ ?_;have ρ:∃q,h'.get? a\q:=(by obtain⟨q,_,_,i,_⟩:=dd';exact ⟨q,i⟩);exact Gp I (by rw[e];exact True.intro) m ρ (N6 n o (d.put k rv) dd')
 ·subst p x;cases(show u=Value.ref b from B);obtain⟨z,o,xs,d,dd⟩:=Kq I.hok e;have j:xs.length<=sizeLine:=by rw[<-Paired.length d];exact z
  have n:(BB f k v).length<=sizeLine:=by have:=FF f k v;lia
  refine wpAny_setItem_heap (hsz:=j) (tupleKind_room_in1 us) (Fp I.hok D) dd λh' dd' m=>h _ ?_;obtain⟨q,es,ep,i,h2,N,M,_,L⟩:=dd';refine Gp I (by rw[e];exact True.intro) m ⟨q,i⟩ ⟨n,o,_,(d.put k D rv).keeps λc ys C=>?_,q,es,ep,i,h2,N,M,L⟩;rw[AI (EZ C e '5')];exact C
end
def Kr(i:Expr):Prop:=∀ov iv,subscripted i false ov iv=operate [ov,iv] (getItem ov iv)
theorem VV{value a:Expr}{T id:String}
  (m:typeLookup (.type T) "__getitem__"=pure (some (.builtin id))) (l:Kr a)
  (h:'C' (eval value env) (λo s₁=>'C' (eval a env) (λi s₂=>s₂.TypeIs o T/\'C' (getItem o i) Q E s₂) E s₁) E s) :
  'C' (eval (.Subscript value a pos) env) Q E s:=by
 refine Subscript_ (bL h (λo s₁ g=>bL g (λi s₂ c=>?_) λ_ _ x=>x) λ_ _ x=>x);obtain⟨j,c⟩:=c;unfold subscriptTail;refine wB ?_;rw[getitemInPython_of_ne j.not_modules];refine wB (wpAny_specialOf j m ?_);have e:'C' (subscripted a false o i) (λr d=>'C' (letTemporaryGo value o r >>= λ_=>pure r) Q E d) E s₂:=by
  rw[l o i];exact wpAny_operating (bL c (λr d f=>wB (wpAny_letTemporaryGo (wP f))) λ_ _ x=>x)
 first
  |exact wP (wB e)
  |exact wB (wP (wB e))
  |exact wB e
theorem VW{y:V}{o:Option V}(I:Inv X qA Y H s)(g:Cp H a y o):s.TypeIs (.ref a) "dict":=by
 rcases g with⟨c,k,e,_,_⟩|⟨c,k,b,e,_,_,_⟩
 ·obtain⟨_,_,vs,_,dd⟩:=Gm I.hok e;exact dd.typeIs
 ·obtain⟨_,_,xs,_,dd⟩:=Gn I.hok e;exact dd.typeIs
def VX(td ty:TE):TE:=λY H Q=>td Y H λx H1=>ty Y H1 λy H2=>∃a v,x=.ref a/\Cp H2 a y (some v)/\Q v H2
def N7(td ty tv:TE):TS:=λD Y H=>tv Y H λv H1=>td Y H1 λx H2=>ty Y H2 λy H3=>∃a H4,x=.ref a/\Ei H3 a y v H4/\D.nx Y H4
section
variable{o i e value:Expr}{tpos:Pos}{td ty tv:TE}
theorem VY(l:X.A.units+1<cLine)(n:PE X o td)(hi:PE X i ty)(m:Kr i):PE X (.Subscript o i pos) (VX td ty):=by
 intro qA s Y H Q I h;refine VV PySem.F.slot_dict_getitem.lookup m (AH (n qA s Y H _ I h) λu e zz=>?_);obtain⟨x,H1,q,j,q1⟩:=zz;refine AH (hi qA e Y H1 _ q q1) λB z zz=>?_;obtain⟨y,H2,d,f,a,v,ex,g,q2⟩:=zz;subst ex;obtain rfl:u=Value.ref a:=j;exact⟨VW d g,VT l d g f λr w p c=>⟨v,H2,p,c,q2⟩⟩
theorem VZ(m:X.A.units+1<cLine)(p:PE X o td)(hi:PE X i ty)(l:PE X value tv)(n:swapsWith value (some (.Subscript o i pos')) pos.line X.env=pure false) :
  PS X (.Assign [.Subscript o i pos'] value pos) (N7 td ty tv):=by
 intro qA s Y H D I h;refine wpAny_Assign_Subscript (AH (l qA s Y H _ I h) λr d zz=>?_) n;obtain⟨v,H1,B,rv,q1⟩:=zz;refine AH (p qA d Y H1 _ B q1) λu c zz=>?_;obtain⟨x,H2,z,f,q2⟩:=zz;refine AH (hi qA c Y H2 _ z q2) λρ us zz=>?_;obtain⟨y,L,w,e,a,C,ex,g,j⟩:=zz;subst ex;obtain rfl:u=Value.ref a:=f;exact VU m w g e rv λE q=>⟨Y,C,q,j⟩
end
theorem Va{P:Program}(h:Heap)(a:sysModules<h.objs.size):A3 P w H (h.push { cls:=.type "dict",data:=.dict #[] }) h.objs.size (.dK []) :=
 ⟨cD _,beq_eq_false_iff_ne.mpr (Ne.symm (bX a)),[],.nil,Heap.DictOf.new h⟩
theorem N8{P:Program}(h:Heap)(a:sysModules<h.objs.size):A3 P w H (h.push { cls:=.type "dict",data:=.dict #[] }) h.objs.size (.dT []) :=
 ⟨cD _,beq_eq_false_iff_ne.mpr (Ne.symm (bX a)),[],.nil,_,#[],0,bP _ rfl,⟨rfl,rfl,rfl⟩,rfl,rfl,nodup_nil⟩
def Vb:TE:=λ_ H Q=>∀p,H p=none->Q (.ref p) (AD H p (.dT []))
theorem Vc:PE X (.Dict [] [] pos) Vb:=λqA s Y H Q I h =>
 wpAny_Dict_empty ⟨.ref 'H',_,I.laid (a:='H') (o:=.dT []) (t':=s.toks) (λ_ _ q=>aS _ q) (aQ _) (N8 s.heap I.big),rfl,h _ (I.hok.fresh (aQ _))⟩
structure M2(X:Cx)(o:Expr)(m:Str)(qK:Pos)(e f:Expr)(qJ:Pos):Prop where
 base:attributeBase o m X.env (eval o X.env)=eval o X.env
 few:((backTo qJ (starEach [e,f] X.env)).all (λx=>!x.1)&&(backToKw qJ (keywordEach [] X.env)).all (λx=>x.1.isSome)
  && decide (([e,f]:List Expr).length+([]:List Keyword).length+(if([]:List Keyword).isEmpty then 0 else 1)<30))=true
 line:(qK.endLine==qJ.line)=true
 trees:backTo qJ (starEach [e,f] X.env)=[(false,eval e X.env),(false,eval f X.env)]
def Ib(H:Hp)(a:Addr):Prop:=(∃qH,Rd H a (.dK qH))\/∃qH,Rd H a (.dT qH)
theorem N9(I:Inv X qA Y H s)(d:Ib H a) :
  s.TypeIs (.ref a) "dict"/\(∀b,Value.ref a=.ref b->∃c,'F' b\c/\c.dict=none)/\(a==sysModules)=false:=by
 rcases d with⟨g,e⟩|⟨g,e⟩
 ·obtain⟨_,f,vs,_,dd⟩:=Gm I.hok e;refine⟨dd.typeIs,λb q=>?_,f⟩;cases q;obtain⟨c,_,_,h1,h2,_⟩:=dd;exact⟨c,h1,h2.2.1⟩
 ·obtain⟨_,f,xs,_,dd⟩:=Gn I.hok e;refine⟨dd.typeIs,λb q=>?_,f⟩;cases q;obtain⟨c,_,_,h1,h2,_⟩:=dd;exact⟨c,h1,h2.2.1⟩
section
variable{y d:V}{r:Value}{o:Option V}
theorem Vd(p:A.units+1<cLine)(I:Inv X qA Y H s)(g:Cp H a y o)(j:AJ y u)(m:AJ d r)(h:∀w' s',Inv X qA Y H s'->AJ (o.getD d) w'->Q w' s') :
  wpAny (model X.prog X.w) A (call (.builtin "dict.get") [.ref a,u,r]) Q E s:=by
 rcases g with⟨n,k,e,i,l⟩|⟨n,k,b,e,i,q,l⟩
 ·subst i;obtain⟨z,f,vs,c,dd⟩:=Gm I.hok e;refine call_meetsIn PySem.F.slot_dict_get dd.typeIs PySem.F.entry_dict_get (PySem.F.args_dict_get_3 _ _ _) (meets_dict_get_default (Bq X.prog X.w) a (Gk j) f r) ⟨_,dd.mapOf,h _ _ (I.tok _) ?_⟩;rw[l];exact(c.val k).getD m
 ·subst i;cases(show u=Value.ref b from j);obtain⟨z,f,xs,c,dd⟩:=Gn I.hok e;refine call_meetsIn PySem.F.slot_dict_get dd.typeIs PySem.F.entry_dict_get (PySem.F.args_dict_get_3 _ _ _) (meetsH_dict_get_default (tupleKind (Bq X.prog X.w)) a b f r) ⟨tupleKind_room_in1 p,k,xs,Fp I.hok q,dd,h _ _ (I.tok _) ?_⟩;rw[l];exact(c.val k).getD m
end
def Ve(td ty tx:TE):TE:=λY H Q=>td Y H λx H1=>∃a,x=.ref a/\Ib H1 a/\ty Y H1 λy H2=>tx Y H2 λz H3=>∃o,Cp H3 a y o/\Q (o.getD z) H3
section
variable{o e f:Expr}{td ty tx:TE}
theorem OA(B:X.A.units+1<cLine)(C:PE X o td)(E:PE X e ty)(D:PE X f tx)(m:M2 X o "get" qK e f qJ):PE X (.Call (.Attribute o "get" qK) [e,f] [] qJ) (Ve td ty tx):=by
 intro qA s Y H Q I h;refine wpAny_Call_method m.base m.few m.line PySem.F.plainAttrs_dict PySem.F.slot_dict_get PySem.F.type_dict_get (AH (C qA s Y H _ I h) λu p zz=>?_);obtain⟨x,H1,i,v,a,ex,d,q1⟩:=zz;subst ex;obtain rfl:u=Value.ref a:=v;obtain⟨l,j,_⟩:=N9 i d;refine⟨l,j,?_⟩;rw[m.trees];refine Calls.callWith_builtin rfl (Calls.evalArgs_plain (Calls.spliced_cons (AH (E qA p Y H1 _ i q1) λσ n zz=>?_)));obtain⟨y,H2,L,r,q2⟩:=zz;refine Calls.spliced_cons (AH (D qA n Y H2 _ L q2) λfv T zz=>?_);obtain⟨z,M,ρ,q,U,g,w⟩:=zz;refine Calls.spliced_nil ?_
 exact Vd B ρ g r q λN O us c=>⟨_,M,us,c,w⟩
end
end L2
namespace Att
open PySem PySem.W PySem.Calls PyProof.Rows
theorem Vf{P:Params}:∀(ns:By) (vs:Do),WellAll P h vs (ns.map WData.int)->IntsAre vs ns:=by
 intro ns
 induction ns with
 |nil =>
  intro vs w;rw[map_nil]at w;cases w;exact .nil
 |cons n ns c =>
  intro vs w;rw[map_cons]at w;cases w with
  |cons a b =>
   cases a;exact .cons _ _ (c _ b)
theorem Vg{l:OpenLaw}(w:l.most\n){P:Params}{args:List WData}{c:Do}
  (e:l.row.toRowW.claim.pre args=true) (m:WellAll P h c args) :
  ∃a vs ns,c=[Value.ref a]/\args=[WData.list (ns.map WData.int)]/\h.get? a\{ cls:=.type "list",data:=.seq vs.toArray }/\IntsAre vs ns/\ns.length<=n:=by
 have o:WShape.hasAll [] args [.list .int]=true:=(pre_splitW e).1;have p:l.pre.holds [] { args:=args }=true:=(pre_splitW e).2;obtain⟨d,r,rfl,h1,h2⟩:=hasAllW_cons o;obtain rfl:=hasAllW_nil h2;obtain⟨xs,rfl,x⟩:=hasW_list h1;obtain⟨ns,rfl⟩:=items_int x;have f:ns.length<=n:=by
  unfold OpenLaw.pre at p;have j:(WTm.not (.lt (.lit (.int (n:Int))) (.len (.arg 0)))).holds [] { args:=[.list (ns.map .int)] }=true:=by
   have j:=(holds_andW p).1;rw[w]at j;exact j
  have i:=condW_of j (w_not (w_lt w_lit (w_len_list (w_arg rfl))));rw[aA]at i;refine Nat.le_of_not_lt λq=>?_;have q':(n:Int)<((ns.length:Nat):Int):=⋯
  first
   |(rw[aK q']at i;exact bS i '3')
   |(simp at i;lia)
 cases m with
 |cons u s =>
  cases s;cases u with
  |list v g=>exact⟨_,_,ns,rfl,rfl,v,Vf ns _ g,f⟩
theorem Vh(l:OpenLaw)(args:List WData):l.row.toRowW.claim.post args (.bool true) args=true :=
 postW_of (r:=l.row.toRowW) (X:=(true==true))
  (show WShape.has [] (.bool true) .bool=true by first|rfl|decide|simp[WShape.has,WShape.arms,WShape.armsAll])
  (show(WTm.eq .res (.lit (.bool true))).value [] { args:=args,res:=some (.bool true),after:=args }\(.bool (true==true))from w_eq_bool (w_res rfl) w_lit) rfl
theorem attach_call{l:OpenLaw}{q:Program}{c:At}{E:(Str->Ex)->Heap->Prop}{D:World->Heap->Prop}{d:DefRec}
  (L:l.most\n) (y:d.params.defaults=[])
  (call:∀(w:World) (s₀ s₁:Shared) (mg u:Str->Ex) (j:Addr) (o:Obj) (p m doc:Value) (a:Addr) (vs:Do) (ns:By),
   Ground q c [] E w s₀ mg u s₁.heap->D w s₁.heap ->
   s₁.heap.get? j\o->o.data=.func (docDef d.name d.params d.body d.scope p m doc)->s₁.heap.CodeRec m d.name->mg d.name\(.ref j) ->
   s₁.heap.get? a\{ cls:=.type "list",data:=.seq vs.toArray }->IntsAre vs ns->ns.length<=n->s₁.gens=#[] ->
   codeAny (model l.prog w) callerA (.call (.ref j) ⟨[.ref a],[]⟩) (λr s'=>r=.ok (.ret (.bool true))/\OldK s₁.heap s'.heap/\s'.os=s₁.os/\AllBare s'.gens) s₁) :
  WalkO q c E D l.row.toRowW d [] (λf vs=>PySem.call f vs):=by
 intro w s₀ s₁ mg u us σ j o p m doc dV kV ρ Q z C x O args A as g B H v N;obtain rfl:dV=.none:=Dflts.none C y;obtain rfl:kV=.none:=Dflts.noKw C;obtain⟨a,vs,ns,rfl,rfl,h,e,i⟩:=Vg L g v;refine enter_call (codeAny_mono (call w s₀ s₁ mg u j o p m doc a vs ns us σ ρ (fd_plain Q) z x h e i O) λr s' I=>?_);obtain⟨rfl,h2,U,T⟩:=I;exact⟨.inl ⟨.bool true,.bool true,[],rfl,λ_=>rfl,.bool true,Vh l _,λ_=>⟨List.Pairwise.nil,λ_ M=>(nomatch M)⟩⟩,h2,U,T⟩
section
variable{K:Frag}
def noObjs(h:Heap):Heap:={ h with objs:=#[] }
theorem noObjs_get(h:Heap)(b:Addr):(noObjs h).get? b=none:=by
 cases e:(noObjs h).get? b with
 |none=>rfl
 |some o=>exact bS (bN e) (Nat.not_lt_zero _)
theorem fr_all{L:Addr}(n:h.Ns L m):Fr (noObjs h) L h m :=
 ⟨n,λb o e=>(by rw[noObjs_get]at e;cases e),cD _⟩
end
end Att
namespace L2
open PySem PySem.Spec PyProof.Rows
theorem Vi{vs:Do}(h:IntsAre vs ns):AQ (ns.map V.int) vs:=by
 induction h with
 |nil=>exact .nil
 |cons n t h a=>exact .cons ⟨t,rfl⟩ a
def Ks(H:Hp):Prop:=∀b,H b=none\/∃o xs,H b\(.frz o (.lst xs))
theorem Vj{P:Program}{K:Fg}{I:Str->Ex}{CX:DC}{k:Nat}{O:Addr}{sp:Sp}{s₁:Shared}{vs:Do}
  (KX:K.In s₁.heap) (A:s₁.heap.Ns mainGlobals mg) (f:s₁.heap.Ns builtinsNs I) (M:∀x:Str,x≠"__name__"->I x=bootBuiltins x) (B:s₁.heap.NoLimit) (hg:s₁.gens=#[])
  (E:s₁.heap.get? a\{ cls:=.type "list",data:=.seq vs.toArray }) (hi:IntsAre vs ns) (T:ns.length<=sizeLine) (hr:Room k callerA)
  (F:∀base:Heap,K.In base->base.Ns mainGlobals mg->FnOk P w K mg base CX k O fd [x] sp) (i:∀(s:Shared) (u:Value),BindsTo s fd ⟨[u],[]⟩ [(x,u)])
  (ρ:∀H:Hp,Ks H->Am K H a (ns.map V.int)->sp [.ref a] H (λv _=>v=.bl true) λ_ _ _=>False)
  (N:∀H e s',CX [] H s₁ (λ_ _ _=>False) e s'->False) :
  codeAny (model P w) callerA (.call (.ref O) ⟨[.ref a],[]⟩) (λr s'=>r=.ok (.ret (.bool true))/\OldK s₁.heap s'.heap/\s'.os=s₁.os/\AllBare s'.gens) s₁:=by
 have rv:=Vi hi;have l:=hi.length;have core:∀H:Hp,Ks H->Am K H a (ns.map V.int)->A7 P w H s₁.heap->(∀b,H b≠none->b=a)->(H a≠none->K.lookup a=none) ->
   codeAny (model P w) callerA (.call (.ref O) ⟨[.ref a],[]⟩) (λr s'=>r=.ok (.ret (.bool true))/\OldK s₁.heap s'.heap/\s'.os=s₁.os/\AllBare s'.gens) s₁:=by
  intro H U hS y σ hK;have c:∀{b:Addr} {o:Obj},s₁.heap.get? b\o->H b=none->(D8 s₁.heap H).get? b\o:=λe n=>Tv e n;have us:∀{b:Addr} {o:Obj} {es:Array DictEntry} {ep:Nat},s₁.heap.get? b\o->o.data=.dict es ep->H b=none:=λ{b o es ep} e d=>by
   cases q:H b with
   |none=>rfl
   |some u =>
    have Q:b=a:=σ b (by rw[q];simp);subst Q;rw[E]at e;cases e;have d':Data.seq vs.toArray _=Data.dict es ep:=d;cases d'
  have g:∀{b:Addr} {m:Str->Ex},s₁.heap.Ns b m->(D8 s₁.heap H).Ns b m:=λ{b m} ⟨o,es,ep,e,d,r⟩=>⟨o,es,ep,c e (us e d),d,r⟩;have C:K.In (D8 s₁.heap H):=λb o e=>c (KX b o e) (by
   cases q:H b with
   |none=>rfl
   |some u =>
    have Q:b=a:=σ b (by rw[q];simp);subst Q;rw[hK (by rw[q];simp)]at e;cases e)
  have hM:Mod K mg (D8 s₁.heap H):=⟨C,g A,⟨I,g f,M⟩,(by obtain⟨mc,h1,h2⟩:=B;exact ⟨mc,g h1,h2⟩)⟩;have e0:Env0 P w K mg (D8 s₁.heap H) callerA [] s₁ H:=⟨rfl,hM,λb o e=>Tw e,Nat.le_of_eq (Tu _ _),trivial,λb f=>bS (show b∈([]:Ha)from f) '2',y,.of_eq hg⟩;refine codeAny_mono ((F _ C (g A)).run callerA [] s₁ H ⟨[.ref a],[]⟩ [.ref a] [.ref a] _ _ hr e0 (i s₁ (.ref a)) (.cons rfl .nil) (ρ H U hS)) λr s' h=>?_;cases r with
  |error e=>exact(N H e s' h).elim
  |ok fl =>
   cases fl with
   |next=>exact False.elim h
   |brk=>exact False.elim h
   |cont=>exact False.elim h
   |ret u =>
    obtain⟨v,H',os,D,un,p,r',q⟩:=h;have q':v=.bl true:=q;subst q';obtain rfl:u=Value.bool true:=r';refine⟨rfl,OldK.of_keep λb o e=>?_,os,D⟩;cases q:H b with
    |none=>exact un.keep b o e q (by intro z;exact bS (show b∈([]:Ha)from z) '2') '2'
    |some u =>
     rcases U b with z|⟨ob,xs,z⟩
     ·rw[q]at z;cases z
     ·have z2:=un.frzs b ob _ z;obtain⟨e1,_⟩:=y b _ z;obtain⟨e2,_⟩:=p b _ z2;rw[e]at e1;cases e1;exact e2
 cases L:K.lookup a with
 |some o =>
  have e:=KX a o L;rw[E]at e;cases e;refine core (λ_=>none) (λ_=>.inl rfl) (.inr ⟨_,vs.toArray,_,L,rfl,rfl,rfl,by rw[size_toArray,l];exact T,by simpa using rv⟩) (λb u z=>by have j:(none:Option HO)\u:=z;cases j) (λb z=>bS rfl z) λz=>bS rfl z
 |none =>
  refine core (λb=>if b=a then some (.frz { cls:=.type "list",data:=.seq vs.toArray } (.lst (ns.map V.int)))else none) (λb=>?_) (.inl (.inr ⟨{ cls:=.type "list",data:=.seq vs.toArray },aC rfl⟩)) (λb u z=>?_) (λb z=>?_) λ_=>L
  ·by_cases f:b=a
   ·exact .inr ⟨_,_,aC f⟩
   ·exact .inl (aB f)
  ·by_cases f:b=a
   ·have j:=(aC f).symm.trans z;cases j;subst f;exact⟨E,by rw[aA];exact T,vs,_,rv,E⟩
   ·have j:=(aB f).symm.trans z;cases j
  ·by_cases f:b=a
   ·exact f
   ·exact bS (aB f) z
theorem dU{l:PySem.W.OpenLaw}{k:Nat}{q:Program}{i:At}{XP:(Str->Ex)->Heap->Prop}{E:World->Heap->Prop}{d:DefRec}{K:Params->Fg}{CX:World->DC}{sp:World->Sp}
  (L:l.most\n) (z:n<=sizeLine) (B:d.params.defaults=[]) (ρ:Room k callerA)
  (Q:∀(w:World) (h:Heap),E w h->(K w.params).In h)
  (F:∀(w:World) (mg:Str->Ex) (r:Addr) (h:Heap),(K w.params).In h->h.Ns mainGlobals mg->mg d.name\(.ref r) ->
   ∃fd:FuncData,(∀(s:Shared) (u:Value),BindsTo s fd ⟨[u],[]⟩ [(x,u)]) /\
    ∀base:Heap,(K w.params).In base->base.Ns mainGlobals mg->FnOk l.prog w (K w.params) mg base (CX w) k r fd [x] (sp w))
  (y:∀(w:World) (H:Hp) (a:Addr) (ns:By),ns.length<=n->Ks H->Am (K w.params) H a (ns.map V.int)->sp w [.ref a] H (λv _=>v=.bl true) λ_ _ _=>False)
  (C:∀(w:World) (H:Hp) (s:Shared) (e:Value) (s':Shared),CX w [] H s (λ_ _ _=>False) e s'->False) :
  PySem.W.WalkO q i XP E l.row.toRowW d [] (λf vs=>PySem.call f vs):=by
 refine Att.attach_call L B λw D m mg mb r o pm cd doc a vs ns us σ ho hd N A p j c M=>?_;have I:=Q w _ σ;obtain⟨fd,O,hF⟩:=F w mg r _ I us.T.g A;exact Vj I us.T.g us.T.b us.T.builtins us.T.nolimit M p j (aR c z) ρ hF O (λH hO U=>y w H a ns c hO U) λH e s'=>C w H m e s'
def Dv(s:Stmt):Arguments:=match s with
 |.FunctionDef _ a _ _ _ _ _ _ _ _=>a
 |_=>{ posonlyargs:=[],args:=[],vararg:=none,kwonlyargs:=[],kw_defaults:=[],kwarg:=none,defaults:=[] }
def Cz(s:Stmt):Hq:=match s with
 |.FunctionDef _ _ b _ _ _ _ _ _ _=>b
 |_=>[]
def AR(s:Stmt):Scope:=match s with
 |.FunctionDef _ _ _ _ _ _ sc _ _ _=>sc
 |_=>{ kind:=.function,names:=[],isGenerator:=false,isCoroutine:=false }
abbrev Dw:DC:=λ_ _ _ _ _ _=>False
abbrev E0:XK:=λ_ _ _=>False
theorem Vk:Ki Dw X E0:=λ_ _ _ _ _ _ _ h=>h.elim
structure Fun(K:Fg)(x qual:Str)(st:Stmt)(f:Addr)(fd:FuncData):Prop where
 ex:∃(oc:Value) (od:Go) (kV doc pm:Value) (an:Go) (cdv ct:Value) (osl:Array Ex),
  fd=PySem.W.fnOf x qual (Dv st) (Cz st) (AR st) .none kV doc pm an cdv ct/\K.lookup f\⟨oc,od,.func fd,osl⟩/\PySem.W.codeIn K cdv qual=true
 kp:PySem.W.keepIn K (.ref f)=true
section
variable{P:Program}{K:Fg}
theorem Fun.ok{f:Addr}{k:Nat}{sp:Sp}(F:Fun K x qual st f fd)(S:FnScope N ps (AR st))(len:∀vs H Q E,sp vs H Q E->vs.length=ps.length)
  (a:∀(cdv:Value) (A:Around) (outer:List Env) (s:Shared) (H:Hp) (vs:dG) (Q:VK) (E:XK),Room k (A.deeper (envOfC qual (AR st) 'H' f cdv))->sp vs H Q E ->
   ∃t,Be (Eg Dw P w K mg base N qual (AR st) f cdv A outer s H E).nox (Cz st) t/\t { nx:=λ_ H'=>Q .non H',rt:=Q } (Cn N vs) H):FnOk P w K mg base Dw (k+1) f fd ps sp:=by
 obtain⟨oc,od,kV,doc,pm,an,cdv,ct,osl,rfl,e,d⟩:=F.ex;refine Uw e d S len λA outer s H vs Q E g c=>?_;obtain⟨t,h,q⟩:=a cdv A outer s H vs Q E g c;exact⟨t,h.nox,q⟩
theorem Fun.binds{f:Addr}(F:Fun K x qual st f fd)
  (h:∀(kV doc pm:Value) (an:Go) (cdv ct:Value) (G:Do),G.length=ps.length->bindArgs (PySem.W.fnOf x qual (Dv st) (Cz st) (AR st) .none kV doc pm an cdv ct) ⟨G,[]⟩=pure (ps.zip G)):Fj K fd ps []:=by
 obtain⟨oc,od,kV,doc,pm,an,cdv,ct,osl,rfl,c,a⟩:=F.ex;exact .all (h kV doc pm an cdv ct)
theorem OB{f:Addr}{i:Value}{h g:Go}{d:Array Ex}{kV doc e a ct:Value}(l:K.lookup f\⟨i,h,.func (PySem.W.fnOf x qual (Dv st) (Cz st) (AR st) .none kV doc e g a ct),d⟩)
  (c:PySem.W.codeIn K a qual=true) (k:PySem.W.keepIn K (.ref f)=true):Fun K x qual st f (PySem.W.fnOf x qual (Dv st) (Cz st) (AR st) .none kV doc e g a ct):=⟨⟨i,h,kV,doc,e,g,a,ct,d,rfl,l,c⟩,k⟩
end
theorem FH{k:Nat}(a:Room k A):A.units+1<cLine:=Nat.lt_of_le_of_lt (Nat.add_le_add_left (by decide:1<=64) _) a.units
theorem C0(h:n<=1000):n<sizeLine:=Nat.lt_of_le_of_lt h '3'
theorem pv(i:Nat)(e:X.N[i]?\x:=by rfl)(c:Cw X.env.scope x:=by trivial)(d:No x:=by decide)
  (a:N_ x:=by decide):PE X (.Name x pos) (CV i):=Ds e c d a
theorem BP{c A B:Prop}[Decidable c](h1:c->A)(h2:¬c->B):if c then A else B:=by
 by_cases h:c
 ·rw[aC h];exact h1 h
 ·rw[aB h];exact h2 h
def CY(H H':Hp):Prop:=∀b o,H b\o->H' b\o
theorem CY.trans(a:CY H H1)(b:CY H1 H2):CY H H2:=λc o h=>b c o (a c o h)
theorem CY.free(e:CY H H'){l:Addr}(h:H' l=Option.none):H l=Option.none:=by
 cases q:H l with
 |none=>rfl
 |some o =>
  rw[e l o q]at h;cases h
theorem CY.seq{K:Fg}{xs:dG}(e:CY H H')(h:Am K H a xs):Am K H' a xs:=by
 rcases h with(h|⟨o,h⟩)|h
 ·exact .inl (.inl (e _ _ h))
 ·exact .inl (.inr ⟨o,e _ _ h⟩)
 ·exact .inr h
section
variable{κ:Type}[DecidableEq κ]
theorem OC:∀{l:List κ} {k:κ},l.Nodup->¬k∈l->(l++[k]).Nodup
 |[],k,_,_=>'2'
 |a::r,k,h,c=>by
  obtain⟨h1,h2⟩:=bC.mp h;show(a::(r++[k])).Nodup;refine bC.mpr ⟨λm=>?_,OC h2 λm=>c (aF.mpr (Or.inr m))⟩;rcases bA.mp m with q|q
  ·exact h1 q
  ·exact c (aF.mpr (Or.inl (bI.mp q).symm))
end
def BQ(cells:List (Str×Addr)):List (Str×NameKind)->List (Str×Addr)->List (Str×Addr)
 |[],cs=>cs
 |(n,k)::r,cs=>BQ cells r (if(k==.free)=true then(match cells.lookup n with|some c=>(n,c)::cs|none=>cs)else cs)
theorem OD(h:∀y∈scope.names,y.2=NameKind.free->∃c,env.cells.lookup y.1\c):closureFor scope env=pure (BQ env.cells scope.names []):=by
 simp only[closureFor];have all:∀(l:List (Str×NameKind)) (f:List (Str×Addr)),(∀y∈l,y.2=NameKind.free->∃c,env.cells.lookup y.1\c) ->
   (forIn l f λ(x:Str×NameKind) (r:List (Str×Addr))=>if(x.2==NameKind.free)=true then do let a <-cellOf env x.1;pure (ForInStep.yield ((x.1,a)::r))else pure (ForInStep.yield r))=(pure (BQ env.cells l f):Sem _):=by
  intro l
  induction l with
  |nil=>intro f _;rfl
  |cons y r i =>
   intro f j;obtain⟨n,k⟩:=y;have o:∀y∈r,y.2=NameKind.free->∃c,env.cells.lookup y.1\c:=λy m=>j y (bT _ m);rw[forIn_cons];by_cases g:(k==NameKind.free)=true
   ·obtain⟨c,d⟩:=j (n,k) cA (~~~g);have d:env.cells.lookup n\c:=d;have e:cellOf env n=pure c:=by unfold cellOf;rw[d]
    simp only[g,dC,e,BQ,d];exact i _ o
   ·simp only[g,BQ];exact i _ o
 exact(aT (λz=>z >>= λr=>(pure r:Sem (List (Str×Addr)))) (all scope.names [] h)).trans rfl
theorem Gq{a:List (Str×Addr)}{x:Str}{c:Addr}:∀{names:List (Str×NameKind)} {cs:List (Str×Addr)},(BQ a names cs).lookup x\c->a.lookup x\c\/cs.lookup x\c
 |[],cs,h=>.inr h
 |(n,k)::r,cs,h=>by
  unfold BQ at h;rcases Gq (names:=r) h with q|q
  ·exact .inl q
  ·split at q
   ·cases f:a.lookup n with
    |none=>rw[f]at q;exact .inr q
    |some g =>
     rw[f]at q;dsimp only at q;rw[lookup_cons]at q;cases d:x==n with
     |true =>
      rw[d]at q;have e:x=n:=by simpa using d
      subst e;exact .inl (f.trans q)
     |false=>rw[d]at q;exact .inr q
   ·exact .inr q
theorem OE{a:List (Str×Addr)}{x:Str}:∀{names:List (Str×NameKind)} {cs:List (Str×Addr)},(cs.lookup x).isSome=true->((BQ a names cs).lookup x).isSome=true
 |[],_,h=>h
 |(n,k)::r,cs,h=>by
  unfold BQ;refine OE (names:=r) ?_;split
  ·cases d:a.lookup n with
   |none=>exact h
   |some e =>
    dsimp only;rw[lookup_cons];cases c:x==n<;>first|exact h|rfl
  ·exact h
theorem Gr{a:List (Str×Addr)}{x:Str}{c:Addr}(d:a.lookup x\c):∀{names:List (Str×NameKind)} {cs:List (Str×Addr)},(x,NameKind.free)∈names->((BQ a names cs).lookup x).isSome=true
 |(n,k)::r,cs,h=>by
  unfold BQ;rcases aF.mp h with e|h
  ·cases e;refine OE (names:=r) ?_;rw[aC (by rfl),d];dsimp only;rw[lookup_cons,beq_self_eq_true];rfl
  ·exact Gr d (names:=r) h
theorem OF{env:Env}{x:Str}:∀{names:List (Str×NameKind)},(∀y∈names,y.2≠NameKind.cell) ->
  let l:=(names.map λ(n,k)=>if(k==NameKind.free&&env.scope.kind==.function&&env.kindOf n==some .cell)then(n,NameKind.cell)else(n,k)).lookup x
  (l\.cell\/l\.free)->(x,NameKind.free)∈names
 |[],_,h=>by rcases h with h|h<;>simp at h
 |(n,k)::r,f,h=>by
  have d:=@OF env x r λy m=>f y (bT _ m);simp only[map_cons]at h d;by_cases c:(k==NameKind.free&&env.scope.kind==.function&&env.kindOf n==some .cell)=true
  ·rw[aC c,lookup_cons]at h;have g:k=.free:=by
    rw[Bool.and_assoc,cB]at c;simpa using c.1
   cases a:x==n with
   |true =>
    have e:x=n:=by simpa using a
    subst e;rw[g];exact cA
   |false=>rw[a]at h;exact bT _ (d h)
  ·rw[aB c,lookup_cons]at h;cases a:x==n with
   |true =>
    have e:x=n:=by simpa using a
    subst e;rw[a]at h;rcases h with h|h
    ·exact bS (oI h) (f (x,k) cA)
    ·rw[oI h];exact cA
   |false=>rw[a]at h;exact bT _ (d h)
theorem Ku{env:Env}:∀{names:List (Str×NameKind)} {x:Str},names.lookup x\.free ->
  let l:=(names.map λ(n,k)=>if(k==NameKind.free&&env.scope.kind==.function&&env.kindOf n==some .cell)then(n,NameKind.cell)else(n,k)).lookup x
  (l\.cell\/l\.free)
 |[],_,h=>by simp at h
 |(n,k)::r,x,h=>by
  have c:=@Ku env r x;simp only[map_cons]at c ⊢;by_cases d:(k==NameKind.free&&env.scope.kind==.function&&env.kindOf n==some .cell)=true
  ·rw[aC d,lookup_cons];cases a:x==n with
   |true=>exact .inl rfl
   |false =>
    rw[lookup_cons,a]at h;exact c h
  ·rw[aB d,lookup_cons];cases a:x==n with
   |true =>
    rw[lookup_cons,a]at h;exact .inr h
   |false =>
    rw[lookup_cons,a]at h;exact c h
structure CompP where
 cl:List (Str×Addr)
 C:Addr
 s:Shared
 H:Hp
 fp:Ha
 qA:List (Addr×Obj)
def Cx.comp(X:Cx)(N':At)(scope:Scope)(p:CompP):Cx where
 prog:=X.prog
 w:=X.w
 K:=X.K
 mg:=X.mg
 base:=X.base
 A:=X.A
 N:=N'
 s₀:=p.s
 H₀:=p.H
 env:=compEnvC scope p.cl p.C X.env
 outer:=X.stack
 stack:=X.stack
 ex:=p.fp
 fn:=λ_=>false
 calm:=X.calm
 pn:=X.pn++p.qA
 xe:=λ_ _=>False
structure CompScope(N:At)(sc:Scope)(N':At)(qD:List (Option Nat))(scope:Scope):Prop where
 kind:scope.kind=.function
 nocell:∀y∈scope.names,y.2≠NameKind.cell
 names:∀y∈scope.names,y.2=NameKind.local->scope.names.lookup y.1\.local
 free:∀y∈scope.names,y.2=NameKind.free->scope.names.lookup y.1\.free
 has:∀y∈scope.names,y.2=NameKind.free->(sc.names.lookup y.1\.cell\/sc.names.lookup y.1\.free)
 len:qD.length=N'.length
 cap:∀q∈qD.zip N',q.1=none\/(N[q.1.getD 0]?\q.2/\(q.2,NameKind.free)∈scope.names)
def picked(Y:St)(qD:List (Option Nat)):St:=qD.map λo=>match o with|none=>none|some j=>(Y[j]?).join
def Ej(X:Cx)(ifs:List Expr)(t:TT):Prop :=
 ∀(qA:List (Addr×Obj)) (s:Shared) (Y:St) (H:Hp) (Q:Bool->Hp->Prop),Inv X qA Y H s->t Y H Q ->
  'B' (forIn ifs true λc r=>if r=true then do let ok <-isTrue c X.env (eval c X.env);pure (ForInStep.yield ok)else pure (ForInStep.yield r)) (TP X qA Y Q) X.xe s
def Vl:TT:=λ_ H Q=>Q true H
theorem OG:Ej X [] Vl:=λqA s Y H Q I h=>wpAny_tests_nil ⟨H,I,h⟩
theorem Vm{t:TT}(h:PT X c t):Ej X [c] t:=λqA s Y H Q I q=>wpAny_tests_one (h qA s Y H Q I q)
theorem Vn{R:Result->Shared->Prop}{a:Expr}{it cf:Value}(I:Nat->Shared->Prop)
  (turn:∀n s,I n s->'C' (pyNext it) (λr s₁=>match r with
   |none=>R (.ok .next) s₁
   |some v=>'C' (letOwnedTupleGo a it v) (λ_ e=>'C' (assign a env v) (λ_ s₂ =>
     'C' (forIn ifs true λc r=>if r=true then do let ok <-isTrue c env (eval c env);pure (ForInStep.yield ok)else pure (ForInStep.yield r)) (λok d =>
      if ok=true then 'C' (eval ce env) (λx g =>
       'C' (call (.builtin "list.append") [cf,x]) (λ_ f=>∃m,m<n/\I m f) '9' g) '9' d
      else∃m,m<n/\I m d) '9' s₂) '9' e) '9' s₁) '9' s)
  (n:Nat) (h:I n s) :
  codeAny (model prog w) A (.compLoop (.ListComp ce [⟨a,iter,ifs,0⟩] scope pos) 0 it cf env) R s:=by
 refine codeAny_loop rfl I (λn s u=>?_) n h;show wpAny _ A ((compTurn (.ListComp ce [⟨a,iter,ifs,0⟩] scope pos) 0 it cf env).onRaise (λx=>do noteFrame x env;theTreesLotGoes x)) _ _ s;refine wpAny_noted ?_;rw[compTurn_list];refine wB (wpAny_standAt (wB (bL (turn n s u) (λr s₁ j=>?_) λ_ _ h'=>h'.elim)));cases r with
 |none=>exact wP j
 |some v =>
  refine wB (bL j (λ_ e l=>?_) λ_ _ h'=>h'.elim);refine wB (bL l (λ_ s₂ q=>wB (bL q (λok d i=>?_) λ_ _ h'=>h'.elim)) λ_ _ h'=>h'.elim);cases ok with
  |false=>exact wP ⟨rfl,i⟩
  |true =>
   exact wB (wB (bL i (λx g p=>wB (bL p (λ_ f o=>wP (wP ⟨rfl,o⟩)) λ_ _ h'=>h'.elim)) λ_ _ h'=>h'.elim))
def Kv(ρ:It)(qD:List (Option Nat))(g:TG)(tt:TT)(te:TE)(Y:St)(Q:VK)(H1:Hp):Prop:=∀D,H1 D=none->∃W:Nat->Nat->dG->Hp->Prop,(∃m,W 0 m [] (AD H1 D (.lst []))) /\
 ∀i m ys H2,W i m ys H2->H2 D\(.lst ys)/\((ρ.stop i H2/\Q (.ref D) H2)\/(ρ.go i H2/\∃M:dG->Hp->Prop,(∀zs H',M zs H'->∃m',m'<m/\W (i+1) m' zs H')/\∀x H3,ρ.yld i H2 x H3->g x (L2.picked Y qD) H3 λσ4 H4=>tt σ4 H4 λb H5 =>
  if b=true then te σ4 H5 λy H6=>H6 D\(.lst ys)/\ys.length<sizeLine/\M (ys++[y]) (AD H6 D (.lst (ys++[y])))
  else M ys H5))
def Fq(wi:TI)(qD:List (Option Nat))(g:TG)(tt:TT)(te:TE):TE:=λY H Q=>wi Y H λρ H1=>Kv ρ qD g tt te Y Q H1
def Ek(qD:List (Option Nat))(g:TG):Prop:=∀(Y:St) (x:V) (H:Hp) (Q:St->Hp->Prop),g x (L2.picked Y qD) H Q->g x (L2.picked Y qD) H λσ' H'=>Q σ' H'/\∀(k:Nat) v,(L2.picked Y qD)[k]?\(some v)->σ'[k]?\(some v)
theorem Fs(h:qD[i]?\none):(L2.picked Y qD)[i]?\none:=by
 unfold L2.picked;rw[bO,h];rfl
theorem OH(h:qD[i]?\none):Ek qD (CJ i):=λY x H Q q=>⟨q,λk v e=>by
 have a:i≠k:=λz=>by subst z;rw[Fs h]at e;cases e
 rw[bV a];exact e⟩
theorem Vo{K:Fg}(h:qD[i]?\none)(h':qD[j]?\none):Ek qD (FA K 2 (IQ (CJ i) (IQ (CJ j) KZ))):=by
 rintro Y x H Q ⟨a,xs,rfl,f,g,v,r,rfl,v',l,rfl,rfl,q⟩;refine⟨a,_,rfl,f,g,v,_,rfl,v',_,rfl,rfl,q,λk v e=>?_⟩;have d:i≠k:=λz=>by subst z;rw[Fs h]at e;cases e
 have c:j≠k:=λz=>by subst z;rw[Fs h']at e;cases e
 rw[bV c,bV d];exact e
theorem Dx:∀(names:List (Str×NameKind)) (n:Nat) (cf:List (Str×Addr)),cellsFrom n names cf=cellsFrom n names []++cf
 |[],n,cf=>rfl
 |(x,k)::r,n,cf=>by
  unfold cellsFrom;split
  ·rw[Dx r (n+1) ((x,n)::cf),Dx r (n+1) [(x,n)],bK];rfl
  ·exact Dx r n cf
theorem Ic{x:Str}:∀{names:List (Str×NameKind)} {n:Nat},(x,NameKind.cell)∈names->∃c,(x,c)∈cellsFrom n names []
 |(y,k)::r,n,h=>by
  unfold cellsFrom;split
  ·rw[Dx];rcases aF.mp h with e|h
   ·cases e;exact⟨n,cC _ cA⟩
   ·obtain⟨c,d⟩:=Ic (n:=n+1) h;exact⟨c,mem_append_left _ d⟩
  ·rename_i a;rcases aF.mp h with e|h
   ·cases e;exact bS rfl a
   ·exact Ic h
theorem Kw{x:Str}{c:Addr}:∀{names:List (Str×NameKind)} {n:Nat},(x,c)∈cellsFrom n names []->(x,NameKind.cell)∈names
 |[],n,h=>by cases h
 |(y,k)::r,n,h=>by
  unfold cellsFrom at h;split at h
  ·rename_i a;rw[Dx]at h;rcases bA.mp h with h|h
   ·exact bT _ (Kw h)
   ·rw[bI]at h;cases h;have:k=.cell:=by simpa using a
    rw[this];exact cA
  ·exact bT _ (Kw h)
theorem El{α f:Type}[BEq α][LawfulBEq α]{l:List (α×f)}{x:α}{c:f}(h:l.lookup x\c):(x,c)∈l:=by
 induction l with
 |nil=>cases h
 |cons q r g =>
  obtain⟨a,b⟩:=q;rw[lookup_cons]at h;cases d:x==a with
  |true =>
   rw[d]at h;have e:x=a:=by simpa using d
   subst e;injection h with h
   subst h;exact cA
  |false=>rw[d]at h;exact bT _ (g h)
theorem OJ{α d:Type}[BEq α][LawfulBEq α]{l:List (α×d)}{x:α}{c:d}(h:(x,c)∈l):(l.lookup x).isSome=true:=by
 induction l with
 |nil=>cases h
 |cons q r f =>
  obtain⟨a,b⟩:=q;rw[lookup_cons];cases g:x==a with
  |true=>rfl
  |false =>
   rcases aF.mp h with e|h
   ·cases e;simp at g
   ·exact f h
theorem Gs{α c:Type}[BEq α]{l r:List (α×c)}{x:α}:(l++r).lookup x=(l.lookup x).or (r.lookup x):=by
 induction l with
 |nil=>simp
 |cons q l d =>
  obtain⟨a,b⟩:=q;rw[cons_append,lookup_cons,lookup_cons,d];cases x==a<;>rfl
section
variable{M:Model}
theorem Vp{globals:Addr}{cl:List (Str×Addr)}{outer:Env}{Q:Env->Shared->Prop}
  (f:Q (newEnv scope 'H' globals (cellsFrom ('H'+1) scope.names cl) qual none .none (some outer) builtinsNs) { s with heap:=pushCells (s.heap.push { cls:=.type "dict",data:=.dict #[] }) scope.names }) :
  wpAny M A (newFunctionEnv scope globals cl [] qual none .none (some outer)) Q E s:=by
 simp only[newFunctionEnv,Option.isSome_some,dC];refine wB (wpAny_alloc (wB (wpAny_layCells _ (λname a d=>by cases c:a==NameKind.cell<;>simp[c]) _ _ _ _ ?_)));refine wB (wP (wP ?_));have e:(s.heap.push { cls:=.type "dict",data:=.dict #[] }).objs.size='H'+1:=Heap.size_push ..;rw[<-e]at f;exact f
end
def Cx.compC(X:Cx)(N':At)(scope:Scope)(p:CompP):Cx:={ X.comp N' scope p with fn:=λx=>scope.names.lookup x==some .cell }
structure CompScopeC(N:At)(sc:Scope)(N':At)(qD:List (Option Nat))(scope:Scope):Prop where
 kind:scope.kind=.function
 cell:∀y∈scope.names,y.2=NameKind.cell->scope.names.lookup y.1\.cell
 names:∀y∈scope.names,y.2=NameKind.local->scope.names.lookup y.1\.local
 free:∀y∈scope.names,y.2=NameKind.free->scope.names.lookup y.1\.free
 has:∀y∈scope.names,y.2=NameKind.free->(sc.names.lookup y.1\.cell\/sc.names.lookup y.1\.free)
 len:qD.length=N'.length
 cap:∀q∈qD.zip N',q.1=none\/(N[q.1.getD 0]?\q.2/\(q.2,NameKind.free)∈scope.names)
theorem Vq{env:Env}{x:Str}{names:List (Str×NameKind)} :
  let l:=(names.map λ(n,k)=>if(k==NameKind.free&&env.scope.kind==.function&&env.kindOf n==some .cell)then(n,NameKind.cell)else(n,k)).lookup x
  (l\.cell\/l\.free)->(x,NameKind.free)∈names\/(x,NameKind.cell)∈names:=by
 intro l h;have a:∃k,(x,k)∈(names.map λ(n,k)=>if(k==NameKind.free&&env.scope.kind==.function&&env.kindOf n==some .cell)then(n,NameKind.cell)else(n,k))/\(k=.cell\/k=.free):=by
  rcases h with h|h
  ·exact⟨_,El h,.inl rfl⟩
  ·exact⟨_,El h,.inr rfl⟩
 obtain⟨k,a,d⟩:=a;obtain⟨⟨n,k0⟩,h1,h2⟩:=bU.mp a;dsimp only at h2;split at h2
 ·rename_i c;cases h2;rw[Bool.and_assoc,cB]at c;have:k0=.free:=by simpa using c.1
  subst this;exact .inl h1
 ·cases h2;rcases d with rfl|rfl
  ·exact .inr h1
  ·exact .inl h1
theorem Vr{s4:Shared}
  (S:CompScopeC N sc N' qD scope) (hN:X.N=N) (M:X.env.scope=sc) (I:Inv X qA Y H s) (hf:∀b∈fp,CC X qA H b) (T:∀b∈fp,∃o,'F' b\o)
  (Q:∀b o,'F' b\o->s4.heap.get? b\o) (hn:s4.heap.Ns 'H' m) (ho:s4.os=s.os) (hg:s4.gens=s.gens) (co:CellsOk s4.heap ('H'+1) (cellsFrom ('H'+1) scope.names [])) :
  Inv (X.compC N' scope ⟨cellsFrom ('H'+1) scope.names (BQ X.env.cells scope.names []),'H',s,H,fp,qA⟩) [] (L2.picked Y qD) H s4:=by
 have hC:'H'<='H':=aQ _;have ok:=I.ok;have σ:∀y,(y,NameKind.free)∈scope.names->∃c,X.env.cells.lookup y\c:=λy hy=>by
  have q:=S.has (y,.free) hy rfl;rw[<-M]at q;exact ok.has y q
 have A:∀y c,(BQ X.env.cells scope.names []).lookup y\c->X.env.cells.lookup y\c:=λy c e=>by
  rcases Gq e with q|q
  ·exact q
  ·simp at q
 have a0:∀x c,X.env.cells.lookup x\c->c<'H':=λx c e=>by
  obtain⟨v,q⟩:=I.cell x c e;exact q.lt
 have two:∀y c,(cellsFrom ('H'+1) scope.names (BQ X.env.cells scope.names [])).lookup y\c->(y,c)∈cellsFrom ('H'+1) scope.names []\/X.env.cells.lookup y\c:=λy c e=>by
  rw[Dx,Gs]at e;cases h:(cellsFrom ('H'+1) scope.names []).lookup y with
  |some d=>rw[h]at e;injection e with e;subst e;exact .inl (El h)
  |none=>rw[h]at e;exact .inr (A y c e)
 have f:∀y c,(y,c)∈cellsFrom ('H'+1) scope.names []->'H'+1<=c:=λy c e=>(co.empty y c e).2;refine⟨⟨ok.mod,S.kind,ok.glob,ok.blt,hC,λx y c e1 g=>?_,λx hx=>?_,λx c z e=>?_,ok.hd,ok.frames,.inl rfl, λb C=>⟨λz=>?_,λx c e=>?_⟩,I.bs,aR ok.bsz I.sz,λb o e C=>?_,λb C z=>?_,I.stack,I.stkFree⟩, ho,by rw[hg];exact I.bare,Un.kept Q,⟨m,hn,λi x v e1 g e3=>?_⟩,λx c e=>?_,I.hok.fresh hC,λx c e=>?_,λp hp=>?_,I.hok.kept Q,?_⟩
 ·rcases two x c e1 with a1|a1<;>rcases two y c g with a2|a2
  ·exact name_of_addr co.apart a1 a2
  ·exact bS (aU (a0 y c a2) (aR (cR _) (f x c a1))) (aX _)
  ·exact bS (aU (a0 x c a1) (aR (cR _) (f y c a2))) (aX _)
  ·exact ok.inj x y c a1 a2
 ·have hx':(x,NameKind.free)∈scope.names\/(x,NameKind.cell)∈scope.names:=Vq hx;show∃c,(cellsFrom ('H'+1) scope.names (BQ X.env.cells scope.names [])).lookup x\c;rw[Dx,Gs];rcases hx' with hx'|hx'
  ·obtain⟨c,us⟩:=σ x hx';obtain⟨c',w⟩:=Option.isSome_iff_exists.mp (Gr (cs:=[]) us hx');cases(cellsFrom ('H'+1) scope.names []).lookup x with
   |some d=>exact⟨d,rfl⟩
   |none=>exact⟨c',w⟩
  ·obtain⟨c,us⟩:=Ic (n:='H'+1) hx';obtain⟨d,B⟩:=Option.isSome_iff_exists.mp (OJ us);rw[B];exact⟨d,rfl⟩
 ·have z:(scope.names.lookup x==some NameKind.cell)=true:=z;have hz:(x,NameKind.cell)∈scope.names:=El (~~~z);have e:(cellsFrom ('H'+1) scope.names (BQ X.env.cells scope.names [])).lookup x\c:=e;obtain⟨c0,a7⟩:=Ic (n:='H'+1) hz;obtain⟨d,B⟩:=Option.isSome_iff_exists.mp (OJ a7);rw[Dx,Gs,B]at e;injection e with e
  subst e;exact aR (cR _) (f x d (El B))
 ·obtain⟨o,e⟩:=T b C;have e':b='H':=z;exact bS (bN e) (by rw[e'];exact aX _)
 ·rcases two x c e with a1|a1
  ·obtain⟨o,eo⟩:=T b C;exactλz=>bS (aU (bN eo) (aR (cR _) (f x c a1))) (by rw[z];exact aX _)
  ·exact(hf b C).2.2.2.2.1 x c a1
 ·rcases(hf b C).2.2.2.1 with q|q
  ·exact ok.noex b o e q
  ·exact bS (aU (bN e) (aR ok.bsz q)) (aX _)
 ·rcases aF.mp (I.stkSub b z)with q|q
  ·exact(hf b C).2.1 q
  ·exact(hf b C).2.2.1 q
 ·-- a ρ name
  have hi:i<qD.length:=by
   rcases cE i qD.length with q|q
   ·exact q
   ·unfold L2.picked at g;rw[bQ (~~~q)]at g;cases g
  obtain⟨o,O⟩:∃o,qD[i]?\o:=⟨qD[i],by simp[hi]⟩;unfold L2.picked at g;rw[bO,O]at g;cases o with
  |none=>cases g
  |some j =>
   have g:some ((Y[j]?).join)\(some v):=g;have e1:N'[i]?\x:=e1;have hz:(some j,x)∈qD.zip N':=by
    refine aM (i:=i) ?_;rw[getElem?_zip_eq_some];exact⟨O,e1⟩
   obtain⟨c1,c2⟩:=(S.cap _ hz).resolve_left '5';have c1:N[j]?\x:=c1;have e3:Y[j]?\(some v):=by
    have q:=oI g;cases L:Y[j]? with
    |none=>rw[L]at q;cases q
    |some y=>rw[L]at q;exact aT some q
   rw[<-hN]at c1;obtain⟨m0,a9,a5⟩:=I.loc;have kq:=S.has (x,.free) c2 rfl;rw[<-M]at kq;obtain⟨u,r,l⟩:=a5 j x v c1 e3 (kq.elim (λz=>.inr (.inl z)) λz=>.inr (.inr z));refine⟨u,r,?_⟩;obtain⟨c,us⟩:=σ x c2;obtain⟨c',w⟩:=Option.isSome_iff_exists.mp (Gr (cs:=[]) us c2);have a8:c'=c:=oI ((A x c' w).symm.trans us);subst a8;have a6:(cellsFrom ('H'+1) scope.names (BQ X.env.cells scope.names [])).lookup x\c':=by
    rw[Dx,Gs];cases hl:(cellsFrom ('H'+1) scope.names []).lookup x with
    |none=>exact w
    |some d =>
     have q1:=S.cell _ (Kw (El hl)) rfl;have q2:=S.free (x,.free) c2 rfl;rw[q1]at q2;cases q2
   have a3:(compEnvC scope (cellsFrom ('H'+1) scope.names (BQ X.env.cells scope.names [])) 'H' X.env).kindOf x\.cell\/(compEnvC scope (cellsFrom ('H'+1) scope.names (BQ X.env.cells scope.names [])) 'H' X.env).kindOf x\.free:=by
    exact Ku (S.free (x,.free) c2 rfl)
   rcases l with⟨k,_⟩|⟨_,aa,U,E⟩
   ·exfalso;have k:X.env.scope.names.lookup x\.local:=k;rcases kq with z|z
    ·rw[k]at z;cases z
    ·rw[k]at z;cases z
   ·rw[us]at U;cases U;obtain⟨oc,D,B⟩:=E;exact .inr ⟨a3,c',a6,oc,Q _ _ D,B⟩
 ·rcases two x c e with a1|a1
  ·exact⟨none,(co.empty x c a1).1⟩
  ·obtain⟨v,oc,D,B⟩:=I.cell x c a1;exact⟨v,oc,Q _ _ D,B⟩
 ·rcases two x c e with a1|a1
  ·exact I.hok.fresh (aR (cR _) (f x c a1))
  ·exact I.freeC x c a1
 ·have a4:p∈X.pn++qA:=by
   have hp:p∈(X.pn++qA)++[]:=hp;simpa using hp
  obtain⟨e,n,ne,nf,d⟩:=I.pin p a4;refine⟨Q _ _ e,n,λz=>?_,λz=>?_,d⟩
  ·have z:p.1='H':=z;exact bS (bN e) (by rw[z];exact aX _)
  ·rcases aF.mp (I.stkSub _ z)with q|q
   ·exact ne q
   ·exact nf q
 ·unfold L2.picked;rw[aA];exact S.len
theorem OK{Q:VK}{a0:Option (Value->Sem Unit)}{QQ:VS}
  (S:CompScopeC N sc N' qD scope) (hN:X.N=N) (a9:X.env.scope=sc) (hc:X.calm=true) (hi:PI X tg iter wi) (hk:Ek qD g)
  (hg:∀p,PG (X.compC N' scope p) tg g) (ht:∀p,Ej (X.compC N' scope p) ifs tt) (he:∀p,PE (X.compC N' scope p) ce te) (hs:∀x,foldedSetIterable iter X.env x=pure x)
  (I:Inv X qA Y H s) (h:Fq wi qD g tt te Y H Q)
  (fin:∀(D C:Addr) (H':Hp) (s':Shared) (m:Str->Ex),Inv X qA Y H' s'->Q (.ref D) H'->H' C=none->C≠X.env.locals->X.s₀.heap.objs.size<=C->(∀x c,X.env.cells.lookup x\c->c≠C)->(∀p∈X.pn++qA,p.1≠C)->s'.heap.Ns C m ->
   compPost (model X.prog X.w) X.A X.xe a0 QQ (.ref D) C (.ok .next) s') :
  'B' (comprehension (.ListComp ce [⟨tg,iter,ifs,0⟩] scope pos) scope X.env (firstIterPos [⟨tg,iter,ifs,0⟩] pos) (newList []) false (eval iter X.env) a0) QQ X.xe s:=by
 have aa:∀y∈scope.names,y.2=NameKind.free->∃c,X.env.cells.lookup y.1\c:=λy hy e=>by
  have q:=S.has y hy e;rw[<-a9]at q;exact I.ok.has y.1 q
 refine wpAny_comprehension_free rfl hs (OD aa) S.kind S.names (AH (hi qA s Y H _ I h) λv s1 h1=>AH h1 λau f h2=>?_);obtain⟨it,fp,tn,ρ,H2,e,σ,T,a2,E,q⟩:=h2;subst e;have ae:H2 f.heap.objs.size=none:=σ.fresh;obtain⟨W,⟨m0,w0⟩,a5⟩:=q f.heap.objs.size ae;refine cG (T:="list") (Vp ?_);dsimp only;have I3:Inv X qA Y (AD H2 f.heap.objs.size (.lst [])) { f with heap:=f.heap.push { cls:=.type "list",dict:=none,data:=.seq ([]:Do).toArray } } :=
  σ.lnew (t':=f.toks) (qG:=[]) .nil (cD _)
 generalize O:f.heap.push { cls:=.type "list",dict:=none,data:=.seq ([]:Do).toArray }=G3 at I3 ⊢;have f3:∀b∈fp,CC X qA (AD H2 f.heap.objs.size (.lst [])) b:=λb a=>by
  obtain⟨o,e,_⟩:=T.obj _ _ a2 b a;refine⟨?_,(E b a).2⟩;rw[AI (bX (bN e))];exact(E b a).1
 have a4:∀b∈fp,∃o,G3.get? b\o:=λb a=>by
  obtain⟨o,e,_⟩:=T.obj _ _ a2 b a;exact⟨o,O▸aS _ e⟩
 have a3:∀b o,G3.get? b\o->(pushCells (G3.push { cls:=.type "dict",data:=.dict #[] }) scope.names).get? b\o:=λb o e=>pushCells_keeps _ _ b o (aS _ e);have j:(pushCells (G3.push { cls:=.type "dict",data:=.dict #[] }) scope.names).Ns G3.objs.size (λ_=>none):=(Heap.Ns.new G3 (.type "dict")).keeps (pushCells_keeps _ _);have co:CellsOk (pushCells (G3.push { cls:=.type "dict",data:=.dict #[] }) scope.names) (G3.objs.size+1) (cellsFrom (G3.objs.size+1) scope.names []):=by
  have e:(G3.push { cls:=.type "dict",data:=.dict #[] }).objs.size=G3.objs.size+1:=Heap.size_push ..;have:=cellsFrom_ok scope.names (G3.push { cls:=.type "dict",data:=.dict #[] }) (G3.objs.size+1) [] ⟨λ_ _ hm=>(nomatch hm),List.Pairwise.nil⟩ (by rw[e];exact aQ _)
  rwa [e]at this
 generalize av:pushCells (G3.push { cls:=.type "dict",data:=.dict #[] }) scope.names=h₁ at a3 j co ⊢;have I4:=Vr (s4:={ f with heap:=h₁ }) S hN a9 I3 f3 a4 a3 j rfl rfl co;have a8:tn 0 h₁:=T.keep _ _ _ a2 λb a o e=>a3 b o (O▸aS _ e);have L:f.heap.objs.size<=G3.objs.size:=by rw[<-O,Heap.size_push];exact cR _
 generalize B:(⟨cellsFrom (G3.objs.size+1) scope.names (BQ X.env.cells scope.names []),G3.objs.size,{ f with heap:=G3 },AD H2 f.heap.objs.size (.lst []),fp,qA⟩:CompP)=p at I4;have al:∀b∈fp,∀y c,(X.compC N' scope p).env.cells.lookup y\c->c≠b:=λb a y c e=>by
  subst B;have e:(cellsFrom (G3.objs.size+1) scope.names (BQ X.env.cells scope.names [])).lookup y\c:=e;rw[Dx,Gs]at e;cases h:(cellsFrom (G3.objs.size+1) scope.names []).lookup y with
  |some d =>
   rw[h]at e;injection e with e
   subst e;obtain⟨o,eo⟩:=a4 b a;exactλz=>bS (aU (bN eo) (aR (cR _) (co.empty y d (El h)).2)) (by rw[z];exact aX _)
  |none =>
   rw[h]at e;rcases Gq (cs:=[]) e with q|q
   ·exact(E b a).2.2.2.2.1 y c q
   ·simp at q
 have l:∀{H':Hp},(∀b∈fp,H' b=none)->∀b∈fp,CC (X.compC N' scope p) [] H' b:=λhn b a=>by
  refine⟨hn b a,λz=>?_,λz=>?_,.inl (by subst B;exact a),λx c e=>al b a x c e,λq hq=>?_⟩
  ·subst B;obtain⟨o,e⟩:=a4 b a;have z:b=G3.objs.size:=z;exact bS (bN e) (by rw[z];exact aX _)
  ·subst B;rcases aF.mp (σ.stkSub b z)with q|q
   ·exact(E b a).2.1 q
   ·exact(E b a).2.2.1 q
  ·refine(E b a).2.2.2.2.2 q ?_;subst B;have hq:q∈(X.pn++qA)++[]:=hq;simpa using hq
 have U:codeAny (model X.prog X.w) X.A (.compLoop (.ListComp ce [⟨tg,iter,ifs,0⟩] scope pos) 0 (.ref it) (.ref f.heap.objs.size) (X.compC N' scope p).env)
   (compPost (model X.prog X.w) X.A X.xe a0 QQ (.ref f.heap.objs.size) G3.objs.size) { f with heap:=h₁ }:=by
  refine Vn (λn s'=>∃i ys H',Inv (X.compC N' scope p) [] (L2.picked Y qD) H' s'/\tn i s'.heap/\(∀b∈fp,H' b=none)/\W i n ys H') ?_ m0 ⟨0,[],_,I4,a8,λb a=>(f3 b a).1,w0⟩;rintro n s5 ⟨i,ys,H5,I5,a7,ac,w5⟩;obtain⟨hD,am⟩:=a5 i n ys H5 w5;rcases am with⟨a6,qn⟩|⟨go,M,hM,step⟩
  ·refine AH (T.done (X.compC N' scope p) rfl rfl rfl hc i [] s5 _ H5 _ I5 (l ac) a7 a6) λr s6 zz=>?_;obtain⟨hr,I6⟩:=zz;subst hr;obtain⟨m6,aj,_⟩:=I6.loc;have un:Un (CS X.stack) fp H2 H5 f.heap s6.heap:=by
    have u1:Un (CS X.stack) fp H2 (AD H2 f.heap.objs.size (.lst [])) f.heap G3:=Un.laid (λb o e=>O▸aS _ e) (aQ _) ae;have u2:=I6.base;subst B;exact u1.trans u2
   have IO:Inv X qA Y H5 s6:=σ.call' (by have e:=I6.os;subst B;exact e) un (by have e:=I6.hok;subst B;exact e) I6.bare λb a=>⟨(E b a).2.2.2.1,(E b a).2.1,(E b a).2.2.2.2.1,(E b a).2.2.2.2.2⟩;refine fin _ _ H5 s6 m6 IO qn ?_ ?_ ?_ ?_ ?_ ?_
   ·have e:=I6.free;subst B;exact e
   ·exact Nat.ne_of_gt (aU σ.lt L)
   ·exact aR σ.sz L
   ·intro x c e z;obtain⟨v,q⟩:=σ.cell x c e;exact bS (aU q.lt L) (by rw[z];exact aX _)
   ·intro q hq z;exact bS (aU (bN (σ.pin q hq).1) L) (by rw[z];exact aX _)
   ·subst B;exact aj
  ·refine AH (T.item (X.compC N' scope p) rfl rfl rfl hc i [] s5 _ H5 _ I5 (l ac) a7 go) λr s6 zz=>?_;obtain⟨u,hr,h6⟩:=zz;subst hr;refine AH h6 λ_ s7 zz=>?_;obtain⟨x,H7,I7,r7,y7,a1,ak⟩:=zz;have an:=I7.pinned (l ak) (T.obj _ _ a1);refine AH (hg p _ s7 _ H7 x u _ an r7 (hk Y x H7 _ (step x H7 y7))) λ_ s8 zz=>?_;obtain⟨us,H8,I8,q8,w8⟩:=zz;refine AH (ht p _ s8 us H8 _ I8 q8) λok s9 zz=>?_;obtain⟨H9,I9,q9⟩:=zz;have back:∀{H':Hp} {s':Shared},Inv (X.compC N' scope p) ([]++Ed fp s7.heap) us H' s'->∀{k:Nat} {zs:dG},M zs H' ->
     ∃m,m<n/\∃i ys H'',Inv (X.compC N' scope p) [] (L2.picked Y qD) H'' s'/\tn i s'.heap/\(∀b∈fp,H'' b=none)/\W i m ys H'':=λ{H' s'} I' {k zs} mz=>by
    obtain⟨m',hm,w'⟩:=hM _ _ mz;refine⟨m',hm,i+1,zs,H',?_,T.keep _ _ _ a1 λb a o e=>(I'.pin (b,o) (cC _ (cC _ (Ee a e)))).1,λb a=>?_,w'⟩
    ·refine(I'.unpinned).weak ?_ w8;rw[(I'.unpinned).len,I7.len]
    ·obtain⟨o,e,d⟩:=T.obj _ _ a1 b a;exact(I'.pin (b,o) (cC _ (cC _ (Ee a e)))).2.1
   cases ok with
   |false=>exact back I9 (k:=0) q9
   |true =>
    refine AH (he p _ s9 us H9 _ I9 q9) λv af zz=>?_;obtain⟨y,aq,ap,ag,ab,hz,ai⟩:=zz;refine AH (Fo (X:=X.compC N' scope p) _ af us aq (.ref f.heap.objs.size) [y] _ [v] (λ_ H'=>M (ys++[y]) H') ap rfl (.cons ag .nil) ⟨_,ys,y,rfl,rfl,ab,hz,ai⟩) λw ar zz=>?_;obtain⟨z,aw,ao,as,ah⟩:=zz;exact back ao (k:=0) ah
 subst B;exact codeAny_compStart_list U (T.self _ 0 _ _ _ a8 U)
theorem Vs{s4:Shared}{C:Addr}
  (S:CompScope N sc N' qD scope) (hN:X.N=N) (us:X.env.scope=sc) (I:Inv X qA Y H s) (σ:∀b∈fp,CC X qA H b) (a3:∀b∈fp,∃o,'F' b\o)
  (hC:'H'<=C) (L:∀b o,'F' b\o->s4.heap.get? b\o) (hn:s4.heap.Ns C m) (ho:s4.os=s.os) (hg:s4.gens=s.gens) :
  Inv (X.comp N' scope ⟨BQ X.env.cells scope.names [],C,s,H,fp,qA⟩) [] (L2.picked Y qD) H s4:=by
 have ok:=I.ok;have T:∀y,(y,NameKind.free)∈scope.names->∃c,X.env.cells.lookup y\c:=λy hy=>by
  have q:=S.has (y,.free) hy rfl;rw[<-us]at q;exact ok.has y q
 have sub:∀y c,(BQ X.env.cells scope.names []).lookup y\c->X.env.cells.lookup y\c:=λy c e=>by
  rcases Gq e with q|q
  ·exact q
  ·simp at q
 have a6:∀x c,X.env.cells.lookup x\c->c<'H':=λx c e=>by
  obtain⟨v,q⟩:=I.cell x c e;exact q.lt
 refine⟨⟨ok.mod,S.kind,ok.glob,ok.blt,hC,λx y c U f=>ok.inj x y c (sub x c U) (sub y c f),λx hx=>?_,λx c z _=>(nomatch (show false=true from z)),ok.hd,ok.frames,.inl rfl, λb A=>⟨λz=>?_,λx c e=>(σ b A).2.2.2.2.1 x c (sub x c e)⟩,I.bs,aR ok.bsz I.sz,λb o e A=>?_,λb A z=>?_,I.stack,I.stkFree⟩, ho,by rw[hg];exact I.bare,Un.kept L,⟨m,hn,λi x v U f e3=>?_⟩,λx c e=>?_,I.hok.fresh hC,λx c e=>I.freeC x c (sub x c e),λp hp=>?_,I.hok.kept L,?_⟩
 ·have E:=OF S.nocell hx;obtain⟨c,Q⟩:=T x E;exact Option.isSome_iff_exists.mp (Gr Q E)
 ·obtain⟨o,e⟩:=a3 b A;have e':b=C:=z;exact bS (aU (bN e) (e'▸hC)) (aX _)
 ·rcases(σ b A).2.2.2.1 with q|q
  ·exact ok.noex b o e q
  ·exact bS (aU (bN e) (aR ok.bsz q)) (aX _)
 ·rcases aF.mp (I.stkSub b z)with q|q
  ·exact(σ b A).2.1 q
  ·exact(σ b A).2.2.1 q
 ·-- a B name
  have hi:i<qD.length:=by
   rcases cE i qD.length with q|q
   ·exact q
   ·unfold L2.picked at f;rw[bQ (~~~q)]at f;cases f
  obtain⟨o,ρ⟩:∃o,qD[i]?\o:=⟨qD[i],by simp[hi]⟩;unfold L2.picked at f;rw[bO,ρ]at f;cases o with
  |none=>cases f
  |some j =>
   have f:some ((Y[j]?).join)\(some v):=f;have U:N'[i]?\x:=U;have hz:(some j,x)∈qD.zip N':=by
    refine aM (i:=i) ?_;rw[getElem?_zip_eq_some];exact⟨ρ,U⟩
   obtain⟨c1,c2⟩:=(S.cap _ hz).resolve_left '5';have c1:N[j]?\x:=c1;have e3:Y[j]?\(some v):=by
    have q:=oI f;cases D:Y[j]? with
    |none=>rw[D]at q;cases q
    |some y=>rw[D]at q;exact aT some q
   rw[<-hN]at c1;obtain⟨m0,a5,a2⟩:=I.loc;have kq:=S.has (x,.free) c2 rfl;rw[<-us]at kq;obtain⟨u,r,l⟩:=a2 j x v c1 e3 (kq.elim (λz=>.inr (.inl z)) λz=>.inr (.inr z));refine⟨u,r,?_⟩;obtain⟨c,Q⟩:=T x c2;obtain⟨c',O⟩:=Option.isSome_iff_exists.mp (Gr (cs:=[]) Q c2);have a4:c'=c:=oI ((sub x c' O).symm.trans Q);subst a4;have a0:(compEnvC scope (BQ X.env.cells scope.names []) C X.env).kindOf x\.cell\/(compEnvC scope (BQ X.env.cells scope.names []) C X.env).kindOf x\.free:=by
    exact Ku (S.free (x,.free) c2 rfl)
   rcases l with⟨k,_⟩|⟨_,a7,M,w⟩
   ·exfalso;have k:X.env.scope.names.lookup x\.local:=k;rcases kq with z|z
    ·rw[k]at z;cases z
    ·rw[k]at z;cases z
   ·rw[Q]at M;cases M;obtain⟨oc,g,hd⟩:=w;exact .inr ⟨a0,c',O,oc,L _ _ g,hd⟩
 ·obtain⟨v,oc,g,hd⟩:=I.cell x c (sub x c e);exact⟨v,oc,L _ _ g,hd⟩
 ·have a1:p∈X.pn++qA:=by
   have hp:p∈(X.pn++qA)++[]:=hp;simpa using hp
  obtain⟨e,n,ne,nf,d⟩:=I.pin p a1;refine⟨L _ _ e,n,λz=>?_,λz=>?_,d⟩
  ·have z:p.1=C:=z;exact bS (aU (bN e) (z▸hC)) (aX _)
  ·rcases aF.mp (I.stkSub _ z)with q|q
   ·exact ne q
   ·exact nf q
 ·unfold L2.picked;rw[aA];exact S.len
theorem OL{Q:VK}{a:Option (Value->Sem Unit)}{QQ:VS}
  (S:CompScope N sc N' qD scope) (u:X.N=N) (d:X.env.scope=sc) (r:X.calm=true) (hi:PI X tg iter wi) (l:Ek qD g)
  (n:∀p,PG (X.comp N' scope p) tg g) (i:∀p,Ej (X.comp N' scope p) ifs tt) (o:∀p,PE (X.comp N' scope p) ce te) (j:∀x,foldedSetIterable iter X.env x=pure x)
  (I:Inv X qA Y H s) (h:Fq wi qD g tt te Y H Q)
  (fin:∀(D C:Addr) (H':Hp) (s':Shared) (m:Str->Ex),Inv X qA Y H' s'->Q (.ref D) H'->H' C=none->C≠X.env.locals->X.s₀.heap.objs.size<=C->(∀x c,X.env.cells.lookup x\c->c≠C)->(∀p∈X.pn++qA,p.1≠C)->s'.heap.Ns C m ->
   compPost (model X.prog X.w) X.A X.xe a QQ (.ref D) C (.ok .next) s') :
  'B' (comprehension (.ListComp ce [⟨tg,iter,ifs,0⟩] scope pos) scope X.env (firstIterPos [⟨tg,iter,ifs,0⟩] pos) (newList []) false (eval iter X.env) a) QQ X.xe s:=by
 have e:∀p,X.compC N' scope p=X.comp N' scope p:=λp=>by
  have:(λx=>scope.names.lookup x==some NameKind.cell)=λ_=>false:=funext λx=>by
   cases h:scope.names.lookup x==some NameKind.cell with
   |false=>rfl
   |true=>exact bS rfl (S.nocell _ (El (eq_of_beq h)))
  unfold Cx.compC;rw[this];rfl
 exact OK ⟨S.kind,λy f q=>bS q (S.nocell y f),S.names,S.free,S.has,S.len,S.cap⟩ u d r hi l (λp=>e p▸n p) (λp=>e p▸i p) (λp=>e p▸o p) j I h fin
theorem OM(S:CompScope N sc N' qD scope)(z:X.calm=true)(hi:PI X tg iter wi)(v:Ek qD g)
  (w:∀p,PG (X.comp N' scope p) tg g) (n:∀p,Ej (X.comp N' scope p) ifs tt) (y:∀p,PE (X.comp N' scope p) ce te) (B:X.N=N:=by rfl) (a:X.env.scope=sc:=by rfl) (r:∀x,foldedSetIterable iter X.env x=pure x:=by rfl) :
  PE X (.ListComp ce [⟨tg,iter,ifs,0⟩] scope pos) (Fq wi qD g tt te):=by
 intro qA s Y H Q I h;rw[eval_ListComp];refine OL S B a z hi v w n y r I h λD C H' s' m IO q l j i f d u=>?_;exact⟨m,u,λh' c=>⟨.ref D,H',IO.turned (t':=s'.toks) (λb o A e=>(c.2 b A).trans e) l (Ne.symm (Ne.symm j)) (.inr i) f d,rfl,q⟩⟩
theorem Vt{r:Pos}(S:CompScope N sc N' qD scope)(l:X.N.Nodup)(n:X.N[i]?\x)(ρ:CU X.env.scope x)(hc:X.calm=true)(hi:PI X tg iter wi)(T:Ek qD g)
  (U:∀p,PG (X.comp N' scope p) tg g) (L:∀p,Ej (X.comp N' scope p) ifs tt) (he:∀p,PE (X.comp N' scope p) ce te) (hN:X.N=N:=by rfl) (d:X.env.scope=sc:=by rfl)
  (c:swapsWith (.ListComp ce [⟨tg,iter,ifs,0⟩] scope pos) (some (.Name x pos')) r.line X.env=pure true:=by rfl) (M:∀x,foldedSetIterable iter X.env x=pure x:=by rfl)
  (σ:X.fn x=true\/X.env.scope.names.lookup x\.local:=by trivial) :
  PS X (.Assign [.Name x pos'] (.ListComp ce [⟨tg,iter,ifs,0⟩] scope pos) r) (Ec (Fq wi qD g tt te) (CJ i)):=by
 intro qA s Y H D I h;rw[exec_Assign_Name_used _ _ _ _ c];refine wB (wpAny_standAt (wB ?_));show 'A' (do let _ <-comprehension (.ListComp ce [⟨tg,iter,ifs,0⟩] scope pos) scope X.env _ (newList []) false (eval iter X.env) (some (assign (.Name x pos') X.env))) _ _ s;refine wB (AH (OL (QQ:=λ_ s'=>SP X qA D .next s') S hN d hc hi T U L he M I h λD' C H' s' m IO q us w E u B Q=>?_) λ_ s' O=>wP (wP O));refine wpAny_assign_Name (KU (v:=V.ref D') IO l n ρ rfl (λy I2 zz=>?_) σ);obtain⟨a,f,ha⟩:=zz;have A:C≠a:=by
  rcases ha with e|e
  ·rw[e];exact w
  ·exactλz=>u _ _ e z.symm
 refine⟨m,Q.sameBut f A,λh' j=>⟨_,H',I2.turned (t':=y.toks) (λb o hb e=>(j.2 b hb).trans e) us w (.inr E) u B,q⟩⟩
section
variable{K:Fg}{xs:dG}{Q:VK}{ρ:It}
theorem Vu{y:Nat->V->Prop}(Pv:Addr->Nat->dG->Hp->Prop)(A:∀D,H D=none->Pv D 0 [] (AD H D (.lst [])))(w:∀D i ys H2,H D=none->i<=n->Pv D i ys H2->H2 D\(.lst ys))
  (h:∀D i ys H2,H D=none->i<n->Pv D i ys H2->ρ.go i H2) (c:∀D ys H2,H D=none->Pv D n ys H2->ρ.stop n H2) (s:∀D i ys H2 x l,H D=none->i<n->Pv D i ys H2->ρ.yld i H2 x l->y i x/\l=H2)
  (u:∀D,H D=none->∀i x ys H2,i<n->y i x->Pv D i ys H2->g x (L2.picked Y qD) H2 λf B=>tt f B λb H5=>if b=true then te f H5 λy j=>j D\(.lst ys)/\ys.length<sizeLine/\Pv D (i+1) (ys++[y]) (AD j D (.lst (ys++[y])))else Pv D (i+1) ys H5)
  (v:∀D ys H2,H D=none->Pv D n ys H2->Q (.ref D) H2):Kv ρ qD g tt te Y Q H:=by
 intro D d;refine⟨λi m ys H2=>m=n - i/\i<=n/\Pv D i ys H2,⟨n,'2',cD _,A D d⟩,?_⟩;rintro i m ys H2 ⟨rfl,hi,p⟩;refine⟨w D i ys H2 d hi p,?_⟩;by_cases a:i<n
 ·refine .inr ⟨h D i ys H2 d a p,Pv D (i+1),λzs H' r=>⟨n - (i+1),⋯,rfl,a,r⟩,λx H' z=>?_⟩;obtain⟨q,o⟩:=s D i ys H2 x H' d a p z;subst o;exact u D d i x ys _ a q p
 ·have e:i=n:=⋯;subst e;exact .inl ⟨c D ys H2 d p,v D ys H2 d p⟩
theorem Vv(Pv:Addr->Nat->dG->Hp->Prop)(l:∀D,H D=none->Pv D 0 [] (AD H D (.lst [])))(j:∀D i ys H2,H D=none->i<=n->Pv D i ys H2->H2 D\(.lst ys))
  (f:∀D,H D=none->∀(i:Nat) ys H2,i<n->Pv D i ys H2->g (.int (lo+i)) (L2.picked Y qD) H2 λa m=>tt a m λb H5=>if b=true then te a H5 λy d=>d D\(.lst ys)/\ys.length<sizeLine/\Pv D (i+1) (ys++[y]) (AD d D (.lst (ys++[y])))else Pv D (i+1) ys H5)
  (h:∀D ys H2,H D=none->Pv D n ys H2->Q (.ref D) H2):Kv (DZ lo n) qD g tt te Y Q H :=
 Vu (n:=n) (y:=λi x=>x=.int (lo+i)) Pv l j (λD i ys H2 c hi p=>hi) (λD ys H2 c p=>aQ _) (λD i ys H2 x o c hi p z=>⟨z.2,z.1⟩)
  (λD c i x ys H2 hi e p=>by subst e;exact f D c i ys H2 hi p) h
end
def ON:V->Option Int->Option Int->Hp->VK->Prop:=λx lo hi H Q=>∃z,x=.str z/\z.length<=sizeLine/\Q (.str (Txt.slice z lo hi)) H
theorem OO{v:Value}{o:Option Int}(h:IsPart v o):∃l:Option (Int×Tok),l.map (·.1)=o/\partValue l=v:=by
 cases h with
 |none=>exact⟨none,rfl,rfl⟩
 |int i t=>exact⟨some (i,t),rfl,rfl⟩
theorem OP:DE X ON:=by
 rintro qA s Y H x v g f lo hi i Q I a e pl c⟨z,rfl,d,q⟩;obtain⟨t,rfl⟩:=a;obtain⟨l,rfl,rfl⟩:=OO pl;obtain⟨u,rfl,rfl⟩:=OO c;refine⟨"str",_,F.slot_str_getitem.lookup,typeIs_str _ _ _,wpAny_getItem_str_slice (l:=l) (u:=u) (st:=none) e rfl ?_⟩;exact post_val_or_str ⟨aR (Txt.slice_le z _ _) d,λt' k=>⟨.str (Txt.slice z _ _),H,I.tok k,⟨t',rfl⟩,q⟩⟩
theorem Gu:∀{ys:At} {G:Do},AQ (ys.map V.str) G->StrsAre G ys
 |[],_,.nil=>.nil
 |y::ys,_,.cons ⟨t,e⟩ r=>by subst e;exact .cons y t (Gu r)
def Vw(K:Fg):V->dG->Hp->VK->Prop:=λx vs H Q=>∃z p ys,x=.str z/\vs=[.ref p]/\Am K H p (ys.map V.str)/\(ys.map (·.length)).sum+ys.length * z.length<=16777216/\Q (.str (Txt.join z ys)) H
theorem Vx:IY X "str.join" (Vw X.K):=by
 rintro qA s Y H x vs v G Q I c rv⟨z,p,ys,rfl,rfl,e,a,q⟩;obtain⟨t,rfl⟩:=c;obtain⟨u,rfl,d⟩:=rv.one;cases d;obtain⟨qG,r,pl,f⟩:=I.list e;exact join_list pl.isList (Gu (~~~r)) a λt' k=>⟨.str _,H,I.tok k,⟨t',rfl⟩,q⟩
theorem Kx:∀{bs:List Bool} {G:Do},AQ (bs.map V.bl) G->LSm.BoolsAre G bs
 |[],_,.nil=>.nil
 |b::bs,_,.cons e r=>by cases e;exact .cons b (Kx r)
theorem Gv(m:X.calm=true):BK X (.builtin "all") (λxs H Q=>∃(p:Addr) (bs:List Bool),xs=[.ref p]/\Am X.K H p (bs.map V.bl)/\Q (.bl (bs.all id)) H):=by
 rintro qA s Y H xs G Q I r⟨p,bs,rfl,j,q⟩;obtain⟨u,rfl,g⟩:=r.one;cases g;obtain⟨qG,r,pl,o⟩:=I.list j;have d:=Kx r;have c:=pl.isList;have a:p<'H':=by obtain⟨_,e,_⟩:=c;exact bN e
 refine call_all_walk (wpAny_pyIter_list c ?_);refine⟨'H',['H',p],['H'],qG.toArray.size,_,_,λi=>(bs[i]?).getD true,rfl,Walks.list (A:=X.A.in1) (I.ok.hd m) _ p (bX a) qG.toArray, ⟨⟨_,bP _ rfl,rfl,rfl⟩,c.push _⟩,λi v s' w x n f=>?_,λh' tk l=>?_⟩
 ·obtain⟨b,e,rfl⟩:=d.get i v (~~~n);simp only[e,Option.getD_some]at f;exact wpAny_truthy_bool f
 ·have e:((List.range qG.toArray.size).all λi=>(bs[i]?).getD true)=bs.all id:=by
   rw[size_toArray,d.length];exact LSm.range_all bs
  rw[e];exact⟨.bl _,H,I.kept (t':=tk) (LSm.kept_iter l),rfl,q⟩
theorem Vy:BK X (.builtin "isinstance") (λxs H Q=>∃x t n b,xs=[x,.ty n]/\TyOf X.K H x t/\PySem.W.kitOne X.K t (.type n)\b/\Q (.bl b) H):=by
 rintro qA s Y H xs G Q I r⟨x,t,n,b,rfl,ty,e,q⟩;obtain⟨u,v,rfl,a,rv⟩:=r.two;cases(show v=Value.type n from rv);exact Ur I a ty e λtk=>⟨.bl b,H,I.tok tk,rfl,q⟩
theorem OQ:Ay X (binaryOp .FloorDiv) (rI (λ_ j=>0<j/\j<2 ^ 64) λi j=>.int (i / j)):=IR λi j t u s E Q a q=>by
 have e:i.fdiv j=i / j:=Int.fdiv_eq_ediv_of_nonneg _ (Int.le_of_lt a.1);refine floordiv_int (Int.ne_of_gt a.1) (by rw[e];exact q) (.inl (PyProof.noPylong_of_log2 ?_));have h:j.natAbs<2 ^ 64:=by have:=a.2;lia
 have c:j.natAbs≠0:=by have:=a.1;lia
 exact aU ((Nat.log2_lt c).mpr h) '3'
def OR:R2:=λx y H Q=>∃p i xs,x=.ref p/\y=.int i/\H p\(.lst xs)/\∃v,atI xs i\v/\Q v H
theorem Cq:FE X OR:=λvalue a qA s Y H x y v u Q I d c zz f=>(by obtain⟨p,i,xs,j,g,h,w,e,q⟩:=zz;exact Nt value a qA s Y H x y v u Q I d c ⟨p,xs,i,w,j,g,.of h,e,q⟩ f)
theorem Vz:NJ X OR:=by
 rintro qA s Y H o i y A Q I g l⟨p,k,xs,rfl,rfl,m,z,u,q⟩;cases g;obtain⟨t,rfl⟩:=l;obtain⟨qG,r,pl,B⟩:=I.list (.of m);obtain⟨j,h1,h2,D,x,v⟩:=IX u;obtain⟨w,f,c⟩:=r.get h2;have n:=r.length;have C:=FD;have a:EP X qA Y Q w s:=⟨z,H,I,c,q⟩;by_cases e:0<=k
 ·have d:k.toNat=j:=by
   rw[seqIndex_of e v]at h1;exact oI h1
  exact wpAny_getItem_list pl.isList e ⋯ (by rw[d];simpa using f) a
 ·have d:(k+(qG.toArray.size:Int)).toNat=j:=by
   rw[seqIndex_neg ⋯ x]at h1;rw[size_toArray,<-n];exact oI h1
  exact wpAny_getItem_list_neg pl.isList ⋯ (by rw[size_toArray]<;>lia) ⋯ (by rw[d];simpa using f) a
theorem Ky:BK X (.builtin "len") (λxs H Q=>∃p ys,xs=[.ref p]/\H p\(.lst ys)/\Q (.int ys.length) H):=by
 rintro qA s Y H xs G Q I r⟨p,ys,rfl,a,q⟩;exact Nw qA s Y H _ G Q I r ⟨p,ys,rfl,.inl (.of a),q⟩
def Fn(P:Program)(w:World)(K:Fg)(mg:Str->Ex)(base:Heap)(x:Str)(k:Nat)(ps:At)(sp:Sp):Prop :=
 ∃(f:Addr) (fd:FuncData),FnOk P w K mg base Dw k f fd ps sp/\mg x\(.ref f)/\PySem.W.keepIn K (.ref f)=true/\Fj K fd ps []
theorem FI{k:Nat}{sp:Sp}{p:Pos}{e:Expr}{t:TA}(us:Fn X.prog X.w X.K X.mg X.base x k ps sp)(d:Room k X.A)(i:Gl X x)
  (m:PA X (e::es) t) (c:No x:=by decide +kernel) (j:starEach (e::es) X.env=(false,eval e X.env)::starEach es X.env:=by rfl) (a:(backTo pos (starEach es X.env)).any (·.1)=false:=by rfl) :
  PE X (.Call (.Name x p) (e::es) [] pos) (Gc sp [] E0 t):=by
 obtain⟨f,fd,F,g,h,l⟩:=us;exact Uu F d i g h l .nil Vk m c j a
def Ak(K:Fg)(mg:Str->Ex)(x:Str)(st:Stmt):Prop:=∃(f:Addr) (fd:FuncData),Fun K x x st f fd/\mg x\(.ref f)
theorem Ft{P:Program}{K:Fg}{k:Nat}{sp:Sp}(D:Ak K mg x st)(S:FnScope N ps (AR st))
  (g:∀(kV doc d:Value) (h:Go) (a ct:Value) (G:Do),G.length=ps.length->bindArgs (PySem.W.fnOf x x (Dv st) (Cz st) (AR st) .none kV doc d h a ct) ⟨G,[]⟩=pure (ps.zip G))
  (len:∀vs H Q E,sp vs H Q E->vs.length=ps.length)
  (c:∀(f:Addr) (a:Value) (A:Around) (outer:List Env) (s:Shared) (H:Hp) (vs:dG) (Q:VK) (E:XK),Room k (A.deeper (PyProof.Rows.envOfC x (AR st) 'H' f a))->sp vs H Q E ->
   ∃t,Be (Eg Dw P w K mg base N x (AR st) f a A outer s H E).nox (Cz st) t/\t { nx:=λ_ H'=>Q .non H',rt:=Q } (Cn N vs) H):Fn P w K mg base x (k+1) ps sp:=by
 obtain⟨f,fd,F,e⟩:=D;exact⟨f,fd,F.ok S len (c f),e,F.kp,F.binds g⟩
theorem FJ:BK X (.type "list") (λxs H Q=>∃p ys,xs=[.ref p]/\(H p\(.lst ys)\/H p\(.tup ys))/\∀l,H l=none->Q (.ref l) (AD H l (.lst ys))):=by
 rintro qA s Y H xs G Q I r⟨p,ys,rfl,a,q⟩;exact VM qA s Y H _ G Q I r ⟨p,ys,rfl,a.elim (λz=>.inl (.of z)) (λz=>.inr (.of z)),q⟩
theorem DG:BK X (.type "tuple") (λxs H Q=>∃p ys,xs=[.ref p]/\H p\(.lst ys)/\∀l,H l=none->Q (.ref l) (AD H l (.tup ys))):=by
 rintro qA s Y H xs G Q I r⟨p,ys,rfl,a,q⟩;exact VN qA s Y H _ G Q I r ⟨p,ys,rfl,.inl ⟨.of a,q⟩⟩
theorem V0{k:Nat}(h:k<=x.length):(Txt.slice x none (some (k:Int))).cps.toList=x.cps.toList.take k:=by
 have e:=beq_iff_eq.mp (slice_closes_to (x:=x) (j:=(k:Int)) ⟨⋯,by have:x.cps.toList.length=x.length:=bR;lia⟩);rw[e];simp
theorem V1:∀ys:At,(Txt.join ⟨#[]⟩ ys).cps.toList=(ys.map (·.cps.toList)).flatten:=by
 have c:∀ys:At,(Str.join ⟨#[]⟩ ys).cps.toList=(ys.map (·.cps.toList)).flatten:=by
  intro ys
  induction ys with
  |nil=>rfl
  |cons y r a =>
   cases r with
   |nil=>simp[Str.join]
   |cons z r =>
    have e:Str.join ⟨#[]⟩ (y::z::r)=y++⟨#[]⟩++Str.join ⟨#[]⟩ (z::r):=rfl;rw[e];show((y.cps++#[])++(Str.join ⟨#[]⟩ (z::r)).cps).toList=_;rw[Array.toList_append,a];simp
 intro ys;have e:=beq_iff_eq.mp (join_plain_closes ⟨#[]⟩ ys);rw[e];exact c ys
theorem OS(h:StrsAre G ys):AQ (ys.map V.str) G:=by
 induction h with
 |nil=>exact .nil
 |cons y t r a=>exact .cons ⟨t,rfl⟩ a
theorem Gw(_:True):BK X (.builtin "sorted") (λxs H Q=>∃(p:Addr) (ss:At),xs=[.ref p]/\H p\(.lst (ss.map V.str))/\ss.length<64/\∀(l:Addr) (a:At),H l=none->a.Perm ss->sortedS a=true->Q (.ref l) (AD H l (.lst (a.map V.str)))):=by
 rintro qA s Y H xs G Q I r⟨p,ss,rfl,d,j,q⟩;obtain⟨u,rfl,c⟩:=r.one;cases c;obtain⟨qG,r,pl,n⟩:=I.list (.of d);have i:=Gu r;have f:=r.length;rw[aA]at f;refine sorted_strs pl.isList i ⋯ λout a h1 h2 m=>?_;obtain⟨e,g⟩:=sortedAll_at s.heap qG out;refine⟨.ref ('H'+1),_,I.laid (t':=s.toks) (o:=.lst (a.map V.str)) (λb o q=>sortedAll_old q) (cR _) ?_,rfl,q _ a (I.hok.fresh (cR _)) h2 m⟩;refine⟨?_,out.toList,e,OS h1,g⟩;rw[aA,h2.length_eq];exact aY (C0 ⋯)
theorem OT(z:Str):∀xs:At,Ia (.str z) (xs.map V.str)=decide (z∈xs)
 |[]=>rfl
 |x::r=>by
  have a:=OT z r;unfold Ia at a ⊢;rw[map_cons,any_cons,a];by_cases e:x=z
  ·subst e;simp[Du]
  ·have c:¬z=x:=λh=>e h.symm;simp[Du,e,c]
theorem OU:∀xs:At,(xs.map V.str).all ED=true
 |[]=>rfl
 |x::r=>by rw[map_cons,all_cons,OU r];rfl
theorem V2:Ay X (compareOp .In) (λx y H Q=>∃(z:Str) (p:Addr) (xs:At),x=.str z/\y=.ref p/\(H p\(.lst (xs.map V.str))\/H p\(.tup (xs.map V.str)))/\Q (.bl (decide (z∈xs))) H):=by
 rintro qA s Y H x y v u Q I c a⟨z,p,xs,rfl,rfl,d,q⟩;refine VL qA s Y H _ _ v u Q I c a ⟨p,xs.map V.str,rfl,d.elim (λz=>.inl (.of z)) (λz=>.inr (.of z)),rfl,OU xs,?_⟩;rw[OT];exact q
open PySem.Builtin PySem.Builtin.Str in
theorem Kz(h:0<x.length):(Txt.slice x none (some (-1))).cps.toList=x.cps.toList.take (x.length - 1):=by
 have e:Txt.slice x none (some (-1))=Txt.slice x none (some (((x.length - 1:Nat)):Int)):=by
  unfold Txt.slice;have a:strSliceIndices none (some (-1)) 1 x.length=strSliceIndices none (some (((x.length - 1:Nat)):Int)) 1 x.length:=by
   unfold strSliceIndices;have d:(-1:Int)<0:=by decide
   have c:¬(((x.length - 1:Nat)):Int)<0:=⋯;simp only[d,c,dC,if_false,show(1:Int) > 0 by decide]
   congr 1
   lia
  rw[a]
 rw[e];exact V0 ⋯
theorem Be.weak{st:Hq}{u m:TS}(h:Be X st u)(hw:∀D Y H,m D Y H->u D Y H):Be X st m:=λqA s Y H D I q=>h qA s Y H D I (hw D Y H q)
end L2
namespace HT
open PySem PySem.Spec PyProof.Rows
theorem dJ{t c:Addr}{items:FG}{i g:Value}{lo hi:Option Int}(a:IsTup s.heap t items)(j:s.heap.IsSliceOf c i g .none)(pl:IsPart i lo)(l:IsPart g hi)
  (hw:dB items.size 0 lo=0/\dB items.size items.size hi=items.size) (h:Q (.ref t) s):'C' (getItem (.ref t) (.ref c)) Q E s:=by
 obtain⟨os,d,e,m⟩:=id j;have f:s.TypeIs (.ref c) "slice":=⟨os,d,e⟩;unfold getItem
 try with_reducible refine bM ?_
 first|refine wB (wP ?_)|skip
 refine wB (wpAny_sequenceKey a.typeIs '3' ?_);refine wB (wpAny_callSpecial?_slot (name:=Str.ofString "__getitem__") a.typeIs PyProof.Rows.slot_tuple_getitem
  (cP PyProof.Rows.slot_tuple_getitem a.typeIs entry_tuple_getitem ?_ (args_tuple_getitem _ _)))
 show 'A' (Builtin.Tuple.tupleItemsOf (.ref t) >>= _) _ _ s;refine wB (tupleItemsOf_ a (wB (wpAny_typeOf f ?_)));rw[aC '3'];refine wB (Nl j pl l ?_);show 'A' (if(((dB items.size 0 lo:Nat):Int)==0&&(1:Int)==1&&(dB items.size items.size hi - dB items.size 0 lo)==items.size)=true then _ else _) _ _ s;rw[aC (by rw[hw.1,hw.2];simp)];unfold Builtin.Tuple.tupleIsExact;refine wB (wB (wpAny_typeOf a.typeIs (wP ?_)));simp only[beq_self_eq_true,dC]
 first
  |exact wB (wpAny_rule (wP ⟨_,rfl,wP h⟩))
  |exact wB (wpAny_rule (wB (wP (wP ⟨_,rfl,wP h⟩))))
  |exact wB (wB (wpAny_rule (wP (wP ⟨_,rfl,wP h⟩))))
theorem FK{t:Addr}{items:FG}{x:Value}(a:s.heap.IsTupleIter it t i)(h:s.heap.IsTuple t items)(g:items[i]?\x)
  (l:∀h',h'.IsTupleIter it t (i+1)->Heap.SameBut it s.heap h'->Q x { s with heap:=h' }):'C' (Builtin.SmallTypes.nextOf (.ref it)) Q E s:=by
 obtain⟨o,d,j,c⟩:=id a;obtain⟨m,e,_,n,f⟩:=h;unfold Builtin.SmallTypes.nextOf;refine wB (wpAny_callSpecial?_slot (name:=Str.ofString "__next__") a.typeIs F.slot_tuple_iterator_next (cP F.slot_tuple_iterator_next a.typeIs F.entry_tuple_iterator_next ?_ (F.args_tuple_iterator_next_1 _)));show 'A' (field (.ref it) 0 >>= _) _ _ s;refine wB (wpAny_field d c (x:=.ref t) rfl ?_);show 'A' (if(Value.ref t==Value.none)=true then _ else _) _ _ s;rw[aB (show¬((Value.ref t==Value.none)=true)from cH)];show 'A' (field (.ref it) 1 >>= _) _ _ s;refine wB (wpAny_field d c (x:=.int i 0) rfl ?_);show 'A' (seqItems? (.ref t) >>= _) _ _ s;refine wB (wpAny_seqItems e f ?_);simp only[Int.toNat_natCast,g];refine wB (wpAny_setField d c '2' (wP ⟨x,rfl,wP (l _ ?_ (Heap.SameBut.update ..))⟩));exact⟨_,Heap.get?_update_self _ d (Obj.isFreed_of_fields (Obj.data_mapFields c _)),(Obj.cls_mapFields ..).trans j,by rw[Obj.data_mapFields c];simp[rawInt]⟩
theorem Ie{t:Addr}{items:FG}(j:A.handled=none)(c:s.heap.IsTupleIter it t i)(n:s.heap.IsTuple t items)(l:items[i]?=none)
  (p:∀h' e,Heap.ExtBut it s.heap h'->(∃o,h'.get? e\o/\o.cls=.type "StopIteration")->E (.ref e) { s with heap:=h' }):'C' (Builtin.SmallTypes.nextOf (.ref it)) Q E s:=by
 obtain⟨o,f,u,h⟩:=id c;obtain⟨q,d,_,r,g⟩:=n;unfold Builtin.SmallTypes.nextOf;refine wB (wpAny_callSpecial?_slot (name:=Str.ofString "__next__") c.typeIs F.slot_tuple_iterator_next (cP F.slot_tuple_iterator_next c.typeIs F.entry_tuple_iterator_next ?_ (F.args_tuple_iterator_next_1 _)));show 'A' (field (.ref it) 0 >>= _) _ _ s;refine wB (wpAny_field f h (x:=.ref t) rfl ?_);show 'A' (if(Value.ref t==Value.none)=true then _ else _) _ _ s;rw[aB (show¬((Value.ref t==Value.none)=true)from cH)];show 'A' (field (.ref it) 1 >>= _) _ _ s;refine wB (wpAny_field f h (x:=.int i 0) rfl ?_);show 'A' (seqItems? (.ref t) >>= _) _ _ s;refine wB (wpAny_seqItems d g ?_);simp only[Int.toNat_natCast,l];refine wB (wpAny_rule (wB (wpAny_setField f h '2' ?_)));show 'A' (newExc (.type "StopIteration") [] >>= _) _ _ _;refine wB ?_;simp only[newExc,newTuple];refine wB (cG ?_ (by size_fits));refine wB (m:=firstArgMember _ _) (wpAny_of_eq (a:=Value.none) (by first|rfl|(simp only[firstArgMember];rfl)) ?_);refine cG ?_ (by size_fits);simp only[raiseNew];refine wB (wpAny_handled ?_)
 first|rw[show A.in1.handled=none from j]|rw[j]
 refine wB (wP (wpAny_throw ?_));exact p _ _ (((Heap.SameBut.update ..).extBut.push _).push _) ⟨_,bP _ rfl,rfl⟩
theorem dQ{TI TO:Addr}{k:Nat}{xs ys:FG}{x y a b:Value}{Q:Ex->Shared->Prop}(D:ZipApart z TI TO i1 i2 l1 l2)
  (hz:IsZip s.heap z TI TO .none) (a9:IsPair s.heap TI (.ref i1) (.ref i2)) (a8:IsPair s.heap TO a b)
  (h1:s.heap.IsTupleIter i1 l1 k) (h2:s.heap.IsTupleIter i2 l2 k) (hl1:s.heap.IsTuple l1 xs) (hl2:s.heap.IsTuple l2 ys) (hx:xs[k]?\x) (hy:ys[k]?\y)
  (hQ:∀h',IsZip h' z TI TO (rawInt 'H')->IsPair h' TO x y->h'.IsTupleIter i1 l1 (k+1)->h'.IsTupleIter i2 l2 (k+1)->IsPair h' 'H' x y->h'.objs.size='H'+1 ->
   (∀c o,c≠z->c≠TO->c≠i1->c≠i2->'F' c\o->h'.get? c\o)->Q (some (.ref 'H')) { s with heap:=h' }) :
  'C' (pyNext (.ref z)) Q E s:=by
 have hT:s.TypeIs (.ref z) "zip":=⟨_,hz,rfl⟩;unfold pyNext;refine wB (wpAny_attempt (wpAny_callSpecial?_slot (name:=Str.ofString "__next__") hT F.slot_zip_next (cP F.slot_zip_next hT F.entry_zip_next ?_ (F.args_zip_next_1 _))));show 'A' (field (.ref z) 2 >>= _) _ _ _;refine wB (wpAny_field hz rfl (x:=.bool false) rfl ?_);show 'A' (field (.ref z) 3 >>= _) _ _ _;refine wB (wpAny_field hz rfl (x:=.ref TI) rfl (wB (wpAny_seqItems a9 rfl ?_)));show 'A' (Builtin.SmallTypes.ownedTupleIsFree (.ref z) >>= _) _ _ _;refine wB ?_;unfold Builtin.SmallTypes.ownedTupleIsFree;refine wB (wpAny_field hz rfl (x:=.none) rfl (wP ?_));simp only[dC];refine wB (wpAny_rule (wB (wpAny_field hz rfl (x:=.ref TO) rfl ?_)));refine wB (wpAny_setField_rec hz '2' λh₁ I f=>?_)
 replace I:IsZip h₁ z TI TO .ellipsis:=I
 refine wB ?_;simp only[zipIdx_cons,zipIdx_nil,forIn_cons,forIn_nil];have B:∀{h h':Heap} {t j:Addr} {qG:FG},h.IsTuple t qG->Heap.SameBut j h h'->t≠j->h'.IsTuple t qG:=λ{h h' t j qG} ⟨o,e,r⟩ sb ne=>⟨o,sb.extBut _ _ ne e,r⟩;have m:∀{h h':Heap} {i t j:Addr} {n:Nat},h.IsTupleIter i t n->Heap.SameBut j h h'->i≠j->h'.IsTupleIter i t n:=λ{h h' i t j n} ⟨o,e,r⟩ sb ne=>⟨o,sb.extBut _ _ ne e,r⟩;refine wB (wB (wpAny_onRaise ?_));show 'A' (Builtin.SmallTypes.nextOf (.ref i1) >>= _) _ _ _;refine wB (FK (m h1 f D.i1z) (B hl1 f D.l1z) hx λh₂ a5 l=>wP ?_);have N:IsPair h₂ TO a b:=l.extBut _ _ D.TOi1 (f.extBut _ _ D.TOz a8);refine wB (wpAny_seqItems N rfl (wB (wpAny_updateSeq_pair N λh₃ us g=>?_)))
 replace us:IsPair h₃ TO x b:=us
 refine wB (wpAny_letGo (wP ?_));refine wB (wB (wpAny_onRaise ?_));show 'A' (Builtin.SmallTypes.nextOf (.ref i2) >>= _) _ _ _;refine wB (FK (m (m (m h2 f D.i2z) l D.i12.symm) g D.TOi2.symm) (B (B (B hl2 f D.l2z) l D.l2i1) g D.l2TO) hy λh₄ a3 u=>wP ?_);have M:IsPair h₄ TO x b:=u.extBut _ _ D.TOi2 us;refine wB (wpAny_seqItems M rfl (wB (wpAny_updateSeq_pair M λd p q=>?_)))
 replace p:IsPair d TO x y:=p
 refine wB (wpAny_letGo (wP (wP ?_)));refine wB (wpAny_seqItems p rfl (wB (wpAny_newTuple ?_)));have a7:d.objs.size='H':=by rw[q.1,u.1,g.1,l.1,f.1]
 have O:IsZip d z TI TO .ellipsis:=q.extBut _ _ D.TOz.symm (u.extBut _ _ D.i2z.symm (g.extBut _ _ D.TOz.symm (l.extBut _ _ D.i1z.symm I)));have a1:∀c o,c≠z->c≠TO->c≠i1->c≠i2->'F' c\o->d.get? c\o:=λc o c1 c2 c3 c4 e=>q.extBut _ _ c2 (u.extBut _ _ c4 (g.extBut _ _ c2 (l.extBut _ _ c3 (f.extBut _ _ c1 e))));have a4:d.IsTupleIter i1 l1 (k+1):=m (m (m a5 g D.TOi1.symm) u D.i12) q D.TOi1.symm;have a2:d.IsTupleIter i2 l2 (k+1):=m a3 q D.TOi2.symm;have σ:z<d.objs.size:=bN O;show 'A' (Builtin.SmallTypes.ownedTupleHandOut (.ref z) (.ref d.objs.size) >>= _) _ _ _;refine wB ?_;unfold Builtin.SmallTypes.ownedTupleHandOut;have a0:IsZip (d.push { cls:=.type "tuple",data:=.seq #[x,y] }) z TI TO .ellipsis:=aS _ O;refine wB (wpAny_setField_rec a0 '2' λh₇ H L=>?_)
 replace H:IsZip h₇ z TI TO (rawInt d.objs.size):=H
 refine wpAny_setField_rec H '2' λv C ρ=>?_
 replace C:IsZip v z TI TO (rawInt d.objs.size):=C
 have up:∀c o,c≠z->d.get? c\o->v.get? c\o:=λc o c1 e=>ρ.extBut _ _ c1 (L.extBut _ _ c1 (aS _ e));have T:IsPair v d.objs.size x y:=ρ.extBut _ _ (Nat.ne_of_gt σ) (L.extBut _ _ (Nat.ne_of_gt σ) (bP _ rfl));have a6:v.objs.size=d.objs.size+1:=by rw[ρ.1,L.1,Heap.size_push]
 rw[a7]at C T a6;have U:∀{i t:Addr} {n:Nat},d.IsTupleIter i t n->i≠z->v.IsTupleIter i t n:=λ{i t n} ⟨o,e,r⟩ ne=>⟨o,up _ _ ne e,r⟩;refine wP ⟨_,rfl,wP ?_⟩;show Q (some (.ref d.objs.size)) _;rw[a7];exact hQ v C (up _ _ D.TOz p) (U a4 D.i1z) (U a2 D.i2z) T a6 λc o c1 c2 c3 c4 e=>up c o c1 (a1 c o c1 c2 c3 c4 e)
theorem dR{TI TO:Addr}{k:Nat}{xs ys:FG}{a b:Value}{Q:Ex->Shared->Prop}(hh:A.handled=none)(D:ZipApart z TI TO i1 i2 l1 l2)
  (hz:IsZip s.heap z TI TO .none) (a2:IsPair s.heap TI (.ref i1) (.ref i2)) (a1:IsPair s.heap TO a b)
  (h1:s.heap.IsTupleIter i1 l1 k) (h2:s.heap.IsTupleIter i2 l2 k) (hl1:s.heap.IsTuple l1 xs) (hl2:s.heap.IsTuple l2 ys) (O:xs[k]?=none\/ys[k]?=none)
  (hQ:∀h',(∀c o,c≠z->c≠TO->c≠i1->c≠i2->'F' c\o->h'.get? c\o)->Q none { s with heap:=h' }):'C' (pyNext (.ref z)) Q E s:=by
 have hT:s.TypeIs (.ref z) "zip":=⟨_,hz,rfl⟩;have U:∀h' e,(∀c o,c≠z->c≠TO->c≠i1->c≠i2->'F' c\o->h'.get? c\o)->(∃o,h'.get? e\o/\o.cls=.type "StopIteration") ->
   'C' (isInstance (.ref e) (.type "StopIteration") >>= λr=>if r=true then pure none else throw (.ref e)) Q E { s with heap:=h' }:=λh' e hk ⟨o,ho,hc⟩ =>
  wB (wpAny_isInstance (T:="StopIteration") (b:=true) ⟨o,ho,hc⟩ isSubtype_stop (wP (hQ _ hk)))
 unfold pyNext;refine wB (wpAny_attempt (wpAny_callSpecial?_slot (name:=Str.ofString "__next__") hT F.slot_zip_next (cP F.slot_zip_next hT F.entry_zip_next ?_ (F.args_zip_next_1 _))));show 'A' (field (.ref z) 2 >>= _) _ _ _;refine wB (wpAny_field hz rfl (x:=.bool false) rfl ?_);show 'A' (field (.ref z) 3 >>= _) _ _ _;refine wB (wpAny_field hz rfl (x:=.ref TI) rfl (wB (wpAny_seqItems a2 rfl ?_)));show 'A' (Builtin.SmallTypes.ownedTupleIsFree (.ref z) >>= _) _ _ _;refine wB ?_;unfold Builtin.SmallTypes.ownedTupleIsFree;refine wB (wpAny_field hz rfl (x:=.none) rfl (wP ?_));simp only[dC];refine wB (wpAny_rule (wB (wpAny_field hz rfl (x:=.ref TO) rfl ?_)));refine wB (wpAny_setField_rec hz '2' λN m d=>?_)
 replace m:IsZip N z TI TO .ellipsis:=m
 refine wB ?_;simp only[zipIdx_cons,zipIdx_nil,forIn_cons,forIn_nil];have l:∀{h h':Heap} {t j:Addr} {qG:FG},h.IsTuple t qG->Heap.SameBut j h h'->t≠j->h'.IsTuple t qG:=λ{h h' t j qG} ⟨o,e,r⟩ sb ne=>⟨o,sb.extBut _ _ ne e,r⟩;have p:∀{h h':Heap} {i t j:Addr} {n:Nat},h.IsTupleIter i t n->Heap.SameBut j h h'->i≠j->h'.IsTupleIter i t n:=λ{h h' i t j n} ⟨o,e,r⟩ sb ne=>⟨o,sb.extBut _ _ ne e,r⟩;refine wB (wB (wpAny_onRaise ?_));show 'A' (Builtin.SmallTypes.nextOf (.ref i1) >>= _) _ _ _;cases hx:xs[k]? with
 |none =>
  refine wB (Ie hh (p h1 d D.i1z) (l hl1 d D.l1z) hx λv e f zz=>?_);obtain⟨oe,q,H⟩:=zz;have B:IsZip v z TI TO .ellipsis:=f _ _ D.i1z.symm m;have ρ:e≠z:=λx=>by subst x;rw[B]at q;cases q;simp at H
  exact wpAny_setField_rec B '2' λI _ g=>U I e (λc o σ _ c3 _ x=>g.extBut _ _ σ (f _ _ c3 (d.extBut _ _ σ x))) ⟨oe,g.extBut _ _ ρ q,H⟩
 |some x =>
  have hy:ys[k]?=none:=by rcases O with h|h;rw[hx]at h;cases h;exact h
  refine wB (FK (p h1 d D.i1z) (l hl1 d D.l1z) hx λv a3 f=>wP ?_);have u:IsPair v TO a b:=f.extBut _ _ D.TOi1 (d.extBut _ _ D.TOz a1);refine wB (wpAny_seqItems u rfl (wB (wpAny_updateSeq_pair u λI a0 g=>?_)));refine wB (wpAny_letGo (wP ?_));refine wB (wB (wpAny_onRaise ?_));show 'A' (Builtin.SmallTypes.nextOf (.ref i2) >>= _) _ _ _;refine wB (Ie hh (p (p (p h2 d D.i2z) f D.i12.symm) g D.TOi2.symm) (l (l (l hl2 d D.l2z) f D.l2i1) g D.l2TO) hy λM e us zz=>?_);obtain⟨oe,q,H⟩:=zz;have y:IsZip M z TI TO .ellipsis:=us _ _ D.i2z.symm (g.extBut _ _ D.TOz.symm (f.extBut _ _ D.i1z.symm m));have ρ:e≠z:=λx=>by subst x;rw[y]at q;cases q;simp at H
  exact wpAny_setField_rec y '2' λL _ C=>U L e (λc o σ c2 c3 c4 x=>C.extBut _ _ σ (us _ _ c4 (g.extBut _ _ c2 (f.extBut _ _ c3 (d.extBut _ _ σ x))))) ⟨oe,C.extBut _ _ ρ q,H⟩
abbrev Ig(h:Heap)(l1:Addr):Heap:=h.push { cls:=.type "tuple_iterator",data:=.fields #[.ref l1,.int 0 0] }
abbrev Ih(h:Heap)(l1 l2:Addr):Heap:=(Ig h l1).push { cls:=.type "tuple_iterator",data:=.fields #[.ref l2,.int 0 0] }
abbrev Ii(h:Heap)(l1 l2:Addr):Heap:=(Ih h l1 l2).push { cls:=.type "tuple",data:=.seq #[.ref h.objs.size,.ref (Ig h l1).objs.size] }
abbrev Ij(h:Heap)(l1 l2:Addr):Heap:=(Ii h l1 l2).push { cls:=.type "tuple",data:=.seq #[.none,.none] }
abbrev Fu(h:Heap)(l1 l2:Addr):Heap:=(Ij h l1 l2).push { cls:=.type "zip",data:=.fields #[.none,.bool false,.bool false,.ref (Ih h l1 l2).objs.size,.ref (Ii h l1 l2).objs.size] }
theorem V3(l1 l2:Addr)(xs ys:FG) :
  Meets (Builtin.«zip.__new__» ⟨[.type "zip",.ref l1,.ref l2],[]⟩) (λ_ R s=>s.heap.IsTuple l1 xs/\s.heap.IsTuple l2 ys/\R (.ok (.ret (.ref (Ij s.heap l1 l2).objs.size))) { s with heap:=Fu s.heap l1 l2 }) :=
 .of_wp λprog w A R s h=>by
  obtain⟨l,g,d,tk,os⟩:=s;obtain⟨c,a,h⟩:=h;have j:=sub_zip;have i:Heap.IsTuple (Shared.heap ⟨l,g,d,tk,os⟩) l1 xs:=c;have f:Heap.IsTuple (Shared.heap ⟨l.push { cls:=.type "tuple_iterator",data:=.fields #[.ref l1,.int 0 0] },g,d,tk,os⟩) l2 ys:=by
   obtain⟨o,e,r⟩:=a;exact⟨o,aS _ e,r⟩
  wp_walk using wpAny_pyIter_tuple i,wpAny_pyIter_tuple f
  exact⟨_,rfl,h⟩
theorem dO{xs ys:FG}(hl1:s.heap.IsTuple l1 xs)(hl2:s.heap.IsTuple l2 ys)
  (h:∀h',IsZip h' ('H'+4) ('H'+2) ('H'+3) .none->IsPair h' ('H'+2) (.ref 'H') (.ref ('H'+1)) ->
   IsPair h' ('H'+3) .none .none->h'.IsTupleIter 'H' l1 0->h'.IsTupleIter ('H'+1) l2 0->(∀c o,'F' c\o->h'.get? c\o)->Q (.ref ('H'+4)) { s with heap:=h' }) :
  'C' (call (.type "zip") [.ref l1,.ref l2]) Q E s:=by
 refine callType_new F.called_zip '3' (F.typeCall_zip_2 _ _) (F.newCall_zip_2 _ _) (λf=>F.args_object_init_3 f _ _) F.entry_zip_new (V3 l1 l2 xs ys) ⟨hl1,hl2,?_⟩;have e:(Ig s.heap l1).objs.size='H'+1:=Heap.size_push ..;have d:(Ih s.heap l1 l2).objs.size='H'+2:=by rw[Heap.size_push,e]
 have a:(Ii s.heap l1 l2).objs.size='H'+3:=by rw[Heap.size_push,d]
 have i:(Ij s.heap l1 l2).objs.size='H'+4:=by rw[Heap.size_push,a]
 have g:(Fu s.heap l1 l2).get? (Ij s.heap l1 l2).objs.size\_:=bP _ rfl;have j:(Fu s.heap l1 l2).get? (Ii s.heap l1 l2).objs.size\_:=aS _ (bP _ rfl);have l:(Fu s.heap l1 l2).get? (Ih s.heap l1 l2).objs.size\_:=aS _ (aS _ (bP _ rfl));have m:(Fu s.heap l1 l2).get? (Ig s.heap l1).objs.size\_:=aS _ (aS _ (aS _ (bP _ rfl)));have n:(Fu s.heap l1 l2).get? 'H'\_:=aS _ (aS _ (aS _ (aS _ (bP _ rfl))));show _/\_;rw[d,a,i]at g;rw[e,d]at l;rw[a]at j;rw[e]at m;rw[i];exact⟨⟨_,g,rfl⟩,h _ g l j ⟨_,n,rfl,rfl⟩ ⟨_,m,rfl,rfl⟩ λc o x =>
  aS _ (aS _ (aS _ (aS _ (aS _ x))))⟩
end HT
namespace L2
open PySem PySem.Spec PyProof.Rows
theorem Inv.turnedL{ch:Ha}(I:Inv X qA Y H s)(k:∀b o,b∉ch->'F' b\o->h'.get? b\o)(d:∀b∈ch,CC X qA H b):Inv X qA Y H { s with heap:=h',toks:=t' }:=by
 have f:∀b u,H b\u->b∉ch:=λb u e z=>by rw[(d b z).1]at e;cases e
 refine I.step (g':=s.gens) (d':=s.drawn) (ch:=ch) (λb g=>⟨(d b g).2.2.2.1,(d b g).2.1,(d b g).2.2.2.2.1,(d b g).2.2.2.2.2⟩) (λb o _ _ a e _=>k b o a e) (λb o _ _ a e _=>⟨o.slots,k b o a e⟩) (λ_ _ _ _ n=>n)
  (λb o a e=>⟨o,k b o a e⟩) (λ_ _ e=>e) (λ_ _ _ e=>e) (λb ps e=>⟨#[],by rw[e];simp⟩) (λm hm=>?_) (λb u e=>?_) I.bare
 ·obtain⟨o,es,ep,h,r⟩:=hm;exact⟨o,es,ep,k _ o (λz=>(d _ z).2.1 rfl) h,r⟩
 ·refine(I.hok b u e).stay (λc v a q=>k c v ?_ q) (λ_ q=>q) λ_ _ q=>q;rcases a with z|z
  ·rw[z];exact f b u e
  ·exact f c _ z
def Gx(K : Fg)(l1 l2 : Addr) : It :=
  ⟨λi H => ∃xs ys, BO K H l1 xs /\ BO K H l2 ys /\ i < xs.length /\ i < ys.length,
   λi H v H' => ∃T x y, H T = none /\ v = .ref T /\ H' = AD H T (.tup [x, y]) /\ ∀xs ys, BO K H l1 xs -> BO K H l2 ys -> xs[i]? = some x /\ ys[i]? = some y,
   λi H => ∃xs ys, BO K H l1 xs /\ BO K H l2 ys /\ (xs.length <= i \/ ys.length <= i)⟩
theorem V4{P:Program}{K:Fg}{x1}{TI TO:Addr}(D:ZipApart z TI TO i1 i2 l1 l2) :
  Turn P w K (.Tuple elts x1 pos) (Gx K l1 l2) [z,TI,TO,i1,i2] z (λi h=>IsZip h z TI TO .none/\IsPair h TI (.ref i1) (.ref i2)/\(∃a b,IsPair h TO a b)/\h.IsTupleIter i1 l1 i/\h.IsTupleIter i2 l2 i) where
 mem:='2'
 obj:=λi h st b d=>by
  obtain⟨m,j,⟨a,c,l⟩,⟨us,A,_,d1⟩,⟨C,r,_,d2⟩⟩:=st;simp only[aF,bB,or_false]at d;rcases d with rfl|rfl|rfl|rfl|rfl
  ·exact⟨_,m,λv q=>nomatch q⟩
  ·exact⟨_,j,λv q=>nomatch q⟩
  ·exact⟨_,l,λv q=>nomatch q⟩
  ·exact⟨_,A,λv q=>by rw[d1]at q;cases q⟩
  ·exact⟨_,r,λv q=>by rw[d2]at q;cases q⟩
 keep:=λi h h' st k=>by
  obtain⟨m,j,⟨a,c,l⟩,⟨us,A,r1⟩,⟨C,r,r2⟩⟩:=st;exact⟨k z '2' _ m,k TI '2' _ j,⟨a,c,k TO '2' _ l⟩,⟨us,k i1 '2' _ A,r1⟩,⟨C,k i2 '2' _ r,r2⟩⟩
 item:=by
  intro X hP hw hK hc i qA s Y H E I U st hg;subst hP hw hK;obtain⟨m,j,⟨a,c,l⟩,h1,h2⟩:=st;obtain⟨xs,ys,q1,q2,g1,g2⟩:=hg;obtain⟨qG,rv,p,a0⟩:=I.tuple q1;obtain⟨L,n,p2,M⟩:=I.tuple q2;have hx:xs[i]?\xs[i]:=by simp[g1]
  have hy:ys[i]?\ys[i]:=by simp[g2]
  obtain⟨u,hu,ru⟩:=rv.get hx;obtain⟨B,a7,σ⟩:=n.get hy;refine HT.dQ D m j l h1 h2 p p2 (x:=u) (y:=B) (~~~hu) (~~~a7) λh' a1 a2 a3 a4 a5 a6 T=>⟨_,rfl,wpAny_letOwnedTupleGo_zip a1 λQ N f=>?_⟩;have a8:H 'H'=none:=I.fresh;have ρ:Inv X qA Y (AD H 'H' (.tup [xs[i],ys[i]])) { s with heap:=s.heap.push { cls:=.type "tuple",data:=.seq #[u,B] } } :=
   I.laid (t':=s.toks) (λb o q=>aS _ q) (aQ _) ⟨by show 2<=sizeLine;decide,[u,B],.cons ru (.cons σ .nil),DX.new _ _⟩
  have O:∀b∈[z,TI,TO,i1,i2],b≠'H':=λb d e=>by
   have o:∃o,'F' b\o:=by
    simp only[aF,bB,or_false]at d;obtain⟨us,A,_⟩:=h1;obtain⟨C,r,_⟩:=h2;rcases d with rfl|rfl|rfl|rfl|rfl
    ·exact⟨_,m⟩
    ·exact⟨_,j⟩
    ·exact⟨_,l⟩
    ·exact⟨_,A⟩
    ·exact⟨_,r⟩
   obtain⟨o,q⟩:=o;exact bS (bN q) (by rw[e];exact aX _)
  have hn:∀b∈[z,TI,TO,i1,i2],AD H 'H' (.tup [xs[i],ys[i]]) b=none:=λb d=>by rw[AI (O b d)];exact(U b d).1
  have nz:'H'≠z:=(O z '2').symm;have J2:Inv X qA Y (AD H 'H' (.tup [xs[i],ys[i]])) { s with heap:=Q }:=by
   refine Inv.turnedL (s:={ s with heap:=s.heap.push { cls:=.type "tuple",data:=.seq #[u,B] } }) (h':=Q) (t':=s.toks) (ch:=[z,TO,i1,i2]) ρ (λb o d q=>?_) (λb d=>⟨hn b ?_,(U b ?_).2⟩)
   ·simp only[aF,bB,or_false,not_or]at d;by_cases e:b='H'
    ·subst e;have q':=q;rw[show(s.heap.push { cls:=.type "tuple",data:=.seq #[u,B] }).get? 'H'\_ from bP _ rfl]at q';cases q';exact f.extBut _ _ nz a5
    ·have q0:'F' b\o:=by rw[<-Heap.get?_push_ne _ _ _ e];exact q
     exact f.extBut _ _ d.1 (T b o d.1 d.2.1 d.2.2.1 d.2.2.2 q0)
   ·simp only[aF,bB,or_false]at d ⊢;rcases d with h|h|h|h<;>simp[h]
   ·simp only[aF,bB,or_false]at d ⊢;rcases d with h|h|h|h<;>simp[h]
  refine⟨.ref 'H',_,J2,rfl,⟨_,_,_,a8,rfl,rfl,λaa a9 z1 z2=>?_⟩,?_,hn⟩
  ·rw[I.tuple_inj z1 q1,I.tuple_inj z2 q2];exact⟨hx,hy⟩
  ·obtain⟨us,A,r1⟩:=a3;obtain⟨C,r,r2⟩:=a4;exact⟨N,f.extBut _ _ D.TIz (T _ _ D.TIz D.TITO D.TIi1 D.TIi2 j),⟨_,_,f.extBut _ _ D.TOz a2⟩,⟨us,f.extBut _ _ D.i1z A,r1⟩,⟨C,f.extBut _ _ D.i2z r,r2⟩⟩
 done:=by
  intro X hP hw hK hc i qA s Y H E I U st hg;subst hP hw hK;obtain⟨m,j,⟨a,c,l⟩,h1,h2⟩:=st;obtain⟨xs,ys,q1,q2,g⟩:=hg;obtain⟨qG,rv,p,a0⟩:=I.tuple q1;obtain⟨L,n,p2,M⟩:=I.tuple q2;have l1:=rv.length;have l2:=n.length;refine HT.dR (I.ok.hd hc) D m j l h1 h2 p p2 '4' λh' T=>⟨rfl,I.turnedL (t':=s.toks) (ch:=[z,TO,i1,i2]) (λb o d q=>?_) λb d=>U b ?_⟩
  ·simp only[aF,bB,or_false,not_or]at d;exact T b o d.1 d.2.1 d.2.2.1 d.2.2.2 q
  ·simp only[aF,bB,or_false]at d ⊢;rcases d with h|h|h|h<;>simp[h]
 self:=λ_ _ _ _ _ st h=>wpAny_pyIter_zip st.1 h
def OV(K:Fg)(ta:TA):TI:=λY H R=>ta Y H λvs H1=>∃l1 l2 xs ys,vs=[.ref l1,.ref l2]/\BO K H1 l1 xs/\BO K H1 l2 ys/\R (Gx K l1 l2) H1
theorem OW:bootBuiltins "zip"\(.type "zip"):=by decide +kernel
theorem V5{a b:Expr}{ta:TA}{p:Pos}{x1}{tp:Pos}(C:Gl X "zip")(A:X.mg "zip"=none)(D:PA X [a,b] ta)(z:starEach [a,b] X.env=[(false,eval a X.env),(false,eval b X.env)]:=by rfl)(d:starEach [b] X.env=[(false,eval b X.env)]:=by rfl) :
  PI X (.Tuple elts x1 tp) (.Call (.Name "zip" p) [a,b] [] pos) (OV X.K ta):=by
 intro qA s Y H R I h;refine Call_ (EA I C A OW (PyProof.Rows.callWith_type1 (AH (D pos qA s Y H _ I h) λG c zz=>?_) (by rw[z,d]) (by rw[d];rfl)));obtain⟨vs,H1,g,n,q1⟩:=zz;obtain⟨l1,l2,xs,ys,rfl,q2,y,q⟩:=q1;obtain⟨u,v,rfl,x,rv⟩:=n.two;cases(show u=Value.ref l1 from x);cases(show v=Value.ref l2 from rv);obtain⟨qG,n,p1,_⟩:=g.tuple q2;obtain⟨o,us,p2,_⟩:=g.tuple y;refine HT.dO p1 p2 λh' r m l i1 i2 B=>?_;have E:Inv X qA Y H1 { c with heap:=h' }:=g.kept (t':=c.toks) B;have j:l1<c.heap.objs.size:=by obtain⟨_,e,_⟩:=p1;exact bN e
 have i:l2<c.heap.objs.size:=by obtain⟨_,e,_⟩:=p2;exact bN e
 refine wpAny_pyIter_zip r ⟨_,[c.heap.objs.size+4,c.heap.objs.size+2,c.heap.objs.size+3,c.heap.objs.size,c.heap.objs.size+1],_,_,H1,rfl,E,V4 (zipApart_new j i),⟨r,m,⟨_,_,l⟩,i1,i2⟩,λb w=>?_,q⟩;have f:c.heap.objs.size<=b:=by
  simp only[aF,bB,or_false]at w;rcases w with h|h|h|h|h<;>rw[h]<;>first|exact Nat.le_add_right _ _|exact aQ _
 exact g.fpOk f (g.hok.fresh f)
def OX:V->Option Int->Option Int->Hp->VK->Prop:=λx lo hi H Q=>∃a xs,x=.ref a/\H a\(.tup xs) /\
 ((HT.dB xs.length 0 lo=0/\HT.dB xs.length xs.length hi=xs.length)->Q (.ref a) H) /\
 (¬(HT.dB xs.length 0 lo=0/\HT.dB xs.length xs.length hi=xs.length)->∀p,H p=none->Q (.ref p) (AD H p (.tup (DF xs lo hi))))
theorem V6:DE X OX:=by
 rintro qA s Y H x v m l lo hi n Q I e j pl f⟨a,xs,rfl,g,h1,h2⟩;by_cases d:HT.dB xs.length 0 lo=0/\HT.dB xs.length xs.length hi=xs.length
 ·cases e;obtain⟨qG,r,i,o⟩:=I.tuple (.of g);have c:qG.toArray.size=xs.length:=by rw[size_toArray];exact r.length.symm
  exact⟨"tuple",_,PyProof.Rows.slot_tuple_getitem.lookup,i.typeIs,HT.dJ i j pl f (by rw[c];exact d) ⟨.ref a,H,I,rfl,h1 d⟩⟩
 ·exact U8 qA s Y H _ v m l lo hi n Q I e j pl f ⟨a,xs,rfl,.of g,d,h2 d⟩
end L2
namespace L2
open PySem PySem.Spec PyProof.Rows PySem.W
def ev{α:Type}(lt:Nat->Nat->Bool):KasT α->α
 |.ret a=>a
 |.ask i j k=>ev lt (k (lt i j))
theorem Fv{α c:Type}{lt:Nat->Nat->Bool}{f:α->KasT c}:∀t:KasT α,ev lt (t.bind f)=ev lt (f (ev lt t))
 |.ret a=>rfl
 |.ask i j k=>by simp only[KasT.bind,ev];exact Fv (k (lt i j))
section
variable{key:Nat->O.α}
def KP(key:Nat->O.α)(p:Array Nat)(i:Nat):O.α:=key (p.getD i 0)
abbrev BD(key:Nat->O.α):Nat->Nat->Bool:=λi j=>O.blt (key i) (key j)
def DH(key:Nat->O.α)(p:Array Nat)(k:Nat):Prop:=∀i j,i<=j->j<k->O.kle (KP key p i) (KP key p j)
def Em(key:Nat->O.α)(p:Array Nat)(k:Nat):Prop:=∀i j,i<=j->j<k->O.kle (KP key p j) (KP key p i)
theorem Gy{q:Array Nat}(h:p[i]?=q[j]?):KP key p i=KP key q j:=by
 unfold KP;rw[Array.getD_eq_getD_getElem?,Array.getD_eq_getD_getElem?,h]
theorem OY{a d:Nat}(c:a<p.size)(f:d<=a)(k:Nat):KP key (bubble p a d) k=if k=a - d then KP key p a else if a - d<k/\k<=a then KP key p (k - 1)else KP key p k:=by
 have e:=getElem?_bubble c d f k;split
 ·rw[aC ‹_›]at e;exact Gy e
 ·rw[aB ‹_›]at e;split
  ·rw[aC ‹_›]at e;exact Gy e
  ·rw[aB ‹_›]at e;exact Gy e
theorem K0(a:j<=p.size)(k:Nat):KP key (kas_rev p i j) k=if i<=k/\k<j then KP key p (i+j - 1 - k)else KP key p k:=by
 have e:=getElem?_mirror_all (i:=i) a k;unfold kas_rev;split
 ·rw[aC ‹_›]at e;exact Gy e
 ·rw[aB ‹_›]at e;exact Gy e
theorem K1(c:j<=p.size)(a:∀k,i<=k->k<j->KP key p k=KP key p (j - 1))(k:Nat):KP key (kas_rev p i j) k=KP key p k:=by
 rw[K0 c];split
 ·rw[a _ ⋯ ⋯,a k ⋯ ⋯]
 ·rfl
theorem Ik(p:Array Nat)(i j:Nat):(kas_rev p i j).Perm p:=mirror_perm _ _ _ _
theorem Fw(p:Array Nat)(i j:Nat):(kas_rev p i j).size=p.size:=mirror_size _ _ _ _
theorem K2{p:Array Nat}:∀(f n:Nat),1<=n->DH key p n->n<=ev (BD key) (kas_asc p f n)/\ev (BD key) (kas_asc p f n)<=n+f/\DH key p (ev (BD key) (kas_asc p f n)) /\
  (ev (BD key) (kas_asc p f n)<n+f->O.klt (KP key p (ev (BD key) (kas_asc p f n))) (KP key p (ev (BD key) (kas_asc p f n) - 1)))
 |0,n,h1,e=>⟨aQ _,aQ _,e,λz=>bS z (aX _)⟩
 |f+1,n,h1,e=>by
  simp only[kas_asc,ev];cases o:BD key (p.getD n 0) (p.getD (n - 1) 0)with
  |true =>
   simp only[dC,ev];exact⟨aQ _,⋯,e,λ_=>o⟩
  |false =>
   simp only[Bool.false_eq_true,if_false];have g:DH key p (n+1):=λi j m q=>by
    by_cases h:j=n
    ·subst h;by_cases l:i=j
     ·subst l;exact KeyOrd.kle_refl _
     ·exact KeyOrd.kle_trans (e i (j - 1) ⋯ ⋯) o
    ·exact e i j m ⋯
   obtain⟨a,b,c,d⟩:=K2 f (n+1) ⋯ g;exact⟨⋯,⋯,c,λz=>d ⋯⟩
theorem K3:∀(f:Nat) (p:Array Nat) (n q:Nat),q+1<=n->n+f<=p.size->Em key p n->(∀k,n - (q+1)<=k->k<n->KP key p k=KP key p (n - 1)) ->
  ∀r,r=ev (BD key) (kas_desc f p n q)->r.1.Perm p/\r.1.size=p.size/\n<=r.2.1/\r.2.1<=n+f/\r.2.2+1<=r.2.1/\Em key r.1 r.2.1/\∀k,r.2.1 - (r.2.2+1)<=k->k<r.2.1->KP key r.1 k=KP key r.1 (r.2.1 - 1)
 |0,p,n,q,C,I,s,z,r,l=>by
  subst l;exact⟨Array.Perm.refl _,rfl,aQ _,aQ _,C,s,z⟩
 |f+1,p,n,q,C,I,s,z,r,l=>by
  simp only[kas_desc,ev]at l;cases A:BD key (p.getD n 0) (p.getD (n - 1) 0)with
  |true =>
   rw[A]at l;simp only[dC]at l;have step:∀m:Array Nat,m.Perm p->m.size=p.size->(∀k,KP key m k=KP key p k)->r=ev (BD key) (kas_desc f m (n+1) 0)->r.1.Perm p/\r.1.size=p.size/\n<=r.2.1/\r.2.1<=n+(f+1)/\r.2.2+1<=r.2.1/\Em key r.1 r.2.1/\∀k,r.2.1 - (r.2.2+1)<=k->k<r.2.1->KP key r.1 k=KP key r.1 (r.2.1 - 1):=by
    intro m ρ D y B;have H:O.klt (KP key p n) (KP key p (n - 1)):=A;have o:Em key m (n+1):=λi j w L=>by
     rw[y i,y j];by_cases u:j=n
     ·subst u;by_cases v:i=j
      ·subst v;exact KeyOrd.kle_refl _
      ·exact KeyOrd.kle_trans (KeyOrd.kle_of_klt H) (s i (j - 1) ⋯ ⋯)
     ·exact s i j w ⋯
    obtain⟨a,b,c,d,e,g,h⟩:=K3 f m (n+1) 0 ⋯ ⋯ o (λk k1 k2=>by rw[show k=n+1 - 1 by lia]) r B;exact⟨a.trans ρ,b.trans D,⋯,⋯,e,g,h⟩
   by_cases x:q > 0
   ·rw[aC x]at l;exact step _ (Ik _ _ _) (Fw _ _ _) (K1 ⋯ z) l
   ·rw[aB x]at l;exact step p (Array.Perm.refl _) rfl dE l
  |false =>
   rw[A]at l;simp only[Bool.false_eq_true,if_false,ev]at l;cases us:BD key (p.getD (n - 1) 0) (p.getD n 0)with
   |true =>
    rw[us]at l;simp only[dC,ev]at l;subst l;exact⟨Array.Perm.refl _,rfl,aQ _,Nat.le_add_right _ _,C,s,z⟩
   |false =>
    rw[us]at l;simp only[Bool.false_eq_true,if_false]at l;have y:KP key p n=KP key p (n - 1):=O.total _ _ A us;have o:Em key p (n+1):=λi j w L=>by
     by_cases u:j=n
     ·subst u;by_cases v:i=j
      ·subst v;exact KeyOrd.kle_refl _
      ·rw[y];exact s i (j - 1) ⋯ ⋯
     ·exact s i j w ⋯
    obtain⟨a,b,c,d,e,g,h⟩:=K3 f p (n+1) (q+1) ⋯ ⋯ o (λk k1 k2=>by
     rw[show n+1 - 1=n by lia];by_cases E:k=n
     ·rw[E]
     ·rw[y];exact z k ⋯ ⋯) r l
    exact⟨a,b,⋯,⋯,e,g,h⟩
theorem V7(hz:n<=p.size)(h:Em key p n):DH key (kas_rev p 0 n) n:=λi j c a=>by
 rw[K0 hz,K0 hz,aC ⟨⋯,⋯⟩,aC ⟨⋯,a⟩];exact h _ _ ⋯ ⋯
theorem OZ(h1:1<=n)(e:n<=nrem)(hz:nrem<=p.size)(h:Em key p n):∀r,r=ev (BD key) (kas_tail3 n nrem p)->r.2.Perm p/\r.2.size=p.size/\1<=r.1/\r.1<=nrem/\DH key r.2 r.1:=λr d=>by
 simp only[kas_tail3,Fv,ev]at d;subst d;obtain⟨a,b,c,_⟩:=K2 (key:=key) (p:=kas_rev p 0 n) (nrem - n) n h1 (V7 ⋯ h);exact⟨Ik _ _ _,Fw _ _ _,⋯,⋯,c⟩
theorem Oa(h1:1<=n)(y:n+1<=nrem)(hz:nrem<=p.size)(h:Em key p (n+1)):∀r,r=ev (BD key) (kas_descPart n nrem p)->r.2.Perm p/\r.2.size=p.size/\1<=r.1/\r.1<=nrem/\DH key r.2 r.1:=λr f=>by
 simp only[kas_descPart,Fv]at f;obtain⟨a,b,c,d,e,g,k⟩:=K3 (key:=key) (nrem - (n+1)) p (n+1) 0 ⋯ ⋯ h (λk k1 k2=>by rw[show k=n+1 - 1 by lia]) _ rfl;generalize ev (BD key) (kas_desc (nrem - (n+1)) p (n+1) 0)=q at *;by_cases v:q.2.2 > 0
 ·rw[aC v]at f;have w:=K1 (key:=key) (p:=q.1) (i:=q.2.1 - (q.2.2+1)) (j:=q.2.1) ⋯ k;obtain⟨x1,s,o,m,l⟩:=OZ (p:=kas_rev q.1 (q.2.1 - (q.2.2+1)) q.2.1) (n:=q.2.1) (nrem:=nrem) ⋯ ⋯ (by rw[Fw];lia) (λi j u x=>by rw[w,w];exact g i j u x) r f;exact⟨x1.trans ((Ik _ _ _).trans a),by rw[s,Fw,b],o,m,l⟩
 ·rw[aB v]at f;obtain⟨x1,s,o,m,l⟩:=OZ (p:=q.1) (n:=q.2.1) (nrem:=nrem) ⋯ ⋯ ⋯ g r f;exact⟨x1.trans a,by rw[s,b],o,m,l⟩
theorem V8(h1:1<=nrem)(hz:nrem<=p.size):∀r,r=ev (BD key) (kas_count nrem p)->r.2.Perm p/\r.2.size=p.size/\1<=r.1/\r.1<=nrem/\DH key r.2 r.1:=λr e=>by
 simp only[kas_count,Fv]at e;obtain⟨a,b,c,d⟩:=K2 (key:=key) (p:=p) (nrem - 1) 1 (aQ _) (λi j m v=>by rw[show i=j by lia];exact KeyOrd.kle_refl _);generalize ev (BD key) (kas_asc p (nrem - 1) 1)=n at *;by_cases u:n=nrem
 ·rw[aC (~~~u)]at e;simp only[ev]at e;subst e;exact⟨Array.Perm.refl _,rfl,a,⋯,c⟩
 ·rw[aB (~~~u)]at e;have l:=d ⋯;by_cases w:n > 1
  ·rw[aC w]at e;simp only[ev]at e;cases s:BD key (p.getD 0 0) (p.getD (n - 1) 0)with
   |true =>
    rw[s]at e;simp only[dC,ev]at e;subst e;exact⟨Array.Perm.refl _,rfl,a,⋯,c⟩
   |false =>
    rw[s]at e;simp only[Bool.false_eq_true,if_false]at e;have f:∀k,k<n->KP key p k=KP key p (n - 1):=λk o=>by
     have B:KP key p 0=KP key p (n - 1):=KeyOrd.kle_antisymm (c 0 (n - 1) ⋯ ⋯) s;exact KeyOrd.kle_antisymm (c k (n - 1) ⋯ ⋯) (by rw[<-B];exact c 0 k ⋯ o)
    have o:=K1 (key:=key) (p:=p) (i:=0) (j:=n) ⋯ (λk _ k2=>f k k2);obtain⟨x1,A,z,y,x⟩:=Oa (key:=key) (p:=kas_rev p 0 n) (n:=n) (nrem:=nrem) a ⋯ (by rw[Fw];exact hz) (λi j m v=>by
     rw[o,o];by_cases g:j=n
     ·subst g;by_cases h:i=j
      ·subst h;exact KeyOrd.kle_refl _
      ·rw[f i ⋯];exact KeyOrd.kle_of_klt l
     ·rw[f i ⋯,f j ⋯];exact KeyOrd.kle_refl _) r e
    exact⟨x1.trans (Ik _ _ _),by rw[A,Fw],z,y,x⟩
  ·rw[aB w]at e;have q:n=1:=⋯;subst q;exact Oa (key:=key) (aQ _) ⋯ hz (λi j m v=>by
    by_cases g:j=1
    ·subst g;by_cases h:i=1
     ·subst h;exact KeyOrd.kle_refl _
     ·rw[show i=0 by lia];exact KeyOrd.kle_of_klt l
    ·rw[show i=j by lia];exact KeyOrd.kle_refl _) r e
theorem K4{p:Array Nat}{k:Nat}(e:DH key p k):∀(f l r:Nat),l<=r->r<=k->r - l<=f->(∀i,i<l->O.kle (KP key p i) (KP key p k))->(∀i,r<=i->i<k->O.klt (KP key p k) (KP key p i)) ->
  ∀m,m=ev (BD key) (kas_place p k f l r)->m<=k/\(∀i,i<m->O.kle (KP key p i) (KP key p k))/\∀i,m<=i->i<k->O.klt (KP key p k) (KP key p i)
 |0,l,r,h1,h2,n,j,h,m,a=>by
  simp only[kas_place,ev]at a;subst a;exact⟨⋯,j,λi hi d=>h i ⋯ d⟩
 |f+1,l,r,h1,h2,n,j,h,m,a=>by
  simp only[kas_place]at a;by_cases c:l≥r
  ·rw[aC c]at a;simp only[ev]at a;subst a;exact⟨⋯,j,λi hi d=>h i ⋯ d⟩
  ·rw[aB c]at a;simp only[ev]at a;cases g:BD key (p.getD k 0) (p.getD ((l+r) / 2) 0)with
   |true =>
    rw[g]at a;simp only[dC]at a;refine K4 e f l ((l+r) / 2) ⋯ ⋯ ⋯ j (λi hi d=>?_) m a;exact KeyOrd.klt_of_klt_of_kle g (e _ _ hi d)
   |false =>
    rw[g]at a;simp only[Bool.false_eq_true,if_false]at a;refine K4 e f ((l+r) / 2+1) r ⋯ h2 ⋯ (λi hi=>?_) h m a;exact KeyOrd.kle_trans (e _ _ ⋯ ⋯) g
theorem Ob:∀(f:Nat) (p:Array Nat) (k:Nat),k+f<=p.size->DH key p k->∀r,r=ev (BD key) (kas_bin f p k)->r.Perm p/\DH key r (k+f)
 |0,p,k,q,d,r,h=>by
  simp only[kas_bin,ev]at h;subst h;exact⟨Array.Perm.refl _,d⟩
 |f+1,p,k,q,d,r,h=>by
  simp only[kas_bin,Fv]at h;obtain⟨a,b,c⟩:=K4 d k 0 k (cD _) (aQ _) ⋯ (λi hi=>bS hi (Nat.not_lt_zero _)) (λi h1 h2=>bS h1 ⋯) _ rfl;generalize ev (BD key) (kas_place p k k 0 k)=l at *;have s:DH key (bubble p k (k - l)) (k+1):=λi j m u=>by
   have e:k - (k - l)=l:=⋯;rw[OY ⋯ ⋯,OY ⋯ ⋯,e];by_cases i1:i=l
   ·rw[aC i1];by_cases g:j=l
    ·rw[aC g];exact KeyOrd.kle_refl _
    ·rw[aB g,aC ⟨⋯,⋯⟩];exact KeyOrd.kle_of_klt (c _ ⋯ ⋯)
   ·rw[aB i1];by_cases i2:l<i/\i<=k
    ·rw[aC i2,aB (by lia:¬j=l),aC ⟨⋯,⋯⟩];exact d _ _ ⋯ ⋯
    ·rw[aB i2];by_cases g:j=l
     ·rw[aC g];exact b _ ⋯
     ·rw[aB g];by_cases n:l<j/\j<=k
      ·rw[aC n];exact d _ _ ⋯ ⋯
      ·rw[aB n];exact d _ _ m ⋯
  obtain⟨x1,o⟩:=Ob f (bubble p k (k - l)) (k+1) (by rw[bubble_size];lia) s r h;exact⟨x1.trans (bubble_perm _ _ _),by rw[show k+(f+1)=k+1+f by lia];exact o⟩
theorem Oc(h1:1<=n):∀r,r=ev (BD key) (kas_sort n)->r.Perm (toArray (List.range n))/\DH key r n:=λr f=>by
 simp only[kas_sort,Fv]at f;obtain⟨a,b,c,d,e⟩:=V8 (key:=key) (p:=toArray (List.range n)) (nrem:=n) h1 '2' _ rfl;generalize ev (BD key) (kas_count n (toArray (List.range n)))=q at *;by_cases g:q.1<n
 ·rw[aC g]at f;have i:max q.1 1=q.1:=⋯;rw[i]at f;have j:q.2.size=n:=by rw[b];simp
  obtain⟨x1,h⟩:=Ob (n - q.1) q.2 q.1 ⋯ e r f;exact⟨x1.trans a,by rw[show n=q.1+(n - q.1) by lia];exact h⟩
 ·rw[aB g]at f;simp only[ev]at f;subst f;exact⟨a,by rw[show n=q.1 by lia];exact e⟩
end
def Al{α:Type}(n:Nat):KasT α->Prop
 |.ret _=>True
 |.ask i j k=>i<n/\j<n/\∀b,Al n (k b)
theorem Al.bind{α c:Type}{n:Nat}{f:α->KasT c}:∀{t:KasT α},Al n t->(∀a,Al n (f a))->Al n (t.bind f)
 |.ret a,_,h=>h a
 |.ask i j k,h,g=>⟨h.1,h.2.1,λb=>Al.bind (h.2.2 b) g⟩
theorem Al.ite{α:Type}{c:Prop}[Decidable c]{t u:KasT α}(h1:Al n t)(h2:Al n u):Al n (if c then t else u):=by
 split<;>assumption
theorem K5{α:Type}{c:Nat->Nat->(Bool->Shared->Prop)->Shared->Prop}{lt:Nat->Nat->Bool}{s:Shared}{n:Nat}(h:∀i j C,i<n->j<n->C (lt i j) s->c i j C s){Q:α->Shared->Prop}:∀t:KasT α,Al n t->Q (ev lt t) s->t.kasWp c Q s
 |.ret a,_,q=>q
 |.ask i j k,a,q=>h i j _ a.1 a.2.1 (K5 h (k (lt i j)) (a.2.2 _) q)
def Bc(n:Nat)(p:Array Nat):Prop:=0<n/\∀x∈p.toList,x<n
theorem Bc.at(h:Bc n p)(k:Nat):p.getD k 0<n:=by
 rw[Array.getD_eq_getD_getElem?];cases e:p[k]? with
 |none=>exact h.1
 |some x=>exact h.2 x (~~~(Array.mem_of_getElem? e))
theorem Bc.perm{q:Array Nat}(h:Bc n p)(d:q.Perm p):Bc n q:=⟨h.1,λx c=>h.2 x (by simpa using(d.mem_iff (a:=x)).mp (~~~c))⟩
theorem Bc.rev(h:Bc n p)(i j:Nat):Bc n (kas_rev p i j):=h.perm (mirror_perm _ _ _ _)
theorem K6{n:Nat}{p:Array Nat}(h:Bc n p):∀(f a:Nat),Al n (kas_asc p f a)
 |0,_=>trivial
 |f+1,a=>⟨h.at _,h.at _,λb=>Al.ite trivial (K6 h f (a+1))⟩
theorem Il{n:Nat}:∀(f:Nat) (p:Array Nat) (a q:Nat),Bc n p->Al n (kas_desc f p a q)
 |0,_,_,_,_=>trivial
 |f+1,p,a,q,h=>⟨h.at _,h.at _,λb=>Al.ite (Al.ite (Il f _ _ _ (h.rev _ _)) (Il f _ _ _ h)) ⟨h.at _,h.at _,λd=>Al.ite trivial (Il f _ _ _ h)⟩⟩
theorem Od{a:Nat}(h:Bc n p):Al n (kas_tail3 a nrem p):=Al.bind (K6 (h.rev _ _) _ _) λ_=>trivial
def BR{α:Type}(us:α->Prop):KasT α->Prop
 |.ret a=>us a
 |.ask _ _ k=>∀b,BR us (k b)
theorem BR.ite{α:Type}{us:α->Prop}{c:Prop}[Decidable c]{t u:KasT α}(h1:BR us t)(h2:BR us u):BR us (if c then t else u):=by
 split<;>assumption
theorem BR.bind{α c:Type}{us:α->Prop}{F:c->Prop}{f:α->KasT c}:∀{t:KasT α},BR us t->(∀a,us a->BR F (f a))->BR F (t.bind f)
 |.ret a,h,g=>g a h
 |.ask i j k,h,g=>λb=>BR.bind (h b) g
theorem Al.bindO{α c:Type}{n:Nat}{us:α->Prop}{f:α->KasT c}:∀{t:KasT α},Al n t->BR us t->(∀a,us a->Al n (f a))->Al n (t.bind f)
 |.ret a,_,o,h=>h a o
 |.ask i j k,h,o,g=>⟨h.1,h.2.1,λb=>Al.bindO (h.2.2 b) (o b) g⟩
theorem K7{α:Type}:∀t:KasT α,BR (λ_=>True) t
 |.ret a=>trivial
 |.ask _ _ k=>λb=>K7 (k b)
theorem Gz{n:Nat}:∀(f:Nat) (p:Array Nat) (a q:Nat),Bc n p->BR (λr=>Bc n r.1) (kas_desc f p a q)
 |0,_,_,_,h=>h
 |f+1,p,a,q,h=>λb=>BR.ite (BR.ite (Gz f _ _ _ (h.rev _ _)) (Gz f _ _ _ h)) (λd=>BR.ite h (Gz f _ _ _ h))
theorem Oe{a:Nat}(h:Bc n p):BR (λr=>Bc n r.2) (kas_tail3 a nrem p):=BR.bind (K7 _) λ_ _=>h.rev _ _
theorem Og{a:Nat}(h:Bc n p):Al n (kas_descPart a nrem p):=Al.bindO (Il _ _ _ _ h) (Gz _ _ _ _ h) λr c=>Al.ite (Od (c.rev _ _)) (Od c)
theorem Oh{a:Nat}(h:Bc n p):BR (λr=>Bc n r.2) (kas_descPart a nrem p):=BR.bind (Gz _ _ _ _ h) λr c=>BR.ite (Oe (c.rev _ _)) (Oe c)
theorem V9(h:Bc n p):Al n (kas_count nrem p):=Al.bind (K6 h _ _) λa=>Al.ite trivial (Al.ite ⟨h.at _,h.at _,λc=>Al.ite trivial (Og (h.rev _ _))⟩ (Og h))
theorem WA(h:Bc n p):BR (λr=>Bc n r.2) (kas_count nrem p):=BR.bind (K7 _) λa _=>BR.ite h (BR.ite (λc=>BR.ite h (Oh (h.rev _ _))) (Oh h))
theorem K8{n k:Nat}{p:Array Nat}(h:Bc n p):∀(f l r:Nat),Al n (kas_place p k f l r)
 |0,_,_=>trivial
 |f+1,l,r=>Al.ite trivial ⟨h.at _,h.at _,λc=>Al.ite (K8 h f _ _) (K8 h f _ _)⟩
theorem Oi{n:Nat}:∀(f:Nat) (p:Array Nat) (k:Nat),Bc n p->Al n (kas_bin f p k)
 |0,_,_,_=>trivial
 |f+1,p,k,h=>Al.bind (K8 h _ _ _) λl=>Oi f _ _ (h.perm (bubble_perm _ _ _))
theorem Oj(h1:1<=n):Al n (kas_sort n):=by
 have h:Bc n (toArray (List.range n)):=⟨h1,λx a=>bH.mp a⟩;exact Al.bindO (V9 h) (WA h) λr c=>Al.ite (Oi _ _ _ c) trivial
theorem G4:∀a:By,HT.lexLt a a=false
 |[]=>rfl
 |x::r=>by rw[HT.dA,aC rfl];exact G4 r
theorem G5:∀a b c:By,HT.lexLt a b=true->HT.lexLt b c=true->HT.lexLt a c=true
 |[],[],c,h,_=>by simp[HT.lexLt]at h
 |[],_::_,[],_,h=>by simp[HT.lexLt]at h
 |[],_::_,_::_,_,_=>rfl
 |_::_,[],_,h,_=>by simp[HT.lexLt]at h
 |_::_,_::_,[],_,h=>by simp[HT.lexLt]at h
 |x::xs,y::ys,z::zs,h1,h2=>by
  rw[HT.dA]at h1 h2 ⊢;by_cases e:x=y
  ·subst e;rw[aC rfl]at h1;by_cases d:x=z
   ·subst d;rw[aC rfl]at h2 ⊢;exact G5 xs ys zs h1 h2
   ·rw[aB d]at h2 ⊢;exact h2
  ·rw[aB e]at h1;have h1:=aL h1;by_cases d:y=z
   ·subst d;rw[aB e];exact aK h1
   ·rw[aB d]at h2;have h2:=aL h2;rw[aB ⋯];exact aK ⋯
theorem G6:∀a b:By,HT.lexLt a b=false->HT.lexLt b a=false->a=b
 |[],[],_,_=>rfl
 |[],_::_,h,_=>by simp[HT.lexLt]at h
 |_::_,[],_,h=>by simp[HT.lexLt]at h
 |x::xs,y::ys,h1,h2=>by
  rw[HT.dA]at h1 h2;by_cases c:x=y
  ·subst c;rw[aC rfl]at h1 h2;rw[G6 xs ys h1 h2]
  ·rw[aB c]at h1;rw[aB (λz=>c z.symm)]at h2;have h1:=of_decide_eq_false h1;have h2:=of_decide_eq_false h2;lia
theorem Ol(a b c:By)(h:HT.lexLt a c=true):HT.lexLt a b=true\/HT.lexLt b c=true:=by
 cases h1:HT.lexLt a b
 ·cases h2:HT.lexLt b c
  ·exfalso;cases d:HT.lexLt b a
   ·rw[G6 a b h1 d,h2]at h;cases h
   ·have:=G5 b a c d h;rw[h2]at this;cases this
  ·exact .inr rfl
 ·exact .inl rfl
def En:KeyOrd:=⟨By,HT.lexLt,G4,G5,Ol,G6⟩
theorem Om{Q:Bool->Shared->Prop}{vs:Do}{d:By}(i:Nat)(h1:IntsAre G ns)(h2:IntsAre vs d)(f:ns.length=d.length)(q:Q (HT.lexLt ns d) s):KatLex prog w A true false Q (G.zip vs) i s:=by
 induction h1 generalizing vs d i with
 |nil =>
  cases h2 with
  |nil=>exact q
  |cons _ _ _=>cases f
 |cons a t j g =>
  cases h2 with
  |nil=>cases f
  |cons c u h =>
   rw[zip_cons_cons];refine kat_cons (SeqAt.EqAt.int_int a t c u prog w _ _ ?_);rw[HT.dA]at q;by_cases e:a=c
   ·rw[aC e]at q;rw[show(a==c)=true by simpa using e];exact kat_yes (g (i+1) h (Nat.succ.inj f) q)
   ·rw[aB e]at q;rw[show(a==c)=false by simpa using e];refine kat_no ?_;by_cases hi:i=0
    ·subst hi;exact kat_lt_int (E:=λ_ _=>False) q
    ·rw[show(true&&i==0)=false by simp[hi]];exact kat_one _ _ (lt_int (E:=λ_ _=>False) q)
end L2
namespace L2
open PySem PySem.Spec PyProof.Rows
abbrev EF(a:Addr)(i c z:Int):HO:=.lst [.ref a,.int i,.int c,.int z]
structure Bag(H:Hp)(b a:Addr):Prop where
 ob:∃(ns:By) (i c z:Int),H b\(EF a i c z)/\H a\(.lst (ns.map V.int))/\0<=i/\a≠b
structure Step(b a:Addr)(H H':Hp):Prop where
 bag:Bag H' b a
 same:∀p o,p≠b->H p\o->H' p\o
section
variable{b p:Addr}
theorem Step.refl(h:Bag H b a):Step b a H H:=⟨h,λ_ _ _ e=>e⟩
theorem Step.trans(x:Step b a H H1)(y:Step b a H1 H2):Step b a H H2:=⟨y.bag,λp o n e=>y.same p o n (x.same p o n e)⟩
theorem Bag.put(h:Bag H b a)(nb:p≠b)(na:p≠a):Bag (AD H p o) b a:=by
 obtain⟨ns,i,c,z,h1,h2,r⟩:=h;exact⟨ns,i,c,z,by rw[AI nb.symm];exact h1,by rw[AI na.symm];exact h2,r⟩
theorem Bag.atb(h:Bag H b a):∃l,H b\(.lst l):=by
 obtain⟨ns,i,c,z,h1,_⟩:=h;exact⟨_,h1⟩
theorem Bag.ata(h:Bag H b a):∃l,H a\(.lst l):=by
 obtain⟨ns,i,c,z,h1,h2,_⟩:=h;exact⟨_,h2⟩
theorem Bag.nb(h:Bag H b a)(n:H p=none):p≠b:=by
 obtain⟨l,h1⟩:=h.atb;exact(Ao h1 n).symm
theorem Bag.na(h:Bag H b a)(n:H p=none):p≠a:=by
 obtain⟨l,h1⟩:=h.ata;exact(Ao h1 n).symm
theorem Bag.new(h:Bag H b a)(n:H p=none):Bag (AD H p o) b a:=h.put (h.nb n) (h.na n)
theorem Step.new(h:Bag H b a)(n:H p=none):Step b a H (AD H p o):=⟨h.new n,λq u _ e=>by rw[AI (Ao e n)];exact e⟩
theorem Bag.neT(h:Bag H b a){xs:dG}(e:H p\(.tup xs)):p≠b/\p≠a:=by
 obtain⟨ns,i,c,z,h1,h2,_⟩:=h;exact⟨EZ e h1 (λz=>by cases z),EZ e h2 (λz=>by cases z)⟩
theorem Step.free(s:Step b a H H1)(n:H1 p=none):H p=none:=by
 cases e:H p with
 |none=>rfl
 |some o =>
  rw[s.same p o (s.bag.nb n) e]at n;cases n
end
abbrev Ab(r:By):List AK:=r.map Sum.inl
abbrev C1(x:Str):AK:=Sum.inr x
inductive P where
 |non|bl (b:Bool)|int (i:Int)|str (x:Str)|bag
 |tup (xs:List P)|lst (xs:List P)
 |dT (ks:List By) (vs:List P)|dK (ks:At) (vs:List P)
 |fT (ks:List By) (vs:List P)
abbrev dH:=List P
mutual
def P.imm:P->Bool
 |.lst _=>false|.dT _ _=>false|.dK _ _=>false|.fT _ _=>false
 |.tup xs=>P.imms xs
 |.non=>true|.bl _=>true|.int _=>true|.str _=>true|.bag=>true
def P.imms:dH->Bool
 |[]=>true
 |x::r=>x.imm&&P.imms r
end
def P.mut:P->Bool
 |.lst _=>true|.dT _ _=>true|.dK _ _=>true|.fT _ _=>true|_=>false
def P.items:P->Option dH
 |.lst xs=>some xs|.tup xs=>some xs|_=>none
def Fz(H:Hp)(p:Addr)(qH:List (List AK×V)):Prop:=∃o,H p\(.frz o (.dT qH))
theorem Fz.map{p:Addr}{qH:List (List AK×V)}(h:Fz H p qH)(k:∀o,H p\o->H' p\o):Fz H' p qH:=by obtain⟨o,e⟩:=h;exact ⟨o,k _ e⟩
mutual
def Rp(b:Addr)(Z:Addr->Prop)(H:Hp):P->V->Prop
 |.non,v=>v=.non
 |.bl k,v=>v=.bl k
 |.int i,v=>v=.int i
 |.str x,v=>v=.str x
 |.bag,v=>v=.ref b
 |.tup xs,v=>∃p vs,v=.ref p/\H p\(.tup vs)/\AC b Z H xs vs
 |.lst xs,v=>∃p vs,v=.ref p/\¬Z p/\H p\(.lst vs)/\AC b Z H xs vs
 |.dT ks xs,v=>∃p vs,v=.ref p/\¬Z p/\H p\(.dT ((ks.map Ab).zip vs))/\ks.length=xs.length/\AC b Z H xs vs
 |.fT ks xs,v=>∃p vs,v=.ref p/\¬Z p/\Fz H p ((ks.map Ab).zip vs)/\ks.length=xs.length/\AC b Z H xs vs
 |.dK ks xs,v=>∃p vs,v=.ref p/\¬Z p/\H p\(.dK ((ks.map C1).zip vs))/\ks.length=xs.length/\AC b Z H xs vs
def AC(b:Addr)(Z:Addr->Prop)(H:Hp):dH->dG->Prop
 |[],vs=>vs=[]
 |x::xs,vs=>∃v r,vs=v::r/\Rp b Z H x v/\AC b Z H xs r
end
def Rc(b:Addr)(Z:Addr->Prop)(H:Hp):P->Addr->Prop
 |.lst xs,p=>∃vs,H p\(.lst vs)/\AC b Z H xs vs
 |.dT ks xs,p=>∃vs,H p\(.dT ((ks.map Ab).zip vs))/\ks.length=xs.length/\AC b Z H xs vs
 |.fT ks xs,p=>∃vs,Fz H p ((ks.map Ab).zip vs)/\ks.length=xs.length/\AC b Z H xs vs
 |.dK ks xs,p=>∃vs,H p\(.dK ((ks.map C1).zip vs))/\ks.length=xs.length/\AC b Z H xs vs
 |_,_=>False
section
variable{b:Addr}{Z':Addr->Prop}
mutual
theorem Rp.keep(a:∀p o,¬Z p->H p\o->¬Z' p/\H' p\o)(e:∀p vs,H p\(.tup vs)->H' p\(.tup vs)):∀{x:P} {v:V},Rp b Z H x v->Rp b Z' H' x v
 |.non,_,h=>h
 |.bl _,_,h=>h
 |.int _,_,h=>h
 |.str _,_,h=>h
 |.bag,_,h=>h
 |.tup xs,v,h=>by
  obtain⟨p,vs,h1,h2,c⟩:=h;exact⟨p,vs,h1,e p vs h2,AC.keep a e c⟩
 |.lst xs,v,h=>by
  obtain⟨p,vs,h1,h2,c,d⟩:=h;exact⟨p,vs,h1,(a p _ h2 c).1,(a p _ h2 c).2,AC.keep a e d⟩
 |.dT ks xs,v,h=>by
  obtain⟨p,vs,h1,h2,c,f,d⟩:=h;exact⟨p,vs,h1,(a p _ h2 c).1,(a p _ h2 c).2,f,AC.keep a e d⟩
 |.fT ks xs,v,h=>by
  obtain⟨p,vs,h1,h2,⟨o,c⟩,f,d⟩:=h;exact⟨p,vs,h1,(a p _ h2 c).1,⟨o,(a p _ h2 c).2⟩,f,AC.keep a e d⟩
 |.dK ks xs,v,h=>by
  obtain⟨p,vs,h1,h2,c,f,d⟩:=h;exact⟨p,vs,h1,(a p _ h2 c).1,(a p _ h2 c).2,f,AC.keep a e d⟩
theorem AC.keep(c:∀p o,¬Z p->H p\o->¬Z' p/\H' p\o)(a:∀p vs,H p\(.tup vs)->H' p\(.tup vs)):∀{xs:dH} {vs:dG},AC b Z H xs vs->AC b Z' H' xs vs
 |[],_,h=>h
 |x::xs,vs,h=>by
  obtain⟨v,r,h1,h2,d⟩:=h;exact⟨v,r,h1,Rp.keep c a h2,AC.keep c a d⟩
end
mutual
theorem Rp.imm:∀{x:P} {v:V},x.imm=true->Rp b Z H x v->Rp b Z' H x v
 |.non,_,_,h=>h
 |.bl _,_,_,h=>h
 |.int _,_,_,h=>h
 |.str _,_,_,h=>h
 |.bag,_,_,h=>h
 |.tup xs,v,hi,h=>by
  obtain⟨p,vs,h1,h2,a⟩:=h;exact⟨p,vs,h1,h2,AC.imm (by simpa[P.imm]using hi) a⟩
 |.lst _,_,hi,_=>by simp[P.imm]at hi
 |.dT _ _,_,hi,_=>by simp[P.imm]at hi
 |.fT _ _,_,hi,_=>by simp[P.imm]at hi
 |.dK _ _,_,hi,_=>by simp[P.imm]at hi
theorem AC.imm:∀{xs:dH} {vs:dG},P.imms xs=true->AC b Z H xs vs->AC b Z' H xs vs
 |[],_,_,h=>h
 |x::xs,vs,hi,h=>by
  obtain⟨v,r,h1,h2,a⟩:=h;rw[P.imms,cB]at hi;exact⟨v,r,h1,Rp.imm hi.1 h2,AC.imm hi.2 a⟩
end
theorem AC.length:∀{xs:dH} {vs:dG},AC b Z H xs vs->xs.length=vs.length
 |[],_,h=>by rw[show _=[]from h];rfl
 |x::xs,vs,h=>by
  obtain⟨v,r,h1,h2,a⟩:=h;rw[h1,length_cons,length_cons,AC.length a]
theorem AC.get:∀{xs:dH} {vs:dG} {i:Nat} {x:P},AC b Z H xs vs->xs[i]?\x->∃v,vs[i]?\v/\Rp b Z H x v
 |[],_,_,_,_,e=>by simp at e
 |y::xs,vs,0,x,h,e=>by
  obtain⟨v,r,h1,h2,a⟩:=h;simp at e;subst e;subst h1;exact⟨v,rfl,h2⟩
 |y::xs,vs,i+1,x,h,e=>by
  obtain⟨v,r,h1,h2,a⟩:=h;subst h1;obtain⟨u,d,c⟩:=AC.get (i:=i) a (~~~e);exact⟨u,by simpa using d,c⟩
theorem AC.app:∀{xs ys:dH} {vs G:dG},AC b Z H xs vs->AC b Z H ys G->AC b Z H (xs++ys) (vs++G)
 |[],_,_,_,h,g=>by rw[show _=[]from h];exact g
 |x::xs,ys,vs,G,h,g=>by
  obtain⟨v,r,h1,h2,a⟩:=h;subst h1;exact⟨v,r++G,rfl,h2,AC.app a g⟩
theorem AC.take:∀{xs:dH} {vs:dG} (n:Nat),AC b Z H xs vs->AC b Z H (xs.take n) (vs.take n)
 |_,_,0,_=>rfl
 |[],_,_+1,h=>by rw[show _=[]from h];rfl
 |x::xs,vs,n+1,h=>by
  obtain⟨v,r,h1,h2,a⟩:=h;subst h1;exact⟨v,r.take n,rfl,h2,AC.take n a⟩
theorem AC.drop:∀{xs:dH} {vs:dG} (n:Nat),AC b Z H xs vs->AC b Z H (xs.drop n) (vs.drop n)
 |_,_,0,h=>h
 |[],_,_+1,h=>by rw[show _=[]from h];rfl
 |x::xs,vs,n+1,h=>by
  obtain⟨v,r,h1,h2,a⟩:=h;subst h1;exact AC.drop n a
theorem AC.erase:∀{xs:dH} {vs:dG} (n:Nat),AC b Z H xs vs->AC b Z H (xs.eraseIdx n) (vs.eraseIdx n)
 |[],_,_,h=>by rw[show _=[]from h];rfl
 |y::xs,vs,0,h=>by
  obtain⟨u,r,h1,h2,a⟩:=h;subst h1;exact a
 |y::xs,vs,n+1,h=>by
  obtain⟨u,r,h1,h2,a⟩:=h;subst h1;exact⟨u,r.eraseIdx n,rfl,h2,AC.erase n a⟩
theorem AC.snoc{xs:dH}{x:P}(h:AC b Z H xs vs)(g:Rp b Z H x v):AC b Z H (xs++[x]) (vs++[v]):=h.app ⟨v,[],rfl,g,rfl⟩
theorem AC.ints:∀{ns:By} {vs:dG},AC b Z H (ns.map P.int) vs↔vs=ns.map V.int
 |[],vs=>Iff.rfl
 |n::ns,vs=>by
  constructor
  ·rintro⟨v,r,h1,h2,a⟩;rw[h1,show v=.int n from h2,AC.ints.mp a];rfl
  ·intro h;exact⟨.int n,ns.map V.int,h,rfl,AC.ints.mpr rfl⟩
theorem AC.strs:∀{ns:At} {vs:dG},AC b Z H (ns.map P.str) vs↔vs=ns.map V.str
 |[],vs=>Iff.rfl
 |n::ns,vs=>by
  constructor
  ·rintro⟨v,r,h1,h2,a⟩;rw[h1,show v=.str n from h2,AC.strs.mp a];rfl
  ·intro h;exact⟨.str n,ns.map V.str,h,rfl,AC.strs.mpr rfl⟩
theorem AC.bls:∀{ns:List Bool} {vs:dG},AC b Z H (ns.map P.bl) vs↔vs=ns.map V.bl
 |[],vs=>Iff.rfl
 |n::ns,vs=>by
  constructor
  ·rintro⟨v,r,h1,h2,a⟩;rw[h1,show v=.bl n from h2,AC.bls.mp a];rfl
  ·intro h;exact⟨.bl n,ns.map V.bl,h,rfl,AC.bls.mpr rfl⟩
end
@[simp] theorem WC(i:Int):(P.int i).imm=true:=rfl
@[simp] theorem WD(i:Str):(P.str i).imm=true:=rfl
@[simp] theorem WE(i:Bool):(P.bl i).imm=true:=rfl
@[simp] theorem WF:P.non.imm=true:=rfl
@[simp] theorem WG:P.bag.imm=true:=rfl
@[simp] theorem WH(xs:dH):(P.lst xs).imm=false:=rfl
@[simp] theorem WI(ks:List By)(xs:dH):(P.dT ks xs).imm=false:=rfl
@[simp] theorem WJ(ks:At)(xs:dH):(P.dK ks xs).imm=false:=rfl
@[simp] theorem WK(xs:dH):(P.tup xs).imm=P.imms xs:=by simp[P.imm]
@[simp] theorem WL:P.imms []=true:=by simp[P.imms]
@[simp] theorem Im(x:P)(xs:dH):P.imms (x::xs)=(x.imm&&P.imms xs):=by simp[P.imms]
theorem G7{xs:dH}:P.imms xs=true↔∀x∈xs,x.imm=true:=by
 induction xs with
 |nil=>simp
 |cons x r a=>simp[a]
@[simp] theorem WM(xs ys:dH):P.imms (xs++ys)=(P.imms xs&&P.imms ys):=by
 induction xs with
 |nil=>simp
 |cons x r a=>simp[a,Bool.and_assoc]
theorem FL{α:Type}{f:α->P}(h:∀a,(f a).imm=true)(xs:List α):P.imms (xs.map f)=true:=by
 rw[G7];intro x c;obtain⟨a,_,rfl⟩:=bU.mp c;exact h a
@[simp] theorem Ip(ns:By):P.imms (ns.map P.int)=true:=FL dE ns
@[simp] theorem Iq(ns:At):P.imms (ns.map P.str)=true:=FL dE ns
@[simp] theorem WN(ns:List Bool):P.imms (ns.map P.bl)=true:=FL dE ns
@[simp] theorem WO(xs:dH):(P.lst xs).mut=true:=rfl
@[simp] theorem WQ(ks:List By)(xs:dH):(P.dT ks xs).mut=true:=rfl
@[simp] theorem WR(ks:At)(xs:dH):(P.dK ks xs).mut=true:=rfl
@[simp] theorem WS(xs:dH):(P.tup xs).mut=false:=rfl
@[simp] theorem WT(xs:dH):(P.lst xs).items\xs:=rfl
@[simp] theorem WU(xs:dH):(P.tup xs).items\xs:=rfl
inductive S where
 |emp|sh (x:P)|fr (x:P)|own (x:P)
abbrev dI:=List S
inductive Fl where
 |nw|fr|cl|bo|rf|an
 deriving DecidableEq
def Fl.el:Fl->Fl
 |.nw=>.fr|.fr=>.fr|.bo=>.fr|.cl=>.cl|.rf=>.rf|.an=>.an
def Fl.top:Fl->Fl
 |.nw=>.nw|.fr=>.nw|.bo=>.nw|.cl=>.cl|.rf=>.rf|.an=>.an
def Fl.join:Fl->Fl->Fl
 |.nw,g=>g|f,.nw=>f
 |.cl,.cl=>.cl|.rf,.rf=>.rf|_,_=>.an
def BC(f:Fl)(xs:dH):Fl:=if P.imms xs=true then .nw else f.top
structure Wd where
 b:Addr
 a:Addr
 H₀:Hp
 F:Hp
 O:Addr->Prop
end L2
variable{xs:List L2.P}{y:L2.P}{f:L2.Fl}{W:L2.Wd}{J ρ':List L2.S}
namespace L2
open PySem PySem.Spec PyProof.Rows
def AZ(J:dI)(Y:St)(p:Addr):Prop:=∃(i:Nat) (x:P),J[i]?\(.own x)/\Y[i]?\(some (.ref p))
def Ow(W:Wd)(J:dI)(Y:St)(p:Addr):Prop:=W.O p\/AZ J Y p
def AG(W:Wd)(J:dI)(Y:St):Fl->Addr->Prop
 |.cl,p=>p=W.b\/Ow W J Y p
 |.rf,p=>p=W.b\/W.H₀ p≠none
 |.an,p=>p=W.b
 |_,p=>p=W.b\/Ow W J Y p\/W.H₀ p≠none
abbrev Zf(W:Wd)(J:dI)(Y:St):Addr->Prop:=AG W J Y .fr
abbrev Zc(W:Wd)(J:dI)(Y:St):Addr->Prop:=AG W J Y .cl
def CF(W:Wd)(J:dI)(Y:St)(H:Hp):S->Option V->Prop
 |.emp,_=>True
 |.sh x,o=>∃v,o\v/\Rp W.b (Zc W J Y) H x v
 |.fr x,o=>∃v,o\v/\Rp W.b (Zf W J Y) H x v
 |.own x,o=>∃p,o\(.ref p)/\W.H₀ p=none/\W.F p=none/\p≠W.b/\p≠W.a/\Rc W.b (Zf W J Y) H x p
structure Ok(W:Wd)(J:dI)(Y:St)(H:Hp):Prop where
 bag:Bag H W.b W.a
 fb:W.F W.b=none
 old:∀p o,p≠W.b->W.H₀ p\o->H p\o
 frm:∀p o,W.F p\o->H p\o
 oo:∀p,W.O p->W.H₀ p=none/\W.F p=none/\p≠W.b/\p≠W.a/\∃o,H p\o/\∀ys,o≠.tup ys
 len:Y.length=J.length
 slot:∀(i:Nat) s,J[i]?\s->∃o,Y[i]?\o/\CF W J Y H s o
 uniq:∀(i j:Nat) x y,J[i]?\(S.own x)->J[j]?\(S.own y)->Y[i]?=Y[j]?->i=j
def RF(W:Wd)(J:dI)(Y:St)(Hs:Hp):Fl->Hp->P->V->Prop
 |.bo,H,x,v=>∃p,v=.ref p/\AZ J Y p/\Rc W.b (Zf W J Y) H x p
 |.nw,H,x,v=>Rp W.b (Zf W J Y) H x v/\(x.mut=true->∃p,v=.ref p/\Hs p=none)
 |f,H,x,v=>Rp W.b (AG W J Y f) H x v
section
variable{x:P}{p:Addr}
theorem Rc.cell{b:Addr}(h:Rc b Z H x p):∃o,H p\o/\∀ys,o≠.tup ys:=by
 cases x with
 |lst xs=>obtain⟨vs,h1,_⟩:=h;exact⟨_,h1,λ_ z=>nomatch z⟩
 |dT ks xs=>obtain⟨vs,h1,_⟩:=h;exact⟨_,h1,λ_ z=>nomatch z⟩
 |fT ks xs=>obtain⟨vs,⟨o,h1⟩,_⟩:=h;exact⟨_,h1,λ_ z=>nomatch z⟩
 |dK ks xs=>obtain⟨vs,h1,_⟩:=h;exact⟨_,h1,λ_ z=>nomatch z⟩
 |_=>exact h.elim
theorem Ok.ow(ok:Ok W J Y H)(h:Ow W J Y p):W.H₀ p=none/\W.F p=none/\p≠W.b/\p≠W.a/\∃o,H p\o/\∀ys,o≠.tup ys:=by
 rcases h with h|⟨i,x,h1,h2⟩
 ·exact ok.oo p h
 obtain⟨o,c,q,l,j,g,f,e,d⟩:=ok.slot i _ h1;rw[h2]at c;cases c;cases l;exact⟨j,g,f,e,d.cell⟩
theorem Ok.dom(ok:Ok W J Y H)(h:AG W J Y f p):H p≠none:=by
 have a:p=W.b->H p≠none:=λe=>by
  obtain⟨l,q⟩:=ok.bag.atb;rw[e,q];exactλz=>nomatch z
 have c:Ow W J Y p->H p≠none:=λe=>by
  obtain⟨_,_,_,_,o,q,_⟩:=ok.ow e;rw[q];exactλz=>nomatch z
 have d:W.H₀ p≠none->H p≠none:=λe z=>by
  by_cases g:p=W.b
  ·exact a g z
  ·cases q:W.H₀ p with
   |none=>exact e q
   |some o=>rw[ok.old p o g q]at z;cases z
 cases f<;>simp only[AG]at h
 ·exact h.elim a λh=>h.elim c d
 ·exact h.elim a λh=>h.elim c d
 ·exact h.elim a c
 ·exact h.elim a λh=>h.elim c d
 ·exact h.elim a d
 ·exact a h
theorem AG.b:AG W J Y f W.b:=by
 cases f<;>simp[AG]
theorem Rp.step(h:Rp W.b (AG W J Y f) H x v)(s:Step W.b W.a H H')(d:Bag H W.b W.a):Rp W.b (AG W J Y f) H' x v :=
 h.keep (λp o c e=>⟨c,s.same p o (λz=>c (z▸AG.b)) e⟩) λp vs e=>s.same p _ (d.neT e).1 e
theorem AC.step(h:AC W.b (AG W J Y f) H xs vs)(s:Step W.b W.a H H')(d:Bag H W.b W.a):AC W.b (AG W J Y f) H' xs vs :=
 h.keep (λp o c e=>⟨c,s.same p o (λz=>c (z▸AG.b)) e⟩) λp vs e=>s.same p _ (d.neT e).1 e
theorem Rc.step(h:Rc W.b (Zf W J Y) H x p)(s:Step W.b W.a H H')(f:Bag H W.b W.a)(d:p≠W.b):Rc W.b (Zf W J Y) H' x p:=by
 cases x with
 |lst xs=>obtain⟨vs,h1,h2⟩:=h;exact⟨vs,s.same p _ d h1,h2.step s f⟩
 |dT ks xs=>obtain⟨vs,h1,c,h2⟩:=h;exact⟨vs,s.same p _ d h1,c,h2.step s f⟩
 |fT ks xs=>obtain⟨vs,h1,c,h2⟩:=h;exact⟨vs,h1.map λ_ e=>s.same p _ d e,c,h2.step s f⟩
 |dK ks xs=>obtain⟨vs,h1,c,h2⟩:=h;exact⟨vs,s.same p _ d h1,c,h2.step s f⟩
 |_=>exact h.elim
theorem CF.step{s:S}{o:Option V}(h:CF W J Y H s o)(st:Step W.b W.a H H')(c:Bag H W.b W.a):CF W J Y H' s o:=by
 cases s with
 |emp=>trivial
 |sh x=>obtain⟨v,h1,h2⟩:=h;exact⟨v,h1,h2.step st c⟩
 |fr x=>obtain⟨v,h1,h2⟩:=h;exact⟨v,h1,h2.step st c⟩
 |own x=>obtain⟨p,h1,h2,g,d,f,e⟩:=h;exact⟨p,h1,h2,g,d,f,e.step st c d⟩
theorem Ok.step(ok:Ok W J Y H)(st:Step W.b W.a H H'):Ok W J Y H' where
 bag:=st.bag
 fb:=ok.fb
 old:=λp o c e=>st.same p o c (ok.old p o c e)
 frm:=λp o e=>st.same p o (λz=>by rw[z,ok.fb]at e;cases e) (ok.frm p o e)
 oo:=λp h=>(by obtain⟨h1,h2,d,j,o,g,f⟩:=ok.oo p h;exact ⟨h1,h2,d,j,o,st.same p o d g,f⟩)
 len:=ok.len
 slot:=λi s e=>(by obtain⟨o,h1,h2⟩:=ok.slot i s e;exact ⟨o,h1,h2.step st ok.bag⟩)
 uniq:=ok.uniq
theorem RF.step(h:RF W J Y Hs f H x v)(ok:Ok W J Y H)(s:Step W.b W.a H H'):RF W J Y Hs f H' x v:=by
 cases f with
 |bo =>
  obtain⟨p,h1,h2,c⟩:=h;exact⟨p,h1,h2,c.step s ok.bag (ok.ow (.inr h2)).2.2.1⟩
 |nw=>exact⟨h.1.step (f:=.fr) s ok.bag,h.2⟩
 |fr=>exact Rp.step (f:=.fr) h s ok.bag
 |cl=>exact Rp.step (f:=.cl) h s ok.bag
 |rf=>exact Rp.step (f:=.rf) h s ok.bag
 |an=>exact Rp.step (f:=.an) h s ok.bag
theorem RF.back(h:RF W J Y H1 f H x v)(s:Step W.b W.a Hs H1):RF W J Y Hs f H x v:=by
 cases f with
 |nw=>exact⟨h.1,λm=>(by obtain⟨p,e,n⟩:=h.2 m;exact ⟨p,e,s.free n⟩)⟩
 |_=>exact h
theorem RF.any(h:RF W J Y Hs f H x v)(ok:Ok W J Y H):Rp W.b (AG W J Y .an) H x v:=by
 have k:∀{g:Fl},Rp W.b (AG W J Y g) H x v->Rp W.b (AG W J Y .an) H x v:=λ{g} h=>h.keep (λp o j e=>⟨λz=>j (by rw[show p=W.b from z];exact AG.b),e⟩) λp vs e=>e;cases f with
 |bo =>
  obtain⟨p,h1,h2,d⟩:=h;have nb:=(ok.ow (.inr h2)).2.2.1;have k2:∀{xs:dH} {vs:dG},AC W.b (Zf W J Y) H xs vs->AC W.b (AG W J Y .an) H xs vs:=λh=>h.keep (λp o j e=>⟨λz=>j (by rw[show p=W.b from z];exact AG.b),e⟩) λp vs e=>e;cases x with
  |lst xs=>obtain⟨vs,c,a⟩:=d;exact⟨p,vs,h1,nb,c,k2 a⟩
  |dT ks xs=>obtain⟨vs,c,i,a⟩:=d;exact⟨p,vs,h1,nb,c,i,k2 a⟩
  |fT ks xs=>obtain⟨vs,c,i,a⟩:=d;exact⟨p,vs,h1,nb,c,i,k2 a⟩
  |dK ks xs=>obtain⟨vs,c,i,a⟩:=d;exact⟨p,vs,h1,nb,c,i,k2 a⟩
  |_=>exact d.elim
 |nw=>exact k (g:=.fr) h.1
 |fr=>exact k (g:=.fr) h
 |cl=>exact k (g:=.cl) h
 |rf=>exact k (g:=.rf) h
 |an=>exact h
theorem RF.items(h:RF W J Y Hs f H x v)(c:x.items\xs):∃p vs,v=.ref p/\(H p\(.lst vs)\/H p\(.tup vs))/\AC W.b (AG W J Y f) H xs vs:=by
 have k:∀{g:Fl},Rp W.b (AG W J Y g) H x v->∃p vs,v=.ref p/\(H p\(.lst vs)\/H p\(.tup vs))/\AC W.b (AG W J Y g) H xs vs:=λ{g} h=>by
  cases x<;>simp only[P.items]at c<;>try cases c
  ·obtain⟨p,vs,h1,h2,a⟩:=h;exact⟨p,vs,h1,.inr h2,a⟩
  ·obtain⟨p,vs,h1,i,h2,a⟩:=h;exact⟨p,vs,h1,.inl h2,a⟩
 cases f with
 |bo =>
  obtain⟨p,h1,h2,a⟩:=h;cases x<;>simp only[P.items]at c<;>try cases c
  ·exact a.elim
  ·obtain⟨vs,e,d⟩:=a;exact⟨p,vs,h1,.inl e,d⟩
 |nw=>exact k (g:=.fr) h.1
 |fr=>exact k (g:=.fr) h
 |cl=>exact k (g:=.cl) h
 |rf=>exact k (g:=.rf) h
 |an=>exact k (g:=.an) h
theorem RF.ofEl(h:Rp W.b (AG W J Y f) H x v):RF W J Y Hs f.el H x v:=by
 cases f<;>exact h
theorem RF.newL(ok:Ok W J Y H)(st:Step W.b W.a Hs H)(c:AC W.b (AG W J Y f) H xs vs)(d:H p=none):RF W J Y Hs (BC f xs) (AD H p (.lst vs)) (.lst xs) (.ref p):=by
 have e:∀g,¬AG W J Y g p:=λg z=>ok.dom z d;have k:∀g,AC W.b (AG W J Y g) H xs vs->Rp W.b (AG W J Y g) (AD H p (.lst vs)) (.lst xs) (.ref p):=λg h=>⟨p,vs,rfl,e g,AX,h.step (Step.new ok.bag d) ok.bag⟩;unfold BC;split
 ·exact⟨k .fr (c.imm ‹_›),λ_=>⟨p,rfl,st.free d⟩⟩
 ·cases f with
  |nw=>exact⟨k .fr c,λ_=>⟨p,rfl,st.free d⟩⟩
  |fr=>exact⟨k .fr c,λ_=>⟨p,rfl,st.free d⟩⟩
  |bo=>exact⟨k .fr c,λ_=>⟨p,rfl,st.free d⟩⟩
  |cl=>exact k .cl c
  |rf=>exact k .rf c
  |an=>exact k .an c
theorem RF.newT(ok:Ok W J Y H)(a:AC W.b (AG W J Y f) H xs vs)(c:H p=none):RF W J Y Hs (BC f xs) (AD H p (.tup vs)) (.tup xs) (.ref p):=by
 have k:∀g,AC W.b (AG W J Y g) H xs vs->Rp W.b (AG W J Y g) (AD H p (.tup vs)) (.tup xs) (.ref p):=λg h=>⟨p,vs,rfl,AX,h.step (Step.new ok.bag c) ok.bag⟩;unfold BC;split
 ·exact⟨k .fr (a.imm ‹_›),λm=>by simp at m⟩
 ·cases f with
  |nw=>exact⟨k .fr a,λm=>by simp at m⟩
  |fr=>exact⟨k .fr a,λm=>by simp at m⟩
  |bo=>exact⟨k .fr a,λm=>by simp at m⟩
  |cl=>exact k .cl a
  |rf=>exact k .rf a
  |an=>exact k .an a
end
abbrev pE:=dI->(P->Fl->Prop)->Prop
end L2
variable{pa pb pe pk:L2.pE}
namespace L2
open PySem PySem.Spec PyProof.Rows
abbrev pT:=dI->(Bool->Prop)->Prop
abbrev pA:=dI->(List (P×Fl)->Prop)->Prop
def BL(t:TE)(p:pE):Prop:=∀(W:Wd) (J:dI) (Y:St) (H:Hp) (Q:VK) (K:P->Fl->Prop),Ok W J Y H->p J K->(∀x f v H',K x f->Step W.b W.a H H'->RF W J Y H f H' x v->Q v H')->t Y H Q
def G8(t:TT)(p:pT):Prop:=∀(W:Wd) (J:dI) (Y:St) (H:Hp) (Q:Bool->Hp->Prop) (K:Bool->Prop),Ok W J Y H->p J K->(∀c H',K c->Step W.b W.a H H'->Q c H')->t Y H Q
def Bf(W:Wd)(J:dI)(Y:St)(Hs H:Hp):List (P×Fl)->dG->Prop
 |[],vs=>vs=[]
 |(x,f)::r,vs=>∃v t,vs=v::t/\RF W J Y Hs f H x v/\Bf W J Y Hs H r t
def K9(t:TA)(p:pA):Prop:=∀(W:Wd) (J:dI) (Y:St) (H:Hp) (Q:dG->Hp->Prop) (K:List (P×Fl)->Prop),Ok W J Y H->p J K->(∀xs vs H',K xs->Step W.b W.a H H'->Bf W J Y H H' xs vs->Q vs H')->t Y H Q
section
def QE(Xs:ι->Cx)(e:Expr)(p:pE):Prop:=∃t,(∀i,PE (Xs i) e t)/\BL t p
def QT(Xs:ι->Cx)(e:Expr)(p:pT):Prop:=∃t,(∀i,PT (Xs i) e t)/\G8 t p
def QW(Xs:ι->Cx)(e:Expr)(p:pT):Prop:=∃t,(∀i,PW (Xs i) e t)/\G8 t p
def QA(Xs:ι->Cx)(es:List Expr)(p:pA):Prop:=∃t,(∀i,PA (Xs i) es t)/\K9 t p
end
abbrev p2:=P->Fl->P->Fl->(P->Fl->Prop)->Prop
def BV(r:R2)(pr:p2):Prop:=∀(W:Wd) (J:dI) (Y:St) (Hs H:Hp) (Q:VK) (K:P->Fl->Prop) (x y:P) (f g:Fl) (v u:V),Ok W J Y H->Step W.b W.a Hs H->RF W J Y Hs f H x v->RF W J Y Hs g H y u->pr x f y g K ->
 (∀z h v' H',K z h->Step W.b W.a H H'->RF W J Y Hs h H' z v'->Q v' H')->r v u H Q
abbrev pC:=List (P×Fl)->(P->Fl->Prop)->Prop
def Bz(r:dG->Hp->VK->Prop)(pr:pC):Prop:=∀(W:Wd) (J:dI) (Y:St) (Hs H:Hp) (Q:VK) (K:P->Fl->Prop) (xs:List (P×Fl)) (vs:dG),Ok W J Y H->Step W.b W.a Hs H->Bf W J Y Hs H xs vs->pr xs K ->
 (∀z h v' H',K z h->Step W.b W.a H H'->RF W J Y Hs h H' z v'->Q v' H')->r vs H Q
section
variable{x:P}{ar:List (P×Fl)}
theorem Bf.back:∀{ar:List (P×Fl)} {vs:dG},Bf W J Y H1 H ar vs->Step W.b W.a Hs H1->Bf W J Y Hs H ar vs
 |[],_,h,_=>h
 |(x,f)::r,vs,h,st=>by
  obtain⟨v,t,h1,h2,c⟩:=h;exact⟨v,t,h1,h2.back st,Bf.back c st⟩
theorem Bf.any:∀{ar:List (P×Fl)} {vs:dG},Bf W J Y Hs H ar vs->Ok W J Y H->AC W.b (AG W J Y .an) H (ar.map (·.1)) vs
 |[],_,h,_=>h
 |(x,f)::r,vs,h,ok=>by
  obtain⟨v,t,h1,h2,a⟩:=h;exact⟨v,t,h1,h2.any ok,Bf.any a ok⟩
theorem Bf.length:∀{ar:List (P×Fl)} {vs:dG},Bf W J Y Hs H ar vs->vs.length=ar.length
 |[],_,h=>by rw[show _=[]from h];rfl
 |(x,f)::r,vs,h=>by
  obtain⟨v,t,h1,h2,a⟩:=h;rw[h1,length_cons,length_cons,Bf.length a]
end
def Fx(k:Nat):pE:=λJ K=>match J[k]? with
 |some (.sh x)=>K x .cl
 |some (.fr x)=>K x .fr
 |some (.own x)=>K x .bo
 |_=>False
def pK(x:P):pE:=λ_ K=>K x .fr
def Fy(pr:p2)(pa pb:pE):pE:=λJ K=>pa J λx f=>pb J λy g=>pr x f y g K
def Ir:pA:=λ_ K=>K []
def Iu(pa:pE)(pr:pA):pA:=λJ K=>pa J λx f=>pr J λxs=>K ((x,f)::xs)
def EG(pr:pC)(pa:pA):pE:=λJ K=>pa J λxs=>pr xs K
section
variable{a b:Expr}{pc:pE}
theorem Ok.var(ok:Ok W J Y H){k:Nat}{K:P->Fl->Prop}(h:Fx k J K):∃x f v,K x f/\Y[k]?\(some v)/\RF W J Y H f H x v:=by
 unfold Fx at h;cases e:J[k]? with
 |none=>rw[e]at h;exact h.elim
 |some s =>
  rw[e]at h;obtain⟨o,h1,h2⟩:=ok.slot k s e;cases s with
  |emp=>exact h.elim
  |sh x=>obtain⟨v,rfl,a⟩:=h2;exact⟨x,_,v,h,h1,a⟩
  |fr x=>obtain⟨v,rfl,a⟩:=h2;exact⟨x,_,v,h,h1,a⟩
  |own x=>obtain⟨p,rfl,a,i,g,d,c⟩:=h2;exact⟨x,_,_,h,h1,p,rfl,⟨k,x,e,h1⟩,c⟩
theorem WV(k:Nat):BL (CV k) (Fx k):=λW J Y H Q K ok h q=>by
 obtain⟨x,f,v,h1,h2,a⟩:=ok.var h;exact⟨v,h2,q x f v H h1 (Step.refl ok.bag) a⟩
theorem qv(k:Nat)(e:∀i,(Xs i).N[k]?\x:=by rfl)(c:∀i,Cw (Xs i).env.scope x:=by intro _;trivial)(d:No x:=by decide)
  (a:N_ x:=by decide):QE Xs (.Name x pos) (Fx k):=⟨_,λi=>Ds (e i) (c i) d a,WV k⟩
theorem Iv{x:P}(hi:x.imm=true)(h:∀W H,Rp W (λ_=>False) H x v):BL (tC v) (pK x):=λW J Y H Q K ok a q=>q x .fr v H a (Step.refl ok.bag) ((h W.b H).imm hi)
theorem AW{i j}:QE Xs (.Constant (.int i) j pos) (pK (.int i)):=⟨_,λ_=>Ae,Iv rfl λ_ _=>rfl⟩
theorem DI{b j}:QE Xs (.Constant (.bool b) j pos) (pK (.bl b)):=⟨_,λ_=>T0,Iv rfl λ_ _=>rfl⟩
theorem Oo{j}:QE Xs (.Constant .none j pos) (pK .non):=⟨_,λ_=>T1,Iv rfl λ_ _=>rfl⟩
theorem FM{x j}:QE Xs (.Constant (.str x) j pos) (pK (.str x)):=⟨_,λ_=>IL,Iv rfl λ_ _=>rfl⟩
theorem Iw{r:R2}{pr:p2}(l:BV r pr)(n:BL ta pa)(m:BL tb pb):BL (FC r ta tb) (Fy pr pa pb):=λW J Y H Q K ok h q =>
 n W J Y H _ _ ok h λx f v H1 h1 a j=>m W J Y H1 _ _ (ok.step a) h1 λy g u H2 h2 c i =>
  l W J Y H H2 Q K x y f g v u ((ok.step a).step c) (a.trans c) (j.step (ok.step a) c) (i.back a) h2 λz h v' H' o d e=>q z h v' H' o ((a.trans c).trans d) e
theorem B0{op:Operator}{r:R2}{pr:p2}(h:∀i,Ay (Xs i) (binaryOp op) r)(g:BV r pr)(l:QE Xs a pa)(j:QE Xs b pb):QE Xs (.BinOp a op b pos) (Fy pr pa pb):=by
 obtain⟨ta,f,e⟩:=l;obtain⟨tb,d,c⟩:=j;exact⟨_,λi=>BU (h i) (f i) (d i),Iw g e c⟩
theorem Eo{op:CmpOp}{r:R2}{pr:p2}(h:∀i,Ay (Xs i) (compareOp op) r)(g:BV r pr)(m:QE Xs a pa)(l:QE Xs b pb)(j:behindInMarks op b=false):QE Xs (.Compare a [op] [b] pos) (Fy pr pa pb):=by
 obtain⟨ta,f,e⟩:=m;obtain⟨tb,d,c⟩:=l;exact⟨_,λi=>Ul (h i) (f i) (d i) j,Iw g e c⟩
theorem Av{r:R2}{pr:p2}(j:∀i,FE (Xs i) r)(h:BV r pr)(m:QE Xs a pa)(l:QE Xs b pb)(g:Nq b):QE Xs (.Subscript a b pos) (Fy pr pa pb):=by
 obtain⟨ta,f,e⟩:=m;obtain⟨tb,d,c⟩:=l;exact⟨_,λi=>CK (j i) (f i) (d i) g,Iw h e c⟩
theorem AE:QA Xs [] Ir:=⟨_,λ_=>Az,λW J Y H Q K ok h q=>q [] [] H h (Step.refl ok.bag) rfl⟩
theorem AA{pr:pA}(r:QE Xs a pa)(p:QA Xs es pr)(o:∀i,starEach (a::es) (Xs i).env=(false,eval a (Xs i).env)::starEach es (Xs i).env:=by rfl):QA Xs (a::es) (Iu pa pr):=by
 obtain⟨ta,j,g⟩:=r;obtain⟨s,e,d⟩:=p;refine⟨_,λi=>Ag (j i) (e i) (o i),λW J Y H Q K ok h q=>?_⟩;exact g W J Y H _ _ ok h λx f v H1 h1 c n=>d W J Y H1 _ _ (ok.step c) h1 λxs vs H2 h2 l m =>
  q _ _ H2 h2 (c.trans l) ⟨v,vs,rfl,n.step (ok.step c) l,m.back c⟩
theorem G9{r:dG->Hp->VK->Prop}{pr:pC}{t:TA}{p:pA}(f:Bz r pr)(g:K9 t p):BL (DD r t) (EG pr p):=λW J Y H Q K ok h q =>
 g W J Y H _ _ ok h λxs vs H1 h1 a e=>f W J Y H H1 Q K xs vs (ok.step a) a e h1 λz h v' H' i c d=>q z h v' H' i (a.trans c) d
theorem A4{id:String}{r:dG->Hp->VK->Prop}{pr:pC}{p:pA}{p1:Pos}(m:∀i,BK (Xs i) (.builtin id) r)(f:Bz r pr)(h:∀i,(Xs i).mg x=none)(e:bootBuiltins x\(.builtin id))(n:QA Xs (a::es) p)
  (j:∀i,Gl (Xs i) x:=by rfl) (g:x≠"__name__":=by decide +kernel) (d:No x:=by decide +kernel) (l:∀i,starEach (a::es) (Xs i).env=(false,eval a (Xs i).env)::starEach es (Xs i).env:=by rfl) (c:∀i,(backTo pos (starEach es (Xs i).env)).any (·.1)=false:=by rfl) :
  QE Xs (.Call (.Name x p1) (a::es) [] pos) (EG pr p):=by
 obtain⟨t,h1,h2⟩:=n;exact⟨_,λi=>Eh (m i) (j i) (h i) e (h1 i) g d (l i) (c i),G9 f h2⟩
theorem BW{T:String}{r:dG->Hp->VK->Prop}{pr:pC}{p:pA}{p1:Pos}(m:∀i,BK (Xs i) (.type T) r)(f:Bz r pr)(h:∀i,(Xs i).mg x=none)(e:bootBuiltins x\(.type T))(n:QA Xs (a::es) p)
  (j:∀i,Gl (Xs i) x:=by rfl) (g:x≠"__name__":=by decide +kernel) (d:No x:=by decide +kernel) (l:∀i,starEach (a::es) (Xs i).env=(false,eval a (Xs i).env)::starEach es (Xs i).env:=by rfl) (c:∀i,(backTo pos (starEach es (Xs i).env)).any (·.1)=false:=by rfl) :
  QE Xs (.Call (.Name x p1) (a::es) [] pos) (EG pr p):=by
 obtain⟨t,h1,h2⟩:=n;exact⟨_,λi=>IW (m i) (j i) (h i) e (h1 i) g d (l i) (c i),G9 f h2⟩
end
def As:P->Fl->Fl
 |x,.bo=>if x.imm=true then .nw else .rf
 |x,.nw=>.nw
 |x,.fr=>.nw
 |x,.cl=>if x.imm=true then .nw else .cl
 |x,.rf=>if x.imm=true then .nw else .rf
 |x,.an=>if x.imm=true then .nw else .an
def CL:List (P×Fl)->Fl
 |[]=>.nw
 |(x,f)::r=>(As x f).join (CL r)
def Op(p:pA):pE:=λJ K=>p J λxs=>K (.tup (xs.map (·.1))) (CL xs)
def Oq(p:pA):pE:=λJ K=>p J λxs=>K (.lst (xs.map (·.1))) (CL xs)
section
variable{x:P}{g:Fl}{ar:List (P×Fl)}
theorem LA(ok:Ok W J Y H)(h2:RF W J Y Hs f H x v):As x f≠.bo/\As x f≠.fr/\Rp W.b (AG W J Y (As x f)) H x v:=by
 by_cases hi:x.imm=true
 ·have e:As x f=.nw:=by cases f<;>simp[As,hi]
  rw[e];exact⟨'2','2',(h2.any ok).imm hi⟩
 ·cases f with
  |nw=>exact⟨by simp[As],by simp[As],h2.1⟩
  |fr=>exact⟨by simp[As],by simp[As],h2⟩
  |cl=>simp only[As,aB hi];exact⟨'2','2',h2⟩
  |rf=>simp only[As,aB hi];exact⟨'2','2',h2⟩
  |an=>simp only[As,aB hi];exact⟨'2','2',h2⟩
  |bo =>
   simp only[As,aB hi];refine⟨'2','2',?_⟩;obtain⟨p,q1,q2,d⟩:=h2;have l:=ok.ow (.inr q2);have i:¬AG W J Y .rf p:=by
    simp only[AG,not_or,Classical.not_not];exact⟨l.2.2.1,l.1⟩
   have j:∀{xs:dH} {vs:dG},AC W.b (Zf W J Y) H xs vs->AC W.b (AG W J Y .rf) H xs vs:=λh=>h.keep (λp o m e=>⟨λz=>m (z.elim .inl λz=>.inr (.inr z)),e⟩) λp vs e=>e;cases x with
   |lst xs=>obtain⟨G,c,a⟩:=d;exact⟨p,G,q1,i,c,j a⟩
   |dT ks xs=>obtain⟨G,c,g,a⟩:=d;exact⟨p,G,q1,i,c,g,j a⟩
   |fT ks xs=>obtain⟨G,c,g,a⟩:=d;exact⟨p,G,q1,i,c,g,j a⟩
   |dK ks xs=>obtain⟨G,c,g,a⟩:=d;exact⟨p,G,q1,i,c,g,j a⟩
   |_=>exact d.elim
theorem Os{g j:Fl}(h1:g≠.bo)(h2:g≠.fr)(c:j≠.bo)(a:j≠.fr)(p:Addr)(z:AG W J Y (g.join j) p):AG W J Y g p/\AG W J Y j p:=by
 cases g<;>cases j<;>simp_all [Fl.join,AG]<;>rcases z with z|z<;>simp_all
theorem LB{g j:Fl}(h1:g≠.bo)(h2:g≠.fr)(c:j≠.bo)(a:j≠.fr):g.join j≠.bo/\g.join j≠.fr:=by
 cases g<;>cases j<;>simp_all [Fl.join]
theorem Bf.items:∀{ar:List (P×Fl)} {vs:dG},Ok W J Y H->Bf W J Y Hs H ar vs->CL ar≠.bo/\CL ar≠.fr/\AC W.b (AG W J Y (CL ar)) H (ar.map (·.1)) vs
 |[],_,_,h=>⟨by simp[CL],by simp[CL],h⟩
 |(x,f)::r,vs,ok,h=>by
  obtain⟨v,t,h1,h2,j⟩:=h;obtain⟨n1,n2,i⟩:=Bf.items ok j;obtain⟨c,a,g⟩:=LA ok h2;have hj:=Os (W:=W) (J:=J) (Y:=Y) c a n1 n2;exact⟨(LB c a n1 n2).1,(LB c a n1 n2).2,v,t,h1,g.keep (λp o d e=>⟨λz=>d (hj p z).1,e⟩) (λp vs e=>e),i.keep (λp o d e=>⟨λz=>d (hj p z).2,e⟩) (λp vs e=>e)⟩
theorem RF.topped{g:Fl}(c:g≠.bo)(a:g≠.fr):g.top=g:=by cases g<;>simp_all [Fl.top]
end
section
variable{a b:Expr}{pc:pE}
theorem LC:∀{xs:List (P×Fl)},P.imms (xs.map (·.1))=true->CL xs=.nw
 |[],_=>rfl
 |(x,f)::r,hi=>by
  simp only[map_cons,Im,cB]at hi;rw[CL,LC hi.2];have:As x f=.nw:=by cases f<;>simp[As,hi.1]
  rw[this];rfl
theorem Bu{x1}{p:pA}(h:QA Xs es p)(m:es.length=n:=by rfl)(hz:n<=sizeLine:=by decide):QE Xs (.Tuple es x1 pos) (Op λJ K=>p J λxs=>xs.length=n/\K xs):=by
 obtain⟨t,h1,h2⟩:=h;refine⟨_,λi=>Nc (h1 i),λW J Y H Q K ok l q=>?_⟩;refine h2 W J Y H _ _ ok l λxs vs H1 zz a c=>?_;obtain⟨j,k1⟩:=zz;refine⟨by rw[c.length,j];exact hz,λp d=>?_⟩;obtain⟨g,f,e⟩:=Bf.items (ok.step a) c;have st:=a.trans (Step.new (o:=.tup vs) a.bag d);refine q _ _ (.ref p) _ k1 st ?_;have:=RF.newT (Hs:=H) (ok.step a) e d;unfold BC at this;split at this
 ·rename_i hi;rw[LC hi];exact this
 ·rw[RF.topped g f]at this;exact this
theorem B1{p:pA}(h:QA Xs es p)(m:es.length=n:=by rfl)(hz:n<=sizeLine:=by decide):QE Xs (.List es pos) (Oq λJ K=>p J λxs=>xs.length=n/\K xs):=by
 obtain⟨t,h1,h2⟩:=h;refine⟨_,λi=>Gb (h1 i),λW J Y H Q K ok l q=>?_⟩;refine h2 W J Y H _ _ ok l λxs vs H1 zz a c=>?_;obtain⟨j,k1⟩:=zz;refine⟨by rw[c.length,j];exact hz,λp d=>?_⟩;obtain⟨g,f,e⟩:=Bf.items (ok.step a) c;have st:=a.trans (Step.new (o:=.lst vs) a.bag d);refine q _ _ (.ref p) _ k1 st ?_;have:=RF.newL (ok.step a) a e d;unfold BC at this;split at this
 ·rename_i hi;rw[LC hi];exact this
 ·rw[RF.topped g f]at this;exact this
end
def LD(k:List AK):By:=k.map λx=>match x with|.inl i=>i|.inr _=>0
def Ot(k:AK):Str:=match k with|.inr x=>x|.inl _=>⟨#[]⟩
theorem LF(r:By):LD (Ab r)=r:=by simp[LD,bZ,Function.comp_def]
theorem Ou{ks ks':List By}(h:ks.map Ab=ks'.map Ab):ks=ks':=by
 have:=aT (map LD) h;simpa[bZ,Function.comp_def,LF]using this
theorem WW{ks':At}(h:ks.map C1=ks'.map C1):ks=ks':=by
 have:=aT (map Ot) h;simpa[bZ,Function.comp_def,Ot]using this
theorem LG{α c:Type}{ks ks':List α}{vs vs':List c}(h1:ks.length=vs.length)(h2:ks'.length=vs'.length)(h:ks.zip vs=ks'.zip vs'):ks=ks'/\vs=vs':=by
 have a:=aT (map Prod.fst) h;have b:=aT (map Prod.snd) h;rw[map_fst_zip ⋯,map_fst_zip ⋯]at a;rw[map_snd_zip ⋯,map_snd_zip ⋯]at b;exact⟨a,b⟩
section
variable{b:Addr}{Z':Addr->Prop}
mutual
theorem Rp.fun(hz:Z b)(j:∀vs,H b≠some (.tup vs)):∀{x y:P} {v:V},Rp b Z H x v->Rp b Z H y v->x=y
 |.non,y,v,h1,h2=>by
  rw[show v=_ from h1]at h2;cases y<;>simp_all [Rp]
 |.bl _,y,v,h1,h2=>by
  rw[show v=_ from h1]at h2;cases y<;>simp_all [Rp]
 |.int _,y,v,h1,h2=>by
  rw[show v=_ from h1]at h2;cases y<;>simp_all [Rp]
 |.str _,y,v,h1,h2=>by
  rw[show v=_ from h1]at h2;cases y<;>simp_all [Rp]
 |.bag,y,v,h1,h2=>by
  rw[show v=_ from h1]at h2;cases y<;>simp_all [Rp]
 |.tup xs,y,v,h1,h2=>by
  obtain⟨p,vs,rfl,e,f⟩:=h1;cases y with
  |tup ys =>
   obtain⟨q,G,c,a,d⟩:=h2;cases c;rw[e]at a;cases a;rw[AC.fun hz j f d]
  |lst ys=>obtain⟨q,G,c,_,a,d⟩:=h2;cases c;rw[e]at a;cases a
  |dT ks ys=>obtain⟨q,G,c,_,a,d⟩:=h2;cases c;rw[e]at a;cases a
  |fT ks ys=>obtain⟨q,G,c,_,⟨o,a⟩,d⟩:=h2;cases c;rw[e]at a;cases a
  |dK ks ys=>obtain⟨q,G,c,_,a,d⟩:=h2;cases c;rw[e]at a;cases a
  |bag=>cases(show V.ref p=V.ref b from h2);exact bS e (j vs)
  |_=>cases h2
 |.lst xs,y,v,h1,h2=>by
  obtain⟨p,vs,rfl,i,e,f⟩:=h1;cases y with
  |lst ys =>
   obtain⟨q,G,c,_,a,d⟩:=h2;cases c;rw[e]at a;cases a;rw[AC.fun hz j f d]
  |tup ys=>obtain⟨q,G,c,a,d⟩:=h2;cases c;rw[e]at a;cases a
  |dT ks ys=>obtain⟨q,G,c,_,a,d⟩:=h2;cases c;rw[e]at a;cases a
  |fT ks ys=>obtain⟨q,G,c,_,⟨o,a⟩,d⟩:=h2;cases c;rw[e]at a;cases a
  |dK ks ys=>obtain⟨q,G,c,_,a,d⟩:=h2;cases c;rw[e]at a;cases a
  |bag=>cases(show V.ref p=V.ref b from h2);exact bS hz i
  |_=>cases h2
 |.dT ks xs,y,v,h1,h2=>by
  obtain⟨p,vs,rfl,i,e,el,f⟩:=h1;cases y with
  |dT h ys =>
   obtain⟨q,G,c,_,a,m,d⟩:=h2;cases c;rw[e]at a;obtain⟨g,l⟩:=LG (by rw[aA];exact el.trans f.length) (by rw[aA];exact m.trans d.length) (HO.dT.inj (oI a));have g:=Ou g;subst g;subst l;rw[AC.fun hz j f d]
  |fT h ys=>obtain⟨q,G,c,_,⟨o,a⟩,d⟩:=h2;cases c;rw[e]at a;cases a
  |tup ys=>obtain⟨q,G,c,a,d⟩:=h2;cases c;rw[e]at a;cases a
  |lst ys=>obtain⟨q,G,c,_,a,d⟩:=h2;cases c;rw[e]at a;cases a
  |dK ks ys=>obtain⟨q,G,c,_,a,d⟩:=h2;cases c;rw[e]at a;cases a
  |bag=>cases(show V.ref p=V.ref b from h2);exact bS hz i
  |_=>cases h2
 |.fT ks xs,y,v,h1,h2=>by
  obtain⟨p,vs,rfl,i,⟨o,e⟩,el,f⟩:=h1;cases y with
  |fT h ys =>
   obtain⟨q,G,c,_,⟨o',a⟩,m,d⟩:=h2;cases c;rw[e]at a;have a:=(HO.frz.inj (oI a)).2;obtain⟨g,l⟩:=LG (by rw[aA];exact el.trans f.length) (by rw[aA];exact m.trans d.length) (HO.dT.inj a);have g:=Ou g;subst g;subst l;rw[AC.fun hz j f d]
  |tup ys=>obtain⟨q,G,c,a,d⟩:=h2;cases c;rw[e]at a;cases a
  |lst ys=>obtain⟨q,G,c,_,a,d⟩:=h2;cases c;rw[e]at a;cases a
  |dT ks ys=>obtain⟨q,G,c,_,a,d⟩:=h2;cases c;rw[e]at a;cases a
  |dK ks ys=>obtain⟨q,G,c,_,a,d⟩:=h2;cases c;rw[e]at a;cases a
  |bag=>cases(show V.ref p=V.ref b from h2);exact bS hz i
  |_=>cases h2
 |.dK ks xs,y,v,h1,h2=>by
  obtain⟨p,vs,rfl,i,e,el,f⟩:=h1;cases y with
  |dK h ys =>
   obtain⟨q,G,c,_,a,m,d⟩:=h2;cases c;rw[e]at a;obtain⟨g,l⟩:=LG (by rw[aA];exact el.trans f.length) (by rw[aA];exact m.trans d.length) (HO.dK.inj (oI a));have g:=WW g;subst g;subst l;rw[AC.fun hz j f d]
  |tup ys=>obtain⟨q,G,c,a,d⟩:=h2;cases c;rw[e]at a;cases a
  |lst ys=>obtain⟨q,G,c,_,a,d⟩:=h2;cases c;rw[e]at a;cases a
  |dT ks ys=>obtain⟨q,G,c,_,a,d⟩:=h2;cases c;rw[e]at a;cases a
  |fT ks ys=>obtain⟨q,G,c,_,⟨o,a⟩,d⟩:=h2;cases c;rw[e]at a;cases a
  |bag=>cases(show V.ref p=V.ref b from h2);exact bS hz i
  |_=>cases h2
theorem AC.fun(hz:Z b)(a:∀vs,H b≠some (.tup vs)):∀{xs ys:dH} {vs:dG},AC b Z H xs vs->AC b Z H ys vs->xs=ys
 |[],ys,vs,h1,h2=>by
  rw[show vs=[]from h1]at h2;cases ys with
  |nil=>rfl
  |cons y r=>obtain⟨v,t,e,_⟩:=h2;cases e
 |x::xs,ys,vs,h1,h2=>by
  obtain⟨v,r,rfl,h,g⟩:=h1;cases ys with
  |nil=>cases(show v::r=[]from h2)
  |cons y ys =>
   obtain⟨u,t,f,d,c⟩:=h2;cases f;rw[Rp.fun hz a h d,AC.fun hz a g c]
end
mutual
theorem Rp.avoid(hz:Z b)(d:∀vs,H b≠some (.tup vs)){x:P}{p:Addr}(c:Rp b Z H x (.ref p)):∀{y:P} {v:V},sizeOf y<sizeOf x->Rp b Z H y v->Rp b (λq=>Z q\/q=p) H y v
 |.non,_,_,h=>h
 |.bl _,_,_,h=>h
 |.int _,_,_,h=>h
 |.str _,_,_,h=>h
 |.bag,_,_,h=>h
 |.tup ys,v,a,h=>by
  obtain⟨q,vs,g,f,e⟩:=h;exact⟨q,vs,g,f,AC.avoid hz d c (by simp at a ⊢;lia) e⟩
 |.lst ys,v,a,h=>by
  obtain⟨q,vs,rfl,g,f,e⟩:=id h;refine⟨q,vs,rfl,λz=>z.elim g λz=>?_,f,AC.avoid hz d c (by simp at a ⊢;lia) e⟩;subst z;rw[Rp.fun hz d c h]at a;exact aX _ a
 |.dT ks ys,v,a,h=>by
  obtain⟨q,vs,rfl,g,f,el,e⟩:=id h;refine⟨q,vs,rfl,λz=>z.elim g λz=>?_,f,el,AC.avoid hz d c (by simp at a ⊢;lia) e⟩;subst z;rw[Rp.fun hz d c h]at a;exact aX _ a
 |.fT ks ys,v,a,h=>by
  obtain⟨q,vs,rfl,g,f,el,e⟩:=id h;refine⟨q,vs,rfl,λz=>z.elim g λz=>?_,f,el,AC.avoid hz d c (by simp at a ⊢;lia) e⟩;subst z;rw[Rp.fun hz d c h]at a;exact aX _ a
 |.dK ks ys,v,a,h=>by
  obtain⟨q,vs,rfl,g,f,el,e⟩:=id h;refine⟨q,vs,rfl,λz=>z.elim g λz=>?_,f,el,AC.avoid hz d c (by simp at a ⊢;lia) e⟩;subst z;rw[Rp.fun hz d c h]at a;exact aX _ a
theorem AC.avoid(hz:Z b)(d:∀vs,H b≠some (.tup vs)){x:P}{p:Addr}(a:Rp b Z H x (.ref p)):∀{ys:dH} {vs:dG},sizeOf ys<sizeOf x->AC b Z H ys vs->AC b (λq=>Z q\/q=p) H ys vs
 |[],_,_,h=>h
 |y::ys,vs,c,h=>by
  obtain⟨v,r,g,f,e⟩:=h;exact⟨v,r,g,Rp.avoid hz d a (by simp at c ⊢;lia) f,AC.avoid hz d a (by simp at c ⊢;lia) e⟩
end
theorem Rp.toRc(hz:Z b)(g:∀vs,H b≠some (.tup vs)){x:P}{p:Addr}(hm:x.mut=true)(a:Rp b Z H x (.ref p)):¬Z p/\Rc b (λq=>Z q\/q=p) H x p:=by
 cases x with
 |lst xs =>
  obtain⟨q,vs,f,e,d,c⟩:=id a;cases f;exact⟨e,vs,d,AC.avoid hz g a '2' c⟩
 |dT ks xs =>
  obtain⟨q,vs,f,e,d,el,c⟩:=id a;cases f;exact⟨e,vs,d,el,AC.avoid hz g a '4' c⟩
 |fT ks xs =>
  obtain⟨q,vs,f,e,d,el,c⟩:=id a;cases f;exact⟨e,vs,d,el,AC.avoid hz g a '4' c⟩
 |dK ks xs =>
  obtain⟨q,vs,f,e,d,el,c⟩:=id a;cases f;exact⟨e,vs,d,el,AC.avoid hz g a '4' c⟩
 |_=>simp[P.mut]at hm
end
def A0(k:Nat)(x:P)(f:Fl)(J:dI)(K:dI->Prop):Prop :=
 if x.imm=true then K (J.set k (.sh x))else match f with
 |.nw=>K (J.set k (if x.mut=true then .own x else .fr x))
 |.fr=>K (J.set k (.fr x))
 |.cl=>K (J.set k (.sh x))
 |_=>False
section
variable{x:P}{p:Addr}{k:Nat}
theorem Ok.nt(ok:Ok W J Y H):∀vs,H W.b≠some (.tup vs):=λvs e=>(ok.bag.neT e).1 rfl
theorem Ix(st:Step W.b W.a Hs H)(c:∀p,AZ ρ' σ' p->AZ J Y p\/Hs p=none)(p:Addr)(o:HO)(hz:¬AG W J Y f p)(e:Hs p\o):¬AG W ρ' σ' f p/\H p\o:=by
 refine⟨λz=>hz ?_,st.same p o (λz=>hz (z▸AG.b)) e⟩;have k:Ow W ρ' σ' p->Ow W J Y p:=λz=>z.elim .inl λz=>(c p z).elim .inr λz=>by rw[e]at z;cases z
 cases f<;>simp only[AG]at z ⊢
 all_goals first|exact z|exact z.elim .inl λz=>.inr (k z)|exact z.elim .inl λz=>.inr (z.elim (λz=>.inl (k z)) .inr)
theorem Rp.move(c:Bag Hs W.b W.a)(st:Step W.b W.a Hs H)(hn:∀p,AZ ρ' σ' p->AZ J Y p\/Hs p=none)(h:Rp W.b (AG W J Y f) Hs x v):Rp W.b (AG W ρ' σ' f) H x v :=
 h.keep (Ix st hn) λp vs e=>st.same p _ (c.neT e).1 e
theorem AC.move(c:Bag Hs W.b W.a)(st:Step W.b W.a Hs H)(hn:∀p,AZ ρ' σ' p->AZ J Y p\/Hs p=none)(h:AC W.b (AG W J Y f) Hs xs vs):AC W.b (AG W ρ' σ' f) H xs vs :=
 h.keep (Ix st hn) λp vs e=>st.same p _ (c.neT e).1 e
theorem Rc.move(f:Bag Hs W.b W.a)(st:Step W.b W.a Hs H)(d:p≠W.b)(hn:∀p,AZ ρ' σ' p->AZ J Y p\/Hs p=none)(h:Rc W.b (Zf W J Y) Hs x p):Rc W.b (Zf W ρ' σ') H x p:=by
 cases x with
 |lst xs=>obtain⟨vs,h1,h2⟩:=h;exact⟨vs,st.same p _ d h1,h2.move f st hn⟩
 |dT ks xs=>obtain⟨vs,h1,c,h2⟩:=h;exact⟨vs,st.same p _ d h1,c,h2.move f st hn⟩
 |fT ks xs=>obtain⟨vs,h1,c,h2⟩:=h;exact⟨vs,h1.map λ_ e=>st.same p _ d e,c,h2.move f st hn⟩
 |dK ks xs=>obtain⟨vs,h1,c,h2⟩:=h;exact⟨vs,st.same p _ d h1,c,h2.move f st hn⟩
 |_=>exact h.elim
theorem CF.move{s:S}{o:Option V}(c:Bag Hs W.b W.a)(st:Step W.b W.a Hs H)(hn:∀p,AZ ρ' σ' p->AZ J Y p\/Hs p=none)(h:CF W J Y Hs s o):CF W ρ' σ' H s o:=by
 cases s with
 |emp=>trivial
 |sh x=>obtain⟨v,h1,h2⟩:=h;exact⟨v,h1,h2.move c st hn⟩
 |fr x=>obtain⟨v,h1,h2⟩:=h;exact⟨v,h1,h2.move c st hn⟩
 |own x=>obtain⟨p,h1,h2,g,d,f,e⟩:=h;exact⟨p,h1,h2,g,d,f,e.move c st d hn⟩
theorem Ok.put{s:S}(ok:Ok W J Y Hs)(st:Step W.b W.a Hs H)(g:k<J.length)(hn:∀p,AZ (J.set k s) (Y.set k (some v)) p->AZ J Y p\/Hs p=none)
  (A:CF W (J.set k s) (Y.set k (some v)) H s (some v)) (w:∀y,s=.own y->∃p,v=.ref p/\Hs p=none):Ok W (J.set k s) (Y.set k (some v)) H where
 bag:=st.bag
 fb:=ok.fb
 old:=λp o n e=>st.same p o n (ok.old p o n e)
 frm:=λp o e=>st.same p o (λz=>by rw[z,ok.fb]at e;cases e) (ok.frm p o e)
 oo:=(ok.step st).oo
 len:=by rw[length_set,length_set];exact ok.len
 slot:=λi s' e=>by
  by_cases hi:k=i
  ·subst hi;rw[bY g]at e;cases e;exact⟨some v,bY (by rw[ok.len];exact g),A⟩
  ·rw[bV hi]at e;obtain⟨o,h1,h2⟩:=ok.slot i s' e;exact⟨o,by rw[bV hi];exact h1,h2.move ok.bag st hn⟩
 uniq:=λi j x y h1 h2 c=>by
  have old:∀i x,k≠i->(J.set k s)[i]?\(.own x)->∃p o,Y[i]?\(some (.ref p))/\Hs p\o:=λi x hi e=>by
   rw[bV hi]at e;obtain⟨o,q1,p,q2,_,_,_,_,u⟩:=ok.slot i _ e;obtain⟨o',r,_⟩:=u.cell;exact⟨p,o',by rw[q1,q2],r⟩
  have new:∀i x,k=i->(J.set k s)[i]?\(.own x)->∃p,v=.ref p/\Hs p=none:=λi x hi e=>by
   subst hi;rw[bY g]at e;cases e;exact w x rfl
  have d:k<Y.length:=by rw[ok.len];exact g
  by_cases hi:k=i<;>by_cases hj:k=j
  ·exact hi.symm.trans hj
  ·exfalso;obtain⟨p,m,l⟩:=new i x hi h1;obtain⟨q,o,h,f⟩:=old j y hj h2;rw[<-hi,bY d,bV hj,h,m]at c;cases c;rw[l]at f;cases f
  ·exfalso;obtain⟨p,m,l⟩:=new j y hj h2;obtain⟨q,o,h,f⟩:=old i x hi h1;rw[<-hj,bY d,bV hi,h,m]at c;cases c;rw[l]at f;cases f
  ·rw[bV hi]at h1 c;rw[bV hj]at h2 c;exact ok.uniq i j x y h1 h2 c
theorem F0{s:S}(a:∀x,s≠.own x):∀p,AZ (J.set k s) (Y.set k (some v)) p->AZ J Y p:=λp ⟨i,x,h1,h2⟩=>by
 by_cases hi:k=i
 ·subst hi;rcases cE k J.length with q|q
  ·rw[bY q]at h1;exact bS (oI h1) (a x)
  ·rw[bQ (by rw[length_set];exact q)]at h1;cases h1
 ·rw[bV hi]at h1 h2;exact⟨i,x,h1,h2⟩
theorem Ok.set{K:dI->Prop}(ok:Ok W J Y Hs)(st:Step W.b W.a Hs H)(r:RF W J Y Hs f H x v)(h:A0 k x f J K):∃ρ',K ρ'/\Ok W ρ' (Y.set k (some v)) H:=by
 by_cases d:J.length<=k
 ·have L:∀s,J.set k s=J:=λs=>set_eq_of_length_le d;have ρ:Y.set k (some v)=Y:=set_eq_of_length_le (by rw[ok.len];exact d);rw[ρ];refine⟨J,?_,ok.step st⟩;unfold A0 at h;simp only[L]at h;split at h
  ·exact h
  ·cases f<;>first|exact h|exact h.elim
 have d:k<J.length:=Nat.lt_of_not_le d;have c:=ok.step st;have k1:∀(s:S),(∀x,s≠.own x)->CF W (J.set k s) (Y.set k (some v)) H s (some v)->Ok W (J.set k s) (Y.set k (some v)) H:=λs C w =>
  ok.put st d (λp z=>.inl (F0 C p z)) w λy e=>bS e (C y)
 have k2:∀{s:S} {g:Fl},(∀x,s≠.own x)->Rp W.b (AG W J Y g) H x v->Rp W.b (AG W (J.set k s) (Y.set k (some v)) g) H x v:=λ{s g} C w =>
  Rp.move c.bag (Step.refl c.bag) (λp z=>.inl (F0 C p z)) w
 unfold A0 at h;split at h
 ·rename_i hi;exact⟨_,h,k1 _ '6' ⟨v,rfl,(r.any c).imm hi⟩⟩
 ·cases f with
  |nw =>
   dsimp only at h;by_cases hm:x.mut=true
   ·rw[aC hm]at h;refine⟨_,h,?_⟩;obtain⟨p,rfl,A⟩:=r.2 hm;have hn:∀q,AZ (J.set k (.own x)) (Y.set k (some (.ref p))) q->AZ J Y q\/Hs q=none:=λq ⟨i,y,h1,h2⟩=>by
     by_cases hi:k=i
     ·subst hi;rw[bY (by rw[ok.len];exact d)]at h2;cases h2;exact .inr A
     ·rw[bV hi]at h1 h2;exact .inl ⟨i,y,h1,h2⟩
    obtain⟨D,m⟩:=Rp.toRc (b:=W.b) (Z:=Zf W J Y) AG.b c.nt hm r.1;have u:p≠W.b/\W.H₀ p=none:=by
     simp only[AG,not_or,Classical.not_not]at D;exact⟨D.1,D.2.2⟩
    have I:W.F p=none:=by
     cases q:W.F p with
     |none=>rfl
     |some o=>rw[ok.frm p o q]at A;cases A
    have ha:p≠W.a:=ok.bag.na A;have E:∀q,¬(Zf W J Y q\/q=p)->¬Zf W (J.set k (.own x)) (Y.set k (some (.ref p))) q:=λq w z=>w (by
     simp only[AG]at z ⊢;rcases z with z|z|z
     ·exact .inl (.inl z)
     ·rcases z with z|z
      ·exact .inl (.inr (.inl (.inl z)))
      ·obtain⟨i,y,h1,h2⟩:=z;by_cases hi:k=i
       ·subst hi;rw[bY (by rw[ok.len];exact d)]at h2;cases h2;exact .inr rfl
       ·rw[bV hi]at h1 h2;exact .inl (.inr (.inl (.inr ⟨i,y,h1,h2⟩)))
     ·exact .inl (.inr (.inr z)))
    have B:∀{xs:dH} {vs:dG},AC W.b (λq=>Zf W J Y q\/q=p) H xs vs->AC W.b (Zf W (J.set k (.own x)) (Y.set k (some (.ref p)))) H xs vs:=λh=>h.keep (λq o us e=>⟨E q us,e⟩) λq G e=>e;refine ok.put st d hn ⟨p,rfl,u.2,I,u.1,ha,?_⟩ λy e=>⟨p,rfl,A⟩;cases x with
    |lst xs=>obtain⟨G,l,j⟩:=m;exact⟨G,l,B j⟩
    |dT ks xs=>obtain⟨G,l,n,j⟩:=m;exact⟨G,l,n,B j⟩
    |fT ks xs=>obtain⟨G,l,n,j⟩:=m;exact⟨G,l,n,B j⟩
    |dK ks xs=>obtain⟨G,l,n,j⟩:=m;exact⟨G,l,n,B j⟩
    |_=>exact m.elim
   ·rw[aB hm]at h;exact⟨_,h,k1 _ '6' ⟨v,rfl,k2 (g:=.fr) '6' r.1⟩⟩
  |fr=>exact⟨_,h,k1 _ '6' ⟨v,rfl,k2 (g:=.fr) '6' r⟩⟩
  |cl=>exact⟨_,h,k1 _ '6' ⟨v,rfl,k2 (g:=.cl) '6' r⟩⟩
  |_=>exact h.elim
end
def Iy(p:pE):pT:=λJ K=>p J λx _=>∃k,x=.bl k/\K k
def Ov(p q:pT):pT:=λJ K=>p J λc=>if c=true then q J K else K false
def Ox(p q:pT):pT:=λJ K=>p J λc=>if c=true then K true else q J K
def Oy(p:pT):pT:=λJ K=>p J λc=>K (!c)
def Oz(p q:pE):pE:=λJ K=>p J λx _=>∃c,x=.bl c/\if c=true then q J K else K (.bl false) .fr
def O0(p:pE):pE:=λJ K=>p J λx _=>∃c,x=.bl c/\K (.bl (!c)) .fr
def O1(c:pT)(p q:pE):pE:=λJ K=>c J λb=>if b=true then p J K else q J K
def LH(r r':p2)(pa pb pc:pE):pE:=λJ K=>pa J λx f=>pb J λy g=>r x f y g λz _=>∃k,z=.bl k/\if k=true then pc J λw h=>r' y g w h K else K (.bl false) .fr
section
variable{a b:Expr}{qF:List Expr}{pc:pE}{p q:pT}
theorem HA{k:Bool}(ok:Ok W J Y H)(r:RF W J Y Hs f H (.bl k) v):v=.bl k:=r.any ok
theorem CZ{k:Int}(ok:Ok W J Y H)(r:RF W J Y Hs f H (.int k) v):v=.int k:=r.any ok
theorem FN{k:Str}(ok:Ok W J Y H)(r:RF W J Y Hs f H (.str k) v):v=.str k:=r.any ok
theorem O2{t:TE}(h:BL t pa):G8 (NX t) (Iy pa):=λW J Y H Q K ok d q =>
 h W J Y H _ _ ok d λx f v H1 ⟨k,e,h1⟩ a c=>by
  subst e;exact⟨k,HA (ok.step a) c,q k H1 h1 a⟩
theorem A8{op:CmpOp}{r:R2}{pr:p2}(h:∀i,Ay (Xs i) (compareOp op) r)(g:BV r pr)(m:QE Xs a pa)(l:QE Xs b pb)(j:behindInMarks op b=false):QT Xs (.Compare a [op] [b] pos) (Iy (Fy pr pa pb)):=by
 obtain⟨ta,f,e⟩:=m;obtain⟨tb,d,c⟩:=l;exact⟨_,λi=>Fi (h i) (f i) (d i) j,O2 (Iw g e c)⟩
theorem C2(h:QE Xs a pa)(f:∀i,∀c,isTrue a (Xs i).env c=(do let v <-c;standAt a.pos;holding [v] (truthy v)):=by intro _ _;rfl):QT Xs a (Iy pa):=by
 obtain⟨ta,e,d⟩:=h;exact⟨tB ta,λi=>T5 (e i) (f i),O2 d⟩
theorem EH(h:QT Xs a p):QT Xs (.UnaryOp .Not a pos) (Oy p):=by
 obtain⟨ta,e,d⟩:=h;exact⟨_,λi=>UB (e i),λW J Y H Q K ok g q=>d W J Y H _ _ ok g λc H1 h1 f=>q _ H1 h1 f⟩
theorem QW.pt(h:QW Xs a p):QT Xs a p:=by obtain⟨t,h1,h2⟩:=h;exact ⟨t,λi=>(h1 i).pt,h2⟩
theorem WX(h:QT Xs a p):QW Xs (.BoolOp .And [a] pos) p:=by obtain⟨t,h1,h2⟩:=h;exact ⟨t,λi=>T9 (h1 i),h2⟩
theorem F1(h:QT Xs a p):QW Xs (.BoolOp .Or [a] pos) p:=by obtain⟨t,h1,h2⟩:=h;exact ⟨t,λi=>NG (h1 i),h2⟩
theorem WY(o:QT Xs a p)(n:QW Xs (.BoolOp .And (b::qF) pos) q):QW Xs (.BoolOp .And (a::b::qF) pos) (Ov p q):=by
 obtain⟨ta,j,h⟩:=o;obtain⟨tb,g,f⟩:=n;refine⟨_,λi=>UA (j i) (g i),λW J Y H Q K ok m q=>h W J Y H _ _ ok m λc H1 h1 e=>?_⟩;cases c with
 |true=>exact f W J Y H1 _ _ (ok.step e) h1 λd H2 h2 l=>q d H2 h2 (e.trans l)
 |false=>exact q false H1 h1 e
theorem Db(o:QT Xs a p)(n:QW Xs (.BoolOp .Or (b::qF) pos) q):QW Xs (.BoolOp .Or (a::b::qF) pos) (Ox p q):=by
 obtain⟨ta,j,h⟩:=o;obtain⟨tb,g,f⟩:=n;refine⟨_,λi=>NH (j i) (g i),λW J Y H Q K ok m q=>h W J Y H _ _ ok m λc H1 h1 e=>?_⟩;cases c with
 |false=>exact f W J Y H1 _ _ (ok.step e) h1 λd H2 h2 l=>q d H2 h2 (e.trans l)
 |true=>exact q true H1 h1 e
theorem Iz{op}(h:QE Xs a pa):QE Xs (.BoolOp op [a] pos) pa:=by obtain⟨t,h1,h2⟩:=h;exact ⟨t,λi=>UE (h1 i),h2⟩
theorem Dc{k:Bool}:RF W J Y Hs .fr H (.bl k) (.bl k):=rfl
theorem EI{k:Int}:RF W J Y Hs .fr H (.int k) (.int k):=rfl
theorem O3{k:Str}:RF W J Y Hs .fr H (.str k) (.str k):=rfl
theorem HB(u:QE Xs a pa)(s:QE Xs (.BoolOp .And (b::qF) pos) pb):QE Xs (.BoolOp .And (a::b::qF) pos) (Oz pa pb):=by
 obtain⟨ta,m,l⟩:=u;obtain⟨tb,j,h⟩:=s;refine⟨_,λi=>UF (m i) (j i),λW J Y H Q K ok r q=>l W J Y H _ _ ok r λx f v H1 zz g p=>?_⟩;obtain⟨c,e,h1⟩:=zz;subst e;refine⟨c,HA (ok.step g) p,?_⟩;cases c with
 |true=>exact h W J Y H1 _ _ (ok.step g) h1 λd f v H2 h2 n o=>q d f v H2 h2 (g.trans n) (o.back g)
 |false=>exact q _ _ _ H1 h1 g Dc
theorem WZ(m:QE Xs a pa):QE Xs (.UnaryOp .Not a pos) (O0 pa):=by
 obtain⟨ta,g,d⟩:=m;refine⟨_,λi=>UG (g i),λW J Y H Q K ok l q=>d W J Y H _ _ ok l λx f v H1 zz h j=>?_⟩;obtain⟨c,e,h1⟩:=zz;subst e;exact⟨c,HA (ok.step h) j,q _ _ _ H1 h1 h Dc⟩
theorem LI(u:QT Xs c p)(x:QE Xs a pa)(w:QE Xs b pb):QE Xs (.IfExp c a b pos) (O1 p pa pb):=by
 obtain⟨tc,l,j⟩:=u;obtain⟨ta,r,o⟩:=x;obtain⟨tb,n,m⟩:=w;refine⟨_,λi=>UI (l i) (r i) (n i),λW J Y H Q K ok s q=>j W J Y H _ _ ok s λc H1 h1 e=>?_⟩;cases c with
 |true=>exact o W J Y H1 _ _ (ok.step e) h1 λd f v H2 h2 g h=>q d f v H2 h2 (e.trans g) (h.back e)
 |false=>exact m W J Y H1 _ _ (ok.step e) h1 λd f v H2 h2 g h=>q d f v H2 h2 (e.trans g) (h.back e)
theorem Wa{r r':R2}{pr i:p2}{tc:TE}(B:BV r pr)(o:BV r' i)(E:BL ta pa)(D:BL tb pb)(C:BL tc pc):BL (NY r r' ta tb tc) (LH pr i pa pb pc):=λW J Y H Q K ok h q =>
 E W J Y H _ _ ok h λx f v H1 h1 c A=>D W J Y H1 _ _ (ok.step c) h1 λy g u H2 h2 d p =>
  B W J Y H H2 _ _ x y f g v u ((ok.step c).step d) (c.trans d) (A.step (ok.step c) d) (p.back c) h2 λz h v' s ⟨k,e,m⟩ l n=>by
   subst e;have a:=(c.trans d).trans l;refine⟨k,HA (ok.step a) n,?_⟩;cases k with
   |false=>exact q _ _ _ s m a Dc
   |true=>exact C W J Y s _ _ (ok.step a) m λz I u' ρ us j w=>o W J Y H ρ Q K y z g I u u' (ok.step (a.trans j)) (a.trans j) ((p.back c).step (ok.step (c.trans d)) (l.trans j)) (w.back a) us λz h v' H' m l n=>q z h v' H' m ((a.trans j).trans l) n
theorem Wc{op d:CmpOp}{r r':R2}{pr e:p2}(q:∀i,Ay (Xs i) (compareOp op) r)(p:BV r pr)(g:∀i,Ay (Xs i) (compareOp d) r')(f:BV r' e)(w:QE Xs a pa)(v:QE Xs b pb)(u:QE Xs c pc)
  (s:lastMarks [op,d] [b,c]=false:=by with_unfolding_all rfl):QE Xs (.Compare a [op,d] [b,c] pos) (LH pr e pa pb pc):=by
 obtain⟨ta,o,n⟩:=w;obtain⟨tb,m,l⟩:=v;obtain⟨tc,j,h⟩:=u;exact⟨_,λi=>Um (q i) (g i) (o i) (m i) (j i) s,Wa p f n l h⟩
end
inductive Xn where
 |nm (x:Str)|vl (x f:Str) (v:P)
instance:Coe Str Xn:=⟨Xn.nm⟩
instance:Coe String Xn:=⟨λx=>Xn.nm (Str.ofString x)⟩
structure PEnds where
 nx:dI->Prop
 rt:P->Prop
 bk:dI->Prop:=λ_=>False
 ct:dI->Prop:=λ_=>False
 ex:Xn->(Xn->Hp->Prop)->Prop:=λ_ _=>False
abbrev pS:=PEnds->dI->Prop
def O4(W:Wd)(H:Hp)(x:P)(v:V):Prop:=Bag H W.b W.a/\(∀p o,p≠W.b->W.H₀ p\o->H p\o)/\Rp W.b (λp=>W.H₀ p≠none) H x v
structure RelD(W:Wd)(E:PEnds)(D:Ends):Prop where
 nx:∀J Y H,E.nx J->Ok W J Y H->D.nx Y H
 rt:∀x v H,E.rt x->O4 W H x v->D.rt v H
 bk:∀J Y H,E.bk J->Ok W J Y H->D.bk Y H
 ct:∀J Y H,E.ct J->Ok W J Y H->D.ct Y H
 noO:∀p,¬W.O p
 ex:∀n H EX,E.ex n EX->Bag H W.b W.a->(∀p o,p≠W.b->W.H₀ p\o->H p\o)->EX n H
def FO(t:TS)(p:pS):Prop:=∀(W:Wd) (J:dI) (Y:St) (H:Hp) (D:Ends) (E:PEnds),Ok W J Y H->p E J->RelD W E D->t D Y H
def QS{ι:Type}(Xs:ι->Cx)(st:Stmt)(p:pS):Prop:=∃t,(∀i,PS (Xs i) st t)/\FO t p
def An{ι:Type}(Xs:ι->Cx)(st:Hq)(p:pS):Prop:=∃t,(∀i,Be (Xs i) st t)/\FO t p
def O5:pS:=λE J=>E.nx J
def O6(p q:pS):pS:=λE J=>p { E with nx:=q E } J
def O7:pS:=λ_ _=>False
def EJ(x:P)(f:Fl):Bool:=x.imm||(match f with|.cl=>false|.an=>false|_=>true)
def BM(p:pE):pS:=λE J=>p J λx f=>EJ x f=true/\E.rt x
def O8(c:pT)(p q:pS):pS:=λE J=>c J λb=>if b=true then p E J else q E J
def HC(p:pE)(k:Nat):pS:=λE J=>p J λx f=>A0 k x f J E.nx
section
variable{qF:Hq}{p q:pS}{a:Expr}
theorem B2:An Xs [] O5:=⟨_,λ_=>GU,λW J Y H D E ok h r=>r.nx J Y H h ok⟩
theorem AV(h:QS Xs st p):An Xs [st] p:=by obtain⟨t,h1,h2⟩:=h;exact ⟨t,λi=>Cy (h1 i),h2⟩
theorem AS(h:QS Xs st p)(g:An Xs qF q):An Xs (st::qF) (O6 p q):=by
 obtain⟨t,h1,h2⟩:=h;obtain⟨u,d,c⟩:=g;exact⟨_,λi=>Br (h1 i) (d i),λW J Y H D E ok h r=>h2 W J Y H _ _ ok h ⟨λρ' σ' H' e a=>c W ρ' σ' H' D E a e r,r.rt,r.bk,r.ct,r.noO,r.ex⟩⟩
theorem An.weak{p m:pS}(h:An Xs qF p)(hw:∀E J,m E J->p E J):An Xs qF m:=by obtain⟨t,h1,h2⟩:=h;exact ⟨t,h1,λW J Y H D E ok h r=>h2 W J Y H D E ok (hw E J h) r⟩
theorem Wf:QS Xs st O7:=⟨_,λ_=>UP,λ_ _ _ _ _ _ _ h _=>h.elim⟩
theorem RF.ret{x:P}(ok:Ok W J Y H)(h:RF W J Y Hs f H x v)(l:EJ x f=true):O4 W H x v:=by
 refine⟨ok.bag,ok.old,?_⟩;by_cases hi:x.imm=true
 ·exact(h.any ok).imm hi
 ·have k:∀{g:Fl},(∀p,W.H₀ p≠none->AG W J Y g p)->Rp W.b (AG W J Y g) H x v->Rp W.b (λp=>W.H₀ p≠none) H x v:=λ{g} m h=>h.keep (λp o j e=>⟨λz=>j (m p z),e⟩) λp vs e=>e;cases f with
  |nw=>exact k (g:=.fr) (λp z=>.inr (.inr z)) h.1
  |fr=>exact k (g:=.fr) (λp z=>.inr (.inr z)) h
  |rf=>exact k (g:=.rf) (λp z=>.inr z) h
  |cl=>simp[EJ,hi]at l
  |an=>simp[EJ,hi]at l
  |bo =>
   obtain⟨p,h1,h2,d⟩:=h;have nb:=(ok.ow (.inr h2)).1;have k2:∀{xs:dH} {vs:dG},AC W.b (Zf W J Y) H xs vs->AC W.b (λp=>W.H₀ p≠none) H xs vs:=λh=>h.keep (λp o j e=>⟨λz=>j (.inr (.inr z)),e⟩) λp vs e=>e;cases x with
   |lst xs=>obtain⟨vs,c,a⟩:=d;exact⟨p,vs,h1,λz=>z nb,c,k2 a⟩
   |dT ks xs=>obtain⟨vs,c,i,a⟩:=d;exact⟨p,vs,h1,λz=>z nb,c,i,k2 a⟩
   |fT ks xs=>obtain⟨vs,c,i,a⟩:=d;exact⟨p,vs,h1,λz=>z nb,c,i,k2 a⟩
   |dK ks xs=>obtain⟨vs,c,i,a⟩:=d;exact⟨p,vs,h1,λz=>z nb,c,i,k2 a⟩
   |_=>exact d.elim
theorem Ah(h:QE Xs a pa):QS Xs (.Return (some a) pos) (BM pa):=by
 obtain⟨t,h1,h2⟩:=h;exact⟨_,λi=>Ff (h1 i),λW J Y H D E ok h r=>h2 W J Y H _ _ ok h λx f v H1 zz c d=>(by obtain⟨k0,k⟩:=zz;exact r.rt x v H1 k (d.ret (ok.step c) k0))⟩
theorem B3{pc:pT}{l j:Hq}(o:QT Xs c pc)(u:An Xs l p)(s:An Xs j q):QS Xs (.If c l j pos) (O8 pc p q):=by
 obtain⟨tc,d,a⟩:=o;obtain⟨ta,h,g⟩:=u;obtain⟨tb,f,e⟩:=s;refine⟨_,λi=>GV (d i) (h i) (f i),λW J Y H D E ok n r=>a W J Y H _ _ ok n λc H1 h1 m=>?_⟩;cases c with
 |true=>exact g W J Y H1 D E (ok.step m) h1 r
 |false=>exact e W J Y H1 D E (ok.step m) h1 r
theorem LJ{t:TE}{k:Nat}(h2:BL t pa):FO (Ec t (CJ k)) (HC pa k):=λW J Y H D E ok h r =>
 h2 W J Y H _ _ ok h λx f v H1 g c d=>by
  obtain⟨ρ',e,a⟩:=Ok.set ok c d g;exact r.nx ρ' _ H1 e a
theorem Ac{k:Nat}(f:∀i,(Xs i).N.Nodup)(h:QE Xs a pa)(hi:∀i,(Xs i).N[k]?\x:=by rfl)(c:∀i,CU (Xs i).env.scope x:=by intro _;trivial)
  (d:∀i,swapsWith a (some (.Name x pos')) pos.line (Xs i).env=pure false:=by rfl) (e:∀i,(Xs i).fn x=true\/(Xs i).env.scope.names.lookup x\.local:=by intro _;trivial):QS Xs (.Assign [.Name x pos'] a pos) (HC pa k):=by
 obtain⟨t,h1,h2⟩:=h;exact⟨_,λi=>CW (f i) (hi i) (c i) (h1 i) (d i) (e i),LJ h2⟩
end
abbrev pG:=P->Fl->dI->(dI->Prop)->Prop
end L2
variable{pg:L2.pG}
namespace L2
open PySem PySem.Spec PyProof.Rows
def HD(g:TG)(p:pG):Prop:=∀(W:Wd) (J:dI) (Y:St) (Hs H:Hp) (x:P) (f:Fl) (v:V) (Q:St->Hp->Prop) (K:dI->Prop),Ok W J Y Hs->Step W.b W.a Hs H->RF W J Y Hs f H x v->p x f J K->(∀ρ' σ',K ρ'->Ok W ρ' σ' H->Q σ' H)->g v Y H Q
def QG{ι:Type}(Xs:ι->Cx)(tg:Expr)(p:pG):Prop:=∃g,(∀i,PG (Xs i) tg g)/\HD g p
def HE:Ge->dH->Fl->dI->(dI->Prop)->Prop
 |[],[],_,J,K=>K J
 |k::ks,x::xs,f,J,K=>A0 k x f J λρ'=>HE ks xs f ρ' K
 |_,_,_,_,_=>False
def FP(ks:Ge):pG:=λx f J K=>∃xs,x=.tup xs/\xs.length=ks.length/\HE ks xs f.el J K
def Dd:Ge->Eb
 |[]=>KZ
 |k::ks=>IQ (CJ k) (Dd ks)
section
theorem O9(k:Nat):HD (CJ k) (λx f J K=>A0 k x f J K):=λW J Y Hs H x f v Q K ok st r h q=>by
 obtain⟨ρ',e,a⟩:=Ok.set ok st r h;exact q ρ' _ e a
theorem C3{k:Nat}(d:∀i,(Xs i).N.Nodup)(hi:∀i,(Xs i).N[k]?\x:=by rfl)(a:∀i,CU (Xs i).env.scope x:=by intro _;trivial)
  (c:∀i,(Xs i).fn x=true\/(Xs i).env.scope.names.lookup x\.local:=by intro _;trivial):QG Xs (.Name x pos) (A0 k):=⟨_,λi=>BF (d i) (hi i) (a i) (c i),O9 k⟩
theorem Wg{x:P}{k:Nat}{K:dI->Prop}(ok:Ok W J Y H)(r:Rp W.b (AG W J Y f) H x v)(h:A0 k x f.el J K) :
  ∃ρ',K ρ'/\Ok W ρ' (Y.set k (some v)) H/\∀p,AZ ρ' (Y.set k (some v)) p->AZ J Y p:=by
 unfold A0 at h;split at h
 ·rename_i hi;obtain⟨ρ',e,a⟩:=Ok.set (K:=λρ'=>ρ'=J.set k (.sh x)) ok (Step.refl ok.bag) (RF.ofEl (Hs:=H) r) (by unfold A0;rw[aC hi]);subst e;exact⟨_,h,a,F0 λ_ z=>nomatch z⟩
 ·rename_i hi;have k1:∀(s:S),(∀x,s≠.own x)->K (J.set k s)->A0 k x f.el J (λρ'=>ρ'=J.set k s)->∃ρ',K ρ'/\Ok W ρ' (Y.set k (some v)) H/\∀p,AZ ρ' (Y.set k (some v)) p->AZ J Y p:=λs c g d=>by
   obtain⟨ρ',e,a⟩:=Ok.set ok (Step.refl ok.bag) (RF.ofEl (Hs:=H) r) d;subst e;exact⟨_,g,a,F0 c⟩
  cases f with
  |nw=>exact k1 (.fr x) '6' h (by unfold A0;rw[aB hi];rfl)
  |fr=>exact k1 (.fr x) '6' h (by unfold A0;rw[aB hi];rfl)
  |bo=>exact k1 (.fr x) '6' h (by unfold A0;rw[aB hi];rfl)
  |cl=>exact k1 (.sh x) '6' h (by unfold A0;rw[aB hi];rfl)
  |_=>exact h.elim
theorem PB{W:Wd}{H:Hp}{f:Fl}{Q:St->Hp->Prop}{K:dI->Prop}:∀{ks:Ge} {xs:dH} {vs:dG} {J:dI} {Y:St},Ok W J Y H->AC W.b (AG W J Y f) H xs vs->HE ks xs f.el J K->(∀ρ' σ',K ρ'->Ok W ρ' σ' H->Q σ' H)->Dd ks vs Y H Q
 |[],[],vs,J,Y,ok,r,h,q=>⟨r,q J Y h ok⟩
 |[],_::_,_,_,_,_,_,h,_=>h.elim
 |_::_,[],_,_,_,_,_,h,_=>h.elim
 |k::ks,x::xs,vs,J,Y,ok,r,h,q=>by
  obtain⟨v,t,g,d,c⟩:=r;subst g;obtain⟨ρ',e,a,sub⟩:=Wg ok d h;exact⟨v,t,rfl,PB a (AC.move ok.bag (Step.refl ok.bag) (λp z=>.inl (sub p z)) c) e q⟩
theorem PC{K:Fg}{ks:Ge}(d:ks.length=n):HD (FA K n (Dd ks)) (FP ks):=λW J Y Hs H x f v Q K ok st r h q=>by
 obtain⟨xs,rfl,e,h⟩:=h;obtain⟨p,vs,rfl,hc,a⟩:=r.items rfl;have hc:H p\(.tup vs):=by
  obtain⟨j,c,i,g,_⟩:=r.any (ok.step st);cases i;rcases hc with hc|hc
  ·rw[g]at hc;cases hc
  ·exact hc
 exact⟨p,vs,rfl,.of hc,by rw[<-a.length,e,d],PB (ok.step st) a h q⟩
theorem Ep{k1:Nat}{ks:Ge}(e:∀i,(Xs i).calm=true)(f:∀i,(Xs i).K=Kf)(h:∀i,E9 (Xs i) es (Dd ks))(d:ks.length=n)
  (c:∀i,(assignEach es (Xs i).env).length=n:=by rfl) (a:∀i,(assignEach es (Xs i).env).findIdx? (·.1)=none:=by rfl):QG Xs (.Tuple es k1 pos) (FP ks) :=
 ⟨FA Kf n (Dd ks),λi=>by have:=Ka (k:=k1) (pos:=pos) (e i) (h i) (c i) (a i);rw[f i]at this;exact this,PC d⟩
theorem PD{a:Expr}(o:QE Xs a pa)(n:QG Xs tg pg)(l:∀i,swapsWithSole [tg] a pos.line (Xs i).env=pure false:=by rfl)(hw:∀i,swappedStores [tg] a (Xs i).env=pure none:=by rfl)
  (h1:∀i,(assignEach [tg] (Xs i).env).map (·.2)=[assign tg (Xs i).env]:=by rfl):QS Xs (.Assign [tg] a pos) (λE J=>pa J λx f=>pg x f J E.nx):=by
 obtain⟨t,u,s⟩:=o;obtain⟨g,q,p⟩:=n;exact⟨_,λi=>Kb (u i) (q i) (l i) (hw i) (h1 i),λW J Y H D E ok h r=>s W J Y H _ _ ok h λx f v H1 m d j=>p W J Y H H1 x f v _ _ ok d j m λρ' σ' e c=>r.nx ρ' σ' H1 e c⟩
end
abbrev pF:=dH->(P->Prop)->Prop
def AT(f:pF):Sp:=λvs H Q _=>∃(b a:Addr) (xs:dH) (K:P->Prop),Bag H b a/\AC b (λp=>p=b) H xs vs/\f xs K/\∀x v H',K x->Step b a H H'->Rp b (λp=>H p≠none) H' x v->Q v H'
def FQ(n:Nat)(xs:dH):dI:=xs.map S.sh++replicate (n - xs.length) S.emp
def LK(f:pF)(pa:pA):pE:=λJ K=>pa J λxs=>f (xs.map (·.1)) λz=>K z .nw
theorem Wh(h:vs[i]?\v):(Cn N vs)[i]?\(some v):=by
 unfold Cn;have hi:i<vs.length:=by
  rcases cE i vs.length with q|q
  ·exact q
  ·rw[bQ q]at h;cases h
 rw[getElem?_append_left (by rw[aA];exact hi),bO,h];rfl
theorem PF{x:P}:(FQ n xs)[i]?≠some (.own x):=by
 intro h;have a:=aM h;unfold FQ at a;rcases bA.mp a with z|z
 ·obtain⟨y,_,e⟩:=bU.mp z;cases e
 ·cases(mem_replicate.mp z).2
theorem Wi{b:Addr}(g:Bag H b a)(r:AC b (λp=>p=b) H xs vs)(m:xs.length<=N.length) :
  Ok ⟨b,a,H,λ_=>none,λ_=>False⟩ (FQ N.length xs) (Cn N vs) H where
 bag:=g
 fb:=rfl
 old:=λ_ _ _ e=>e
 frm:=λ_ _ e=>nomatch e
 oo:=λ_ z=>z.elim
 len:=by
  have:=r.length;simp only[Cn,FQ,aG,aA,length_replicate];lia
 slot:=λi s e=>by
  have c:=r.length;unfold FQ at e;rcases cE i xs.length with q|q
  ·rw[getElem?_append_left (by rw[aA];exact q),bO]at e;obtain⟨v,h1,h2⟩:=r.get (i:=i) (x:=xs[i]) (by simp[q]);simp only[aH q,Option.map_some]at e;cases e;refine⟨some v,Wh h1,v,rfl,h2.keep (λp o d e=>⟨λz=>d ?_,e⟩) λp vs e=>e⟩;rcases z with z|z
   ·exact z
   ·rcases z with z|⟨j,y,h,_⟩
    ·exact z.elim
    ·exact bS h PF
  ·rw[getElem?_append_right (by rw[aA];exact q),aA]at e;have f:=aM e;have l:=(mem_replicate.mp f).2;subst l;have hi:i - xs.length<N.length - xs.length:=by
    rcases cE (i - xs.length) (N.length - xs.length)with z|z
    ·exact z
    ·rw[bQ (by rw[length_replicate];exact z)]at e;cases e
   refine⟨none,?_,trivial⟩;unfold Cn;rw[getElem?_append_right (by rw[aA,<-c];exact q),aA,<-c,getElem?_replicate,aC hi]
 uniq:=λi j x y h1=>bS h1 PF
section
variable{K:Fg}
theorem A9{k:Nat}{f:pF}(D:Ak K mg x st)(S:FnScope N ps (AR st))
  (u:∀(kV doc o:Value) (us:Go) (c ct:Value) (G:Do),G.length=ps.length->bindArgs (PySem.W.fnOf x x (Dv st) (Cz st) (AR st) .none kV doc o us c ct) ⟨G,[]⟩=pure (ps.zip G))
  (len:∀xs K,f xs K->xs.length=ps.length) (B:ps.length<=N.length)
  (d:∀(j:Addr) (c:Value) (A:Around) (outer:List Env) (s:Shared) (H:Hp) (E:XK),Room k (A.deeper (PyProof.Rows.envOfC x (AR st) 'H' j c)) ->
   ∃p,An (λ_:Unit=>(Eg Dw P' w K mg base N x (AR st) j c A outer s H E).nox) (Cz st) p/\∀xs K,f xs K->p { nx:=λ_=>K .non,rt:=K } (FQ N.length xs)):'E' x (k+1) ps (AT f):=by
 refine Ft D S u (λvs H Q E h=>?_) (λj c A outer s H vs Q E q h=>?_)
 ·obtain⟨b,a,xs,K,_,r,i,_⟩:=h;rw[<-r.length];exact len xs K i
 ·obtain⟨b,a,xs,n,g,r,i,m⟩:=h;obtain⟨p,⟨t,h1,h2⟩,C⟩:=d j c A outer s H E q;refine⟨t,h1 (),h2 _ _ _ H _ _ (Wi g r (by rw[len xs n i];exact B)) (C xs n i) ⟨λJ Y H' e ok=>?_,λy v H' e l=>?_,λ_ _ _ e=>e.elim,λ_ _ _ e=>e.elim,λ_ z=>z,λ_ _ _ e=>e.elim⟩⟩
  ·exact m _ _ H' e ⟨ok.bag,ok.old⟩ rfl
  ·exact m y v H' e ⟨l.1,l.2.1⟩ l.2.2
theorem Fn.imp{k:Nat}{sp sp':Sp}(F:'E' x k ps sp)(h:∀vs H Q E,sp' vs H Q E->sp vs H Q E):'E' x k ps sp':=by
 obtain⟨f,fd,F,r⟩:=F;exact⟨f,fd,F.imp h,r⟩
end
section
theorem Wj{f:pF}{t:TA}{pa:pA}(h2:K9 t pa):BL (Gc (AT f) [] E0 t) (LK f pa):=λW J Y H Q K ok l q =>
 h2 W J Y H _ _ ok l λxs vs H1 h1 g i=>by
  have d:=ok.step g;show AT f (vs++[]) H1 Q E0;rw[append_nil];refine⟨W.b,W.a,_,_,g.bag,(i.any d),h1,λx v H' k1 h c=>q x .nw v H' k1 (g.trans h) ⟨c.keep (λp o j e=>⟨λz=>j (d.dom z),e⟩) λp vs e=>e,λm=>?_⟩⟩;have k2:∀p,¬H1 p≠none->H p=none:=λp z=>g.free (Classical.not_not.mp z);cases x with
  |lst xs=>obtain⟨p,G,e,z,_⟩:=c;exact⟨p,e,k2 p z⟩
  |dT ks xs=>obtain⟨p,G,e,z,_⟩:=c;exact⟨p,e,k2 p z⟩
  |fT ks xs=>obtain⟨p,G,e,z,_⟩:=c;exact⟨p,e,k2 p z⟩
  |dK ks xs=>obtain⟨p,G,e,z,_⟩:=c;exact⟨p,e,k2 p z⟩
  |_=>simp[P.mut]at m
theorem Ad{k:Nat}{f:pF}{p:Pos}{e:Expr}{pa:pA}(us:∀i,Fn (Xs i).prog (Xs i).w (Xs i).K (Xs i).mg (Xs i).base x k ps (AT f))(d:∀i,Room k (Xs i).A)
  (j:QA Xs (e::es) pa) (g:∀i,Gl (Xs i) x:=by rfl) (c:No x:=by decide +kernel) (h:∀i,starEach (e::es) (Xs i).env=(false,eval e (Xs i).env)::starEach es (Xs i).env:=by rfl) (a:∀i,(backTo pos (starEach es (Xs i).env)).any (·.1)=false:=by rfl) :
  QE Xs (.Call (.Name x p) (e::es) [] pos) (LK f pa):=by
 obtain⟨t,h1,h2⟩:=j;exact⟨_,λi=>FI (us i) (d i) (g i) (h1 i) c (h i) (a i),Wj h2⟩
end
open Classical in
def frz(W:Wd)(J:dI)(Y:St)(H:Hp):Hp:=λp=>if p=W.b\/Ow W J Y p then none else H p
abbrev Wd.frz(W:Wd)(J:dI)(Y:St)(H:Hp):Wd:={ W with F:=L2.frz W J Y H }
abbrev JA(W:Wd)(J:dI)(Y:St)(H1:Hp):(Addr->Prop)->dI->St->Hp->Prop:=λO' ρ' σ' H'=>O'=W.O/\Ok (W.frz J Y H1) ρ' σ' H'
abbrev JB(W:Wd)(J:dI)(Y:St)(H1:Hp):(Addr->Prop)->dI->St->Hp->Prop:=λO' ρ' σ' H'=>(∀p,O' p->W.O p\/H1 p=none)/\ρ'=J/\σ'=Y/\Ok W J Y H'/\Step W.b W.a H1 H'
def EK(W:Wd)(Lt:(Addr->Prop)->dI->St->Hp->Prop)(ρ:It)(xs:dH)(f:Fl):Prop:=∀O' ρ' σ' H',Lt O' ρ' σ' H'->∀i,(i<xs.length->ρ.go i H')/\(xs.length<=i->ρ.stop i H') /\
 ∀v H'',ρ.yld i H' v H''->∀x,xs[i]?\x->Step W.b W.a H' H''/\RF { W with O:=O' } ρ' σ' H' f H'' x v
abbrev pI:=dI->(dH->Fl->Bool->Prop)->Prop
def JC(wi:TI)(p:pI):Prop:=∀(W:Wd) (J:dI) (Y:St) (H:Hp) (R:It->Hp->Prop) (K:dH->Fl->Bool->Prop),Ok W J Y H->p J K ->
 (∀xs f st ρ H1,K xs f st->Step W.b W.a H H1->EK W (JB W J Y H1) ρ xs f->(st=true->EK W (JA W J Y H1) ρ xs f)->R ρ H1)->wi Y H R
def QI{ι:Type}(Xs:ι->Cx)(tg e:Expr)(p:pI):Prop:=∃wi,(∀i,PI (Xs i) tg e wi)/\JC wi p
section
variable{x:P}{p:Addr}{k:Nat}
theorem HF(hz:¬(p=W.b\/Ow W J Y p)):frz W J Y H p=H p:=by unfold frz;rw[aB hz]
theorem JD(hz:p=W.b\/Ow W J Y p):frz W J Y H p=none:=by unfold frz;rw[aC hz]
theorem Wk(h:frz W J Y H p\o):H p\o/\p≠W.b/\¬Ow W J Y p:=by
 by_cases a:p=W.b\/Ow W J Y p
 ·rw[JD a]at h;cases h
 ·rw[HF a]at h;exact⟨h,λz=>a (.inl z),λz=>a (.inr z)⟩
theorem Ok.frz(ok:Ok W J Y H):Ok (W.frz J Y H) J Y H where
 bag:=ok.bag
 fb:=JD (.inl rfl)
 old:=ok.old
 frm:=λp o e=>(Wk e).1
 oo:=λp h=>(by obtain⟨h1,h2,j,g,f⟩:=ok.oo p h;exact ⟨h1,JD (.inr (.inl h)),j,g,f⟩)
 len:=ok.len
 slot:=λi s e=>by
  obtain⟨o,h1,h2⟩:=ok.slot i s e;refine⟨o,h1,?_⟩;cases s with
  |emp=>trivial
  |sh x=>exact h2
  |fr x=>exact h2
  |own x =>
   obtain⟨p,q1,q2,l,d,c,a⟩:=h2;exact⟨p,q1,q2,JD (.inr (.inr ⟨i,x,e,by rw[h1,q1]⟩)),d,c,a⟩
 uniq:=ok.uniq
theorem Ok.thaw(a:Ok W J Y H)(ok:Ok (W.frz J Y H) ρ' σ' H'):Ok W ρ' σ' H' where
 bag:=ok.bag
 fb:=a.fb
 old:=ok.old
 frm:=λp o e=>by
  have f:p≠W.b:=λz=>by rw[z,a.fb]at e;cases e
  have d:¬Ow W J Y p:=λz=>by rw[(a.ow z).2.1]at e;cases e
  exact ok.frm p o ((HF λz=>z.elim f d).trans (a.frm p o e))
 oo:=λp h=>(by obtain⟨h1,h2,r,q,n⟩:=ok.oo p h;exact ⟨h1,(a.oo p h).2.1,r,q,n⟩)
 len:=ok.len
 slot:=λi s e=>by
  obtain⟨o,h1,h2⟩:=ok.slot i s e;refine⟨o,h1,?_⟩;cases s with
  |emp=>trivial
  |sh x=>exact h2
  |fr x=>exact h2
  |own x =>
   obtain⟨p,q1,q2,c,j,m,l⟩:=h2;refine⟨p,q1,q2,?_,j,m,l⟩;cases g:W.F p with
   |none=>rfl
   |some u =>
    have f:p≠W.b:=j;have d:¬Ow W J Y p:=λz=>by rw[(a.ow z).2.1]at g;cases g
    have c:L2.frz W J Y H p=none:=c;rw[HF (λz=>z.elim f d),a.frm p u g]at c;cases c
 uniq:=ok.uniq
theorem HG(ok:Ok W J Y H)(c:Ok (W.frz J Y H) ρ' σ' H')(j:f=.nw\/f=.fr\/f=.cl):(∀p o,¬AG W J Y f p->H p\o->¬AG W ρ' σ' f p/\H' p\o)/\∀p vs,H p\(.tup vs)->H' p\(.tup vs):=by
 have c:Ok (W.frz J Y H) ρ' σ' H':=c;have l:∀p,¬AG W J Y f p->p≠W.b:=λp z e=>z (e▸AG.b);have i:∀p,¬AG W J Y f p->¬Ow W J Y p:=λp z e=>z (by rcases j with rfl|rfl|rfl<;>simp[AG,e]);refine⟨λp o a e=>?_,λp vs e=>?_⟩
 ·have d:L2.frz W J Y H p\o:=(HF λz=>z.elim (l p a) (i p a)).trans e;have g:¬AZ ρ' σ' p:=λz=>by
   have:=(c.ow (.inr z)).2.1;have this:L2.frz W J Y H p=none:=this;rw[d]at this;cases this
  refine⟨λz=>?_,c.frm p o d⟩;have h:¬W.O p:=λz=>i p a (.inl z);rcases j with rfl|rfl|rfl<;>simp only[AG,not_or]at z a
  ·rcases z with z|(z|z)|z
   ·exact a.1 z
   ·exact h z
   ·exact g z
   ·exact a.2.2 z
  ·rcases z with z|(z|z)|z
   ·exact a.1 z
   ·exact h z
   ·exact g z
   ·exact a.2.2 z
  ·rcases z with z|(z|z)
   ·exact a.1 z
   ·exact h z
   ·exact g z
 ·refine c.frm p _ ((HF λz=>z.elim (ok.bag.neT e).1 λz=>?_).trans e);obtain⟨_,_,_,_,o,q1,q2⟩:=ok.ow z;rw[e]at q1;cases q1;exact q2 vs rfl
theorem PH{O':Addr->Prop}(st:Step W.b W.a H H')(c:∀p,O' p->W.O p\/H p=none)(p:Addr)(o:HO)(hz:¬AG W J Y f p)(e:H p\o):¬AG { W with O:=O' } J Y f p/\H' p\o:=by
 refine⟨λz=>hz ?_,st.same p o (λz=>hz (z▸AG.b)) e⟩;have k:Ow { W with O:=O' } J Y p->Ow W J Y p:=λz=>z.elim (λz=>(c p z).elim .inl λz=>by rw[e]at z;cases z) .inr;cases f<;>simp only[AG]at z ⊢
 all_goals first|exact z|exact z.elim .inl λz=>.inr (k z)|exact z.elim .inl λz=>.inr (z.elim (λz=>.inl (k z)) .inr)
def DJ(f:Fl):Bool:=match f with|.nw=>true|.fr=>true|.cl=>true|_=>false
theorem JE(h:DJ f=true):f=.nw\/f=.fr\/f=.cl:=by cases f<;>simp_all [DJ]
theorem PJ{K:Fg}(ok:Ok W J Y H)(r:RF W J Y Hs f H (.lst xs) (.ref p))(o:H p\(.lst vs))(rv:AC W.b (AG W J Y f) H xs vs) :
  EK W (JB W J Y H) (DY K p) xs f.el/\(DJ f=true->EK W (JA W J Y H) (DY K p) xs f.el):=by
 have j:p≠W.b:=by
  obtain⟨q,G,h,c,_⟩:=r.any ok;cases h;exact c
 have core:∀O' ρ' σ' H',H' p\(.lst vs)->AC W.b (AG { W with O:=O' } ρ' σ' f) H' xs vs->Bag H' W.b W.a->∀i,(i<xs.length->(DY K p).go i H')/\(xs.length<=i->(DY K p).stop i H') /\
   ∀v d,(DY K p).yld i H' v d->∀x,xs[i]?\x->Step W.b W.a H' d/\RF { W with O:=O' } ρ' σ' H' f.el d x v:=λO' ρ' σ' H' e m B i=>by
  have g:=m.length;refine⟨λhi=>⟨vs,vs[i]'⋯,.of e,by simp[<-g,hi]⟩,λhi=>⟨vs,.of e,⋯⟩,λv d y x A=>?_⟩;obtain⟨c,y⟩:=y;subst c;obtain⟨u,E,D⟩:=m.get A;have s:=y vs (.of e);rw[E]at s;cases s;exact⟨Step.refl B,RF.ofEl (W:={ W with O:=O' }) D⟩
 refine⟨λO' ρ' σ' H' g i=>?_,λn O' ρ' σ' H' g i=>?_⟩
 ·obtain⟨C,rfl,rfl,w,st⟩:=g;exact core _ _ _ H' (st.same p _ j o) (rv.keep (PH st C) λq G e=>st.same q _ (ok.bag.neT e).1 e) st.bag i
 ·obtain⟨rfl,g⟩:=g;have l:=HG ok g (JE n);have z:¬AG W J Y f p:=by
   cases f with
   |nw=>obtain⟨q,G,h,c,_⟩:=r.1;cases h;exact c
   |fr=>obtain⟨q,G,h,c,_⟩:=r;cases h;exact c
   |cl=>obtain⟨q,G,h,c,_⟩:=r;cases h;exact c
   |_=>simp[DJ]at n
  exact core _ _ _ H' (l.1 p _ z o).2 (rv.keep l.1 l.2) g.bag i
theorem Wl{K:Fg}(ok:Ok W J Y H)(h:H p\(.tup vs))(rv:AC W.b (AG W J Y f) H xs vs) :
  EK W (JB W J Y H) (FB K p) xs f.el/\(DJ f=true->EK W (JA W J Y H) (FB K p) xs f.el):=by
 have core:∀O' ρ' σ' H',H' p\(.tup vs)->AC W.b (AG { W with O:=O' } ρ' σ' f) H' xs vs->Bag H' W.b W.a->∀i,(i<xs.length->(FB K p).go i H')/\(xs.length<=i->(FB K p).stop i H') /\
   ∀v c,(FB K p).yld i H' v c->∀x,xs[i]?\x->Step W.b W.a H' c/\RF { W with O:=O' } ρ' σ' H' f.el c x v:=λO' ρ' σ' H' e j r i=>by
  have d:=j.length;refine⟨λhi=>⟨vs,vs[i]'⋯,.of e,by simp[<-d,hi]⟩,λhi=>⟨vs,.of e,⋯⟩,λv c y x n=>?_⟩;obtain⟨A,y⟩:=y;subst A;obtain⟨u,z,w⟩:=j.get n;have l:=y vs (.of e);rw[z]at l;cases l;exact⟨Step.refl r,RF.ofEl (W:={ W with O:=O' }) w⟩
 refine⟨λO' ρ' σ' H' d i=>?_,λo O' ρ' σ' H' d i=>?_⟩
 ·obtain⟨s,rfl,rfl,m,st⟩:=d;exact core _ _ _ H' (st.same p _ (ok.bag.neT h).1 h) (rv.keep (PH st s) λq G e=>st.same q _ (ok.bag.neT e).1 e) st.bag i
 ·obtain⟨rfl,d⟩:=d;have g:=HG ok d (JE o);exact core _ _ _ H' (g.2 p _ h) (rv.keep g.1 g.2) d.bag i
end
def PK(p:pE):pI:=λJ K=>p J λx f=>∃xs,x=.lst xs/\K xs f.el (DJ f)
def PL(p:pE):pI:=λJ K=>p J λx f=>∃xs,x=.tup xs/\K xs f.el (DJ f)
def De(lo:Int)(n:Nat):dH:=(List.range n).map λ(k:Nat)=>P.int (lo+k)
def PM(p:pA):pI:=λJ K=>p J λxs=>∃j f,xs=[(P.int j,f)]/\-(2 ^ 62)<=j/\j<2 ^ 62/\K (De 0 j.toNat) .fr true
def PN(p:pA):pI:=λJ K=>p J λxs=>∃i j f g,xs=[(P.int i,f),(P.int j,g)]/\(-(2 ^ 62)<=i/\i<2 ^ 62/\-(2 ^ 62)<=j/\j<2 ^ 62)/\K (De i (j - i).toNat) .fr true
theorem Df(lo:Int)(n:Nat):(De lo n).length=n:=by simp[De]
theorem Dg{x:P}(h:(De lo n)[i]?\x):i<n/\x=.int (lo+i):=by
 unfold De at h;rw[bO]at h;rcases cE i n with q|q
 ·rw[getElem?_range q]at h;exact⟨q,(oI h).symm⟩
 ·rw[bQ (by rw[bG];exact q)]at h;cases h
section
variable{a:Expr}
theorem Bj(r:∀i,(Xs i).K=Kf)(h:QE Xs a pa):QI Xs tg a (PK pa):=by
 obtain⟨t,h1,h2⟩:=h;refine⟨NN Kf t,λi=>by have:=NP (tg:=tg) (h1 i);rw[r i]at this;exact this,λW J Y H R K ok o q=>h2 W J Y H _ _ ok o λx f v H1 zz g d=>?_⟩;obtain⟨xs,e,k1⟩:=zz;subst e;have c:=ok.step g;obtain⟨p,vs,w,u,s⟩:=d.items rfl;subst w;have l:H1 p\(.lst vs):=by
  obtain⟨q,G,n,y,m,_⟩:=d.any c;cases n;rcases u with z|z
  ·exact z
  ·rw[m]at z;cases z
 have j:=PJ (K:=Kf) c d l s;exact⟨p,rfl,⟨vs,.of l⟩,q xs _ _ _ H1 k1 g j.1 j.2⟩
theorem Er(r:∀i,(Xs i).K=Kf)(h:QE Xs a pa):QI Xs tg a (PL pa):=by
 obtain⟨t,h1,h2⟩:=h;refine⟨NO Kf t,λi=>by have:=Ua (tg:=tg) (h1 i);rw[r i]at this;exact this,λW J Y H R K ok o q=>h2 W J Y H _ _ ok o λx f v H1 zz d g=>?_⟩;obtain⟨xs,e,k1⟩:=zz;subst e;have c:=ok.step d;obtain⟨p,vs,w,u,s⟩:=g.items rfl;subst w;have l:H1 p\(.tup vs):=by
  obtain⟨q,G,n,m,_⟩:=g.any c;cases n;rcases u with z|z
  ·rw[m]at z;cases z
  ·exact z
 have j:=Wl (K:=Kf) c l s;exact⟨p,rfl,⟨vs,.of l⟩,q xs _ _ _ H1 k1 d j.1 j.2⟩
theorem PP{d:(Addr->Prop)->dI->St->Hp->Prop}{ρ:It}(c:∀O' ρ' σ' H',d O' ρ' σ' H'->Bag H' W.b W.a)(m:∀i H',i<xs.length->ρ.go i H')(h:∀i H',xs.length<=i->ρ.stop i H')
  (f:∀i H' v H'' x,ρ.yld i H' v H''->xs[i]?\x->H''=H'/\x.imm=true/\∀(b:Addr) (Z:Addr->Prop),Rp b Z H' x v):EK W d ρ xs .fr:=λO' ρ' σ' H' l i=>⟨m i H',h i H',λv H'' y x g=>by
 obtain⟨e,hi,j⟩:=f i H' v H'' x y g;subst e;exact⟨Step.refl (c _ _ _ _ l),j _ _⟩⟩
theorem JF:EK W (JB W J Y H) (DZ lo n) (De lo n) .fr/\(true=true->EK W (JA W J Y H) (DZ lo n) (De lo n) .fr):=by
 have d:∀i H' v a x,(DZ lo n).yld i H' v a->(De lo n)[i]?\x->a=H'/\x.imm=true/\∀(b:Addr) (Z:Addr->Prop),Rp b Z H' x v:=λi H' v a x y e=>by
  obtain⟨j,g⟩:=y;obtain⟨_,f⟩:=Dg e;subst f;exact⟨j,rfl,λ_ _=>g⟩
 exact⟨PP (λ_ _ _ _ c=>c.2.2.2.1.bag) (λi H' h=>by rw[Df]at h;exact h) (λi H' h=>by rw[Df]at h;exact h) d,
  λ_=>PP (λ_ _ _ _ c=>c.2.bag) (λi H' h=>by rw[Df]at h;exact h) (λi H' h=>by rw[Df]at h;exact h) d⟩
theorem EL{p:Pos}{pr:pA}(h:∀i,(Xs i).mg "range"=none)(n:QA Xs [a] pr)(m:∀i,Gl (Xs i) "range":=by rfl)(g:∀i,starEach [a] (Xs i).env=[(false,eval a (Xs i).env)]:=by rfl):QI Xs tg (.Call (.Name "range" p) [a] [] pos) (PM pr):=by
 obtain⟨t,h1,h2⟩:=n;refine⟨_,λi=>GX (m i) (h i) (h1 i) (g i),λW J Y H R K ok l q=>h2 W J Y H _ _ ok l λxs vs H1 zz c d=>?_⟩;obtain⟨j,f,e,w,u,k1⟩:=zz;subst e;obtain⟨v,t,s,r,o⟩:=d;subst s;cases(show t=[]from o);cases CZ (ok.step c) r;exact⟨j,rfl,w,u,q _ _ _ _ H1 k1 c JF.1 JF.2⟩
theorem Wm{b:Expr}{p:Pos}{pr:pA}(o:∀i,(Xs i).mg "range"=none)(u:QA Xs [a,b] pr)(s:∀i,Gl (Xs i) "range":=by rfl)(n:∀i,starEach [a,b] (Xs i).env=[(false,eval a (Xs i).env),(false,eval b (Xs i).env)]:=by rfl)(d:∀i,starEach [b] (Xs i).env=[(false,eval b (Xs i).env)]:=by rfl):QI Xs tg (.Call (.Name "range" p) [a,b] [] pos) (PN pr):=by
 obtain⟨t,h1,h2⟩:=u;refine⟨_,λi=>Uc (s i) (o i) (h1 i) (n i) (d i),λW J Y H R K ok r q=>h2 W J Y H _ _ ok r λxs vs H1 zz c l=>?_⟩;obtain⟨j,m,f,g,e,B,k1⟩:=zz;subst e;obtain⟨v,t,A,z,C,h,y,x,w⟩:=l;subst A;subst y;cases(show h=[]from w);cases CZ (ok.step c) z;cases CZ (ok.step c) x;exact⟨j,m,rfl,B,q _ _ _ _ H1 k1 c JF.1 JF.2⟩
end
def JG(pi:pI)(pg:pG)(pb:pS):pS:=λE J=>pi J λxs f st=>st=true/\∃I:Nat->dI->Prop,I 0 J/\(∀i ρ' x,xs[i]?\x->I i ρ'->pg x f ρ' λρ2=>pb { E with nx:=I (i+1),ct:=I (i+1),bk:=E.nx } ρ2)/\∀ρ',I xs.length ρ'->E.nx ρ'
def PQ(c:pT)(pb:pS):pS:=λE J=>∃I:Nat->dI->Prop,(∃m,I m J)/\∀m ρ',I m ρ'->c ρ' λb=>if b=true then∃N:dI->Prop,(∀ρ2,N ρ2->∃m',m'<m/\I m' ρ2)/\pb { E with nx:=N,ct:=N,bk:=E.nx } ρ' else E.nx ρ'
section
variable{a:Expr}{pi:pI}{pb:pS}{pc:pT}{body:Hq}
theorem RelD.frz{E:PEnds}{D:Ends}(a:Ok W J Y H)(r:RelD W E D):RelD (W.frz J Y H) E D :=
 ⟨λρ' σ' H' e ok=>r.nx ρ' σ' H' e (a.thaw ok),r.rt,λρ' σ' H' e ok=>r.bk ρ' σ' H' e (a.thaw ok),λρ' σ' H' e ok=>r.ct ρ' σ' H' e (a.thaw ok),r.noO,r.ex⟩
theorem B4(hp:∀i,PassesOwn (model (Xs i).prog (Xs i).w) (Xs i).A (Xs i).env (Xs i).xe)(hc:∀i,(Xs i).calm=true)(hi:QI Xs tg a pi)(hg:QG Xs tg pg)(hb:An Xs body pb)
  (hs:∀i,∀x,foldedSetIterable a (Xs i).env x=pure x:=by intro _ _;rfl):QS Xs (.For tg a body [] pos) (JG pi pg pb):=by
 obtain⟨wi,i1,i2⟩:=hi;obtain⟨g,g1,g2⟩:=hg;obtain⟨tb,b1,b2⟩:=hb;refine⟨_,λi=>GY (hp i) (hc i) (i1 i) (g1 i) (b1 i) (hs i),λW J Y H D E ok h r=>i2 W J Y H _ _ ok h λxs f st ρ H1 zz σ _ C=>?_⟩;obtain⟨us,I,h0,p,u⟩:=zz;have C:=C us;have s:=ok.step σ;have z:=r.frz s;refine⟨λi m σ' H'=>m=xs.length - i/\i<=xs.length/\∃ρ',I i ρ'/\Ok (W.frz J Y H1) ρ' σ' H',⟨xs.length,'2',cD _,J,h0,s.frz⟩,?_⟩;rintro i m σ' H' ⟨rfl,hi,ρ',Q,o⟩;obtain⟨q1,q2,q3⟩:=C W.O ρ' σ' H' ⟨rfl,o⟩ i;by_cases q:i<xs.length
 ·refine .inr ⟨q1 q,λl H2=>∃c,I (i+1) c/\Ok (W.frz J Y H1) c l H2,λl H2 zz=>(by obtain⟨c,e1,L⟩:=zz;exact ⟨xs.length - (i+1),⋯,rfl,q,c,e1,L⟩),λv H2 y=>?_⟩;have N:xs[i]?\xs[i]:=by simp[q]
  obtain⟨U,T⟩:=q3 v H2 y _ N;refine g2 (W.frz J Y H1) ρ' σ' H' H2 _ f v _ _ o U T (p i ρ' _ N Q) λc l L B=>?_;exact b2 (W.frz J Y H1) c l H2 _ _ B L ⟨λd n M e j=>⟨d,e,j⟩,z.rt,λd n M e j=>z.nx d n M e j,λd n M e j=>⟨d,e,j⟩,r.noO,r.ex⟩
 ·have e:i=xs.length:=⋯;subst e;exact .inl ⟨q2 (aQ _),z.nx ρ' σ' H' (u ρ' Q) o⟩
theorem Wn(x:∀i,PassesOwn (model (Xs i).prog (Xs i).w) (Xs i).A (Xs i).env (Xs i).xe)(y:QT Xs c pc)(n:An Xs body pb):QS Xs (.While c body [] pos) (PQ pc pb):=by
 obtain⟨tc,M,L⟩:=y;obtain⟨tb,Q,O⟩:=n;refine⟨_,λi=>UW (x i) (M i) (Q i),λW J Y H D E ok h r=>?_⟩;obtain⟨I,⟨u,C⟩,p⟩:=h;refine⟨λm σ' H'=>∃ρ',I m ρ'/\Ok W ρ' σ' H',⟨u,J,C,ok⟩,?_⟩;rintro m σ' H' ⟨ρ',B,j⟩;refine L W ρ' σ' H' _ _ j (p m ρ' B) λb H1 n s=>?_;cases b with
 |false=>exact r.nx ρ' σ' H1 n (j.step s)
 |true =>
  obtain⟨N,z,n⟩:=n;refine⟨λo H2=>∃d,N d/\Ok W d o H2,λo H2 zz=>(by obtain⟨d,ρ,us⟩:=zz;exact let⟨v,l,h⟩:=z d ρ;⟨v,l,d,h,us⟩),?_⟩;exact O W ρ' σ' H1 _ _ (j.step s) n ⟨λa g q e f=>⟨a,e,f⟩,r.rt,λa g q e f=>r.nx a g q e f,λa g q e f=>⟨a,e,f⟩,r.noO,r.ex⟩
end
def Dh(J:dI)(qD:List (Option Nat)):dI:=qD.map λo=>match o with|none=>.emp|some j=>(J[j]?).getD .emp
abbrev F3(qD:List (Option Nat)):Prop:=qD.Pairwise λa b=>a=none\/a≠b
def A5(xs:dH)(step:P->(Option (P×Fl)->Prop)->Prop)(K:P->Fl->Prop):Prop:=∃(g:Fl) (I:Nat->dH->Prop),(g=.nw\/g=.cl)/\I 0 [] /\
 (∀i x ys,xs[i]?\x->I i ys->step x λo=>match o with|some (y,h)=>(As y h).join g=g/\I (i+1) (ys++[y])|none=>I (i+1) ys)/\∀ys,I xs.length ys->K (.lst ys) g
def HH(pi:pI)(qD:List (Option Nat))(pg:pG)(pt:pT)(pe:pE):pE:=λJ K=>pi J λxs f _=>f≠.bo/\xs.length<=16777216 /\
 A5 xs (λx M=>pg x f (Dh J qD) λρ'=>pt ρ' λc=>if c=true then pe ρ' λy h=>M (some (y,h))else M none) K
section
variable{Wb:Wd}{ρb:dI}{σb:St}{x:P}{p:Addr}{k:Nat}
theorem CF.mv{s:S}{o:Option V}(m:Wb.b=W.b)(ha:Wb.a=W.a)(u:Wb.H₀=W.H₀)(n:Wb.F=W.F)(d:∀f p o,¬AG W J Y f p->H1 p\o->¬AG Wb ρb σb f p/\H2 p\o)(c:∀p vs,H1 p\(.tup vs)->H2 p\(.tup vs))
  (l:∀p o,p≠W.b->H1 p\o->H2 p\o) (h:CF W J Y H1 s o):CF Wb ρb σb H2 s o:=by
 cases s with
 |emp=>trivial
 |sh x=>obtain⟨v,h1,h2⟩:=h;exact⟨v,h1,by rw[m];exact h2.keep (d .cl) c⟩
 |fr x=>obtain⟨v,h1,h2⟩:=h;exact⟨v,h1,by rw[m];exact h2.keep (d .fr) c⟩
 |own x =>
  obtain⟨p,h1,h2,r,j,q,i⟩:=h;refine⟨p,h1,by rw[u];exact h2,by rw[n];exact r,by rw[m];exact j,by rw[ha];exact q,?_⟩;rw[m];cases x with
  |lst xs=>obtain⟨vs,q1,q2⟩:=i;exact⟨vs,l p _ j q1,q2.keep (d .fr) c⟩
  |dT ks xs=>obtain⟨vs,q1,g,q2⟩:=i;exact⟨vs,l p _ j q1,g,q2.keep (d .fr) c⟩
  |fT ks xs=>obtain⟨vs,q1,g,q2⟩:=i;exact⟨vs,q1.map λ_ e=>l p _ j e,g,q2.keep (d .fr) c⟩
  |dK ks xs=>obtain⟨vs,q1,g,q2⟩:=i;exact⟨vs,l p _ j q1,g,q2.keep (d .fr) c⟩
  |_=>exact i.elim
theorem JH{s:S}(h:(Dh J qD)[i]?\s):∃o,qD[i]?\o/\s=(match o with|none=>.emp|some j=>(J[j]?).getD .emp):=by
 unfold Dh at h;rw[bO]at h;cases e:qD[i]? with
 |none=>rw[e]at h;cases h
 |some o=>rw[e]at h;exact⟨o,rfl,(oI h).symm⟩
theorem Wo(d:F3 qD){i':Nat}(h:qD[i]?\(some j))(h':qD[i']?\(some j)):i=i':=by
 have hi:i<qD.length:=by
  rcases cE i qD.length with q|q
  ·exact q
  ·rw[bQ q]at h;cases h
 have a:i'<qD.length:=by
  rcases cE i' qD.length with q|q
  ·exact q
  ·rw[bQ q]at h';cases h'
 rw[aH hi]at h;rw[aH a]at h';have c:=pairwise_iff_getElem.mp d;rcases Nat.lt_trichotomy i i' with q|q|q
 ·rcases c i i' hi a q with z|z
  ·rw[oI h]at z;cases z
  ·exact bS ((oI h).trans (oI h').symm) z
 ·exact q
 ·rcases c i' i a hi q with z|z
  ·rw[oI h']at z;cases z
  ·exact bS ((oI h').trans (oI h).symm) z
theorem HI(h:qD[i]?\(some j)):(L2.picked Y qD)[i]?\((Y[j]?).join):=by
 unfold L2.picked;rw[bO,h];rfl
theorem PR(ok:Ok W J Y H)(h:AZ (Dh J qD) (L2.picked Y qD) p):AZ J Y p:=by
 obtain⟨i,x,h1,h2⟩:=h;obtain⟨o,d,a⟩:=JH h1;cases o with
 |none=>cases a
 |some j =>
  rw[HI d]at h2;dsimp only at a;cases c:J[j]? with
  |none=>rw[c]at a;cases a
  |some s =>
   rw[c]at a;cases a;obtain⟨o,q1,q2⟩:=ok.slot j _ c;rw[q1]at h2;exact⟨j,x,c,by rw[q1];exact aT some (oI h2)⟩
abbrev Wd.blk(W:Wd)(J:dI)(Y:St)(D:Addr):Wd:={ W with O:=λp=>W.O p\/AZ J Y p\/p=D }
theorem Wp(a:AZ ρb σb p->AZ J Y p\/H1 p=none)(c:H1 D=none)(h:AG (W.blk J Y D) ρb σb f p):AG W J Y f p\/H1 p=none:=by
 have k:Ow (W.blk J Y D) ρb σb p->Ow W J Y p\/H1 p=none:=λz=>by
  rcases z with(z|z|z)|z
  ·exact .inl (.inl z)
  ·exact .inl (.inr z)
  ·subst z;exact .inr c
  ·exact(a z).elim (λz=>.inl (.inr z)) .inr
 cases f<;>simp only[AG]at h ⊢
 ·rcases h with h|h|h
  ·exact .inl (.inl h)
  ·exact(k h).elim (λz=>.inl (.inr (.inl z))) .inr
  ·exact .inl (.inr (.inr h))
 ·rcases h with h|h|h
  ·exact .inl (.inl h)
  ·exact(k h).elim (λz=>.inl (.inr (.inl z))) .inr
  ·exact .inl (.inr (.inr h))
 ·rcases h with h|h
  ·exact .inl (.inl h)
  ·exact(k h).elim (λz=>.inl (.inr z)) .inr
 ·rcases h with h|h|h
  ·exact .inl (.inl h)
  ·exact(k h).elim (λz=>.inl (.inr (.inl z))) .inr
  ·exact .inl (.inr (.inr h))
 ·exact .inl h
 ·exact .inl h
theorem Wq{l:dG}(ok:Ok W J Y H1)(r:F3 qD)(n:H1 D=none)(st:Step W.b W.a H1 H2)(e:H2 D\(.lst l)):Ok (W.blk J Y D) (Dh J qD) (L2.picked Y qD) H2 where
 bag:=st.bag
 fb:=ok.fb
 old:=λp o r e=>st.same p o r (ok.old p o r e)
 frm:=λp o e=>st.same p o (λz=>by rw[z,ok.fb]at e;cases e) (ok.frm p o e)
 oo:=λp h=>by
  have k:Ow W J Y p->W.H₀ p=none/\W.F p=none/\p≠W.b/\p≠W.a/\∃o,H2 p\o/\∀ys,o≠.tup ys:=λz=>by
   obtain⟨q1,q2,C,M,o,L,ρ⟩:=ok.ow z;exact⟨q1,q2,C,M,o,st.same p o C L,ρ⟩
  rcases h with h|h|h
  ·exact k (.inl h)
  ·exact k (.inr h)
  ·subst h;have nb:=ok.bag.nb n;refine⟨?_,?_,nb,ok.bag.na n,_,e,λ_ z=>nomatch z⟩
   ·cases q:W.H₀ p with
    |none=>rfl
    |some o=>rw[ok.old p o nb q]at n;cases n
   ·cases q:W.F p with
    |none=>rfl
    |some o=>rw[ok.frm p o q]at n;cases n
 len:=by simp[L2.picked,Dh]
 slot:=λi s h=>by
  obtain⟨o,A,c⟩:=JH h;cases o with
  |none =>
   dsimp only at c;subst c;refine⟨none,?_,trivial⟩;unfold L2.picked;rw[bO,A];rfl
  |some j =>
   dsimp only at c;refine⟨_,HI A,?_⟩;cases m:J[j]? with
   |none=>rw[m]at c;subst c;trivial
   |some s' =>
    rw[m]at c;have c:s=s':=c;subst c;obtain⟨o,q1,q2⟩:=ok.slot j _ m;rw[q1];show CF _ _ _ _ s o;refine CF.mv (W:=W) (Wb:=W.blk J Y D) (J:=J) (Y:=Y) rfl rfl rfl rfl (λf p u E I=>⟨λz=>?_,st.same p u (λz=>E (z▸AG.b)) I⟩) (λp G e=>st.same p _ (ok.bag.neT e).1 e) (λp o r e=>st.same p o r e) q2;rcases Wp (H1:=H1) (λz=>.inl (PR ok z)) n z with z|z
    ·exact E z
    ·rw[I]at z;cases z
 uniq:=λi Q x y h1 h2 us=>by
  obtain⟨o,A,c⟩:=JH h1;obtain⟨o',w,d⟩:=JH h2;cases o with
  |none=>cases c
  |some j =>
   cases o' with
   |none=>cases d
   |some B =>
    dsimp only at c d;cases m:J[j]? with
    |none=>rw[m]at c;cases c
    |some s =>
     cases g:J[B]? with
     |none=>rw[g]at d;cases d
     |some s' =>
      rw[m]at c;rw[g]at d;cases c;cases d;obtain⟨o,q1,q2⟩:=ok.slot j _ m;obtain⟨o',v,N⟩:=ok.slot B _ g;rw[HI A,HI w,q1,v]at us;have O:o=o':=oI us;subst O;have:=ok.uniq j B x y m g (by rw[q1,v]);subst this;exact Wo r A w
theorem Wr{h g:Fl}{i:Hp}(ok:Ok (W.blk J Y D) ρ' σ' H2)(c:g=.nw\/g=.cl)(r:RF (W.blk J Y D) ρ' σ' i h H2 y v)(m:(As y h).join g=g):Rp W.b (λq=>AG W J Y g q\/q=D) H2 y v:=by
 obtain⟨l,j,d⟩:=LA ok r;have hi:As y h=.nw\/As y h=.cl:=by
  rcases c with rfl|rfl<;>cases e:As y h<;>simp_all [Fl.join]
 refine d.keep (λq o f e=>⟨λz=>f ?_,e⟩) λq G e=>e;have ow:(Ow W J Y q\/q=D)->Ow (W.blk J Y D) ρ' σ' q:=λz=>.inl (z.elim (λz=>z.elim .inl λz=>.inr (.inl z)) λz=>.inr (.inr z));rcases c with rfl|rfl
 ·have a:As y h=.nw:=by rcases hi with z|z<;>simp_all [Fl.join]
  rw[a];simp only[AG]at z ⊢;rcases z with(z|z|z)|z
  ·exact .inl z
  ·exact .inr (.inl (ow (.inl z)))
  ·exact .inr (.inr z)
  ·exact .inr (.inl (ow (.inr z)))
 ·rcases hi with z'|z'<;>rw[z']<;>simp only[AG]at z ⊢
  ·rcases z with(z|z)|z
   ·exact .inl z
   ·exact .inr (.inl (ow (.inl z)))
   ·exact .inr (.inl (ow (.inr z)))
  ·rcases z with(z|z)|z
   ·exact .inl z
   ·exact .inr (ow (.inl z))
   ·exact .inr (ow (.inr z))
theorem LL{pi:pI}{pt:pT}(hp:F3 qD)(hi:JC wi pi)(hg:HD g pg)(ht:G8 tt pt)(he:BL te pe):BL (Fq wi qD g tt te) (HH pi qD pg pt pe):=by
 intro W J Y H Q K ok hk q;refine hi W J Y H _ _ ok hk λxs f _ ρ H1 zz s1 jC _=>?_;obtain⟨a5,a7,us,I,a1,h0,U,a2⟩:=zz;have d:=ok.step s1;have a0:∀{D H2},H1 D=none->Step W.b W.a H1 H2->∀{o},Step W.b W.a H1 (AD H2 D o):=λ{D H2} r s {o}=>⟨s.bag.put (d.bag.nb r) (d.bag.na r),λp u hp e=>by rw[AI (Ao e r)];exact s.same p u hp e⟩;intro D r;refine⟨λi m ys H2=>m=xs.length - i/\i<=xs.length/\∃ps,I i ps/\H2 D\(.lst ys)/\AC W.b (λq=>AG W J Y us q\/q=D) H2 ps ys/\Step W.b W.a H1 H2/\ps.length<=i,⟨xs.length,'2',cD _,[],h0,AX,rfl,a0 r (Step.refl d.bag),aQ _⟩,?_⟩;rintro i m ys H2 ⟨rfl,hi,ps,hI,L,B,s2,a9⟩;refine⟨L,?_⟩;have N:=d.step s2;have a4:=d.bag.nb r;have a8:=d.bag.na r;obtain⟨j1,j2,j3⟩:=jC (λp=>W.O p\/p=D) J Y H2 ⟨λp z=>z.elim .inl λz=>.inr (z▸r),rfl,rfl,N,s2⟩ i;by_cases σ:i<xs.length
 ·refine .inr ⟨j1 σ,λzs H'=>∃ps,I (i+1) ps/\H' D\(.lst zs)/\AC W.b (λq=>AG W J Y us q\/q=D) H' ps zs/\Step W.b W.a H1 H'/\ps.length<=i+1,λzs H' zz=>(by obtain⟨ps,z⟩:=zz;exact ⟨xs.length - (i+1),⋯,rfl,σ,ps,z⟩),λv H3 y=>?_⟩;have hx:xs[i]?\xs[i]:=by simp[σ]
  obtain⟨y1,y2⟩:=j3 v H3 y _ hx;have a3:=Wq d hp r s2 L;have y3:RF (W.blk J Y D) (Dh J qD) (L2.picked Y qD) H2 f H3 xs[i] v:=by
   have sub:∀{f:Fl} {q:Addr},AG (W.blk J Y D) (Dh J qD) (L2.picked Y qD) f q->AG { W with O:=λp=>W.O p\/p=D } J Y f q:=λ{f q} z=>by
    have k:Ow (W.blk J Y D) (Dh J qD) (L2.picked Y qD) q->Ow { W with O:=λp=>W.O p\/p=D } J Y q:=λz=>by
     rcases z with(z|z|z)|z
     ·exact .inl (.inl z)
     ·exact .inr z
     ·exact .inl (.inr z)
     ·exact .inr (PR d z)
    cases f<;>simp only[AG]at z ⊢
    all_goals first|exact z|exact z.elim .inl λz=>.inr (k z)|exact z.elim .inl λz=>.inr (z.elim (λz=>.inl (k z)) .inr)
   have kp:∀{f:Fl},Rp W.b (AG { W with O:=λp=>W.O p\/p=D } J Y f) H3 xs[i] v->Rp W.b (AG (W.blk J Y D) (Dh J qD) (L2.picked Y qD) f) H3 xs[i] v:=λ{f} h=>h.keep (λq o l e=>⟨λz=>l (sub z),e⟩) λq G e=>e;cases f with
   |bo=>exact bS rfl a5
   |nw=>exact⟨kp (f:=.fr) y2.1,y2.2⟩
   |fr=>exact kp (f:=.fr) y2
   |cl=>exact kp (f:=.cl) y2
   |rf=>exact kp (f:=.rf) y2
   |an=>exact kp (f:=.an) y2
  have j:∀{n w:Hp},Step W.b W.a n w->n D\(.lst ys)->w D\(.lst ys):=λs e=>s.same D _ a4 e;have T:∀{n w:Hp} {o:HO},Bag n W.b W.a->n D\(.lst ys)->Step W.b W.a n w->AC W.b (λq=>AG W J Y us q\/q=D) n ps ys->AC W.b (λq=>AG W J Y us q\/q=D) (AD w D o) ps ys:=λ{n w o} hb a6 s h =>
   h.keep (λq u l e=>⟨l,by rw[AI (λz=>l (.inr z))];exact s.same q u (λz=>l (.inl (z▸AG.b))) e⟩) λq G e=>by
    rw[AI (λz=>by rw[z,a6]at e;cases e)];exact s.same q _ (hb.neT e).1 e
  have C:∀{n w:Hp},Bag n W.b W.a->Step W.b W.a n w->AC W.b (λq=>AG W J Y us q\/q=D) n ps ys->AC W.b (λq=>AG W J Y us q\/q=D) w ps ys:=λ{n w} hb s h =>
   h.keep (λq u l e=>⟨l,s.same q u (λz=>l (.inl (z▸AG.b))) e⟩) λq G e=>s.same q _ (hb.neT e).1 e
  refine hg (W.blk J Y D) _ _ H2 H3 _ f v _ _ a3 y1 y3 (U i _ ps hx hI) λρ4 σ4 k4 M=>?_;refine ht (W.blk J Y D) ρ4 σ4 H3 _ _ M k4 λc H5 k5 s5=>?_;have A:=y1.trans s5;cases c with
  |false=>exact⟨ps,k5,j A L,C N.bag A B,s2.trans A,⋯⟩
  |true =>
   refine he (W.blk J Y D) ρ4 σ4 H5 _ _ (M.step s5) k5 λy h u H6 zz s6 r6=>?_;obtain⟨k6,k7⟩:=zz;have x:=A.trans s6;refine⟨j x L,?_,ps++[y],k7,AX,?_,a0 r (s2.trans x),by rw[aG];simp;lia⟩
   ·have:=B.length;have aa:sizeLine=16777216:=rfl;lia
   ·refine(T N.bag L x B).snoc ?_;have r7:=Wr (D:=D) (M.step (s5.trans s6)) a1 r6 k6;refine r7.keep (λq u l e=>⟨l,by rw[AI (λz=>l (.inr z))];exact e⟩) λq G e=>by
     rw[AI (λz=>by rw[z,j x L]at e;cases e)];exact e
 ·have e:i=xs.length:=⋯;subst e;refine .inl ⟨j2 (aQ _),q _ us _ H2 (a2 ps hI) (s1.trans s2) ?_⟩;have nz:∀g,¬AG W J Y g D:=λg z=>d.dom z r;have E:AC W.b (AG W J Y us) H2 ps ys:=B.keep (λq o l e=>⟨λz=>l (.inl z),e⟩) λq G e=>e;rcases a1 with rfl|rfl
  ·exact⟨⟨D,ys,rfl,nz .fr,L,E⟩,λ_=>⟨D,rfl,s1.free r⟩⟩
  ·exact⟨D,ys,rfl,nz .cl,L,E⟩
end
section
variable{pi:pI}{pt:pT}
abbrev CO(Xs:ι->Cx)(N':At)(scope:Scope):ι×CompP->Cx:=λq=>(Xs q.1).comp N' scope q.2
def HJ(Xs:ι->Cx)(qD:List (Option Nat))(tg:Expr)(p:pG):Prop:=∃g,(∀i,PG (Xs i) tg g)/\HD g p/\Ek qD g
def HK(Xs:ι->Cx)(ifs:List Expr)(p:pT):Prop:=∃t,(∀i,Ej (Xs i) ifs t)/\G8 t p
def PU:pT:=λ_ K=>K true
theorem C4:HK Xs [] PU:=⟨_,λ_=>OG,λW J Y H Q K ok h q=>q true H h (Step.refl ok.bag)⟩
theorem EM(h:QT Xs c pt):HK Xs [c] pt:=by obtain⟨t,h1,h2⟩:=h;exact ⟨t,λi=>Vm (h1 i),h2⟩
theorem Bp{k:Nat}(c:qD[k]?\none)(e:∀i,(Xs i).N.Nodup)(hi:∀i,(Xs i).N[k]?\x:=by rfl)(a:∀i,CU (Xs i).env.scope x:=by intro _;trivial)
  (d:∀i,(Xs i).fn x=true\/(Xs i).env.scope.names.lookup x\.local:=by intro _;trivial):HJ Xs qD (.Name x pos) (A0 k):=⟨_,λi=>BF (e i) (hi i) (a i) (d i),O9 k,OH c⟩
theorem Ws{k1:Nat}(d:qD[i]?\none)(c:qD[j]?\none)(f:∀i,(Xs i).calm=true)(g:∀i,(Xs i).K=Kf)(h:∀q,E9 (Xs q) es (Dd [i,j]))
  (e:∀i,(assignEach es (Xs i).env).length=2:=by rfl) (a:∀i,(assignEach es (Xs i).env).findIdx? (·.1)=none:=by rfl):HJ Xs qD (.Tuple es k1 pos) (FP [i,j]) :=
 ⟨FA Kf 2 (Dd [i,j]),λi=>by have:=Ka (k:=k1) (pos:=pos) (f i) (h i) (e i) (a i);rw[g i]at this;exact this,PC rfl,Vo d c⟩
theorem B5(S:CompScope N sc N' qD scope)(h:F3 qD)(m:∀i,(Xs i).calm=true)(hi:QI Xs tg iter pi)(j:HJ (CO Xs N' scope) qD tg pg)(e:HK (CO Xs N' scope) ifs pt)(l:QE (CO Xs N' scope) ce pe)
  (n:∀i,(Xs i).N=N:=by rfl) (a:∀i,(Xs i).env.scope=sc:=by rfl) (f:∀i,∀x,foldedSetIterable iter (Xs i).env x=pure x:=by intro _ _;rfl) :
  QE Xs (.ListComp ce [⟨tg,iter,ifs,0⟩] scope pos) (HH pi qD pg pt pe):=by
 obtain⟨wi,i1,i2⟩:=hi;obtain⟨g,r,q,o⟩:=j;obtain⟨tt,d,c⟩:=e;obtain⟨te,u,s⟩:=l;exact⟨_,λi=>OM S (m i) (i1 i) o (λp=>r (i,p)) (λp=>d (i,p)) (λp=>u (i,p)) (n i) (a i) (f i),LL h i2 q c s⟩
theorem PV{k:Nat}{f:Pos}(d:∀i,(Xs i).N.Nodup)(S:CompScope N sc N' qD scope)(o:F3 qD)(u:∀i,(Xs i).calm=true)(hi:QI Xs tg iter pi)(q:HJ (CO Xs N' scope) qD tg pg)(m:HK (CO Xs N' scope) ifs pt)(s:QE (CO Xs N' scope) ce pe)
  (e:∀i,(Xs i).N[k]?\x:=by rfl) (l:∀i,CU (Xs i).env.scope x:=by intro _;trivial)
  (v:∀i,(Xs i).N=N:=by rfl) (c:∀i,(Xs i).env.scope=sc:=by rfl)
  (a:∀i,swapsWith (.ListComp ce [⟨tg,iter,ifs,0⟩] scope pos) (some (.Name x pos')) f.line (Xs i).env=pure true:=by rfl) (n:∀i,∀x,foldedSetIterable iter (Xs i).env x=pure x:=by intro _ _;rfl)
  (r:∀i,(Xs i).fn x=true\/(Xs i).env.scope.names.lookup x\.local:=by intro _;trivial) :
  QS Xs (.Assign [.Name x pos'] (.ListComp ce [⟨tg,iter,ifs,0⟩] scope pos) f) (HC (HH pi qD pg pt pe) k):=by
 obtain⟨wi,i1,i2⟩:=hi;obtain⟨g,z,y,w⟩:=q;obtain⟨tt,j,h⟩:=m;obtain⟨te,B,A⟩:=s;exact⟨_,λi=>Vt S (d i) (e i) (l i) (u i) (i1 i) w (λp=>z (i,p)) (λp=>j (i,p)) (λp=>B (i,p)) (v i) (c i) (a i) (n i) (r i),LJ (LL o i2 y h A)⟩
end
theorem Wt{h:Fl}(hi:y.imm=true):As y h=.nw:=by cases h<;>simp[As,hi]
section
variable{α:Type}{as:List α}{enc:α->P}{step:P->(Option (P×Fl)->Prop)->Prop}{K:P->Fl->Prop}
theorem LM{x:P}(h:(as.map enc)[i]?\x):∃a,as[i]?\a/\a∈as/\x=enc a/\as.take (i+1)=as.take i++[a]:=by
 rw[bO]at h;cases c:as[i]? with
 |none=>rw[c]at h;cases h
 |some a =>
  rw[c]at h;exact⟨a,rfl,aM c,(oI h).symm,by rw[bJ,c];rfl⟩
theorem A5.filter(t:α->Bool)(g:α->P)(hi:∀a∈as,t a=true->(g a).imm=true)(j:∀a∈as,∀M:Option (P×Fl)->Prop,(∀h,M (if t a=true then some (g a,h)else none))->step (enc a) M)(l:K (.lst ((as.filter t).map g)) .nw):A5 (as.map enc) step K:=by
 refine⟨.nw,λi ys=>ys=((as.take i).filter t).map g,.inl rfl,rfl,λi x ys d c=>?_,λys c=>?_⟩
 ·obtain⟨a,_,hm,rfl,f⟩:=LM d;subst c;refine j a hm _ λh=>?_;have key:((as.take (i+1)).filter t).map g=((as.take i).filter t).map g++if t a=true then [g a]else []:=by
   rw[f,filter_append,cN];cases e:t a<;>simp[e]
  cases e:t a
  ·show((as.take i).filter t).map g=((as.take (i+1)).filter t).map g;rw[key,e];simp
  ·refine⟨by rw[Wt (hi a hm e)];rfl,?_⟩;show((as.take i).filter t).map g++[g a]=((as.take (i+1)).filter t).map g;rw[key,e];simp
 ·rw[aA,take_length]at c;subst c;exact l
theorem A5.map(g:α->P)(hi:∀a∈as,(g a).imm=true)(c:∀a∈as,∀M:Option (P×Fl)->Prop,(∀h,M (some (g a,h)))->step (enc a) M)(d:K (.lst (as.map g)) .nw):A5 (as.map enc) step K :=
 A5.filter (λ_=>true) g (λa m _=>hi a m) (λa m M h=>c a m M h) (by rw[filter_eq_self.mpr λ_ _=>rfl];exact d)
theorem A5.new(g:α->P)(f:∀a∈as,∀M:Option (P×Fl)->Prop,M (some (g a,.nw))->step (enc a) M)(h:K (.lst (as.map g)) .nw):A5 (as.map enc) step K:=by
 refine⟨.nw,λi ys=>ys=(as.take i).map g,.inl rfl,rfl,λi x ys d c=>?_,λys c=>?_⟩
 ·obtain⟨a,_,hm,rfl,e⟩:=LM d;subst c;refine f a hm _ ⟨rfl,?_⟩;show(as.take i).map g++[g a]=(as.take (i+1)).map g;rw[e,cN];rfl
 ·rw[aA,take_length]at c;subst c;exact h
end
def Di(C:Int->Int->Prop)(g:Int->Int->P):p2:=λx _ y _ K=>match x,y with
 |.int i,.int j=>C i j/\K (g i j) .fr
 |_,_=>False
abbrev CT:Int->Int->Prop:=λ_ _=>True
def Aq:P->Option V
 |.non=>some .non|.bl k=>some (.bl k)|.int i=>some (.int i)|.str x=>some (.str x)|_=>none
theorem PX{x:P}(h:Aq x\v):RF W J Y Hs .fr H x v:=by
 cases x<;>simp only[Aq]at h<;>first|(cases h;rfl)|cases h
section
variable{C:Int->Int->Prop}{g:Int->Int->V}{gp:Int->Int->P}
theorem Wu(e:∀i j,Aq (gp i j)\(g i j)):BV (rI C g) (Di C gp):=λW J Y Hs H Q K x y f h v u ok st d c a q=>by
 unfold Di at a;split at a
 ·cases CZ ok d;cases CZ ok c;exact⟨_,_,rfl,rfl,a.1,q _ _ _ H a.2 (Step.refl ok.bag) (PX (e _ _))⟩
 ·exact a.elim
theorem HL(e:∀i j,Aq (gp i j)\(g i j)):BV (Cm g) (Di CT gp):=λW J Y Hs H Q K x y f h v u ok st d c a q=>by
 unfold Di at a;split at a
 ·cases CZ ok d;cases CZ ok c;exact⟨_,_,rfl,rfl,q _ _ _ H a.2 (Step.refl ok.bag) (PX (e _ _))⟩
 ·exact a.elim
end
abbrev Wv:p2:=Di CT λi j=>.int (i+j)
abbrev Ww:p2:=Di CT λi j=>.int (i - j)
abbrev Wx:p2:=Di (λ_ j=>0<j) λi j=>.int (i % j)
abbrev Wy:p2:=Di CT λi j=>.bl (decide (i<j))
abbrev Wz:p2:=Di CT λi j=>.bl (decide (i<=j))
abbrev W0:p2:=Di CT λi j=>.bl (decide (j<i))
theorem F4:BV (Cm λi j=>.int (i+j)) Wv:=HL λ_ _=>rfl
theorem FR:BV (Cm λi j=>.int (i - j)) Ww:=HL λ_ _=>rfl
theorem PY:BV (rI (λ_ j=>0<j) λi j=>.int (i % j)) Wx:=Wu λ_ _=>rfl
theorem LN:BV (Cm λi j=>.bl (decide (i<j))) Wy:=HL λ_ _=>rfl
theorem PZ:BV (Cm λi j=>.bl (decide (i<=j))) Wz:=HL λ_ _=>rfl
theorem LO:BV (Cm λi j=>.bl (decide (j<i))) W0:=HL λ_ _=>rfl
section
variable{a b:Expr}
def Pa(p:pE):pE:=λJ K=>p J λx _=>match x with|.int i=>K (.int (-i)) .fr|_=>False
theorem W1(h:QE Xs a pa):QE Xs (.UnaryOp .USub a pos) (Pa pa):=by
 obtain⟨t,h1,h2⟩:=h;refine⟨_,λi=>NU NW (h1 i),λW J Y H Q K ok e q=>h2 W J Y H _ _ ok e λx f v H1 k1 c d=>?_⟩;split at k1
 ·cases CZ (ok.step c) d;exact⟨_,rfl,q _ _ _ H1 k1 c EI⟩
 ·exact k1.elim
end
abbrev ST:Str->Str->Prop:=λ_ _=>True
def P.isNon:P->Bool
 |.non=>true|_=>false
def Pb:p2:=λx _ y _ K=>y=.non/\K (.bl (!x.isNon)) .fr
theorem W3{b:Addr}{x:P}(h:Rp b Z H x v):decide (v=.non)=x.isNon:=by
 cases x with
 |non=>rw[show v=_ from h];rfl
 |bl k=>rw[show v=_ from h];rfl
 |int k=>rw[show v=_ from h];rfl
 |str k=>rw[show v=_ from h];rfl
 |bag=>rw[show v=_ from h];rfl
 |tup xs=>obtain⟨p,vs,e,_⟩:=h;rw[e];rfl
 |lst xs=>obtain⟨p,vs,e,_⟩:=h;rw[e];rfl
 |dT ks xs=>obtain⟨p,vs,e,_⟩:=h;rw[e];rfl
 |fT ks xs=>obtain⟨p,vs,e,_⟩:=h;rw[e];rfl
 |dK ks xs=>obtain⟨p,vs,e,_⟩:=h;rw[e];rfl
theorem W4:BV (λx y H Q=>y=.non/\Q (.bl (!decide (x=.non))) H) Pb:=λW J Y Hs H Q K x y f h v u ok st d c a q=>by
 obtain⟨rfl,a⟩:=a;refine⟨c.any ok,?_⟩;rw[W3 (d.any ok)];exact q _ _ _ H a (Step.refl ok.bag) Dc
def LP:p2:=λx f y _ K=>match x,y with
 |.lst xs,.int i=>∃z,atI xs i\z/\K z f.el
 |.tup xs,.int i=>∃z,atI xs i\z/\K z f.el
 |.str z,.int i=>z.length<=16777216/\∃c,atI z.cps.toList i\c/\K (.str ⟨#[c]⟩) .fr
 |_,_=>False
theorem AC.atI{b:Addr}{i:Int}{z:P}(h:AC b Z H xs vs)(e:L2.atI xs i\z):∃v,L2.atI vs i\v/\Rp b Z H z v:=by
 unfold L2.atI at e ⊢;rw[h.length]at e;cases hj:EC vs.length i with
 |none=>rw[hj]at e;cases e
 |some j =>
  rw[hj]at e;exact h.get (i:=j) e
def Pc:R2:=λx y H Q=>(∃p i xs,x=.ref p/\y=.int i/\(H p\(.lst xs)\/H p\(.tup xs))/\∃v,atI xs i\v/\Q v H)\/Nr x y H Q
theorem Aw:FE X Pc:=λvalue a qA s Y H x y v u Q I d c h e=>by
 rcases h with⟨p,i,xs,j,g,h,w,f,q⟩|h
 ·rcases h with h|h
  ·exact Nt value a qA s Y H x y v u Q I d c ⟨p,xs,i,w,j,g,.of h,f,q⟩ e
  ·exact VD value a qA s Y H x y v u Q I d c ⟨p,xs,i,w,j,g,.of h,f,q⟩ e
 ·exact Kj value a qA s Y H x y v u Q I d c h e
theorem Ax:BV Pc LP:=λW J Y Hs H Q K x y f h v u ok st i g a q=>by
 unfold LP at a;split at a
 ·obtain⟨z,e,d⟩:=a;cases CZ ok g;obtain⟨p,vs,rfl,l,r⟩:=i.items rfl;obtain⟨w,m,j⟩:=r.atI e;exact .inl ⟨p,_,vs,rfl,rfl,l,w,m,q _ _ _ H d (Step.refl ok.bag) (RF.ofEl j)⟩
 ·obtain⟨z,e,d⟩:=a;cases CZ ok g;obtain⟨p,vs,rfl,l,r⟩:=i.items rfl;obtain⟨w,m,j⟩:=r.atI e;exact .inl ⟨p,_,vs,rfl,rfl,l,w,m,q _ _ _ H d (Step.refl ok.bag) (RF.ofEl j)⟩
 ·obtain⟨n,c,e,d⟩:=a;cases CZ ok g;cases FN ok i;exact .inr ⟨_,_,c,rfl,rfl,n,e,q _ _ _ H d (Step.refl ok.bag) O3⟩
 ·exact a.elim
def LQ:p2:=λx f y g K=>match x,y with
 |.lst xs,.lst ys=>xs.length+ys.length<=16777216/\K (.lst (xs++ys)) ((BC f xs).join (BC g ys))
 |.tup xs,.tup ys=>(P.imms xs=true/\P.imms ys=true)/\xs.length+ys.length<=16777216/\K (.tup (xs++ys)) .fr
 |_,_=>False
def LR:R2:=λx y H Q=>(∃p q xs ys,x=.ref p/\y=.ref q/\H p\(.lst xs)/\H q\(.lst ys)/\xs.length+ys.length<=sizeLine/\∀l,H l=none->Q (.ref l) (AD H l (.lst (xs++ys)))) \/
 (∃p q xs ys,x=.ref p/\y=.ref q/\H p\(.tup xs)/\H q\(.tup ys)/\xs.length+ys.length<=sizeLine/\(xs=[]->Q (.ref q) H)/\(xs≠[]->ys=[]->Q (.ref p) H)/\(xs≠[]->ys≠[]->∀l,H l=none->Q (.ref l) (AD H l (.tup (xs++ys)))))
theorem HM:Ay X (binaryOp .Add) LR:=by
 intro qA s Y H x y v u Q I m l h;rcases h with⟨p,q,xs,ys,i,g,h1,h2,o,k⟩|⟨p,q,xs,ys,i,g,h1,h2,o,k0,k1,k2⟩
 ·exact VR qA s Y H x y v u Q I m l ⟨p,q,xs,ys,i,g,h1,h2,o,k⟩
 ·by_cases f:xs=[]
  ·subst i;subst g;subst f;cases m;cases l;obtain⟨qG,E,p1,_⟩:=I.tuple (.of h1);obtain⟨a,L,p2,_⟩:=I.tuple (.of h2);cases E;obtain⟨⟨ρ,dd,B,D⟩,w,A,n,z⟩:=id p1;obtain⟨⟨C,r,data2,j⟩,c,e,us,d⟩:=id p2;simp only at A z e d;subst A z e d;exact concat_meets ⟨_,w,rfl⟩ ⟨_,c,rfl⟩ noFill_tuple_add seq_tuple_add PySem.F.slot_tuple_add PySem.F.entry_tuple_add (PySem.F.args_tuple_add_2 _ _)
    (tuple_addW0 p q #[] a.toArray n us dd r D j rfl) ⟨w,c,.ref q,H,I,rfl,k0 rfl⟩
  ·exact VA qA s Y H x y v u Q I m l ⟨p,q,xs,ys,i,g,.of h1,.of h2,f,o,k1 f,k2 f⟩
theorem Pd(h:AC W.b (AG W J Y f) H xs vs):BC f xs≠.bo/\BC f xs≠.fr/\AC W.b (AG W J Y (BC f xs)) H xs vs:=by
 unfold BC;split
 ·exact⟨'2','2',h.imm ‹_›⟩
 ·cases f<;>exact⟨by simp[Fl.top],by simp[Fl.top],h⟩
theorem Ca(ok:Ok W J Y H)(r:RF W J Y Hs f H (.lst xs) v):∃p vs,v=.ref p/\H p\(.lst vs)/\AC W.b (AG W J Y f) H xs vs:=by
 obtain⟨p,vs,rfl,hc,a⟩:=r.items rfl;obtain⟨q,G,d,_,c,_⟩:=r.any ok;cases d;rcases hc with hc|hc
 ·exact⟨p,vs,rfl,hc,a⟩
 ·rw[c]at hc;cases hc
theorem Cb(ok:Ok W J Y H)(r:RF W J Y Hs f H (.tup xs) v):∃p vs,v=.ref p/\H p\(.tup vs)/\AC W.b (AG W J Y f) H xs vs:=by
 obtain⟨p,vs,rfl,hc,a⟩:=r.items rfl;obtain⟨q,G,d,c,_⟩:=r.any ok;cases d;rcases hc with hc|hc
 ·rw[c]at hc;cases hc
 ·exact⟨p,vs,rfl,hc,a⟩
theorem FS{g:Fl}{p:Addr}(ok:Ok W J Y H)(st:Step W.b W.a Hs H)(f:g≠.bo)(d:g≠.fr)(h:AC W.b (AG W J Y g) H xs vs)(i:H p=none):RF W J Y Hs g (AD H p (.lst vs)) (.lst xs) (.ref p):=by
 have:=RF.newL ok st h i;unfold BC at this;split at this
 ·rename_i hi;cases g with
  |bo=>exact bS rfl f
  |fr=>exact bS rfl d
  |nw=>exact this
  |cl=>exact this.1.keep (λq o c e=>⟨λz=>c (z.elim .inl λz=>.inr (.inl z)),e⟩) λq G e=>e
  |rf=>exact this.1.keep (λq o c e=>⟨λz=>c (z.elim .inl λz=>.inr (.inr z)),e⟩) λq G e=>e
  |an=>exact this.1.keep (λq o c e=>⟨λz=>c (.inl z),e⟩) λq G e=>e
 ·rw[RF.topped f d]at this;exact this
theorem JI:BV LR LQ:=λW J Y Hs H Q K x y f h v u ok st s r g q=>by
 unfold LQ at g;split at g
 ·obtain⟨d,j⟩:=g;obtain⟨p,vs,rfl,n,c⟩:=Ca ok s;obtain⟨p2,vs2,rfl,m,a⟩:=Ca ok r;obtain⟨E,D,c⟩:=Pd c;obtain⟨C,B,a⟩:=Pd a;have A:=Os (W:=W) (J:=J) (Y:=Y) E D C B;have w:=LB E D C B;refine .inl ⟨p,p2,vs,vs2,rfl,rfl,n,m,by rw[<-c.length,<-a.length];exact d,λl i=>q _ _ _ _ j (Step.new ok.bag i) ?_⟩;exact FS ok st w.1 w.2 ((c.keep (λq o d e=>⟨λz=>d (A q z).1,e⟩) λq G e=>e).app (a.keep (λq o d e=>⟨λz=>d (A q z).2,e⟩) λq G e=>e)) i
 ·obtain⟨⟨i1,i2⟩,d,j⟩:=g;obtain⟨p,vs,rfl,n,c⟩:=Cb ok s;obtain⟨p2,vs2,rfl,m,a⟩:=Cb ok r;have l1:=c.length;have l2:=a.length;have c:AC W.b (Zf W J Y) H _ vs:=c.imm i1;have a:AC W.b (Zf W J Y) H _ vs2:=a.imm i2;refine .inr ⟨p,p2,vs,vs2,rfl,rfl,n,m,by rw[<-l1,<-l2];exact d,λe=>?_,λe us=>?_,λ_ _ l i=>?_⟩
  ·subst e;refine q _ _ _ _ j (Step.refl ok.bag) ?_;rw[length_eq_zero_iff.mp l1,nil_append];exact⟨p2,vs2,rfl,m,a⟩
  ·subst us;refine q _ _ _ _ j (Step.refl ok.bag) ?_;rw[length_eq_zero_iff.mp l2,append_nil];exact⟨p,vs,rfl,n,c⟩
  ·refine q _ _ _ _ j (Step.new ok.bag i) ?_;exact⟨l,vs++vs2,rfl,AX,(c.app a).step (f:=.fr) (Step.new ok.bag i) ok.bag⟩
 ·exact g.elim
theorem Bf.one{x:P}(h:Bf W J Y Hs H [(x,f)] vs):∃v,vs=[v]/\RF W J Y Hs f H x v:=by
 obtain⟨v,t,rfl,h2,a⟩:=h;cases(show t=[]from a);exact⟨v,rfl,h2⟩
theorem Bf.two{x:P}{g:Fl}(h:Bf W J Y Hs H [(x,f),(y,g)] vs):∃v u,vs=[v,u]/\RF W J Y Hs f H x v/\RF W J Y Hs g H y u:=by
 obtain⟨v,t,rfl,h2,c⟩:=h;obtain⟨u,rfl,a⟩:=Bf.one c;exact⟨v,u,rfl,h2,a⟩
def p1(g:P->Fl->(P->Fl->Prop)->Prop):pC:=λxs K=>match xs with|[(x,f)]=>g x f K|_=>False
def LS:pC:=p1 λx _ K=>match x with
 |.lst xs=>K (.int xs.length) .fr
 |.tup xs=>K (.int xs.length) .fr
 |.str z=>z.length<=16777216/\K (.int z.length) .fr
 |_=>False
def Pe:dG->Hp->VK->Prop:=λxs H Q=>(∃p ys,xs=[.ref p]/\(H p\(.lst ys)\/H p\(.tup ys))/\Q (.int ys.length) H)\/∃z,xs=[.str z]/\z.length<=sizeLine/\Q (.int z.length) H
theorem CM:BK X (.builtin "len") Pe:=by
 intro qA s Y H xs G Q I r h;rcases h with⟨p,ys,rfl,a,q⟩|h
 ·exact Nw qA s Y H _ G Q I r ⟨p,ys,rfl,a.elim (λz=>.inl (.of z)) (λz=>.inr (.of z)),q⟩
 ·exact Nx qA s Y H _ G Q I r h
theorem CN:Bz Pe LS:=λW J Y Hs H Q K xs vs ok st r a q=>by
 unfold LS p1 at a;split at a
 ·obtain⟨v,rfl,rv⟩:=r.one;split at a
  ·obtain⟨p,G,rfl,c,d⟩:=Ca ok rv;exact .inl ⟨p,G,rfl,.inl c,by rw[<-d.length];exact q _ _ _ H a (Step.refl ok.bag) EI⟩
  ·obtain⟨p,G,rfl,c,d⟩:=Cb ok rv;exact .inl ⟨p,G,rfl,.inr c,by rw[<-d.length];exact q _ _ _ H a (Step.refl ok.bag) EI⟩
  ·cases FN ok rv;exact .inr ⟨_,rfl,a.1,q _ _ _ H a.2 (Step.refl ok.bag) EI⟩
  ·exact a.elim
 ·exact a.elim
def LU:pC:=p1 λx f K=>match x with
 |.lst xs=>K (.lst xs) (BC f xs)
 |.tup xs=>K (.lst xs) (BC f xs)
 |_=>False
theorem F5:Bz (λxs H Q=>∃p ys,xs=[.ref p]/\(H p\(.lst ys)\/H p\(.tup ys))/\∀l,H l=none->Q (.ref l) (AD H l (.lst ys))) LU:=λW J Y Hs H Q K xs vs ok st r a q=>by
 unfold LU p1 at a;split at a
 ·obtain⟨v,rfl,rv⟩:=r.one;split at a
  ·obtain⟨p,G,rfl,c,e⟩:=Ca ok rv;exact⟨p,G,rfl,.inl c,λl d=>q _ _ _ _ a (Step.new ok.bag d) (RF.newL ok st e d)⟩
  ·obtain⟨p,G,rfl,c,e⟩:=Cb ok rv;exact⟨p,G,rfl,.inr c,λl d=>q _ _ _ _ a (Step.new ok.bag d) (RF.newL ok st e d)⟩
  ·exact a.elim
 ·exact a.elim
def JJ:pC:=p1 λx f K=>match x with
 |.lst xs=>K (.tup xs) (BC f xs)
 |_=>False
theorem DK:Bz (λxs H Q=>∃p ys,xs=[.ref p]/\H p\(.lst ys)/\∀l,H l=none->Q (.ref l) (AD H l (.tup ys))) JJ:=λW J Y Hs H Q K xs vs ok st r a q=>by
 unfold JJ p1 at a;split at a
 ·obtain⟨v,rfl,rv⟩:=r.one;split at a
  ·obtain⟨p,G,rfl,c,e⟩:=Ca ok rv;exact⟨p,G,rfl,c,λl d=>q _ _ _ _ a (Step.new ok.bag d) (RF.newT ok e d)⟩
  ·exact a.elim
 ·exact a.elim
def LV:pC:=p1 λx f K=>∃bs:List Bool,x=.lst (bs.map P.bl)/\K (.bl (bs.all id)) .fr
theorem HN:Bz (λxs H Q=>∃(p:Addr) (bs:List Bool),xs=[.ref p]/\Am Kf H p (bs.map V.bl)/\Q (.bl (bs.all id)) H) LV:=λW J Y Hs H Q K xs vs ok st r a q=>by
 unfold LV p1 at a;split at a
 ·obtain⟨v,rfl,rv⟩:=r.one;obtain⟨bs,rfl,e⟩:=a;obtain⟨p,G,rfl,c,d⟩:=Ca ok rv;rw[AC.bls.mp d]at c;exact⟨p,bs,rfl,.of c,q _ _ _ H e (Step.refl ok.bag) Dc⟩
 ·exact a.elim
def JK:pC:=p1 λx f K=>∃ss:At,x=.lst (ss.map P.str)/\ss.length<64/\∀ss':At,ss'.Perm ss->sortedS ss'=true->K (.lst (ss'.map P.str)) .nw
theorem HP:Bz (λxs H Q=>∃(p:Addr) (ss:At),xs=[.ref p]/\H p\(.lst (ss.map V.str))/\ss.length<64/\∀(l:Addr) (a:At),H l=none->a.Perm ss->sortedS a=true->Q (.ref l) (AD H l (.lst (a.map V.str)))) JK:=λW J Y Hs H Q K xs vs ok st r d q=>by
 unfold JK p1 at d;split at d
 ·obtain⟨v,rfl,rv⟩:=r.one;obtain⟨ss,rfl,e,i⟩:=d;obtain⟨p,G,rfl,c,h⟩:=Ca ok rv;rw[AC.strs.mp h]at c;exact⟨p,ss,rfl,c,e,λl a f h1 h2=>q _ _ _ _ (i a h1 h2) (Step.new ok.bag f) (FS (g:=.nw) ok st '2' '2' (AC.strs.mpr rfl) f)⟩
 ·exact d.elim
def F6:P->String
 |.non=>"NoneType" | .bl _=>"bool" | .int _=>"int" | .str _=>"str" | .tup _=>"tuple" | .lst _=>"list" | .dT _ _=>"dict" | .dK _ _=>"dict" | .fT _ _=>"dict" | .bag=>"list"
def LW(n:String)(x:P):Bool:=decide (F6 x=n)||(decide (n="int")&&decide (F6 x="bool"))
def Pf(n:String)(p:pE):pE:=λJ K=>p J λx _=>K (.bl (LW n x)) .fr
theorem W5(K:Fg){n:String}(a:n="bool"\/n="int"\/n="tuple"\/n="list"\/n="str")(x:P):PySem.W.kitOne K (.type (F6 x)) (.type n)\(LW n x):=by
 rcases a with rfl|rfl|rfl|rfl|rfl<;>cases x<;>rfl
theorem W6{K:Fg}{b:Addr}{x:P}(d:Bag H b a)(h:Rp b Z H x v):TyOf K H v (.type (F6 x)):=by
 cases x with
 |non=>rw[show v=_ from h];exact .non
 |bl k=>rw[show v=_ from h];exact .bl k
 |int k=>rw[show v=_ from h];exact .int k
 |str k=>rw[show v=_ from h];exact .str k
 |bag=>rw[show v=_ from h];obtain⟨l,e⟩:=d.atb;exact .lst e
 |tup xs=>obtain⟨p,vs,e,c,_⟩:=h;rw[e];exact .tup c
 |lst xs=>obtain⟨p,vs,e,_,c,_⟩:=h;rw[e];exact .lst c
 |dT ks xs=>obtain⟨p,vs,e,_,c,_⟩:=h;rw[e];exact .dT c
 |fT ks xs=>obtain⟨p,vs,e,_,⟨o,c⟩,_⟩:=h;rw[e];exact .fT c
 |dK ks xs=>obtain⟨p,vs,e,_,c,_⟩:=h;rw[e];exact .dK c
section
variable{a:Expr}
theorem F7{n:String}{p1 p2:Pos}(p:n="bool"\/n="int"\/n="tuple"\/n="list"\/n="str")(y:∀i,(Xs i).K=Kf)(r:∀i,(Xs i).mg "isinstance"=none)(e:∀i,(Xs i).mg x=none)(d:bootBuiltins x\(.type n))(h:QE Xs a pa)
  (u:∀i,Gl (Xs i) "isinstance":=by rfl) (g:∀i,Gl (Xs i) x:=by rfl) (o:x≠"__name__":=by decide +kernel) (j:No x:=by decide +kernel)
  (l:∀i,starEach [a,.Name x p2] (Xs i).env=[(false,eval a (Xs i).env),(false,eval (.Name x p2) (Xs i).env)]:=by rfl) :
  QE Xs (.Call (.Name "isinstance" p1) [a,.Name x p2] [] pos) (Pf n pa):=by
 obtain⟨t,h1,h2⟩:=h;refine⟨DD (λxs H Q=>∃x t n b,xs=[x,.ty n]/\TyOf Kf H x t/\PySem.W.kitOne Kf t (.type n)\b/\Q (.bl b) H) (Bx t (Bx (tC (.ty n)) CD)),λi=>?_,λW J Y H Q K ok s q=>h2 W J Y H _ _ ok s λx f v H1 k1 c m=>?_⟩
 ·have w:BK (Xs i) (.builtin "isinstance") (λxs H Q=>∃x t n b,xs=[x,.ty n]/\TyOf Kf H x t/\PySem.W.kitOne Kf t (.type n)\b/\Q (.bl b) H):=by
   rw[<-y i];exact Vy
  refine Eh w (u i) (r i) nofun (Ag (h1 i) (Ag (T4 (v:=.ty n) (g i) (e i) d rfl o j) Az (by rfl)) ?_) nofun nofun ?_ ?_
  ·exact l i
  ·exact l i
  ·rfl
 ·exact⟨v,.type (F6 x),n,_,rfl,W6 c.bag (m.any (ok.step c)),W5 Kf p x,q _ _ _ H1 k1 c Dc⟩
end
end L2
variable{pi:L2.pI}
namespace L2
open PySem PySem.Spec PyProof.Rows PySem.SeqAt
mutual
def AL:P->P->Bool
 |.non,.non=>true
 |.bl a,.bl b=>a==b
 |.int a,.int b=>a==b
 |.str a,.str b=>a==b
 |.bl a,.int b=>(if a then 1 else 0)==b
 |.int a,.bl b=>a==(if b then 1 else 0)
 |.tup xs,.tup ys=>BN xs ys
 |.lst xs,.lst ys=>BN xs ys
 |_,_=>false
def BN:dH->dH->Bool
 |[],[]=>true
 |x::xs,y::ys=>AL x y&&BN xs ys
 |_,_=>false
end
def P.pl:Nat->P->Bool
 |_,.non=>true|_,.bl _=>true|_,.int _=>true|_,.str _=>true
 |n+1,.tup xs=>xs.all (P.pl n)
 |n+1,.lst xs=>xs.all (P.pl n)
 |_,_=>false
theorem Pg:∀{xs ys:dH} {e:Nat->Bool},(∀j x y,xs[j]?\x->ys[j]?\y->e j=AL x y)->((List.range (min xs.length ys.length)).all e&&xs.length==ys.length)=BN xs ys
 |[],[],e,_=>rfl
 |[],_::_,e,_=>by simp[BN]
 |_::_,[],e,_=>by simp[BN]
 |x::xs,y::ys,e,h=>by
  have c:=Pg (xs:=xs) (ys:=ys) (e:=λj=>e (j+1)) λj a b h1 h2=>h (j+1) a b (~~~h1) (~~~h2);have d:=h 0 x y rfl rfl;rw[BN,<-c,<-d];have g:min (x::xs).length (y::ys).length=min xs.length ys.length+1:='2'
  rw[g,range_succ_eq_map,all_cons,all_map];have f:((x::xs).length==(y::ys).length)=(xs.length==ys.length):=by
   rw[Bool.eq_iff_iff];simp
  rw[f,Bool.and_assoc];rfl
theorem Cc{x:P}(a:Aq x\v)(q:AJ v v'):(x=.non/\v'=.none)\/(∃b,x=.bl b/\v'=.bool b)\/(∃i t,x=.int i/\v'=.int i t)\/∃z t,x=.str z/\v'=.str z t:=by
 cases x with
 |non=>cases(oI (show some _\v from a));exact .inl ⟨rfl,q⟩
 |bl b=>cases(oI (show some _\v from a));exact .inr (.inl ⟨b,rfl,q⟩)
 |int i=>cases(oI (show some _\v from a));obtain⟨t,e⟩:=(show∃t,_=Value.int _ t from q);exact .inr (.inr (.inl ⟨i,t,rfl,e⟩))
 |str i=>cases(oI (show some _\v from a));obtain⟨t,e⟩:=(show∃t,_=Value.str _ t from q);exact .inr (.inr (.inr ⟨i,t,rfl,e⟩))
 |_=>cases a
@[elab_as_elim]theorem So{x:P}{C:Value->Prop}{v:V}(a:Aq x\v)(q:AJ v v')(h:C .none)(i:∀b,C (.bool b))(j:∀b t,C (.int b t))(k:∀b t,C (.str b t)):C v':=by rcases Cc a q with⟨_,rfl⟩|⟨_,_,rfl⟩|⟨_,_,_,rfl⟩|⟨_,_,_,rfl⟩;exact h;exact i _;exact j _ _;exact k _ _
theorem Ph{x:P}{u:V}(d:Aq x\v)(a:Aq y\u)(qv:AJ v v')(c:AJ u u'):EqAt A s v' u' (AL x y):=by
 rcases Cc d qv with⟨rfl,rfl⟩|⟨_,rfl,rfl⟩|⟨_,_,rfl,rfl⟩|⟨_,_,rfl,rfl⟩<;>rcases Cc a c with⟨rfl,rfl⟩|⟨_,rfl,rfl⟩|⟨_,_,rfl,rfl⟩|⟨_,_,rfl,rfl⟩<;>simp only[AL,Bool.not_false,Bool.not_true]
 exact EqAt.same _;exact EqAt.none_bool _;exact EqAt.none_int _ _;exact EqAt.none_str _ _;exact EqAt.bool_none _;exact EqAt.bool_bool _ _;exact EqAt.bool_int _ _ _;exact EqAt.bool_str _ _ _;exact EqAt.int_none _ _;exact EqAt.int_bool _ _ _;exact EqAt.int_int _ _ _ _;exact EqAt.int_str _ _ _ _;exact EqAt.str_none _ _;exact EqAt.str_bool _ _ _;exact EqAt.str_int _ _ _ _;exact EqAt.str_str _ _ _ _
theorem W7{x:P}{u:V}(d:Aq x\v)(a:Aq y\u)(qv:AJ v v')(c:AJ u u'):RcNeAt A s v' u' (!AL x y):=by
 rcases Cc d qv with⟨rfl,rfl⟩|⟨_,rfl,rfl⟩|⟨_,_,rfl,rfl⟩|⟨_,_,rfl,rfl⟩<;>rcases Cc a c with⟨rfl,rfl⟩|⟨_,rfl,rfl⟩|⟨_,_,rfl,rfl⟩|⟨_,_,rfl,rfl⟩<;>simp only[AL,Bool.not_false,Bool.not_true]
 exact RcNeAt.none_none;exact RcNeAt.none_bool _;exact RcNeAt.none_int _ _;exact RcNeAt.none_str _ _;exact RcNeAt.bool_none _;exact RcNeAt.bool_bool _ _;exact RcNeAt.bool_int _ _ _;exact RcNeAt.bool_str _ _ _;exact RcNeAt.int_none _ _;exact RcNeAt.int_bool _ _ _;exact RcNeAt.int_int _ _ _ _;exact RcNeAt.int_str _ _ _ _;exact RcNeAt.str_none _ _;exact RcNeAt.str_bool _ _ _;exact RcNeAt.str_int _ _ _ _;exact RcNeAt.str_str _ _ _ _
theorem W8{x:P}{u:V}(d:Aq x\v)(a:Aq y\u)(qv:AJ v v')(c:AJ u u'):RcAt A s v' u' (AL x y):=by
 rcases Cc d qv with⟨rfl,rfl⟩|⟨_,rfl,rfl⟩|⟨_,_,rfl,rfl⟩|⟨_,_,rfl,rfl⟩<;>rcases Cc a c with⟨rfl,rfl⟩|⟨_,rfl,rfl⟩|⟨_,_,rfl,rfl⟩|⟨_,_,rfl,rfl⟩<;>simp only[AL,Bool.not_false,Bool.not_true]
 exact RcAt.none_none;exact RcAt.none_bool _;exact RcAt.none_int _ _;exact RcAt.none_str _ _;exact RcAt.bool_none _;exact RcAt.bool_bool _ _;exact RcAt.bool_int _ _ _;exact RcAt.bool_str _ _ _;exact RcAt.int_none _ _;exact RcAt.int_bool _ _ _;exact RcAt.int_int _ _ _ _;exact RcAt.int_str _ _ _ _;exact RcAt.str_none _ _;exact RcAt.str_bool _ _ _;exact RcAt.str_int _ _ _ _;exact RcAt.str_str _ _ _ _
theorem W9{u:V}{l:Addr}(f:s.heap.IsList l qG)(e:A.units<cLine)(c:Aq y\u)(d:AJ u u'):EqAt A s (.ref l) u' false:=So c d (EqAt.list_none f e) (λ_=>EqAt.list_bool _ f e) (λ_ _=>EqAt.list_int _ _ f e) λ_ _=>EqAt.list_str _ _ f e
theorem XA{u:V}{l:Addr}(f:s.heap.IsList l qG)(e:A.units<cLine)(c:Aq y\u)(d:AJ u u'):EqAt A s u' (.ref l) false:=So c d (EqAt.none_list f e) (λ_=>EqAt.bool_list _ f e) (λ_ _=>EqAt.int_list _ _ f e) λ_ _=>EqAt.str_list _ _ f e
theorem XB{u:V}{l:Addr}(f:s.heap.IsTuple l qG)(e:A.units<cLine)(c:Aq y\u)(d:AJ u u'):EqAt A s (.ref l) u' false:=So c d (EqAt.tuple_none f e) (λ_=>EqAt.tuple_bool _ f e) (λ_ _=>EqAt.tuple_int _ _ f e) λ_ _=>EqAt.tuple_str _ _ f e
theorem XC{u:V}{l:Addr}(f:s.heap.IsTuple l qG)(e:A.units<cLine)(c:Aq y\u)(d:AJ u u'):EqAt A s u' (.ref l) false:=So c d (EqAt.none_tuple f e) (λ_=>EqAt.bool_tuple _ f e) (λ_ _=>EqAt.int_tuple _ _ f e) λ_ _=>EqAt.str_tuple _ _ f e
theorem XD{u:V}{l:Addr}(f:s.heap.IsList l qG)(e:A.units<cLine)(c:Aq y\u)(d:AJ u u'):RcNeAt A s (.ref l) u' true:=So c d (RcNeAt.list_none f e) (λ_=>RcNeAt.list_bool _ f e) (λ_ _=>RcNeAt.list_int _ _ f e) λ_ _=>RcNeAt.list_str _ _ f e
theorem XE{u:V}{l:Addr}(f:s.heap.IsList l qG)(e:A.units<cLine)(c:Aq y\u)(d:AJ u u'):RcNeAt A s u' (.ref l) true:=So c d (RcNeAt.none_list f e) (λ_=>RcNeAt.bool_list _ f e) (λ_ _=>RcNeAt.int_list _ _ f e) λ_ _=>RcNeAt.str_list _ _ f e
theorem XF{u:V}{l:Addr}(f:s.heap.IsTuple l qG)(e:A.units<cLine)(c:Aq y\u)(d:AJ u u'):RcNeAt A s (.ref l) u' true:=So c d (RcNeAt.tuple_none f e) (λ_=>RcNeAt.tuple_bool _ f e) (λ_ _=>RcNeAt.tuple_int _ _ f e) λ_ _=>RcNeAt.tuple_str _ _ f e
theorem XG{u:V}{l:Addr}(f:s.heap.IsTuple l qG)(e:A.units<cLine)(c:Aq y\u)(d:AJ u u'):RcNeAt A s u' (.ref l) true:=So c d (RcNeAt.none_tuple f e) (λ_=>RcNeAt.bool_tuple _ f e) (λ_ _=>RcNeAt.int_tuple _ _ f e) λ_ _=>RcNeAt.str_tuple _ _ f e
theorem XH{u:V}{l:Addr}(f:s.heap.IsList l qG)(e:A.units<cLine)(c:Aq y\u)(d:AJ u u'):RcAt A s (.ref l) u' false:=So c d (RcAt.list_none f e) (λ_=>RcAt.list_bool _ f e) (λ_ _=>RcAt.list_int _ _ f e) λ_ _=>RcAt.list_str _ _ f e
theorem XI{u:V}{l:Addr}(f:s.heap.IsList l qG)(e:A.units<cLine)(c:Aq y\u)(d:AJ u u'):RcAt A s u' (.ref l) false:=So c d (RcAt.none_list f e) (λ_=>RcAt.bool_list _ f e) (λ_ _=>RcAt.int_list _ _ f e) λ_ _=>RcAt.str_list _ _ f e
theorem XJ{u:V}{l:Addr}(f:s.heap.IsTuple l qG)(e:A.units<cLine)(c:Aq y\u)(d:AJ u u'):RcAt A s (.ref l) u' false:=So c d (RcAt.tuple_none f e) (λ_=>RcAt.tuple_bool _ f e) (λ_ _=>RcAt.tuple_int _ _ f e) λ_ _=>RcAt.tuple_str _ _ f e
theorem XM{u:V}{l:Addr}(f:s.heap.IsTuple l qG)(e:A.units<cLine)(c:Aq y\u)(d:AJ u u'):RcAt A s u' (.ref l) false:=So c d (RcAt.none_tuple f e) (λ_=>RcAt.bool_tuple _ f e) (λ_ _=>RcAt.int_tuple _ _ f e) λ_ _=>RcAt.str_tuple _ _ f e
theorem Cr{b:Addr}{x:P}(a:x.pl n=true)(r:Rp b Z H x v):Aq x\v\/(∃m xs,n=m+1/\x=.tup xs/\xs.all (P.pl m)=true)\/∃m xs,n=m+1/\x=.lst xs/\xs.all (P.pl m)=true:=by
 cases x with
 |non=>exact .inl (by rw[show v=_ from r];rfl)
 |bl k=>exact .inl (by rw[show v=_ from r];rfl)
 |int k=>exact .inl (by rw[show v=_ from r];rfl)
 |str k=>exact .inl (by rw[show v=_ from r];rfl)
 |tup xs=>cases n with
  |zero=>simp[P.pl]at a
  |succ m=>exact .inr (.inl ⟨m,xs,rfl,rfl,by simpa[P.pl]using a⟩)
 |lst xs=>cases n with
  |zero=>simp[P.pl]at a
  |succ m=>exact .inr (.inr ⟨m,xs,rfl,rfl,by simpa[P.pl]using a⟩)
 |_=>cases n<;>simp[P.pl]at a
theorem XN:∀(n:Nat) {x:P},x.pl n=true->AL x x=true:=by
 intro n
 induction n with
 |zero=>intro x a;cases x<;>simp[P.pl]at a<;>simp[AL]
 |succ n e =>
  have d:∀{xs:dH},xs.all (P.pl n)=true->BN xs xs=true:=by
   intro xs
   induction xs with
   |nil=>intro _;rfl
   |cons x r c =>
    intro h;rw[all_cons,cB]at h;rw[BN,e h.1,c h.2];rfl
  intro x a;cases x<;>simp only[P.pl]at a<;>simp only[AL,beq_self_eq_true]
  ·cases a
  ·exact d a
  ·exact d a
  ·cases a
  ·cases a
  ·cases a
theorem Pj(n:Nat)(xs:dH)(h:xs.all (P.pl n)=true):BN xs xs=true:=by
 induction xs with
 |nil=>rfl
 |cons x r a =>
  rw[all_cons,cB]at h;rw[BN,XN n h.1,a h.2];rfl
theorem Pk{b:Addr}:∀(n:Nat) {x y:P} {v:V},x.pl n=true->y.pl n=true->Rp b Z H x v->Rp b Z H y v->x=y:=by
 intro n
 induction n with
 |zero =>
  intro x y v u l j a;cases x<;>simp[P.pl]at u<;>cases y<;>simp[P.pl]at l<;>(rw[show v=_ from j]at a)<;>first|rfl|(cases a;rfl)|cases a
 |succ n B =>
  have w:∀{xs ys:dH} {vs:dG},xs.all (P.pl n)=true->ys.all (P.pl n)=true->AC b Z H xs vs->AC b Z H ys vs->xs=ys:=by
   intro xs
   induction xs with
   |nil =>
    intro ys vs _ _ f c;rw[show vs=[]from f]at c;cases ys with
    |nil=>rfl
    |cons y r=>obtain⟨_,_,e,_⟩:=c;cases e
   |cons x r s =>
    intro ys vs h1 h2 f c;obtain⟨v,t,rfl,q1,q2⟩:=f;cases ys with
    |nil=>cases(show v::t=[]from c)
    |cons y ys =>
     obtain⟨_,_,e,A,z⟩:=c;cases e;rw[all_cons,cB]at h1 h2;rw[B h1.1 h2.1 q1 A,s h1.2 h2.2 q2 z]
  intro x y v u l j a;rcases Cr u j with q|⟨m,xs,e,rfl,px⟩|⟨m,xs,e,rfl,px⟩
  ·rcases Cr l a with i|⟨m,ys,e,rfl,g⟩|⟨m,ys,e,rfl,g⟩
   ·cases x<;>simp only[Aq]at q<;>cases q<;>cases y<;>simp only[Aq]at i<;>cases i<;>rfl
   ·obtain⟨p,G,rfl,_⟩:=a;cases x<;>simp[Aq]at q
   ·obtain⟨p,G,rfl,_⟩:=a;cases x<;>simp[Aq]at q
  ·cases e;obtain⟨p,vs,rfl,o,f⟩:=j;rcases Cr l a with i|⟨m,ys,e,rfl,g⟩|⟨m,ys,e,rfl,g⟩
   ·cases y<;>simp[Aq]at i
   ·cases e;obtain⟨p2,G,h,d,c⟩:=a;cases h;rw[o]at d;cases d;rw[w px g f c]
   ·obtain⟨p2,G,h,_,d,c⟩:=a;cases h;rw[o]at d;cases d
  ·cases e;obtain⟨p,vs,rfl,_,o,f⟩:=j;rcases Cr l a with i|⟨m,ys,e,rfl,g⟩|⟨m,ys,e,rfl,g⟩
   ·cases y<;>simp[Aq]at i
   ·obtain⟨p2,G,h,d,c⟩:=a;cases h;rw[o]at d;cases d
   ·cases e;obtain⟨p2,G,h,_,d,c⟩:=a;cases h;rw[o]at d;cases d;rw[w px g f c]
theorem LX{b:Addr}{Z:Addr->Prop}{H:Hp}{n:Nat}:∀{xs ys:dH} {vs:dG},xs.all (P.pl n)=true->ys.all (P.pl n)=true->AC b Z H xs vs->AC b Z H ys vs->xs=ys
 |[],ys,vs,_,_,c,a=>by
  rw[show vs=[]from c]at a;cases ys with
  |nil=>rfl
  |cons y r=>obtain⟨_,_,e,_⟩:=a;cases e
 |x::xs,ys,vs,h1,h2,c,a=>by
  obtain⟨v,t,rfl,q1,q2⟩:=c;cases ys with
  |nil=>cases(show v::t=[]from a)
  |cons y ys =>
   obtain⟨_,_,e,f,d⟩:=a;cases e;rw[all_cons,cB]at h1 h2;rw[Pk n h1.1 h2.1 q1 f,LX h1.2 h2.2 q2 d]
theorem EN(I:Inv X qA Y H s){p:Addr}(e:H p\(.tup vs)):∃qG:Do,AQ vs qG/\s.heap.IsTuple p qG.toArray:=by
 obtain⟨qG,r,t,_⟩:=I.tuple (.of e);exact⟨qG,r,t⟩
theorem EO(I:Inv X qA Y H s){p:Addr}(e:H p\(.lst vs)):∃qG:Do,AQ vs qG/\s.heap.IsList p qG.toArray:=by
 obtain⟨qG,r,t,_⟩:=I.list (.of e);exact⟨qG,r,t.isList⟩
theorem HQ(A:Around):A.in1.units=A.units+1:=rfl
def Es(xs ys:dH)(j:Nat):Bool:=match xs[j]?,ys[j]? with|some x,some y=>AL x y|_,_=>true
theorem F8{ys:dH}:((List.range (min xs.length ys.length)).all (Es xs ys)&&xs.length==ys.length)=BN xs ys:=Pg λj x y h1 h2=>by unfold Es;rw[h1,h2]
theorem JL{m:Nat}{x:P}(h:xs.all (P.pl m)=true)(e:xs[i]?\x):x.pl m=true:=all_eq_true.mp h x (aM e)
theorem Pl(I:Inv X qA Y H s){b:Addr}:∀(n:Nat) {A:Around} {x y:P} {v u:V} {v' u':Value},A.units+n<cLine->x.pl n=true->y.pl n=true->Rp b Z H x v->Rp b Z H y u->AJ v v'->AJ u u'->EqAt A s v' u' (AL x y):=by
 intro n
 induction n with
 |zero =>
  intro A x y v u v' u' hu M ρ us q qv w;rcases Cr M us with D|⟨m,xs,e,_⟩|⟨m,xs,e,_⟩
  ·rcases Cr ρ q with C|⟨m,ys,e,_⟩|⟨m,ys,e,_⟩
   ·exact Ph D C qv w
   ·cases e
   ·cases e
  ·cases e
  ·cases e
 |succ n ih =>
  intro A x y v u v' u' hu M ρ us q qv w;have c:A.units<cLine:=⋯;have N:A.in1.units+n<cLine:=by rw[HQ];lia
  have pc:∀{xs ys:dH} {vs G:dG} {qG a:Do},xs.all (P.pl n)=true->ys.all (P.pl n)=true->AC b Z H xs vs->AC b Z H ys G->AQ vs qG->AQ G a->∀j (h1:j<qG.toArray.size) (h2:j<a.toArray.size),EqAt A.in1 s qG.toArray[j] a.toArray[j] (Es xs ys j):=by
   intro xs ys vs G qG a px h r g B z j h1 h2;have l1:=r.length;have l2:=g.length;have l3:=B.length;have L:=z.length;rw[size_toArray]at h1 h2;obtain⟨v1,E,q1⟩:=r.get (i:=j) (x:=xs[j]'⋯) (by simp[l1,l3,h1]);obtain⟨v2,f,q2⟩:=g.get (i:=j) (x:=ys[j]'⋯) (by simp[l2,L,h2]);obtain⟨u1,σ,k1⟩:=B.get E;obtain⟨u2,U,k2⟩:=z.get f;have ex:xs[j]?\(xs[j]'⋯):=by simp[l1,l3,h1]
   have ey:ys[j]?\(ys[j]'⋯):=by simp[l2,L,h2]
   have z1:qG.toArray[j]=u1:=by
    have:qG[j]?\qG[j]:=by simp[h1]
    rw[this]at σ;simpa using oI σ
   have z2:a.toArray[j]=u2:=by
    have:a[j]?\a[j]:=by simp[h2]
    rw[this]at U;simpa using oI U
   rw[z1,z2];have:Es xs ys j=AL (xs[j]'⋯) (ys[j]'⋯):=by unfold Es;rw[ex,ey]
   rw[this];exact ih N (JL px ex) (JL h ey) q1 q2 k1 k2
  rcases Cr M us with D|⟨m,xs,e,rfl,px⟩|⟨m,xs,e,rfl,px⟩
  ·rcases Cr ρ q with C|⟨m,ys,e,rfl,h⟩|⟨m,ys,e,rfl,h⟩
   ·exact Ph D C qv w
   ·obtain⟨p,G,rfl,f,g⟩:=q;cases(show u'=Value.ref p from w);obtain⟨qG,_,o⟩:=EN I f;have:AL x (.tup ys)=false:=by cases x<;>simp[Aq]at D<;>simp only[AL]
    rw[this];exact XC o c D qv
   ·obtain⟨p,G,rfl,_,f,g⟩:=q;cases(show u'=Value.ref p from w);obtain⟨qG,_,o⟩:=EO I f;have:AL x (.lst ys)=false:=by cases x<;>simp[Aq]at D<;>simp only[AL]
    rw[this];exact XA o c D qv
  ·cases e;obtain⟨p,vs,rfl,E,r⟩:=id us;cases(show v'=Value.ref p from qv);obtain⟨qG,B,o⟩:=EN I E;rcases Cr ρ q with C|⟨m,ys,e,rfl,h⟩|⟨m,ys,e,rfl,h⟩
   ·have:AL (.tup xs) y=false:=by cases y<;>simp[Aq]at C<;>simp only[AL]
    rw[this];exact XB o c C w
   ·cases e;obtain⟨p2,G,rfl,f,g⟩:=id q;cases(show u'=Value.ref p2 from w);obtain⟨a,z,d⟩:=EN I f;have key:=RcAt.tuples (A:=A) o d c (pc px h r g B z);rw[size_toArray,size_toArray,<-B.length,<-z.length,<-r.length,<-g.length,F8]at key;rw[show AL (.tup xs) (.tup ys)=BN xs ys by simp only[AL]];by_cases l:p=p2
    ·subst l;rw[E]at f;cases f;have:BN xs ys=true:=by
      have O:∀zs:dH,zs.all (P.pl n)=true->BN zs zs=true:=Pj n;rw[LX (b:=b) (H:=H) (n:=n) px h r g];exact O ys h
     rw[this];exact EqAt.same _
    ·exact EqAt.of_refs l key
   ·obtain⟨p2,G,rfl,_,f,g⟩:=q;cases(show u'=Value.ref p2 from w);obtain⟨a,_,d⟩:=EO I f;rw[show AL (.tup xs) (.lst ys)=false by simp only[AL]];exact EqAt.tuple_list o d c
  ·cases e;obtain⟨p,vs,rfl,_,E,r⟩:=id us;cases(show v'=Value.ref p from qv);obtain⟨qG,B,o⟩:=EO I E;rcases Cr ρ q with C|⟨m,ys,e,rfl,h⟩|⟨m,ys,e,rfl,h⟩
   ·have:AL (.lst xs) y=false:=by cases y<;>simp[Aq]at C<;>simp only[AL]
    rw[this];exact W9 o c C w
   ·obtain⟨p2,G,rfl,f,g⟩:=q;cases(show u'=Value.ref p2 from w);obtain⟨a,_,d⟩:=EN I f;rw[show AL (.lst xs) (.tup ys)=false by simp only[AL]];exact EqAt.list_tuple o d c
   ·cases e;obtain⟨p2,G,rfl,_,f,g⟩:=id q;cases(show u'=Value.ref p2 from w);obtain⟨a,z,d⟩:=EO I f;rw[show AL (.lst xs) (.lst ys)=BN xs ys by simp only[AL]];by_cases l:p=p2
    ·subst l;rw[E]at f;cases f;have:BN xs ys=true:=by
      have O:∀zs:dH,zs.all (P.pl n)=true->BN zs zs=true:=Pj n;rw[LX (b:=b) (H:=H) (n:=n) px h r g];exact O ys h
     rw[this];exact EqAt.same _
    ·by_cases T:qG.length=a.length
     ·have key:=RcAt.lists (A:=A) o d (~~~T) c (pc px h r g B z);rw[<-F8];have l1:=r.length;have l2:=g.length;have l3:=B.length;have L:=z.length;have e5:min xs.length ys.length=qG.toArray.size:=by rw[size_toArray];lia
      have Q:(xs.length==ys.length)=true:=by rw[beq_iff_eq];lia
      rw[e5,Q,Bool.and_true];exact EqAt.of_refs l key
     ·have l1:=r.length;have l2:=g.length;have l3:=B.length;have L:=z.length;have Q:(xs.length==ys.length)=false:=by rw[beq_eq_false_iff_ne];lia
      rw[<-F8,Q,Bool.and_false];exact EqAt.of_refs l (RcAt.lists_lengths o d (~~~T) c)
theorem pieces(I:Inv X qA Y H s){b:Addr}(c:A.in1.units+n<cLine){ys:dH}{G:dG}{qG a:Do}(px:xs.all (P.pl n)=true)(r:ys.all (P.pl n)=true)
  (g:AC b Z H xs vs) (f:AC b Z H ys G) (e:AQ vs qG) (d:AQ G a):∀j (h1:j<qG.toArray.size) (h2:j<a.toArray.size),EqAt A.in1 s qG.toArray[j] a.toArray[j] (Es xs ys j):=by
 intro j h1 h2;have l1:=g.length;have l2:=f.length;have l3:=e.length;have h:=d.length;rw[size_toArray]at h1 h2;obtain⟨y,v,q1⟩:=g.get (i:=j) (x:=xs[j]'⋯) (by simp[l1,l3,h1]);obtain⟨w,u,q2⟩:=f.get (i:=j) (x:=ys[j]'⋯) (by simp[l2,h,h2]);obtain⟨u1,m,k1⟩:=e.get v;obtain⟨u2,l,k2⟩:=d.get u;have ex:xs[j]?\(xs[j]'⋯):=by simp[l1,l3,h1]
 have o:ys[j]?\(ys[j]'⋯):=by simp[l2,h,h2]
 have q:qG.toArray[j]=u1:=by
  have:qG[j]?\qG[j]:=by simp[h1]
  rw[this]at m;simpa using oI m
 have p:a.toArray[j]=u2:=by
  have:a[j]?\a[j]:=by simp[h2]
  rw[this]at l;simpa using oI l
 rw[q,p];have:Es xs ys j=AL (xs[j]'⋯) (ys[j]'⋯):=by unfold Es;rw[ex,o]
 rw[this];exact Pl I n c (JL px ex) (JL r o) q1 q2 k1 k2
theorem Pm(I:Inv X qA Y H s){b:Addr}{x:P}{u:V}(T:A.units+n+1<cLine)(N:x.pl n=true)(ρ:y.pl n=true)(E:Rp b Z H x v)(l:Rp b Z H y u)(qv:AJ v v')(h:AJ u u') :
  RcAt A s v' u' (AL x y)/\RcNeAt A s v' u' (!AL x y):=by
 have a:A.units<cLine:=⋯;rcases Cr N E with q|⟨m,xs,e,rfl,px⟩|⟨m,xs,e,rfl,px⟩
 ·rcases Cr ρ l with j|⟨m,ys,e,rfl,r⟩|⟨m,ys,e,rfl,r⟩
  ·exact⟨W8 q j qv h,W7 q j qv h⟩
  ·obtain⟨p,G,rfl,i,o⟩:=l;cases(show u'=Value.ref p from h);obtain⟨qG,_,d⟩:=EN I i;have:AL x (.tup ys)=false:=by cases x<;>simp[Aq]at q<;>simp only[AL]
   rw[this];exact⟨XM d a q qv,XG d a q qv⟩
  ·obtain⟨p,G,rfl,_,i,o⟩:=l;cases(show u'=Value.ref p from h);obtain⟨qG,_,d⟩:=EO I i;have:AL x (.lst ys)=false:=by cases x<;>simp[Aq]at q<;>simp only[AL]
   rw[this];exact⟨XI d a q qv,XE d a q qv⟩
 ·subst e;obtain⟨p,vs,rfl,M,B⟩:=id E;cases(show v'=Value.ref p from qv);obtain⟨qG,z,d⟩:=EN I M;rcases Cr ρ l with j|⟨us,ys,e,rfl,r⟩|⟨us,ys,e,rfl,r⟩
  ·have:AL (.tup xs) y=false:=by cases y<;>simp[Aq]at j<;>simp only[AL]
   rw[this];exact⟨XJ d a j h,XF d a j h⟩
  ·cases e;obtain⟨p2,G,rfl,i,o⟩:=id l;cases(show u'=Value.ref p2 from h);obtain⟨g,w,c⟩:=EN I i;have C:=pieces I (A:=A) (n:=m) (by rw[HQ];lia) px r B o z w;have key:=RcAt.tuples (A:=A) d c a C;have f:=RcNeAt.tuples (A:=A) d c a C;rw[size_toArray,size_toArray,<-z.length,<-w.length,<-B.length,<-o.length,F8]at key f;rw[show AL (.tup xs) (.tup ys)=BN xs ys by simp only[AL]];exact⟨key,f⟩
  ·obtain⟨p2,G,rfl,_,i,o⟩:=l;cases(show u'=Value.ref p2 from h);obtain⟨g,_,c⟩:=EO I i;rw[show AL (.tup xs) (.lst ys)=false by simp only[AL]];exact⟨RcAt.tuple_list d c a,RcNeAt.tuple_list d c a⟩
 ·subst e;obtain⟨p,vs,rfl,_,M,B⟩:=id E;cases(show v'=Value.ref p from qv);obtain⟨qG,z,d⟩:=EO I M;rcases Cr ρ l with j|⟨us,ys,e,rfl,r⟩|⟨us,ys,e,rfl,r⟩
  ·have:AL (.lst xs) y=false:=by cases y<;>simp[Aq]at j<;>simp only[AL]
   rw[this];exact⟨XH d a j h,XD d a j h⟩
  ·obtain⟨p2,G,rfl,i,o⟩:=l;cases(show u'=Value.ref p2 from h);obtain⟨g,_,c⟩:=EN I i;rw[show AL (.lst xs) (.tup ys)=false by simp only[AL]];exact⟨RcAt.list_tuple d c a,RcNeAt.list_tuple d c a⟩
  ·cases e;obtain⟨p2,G,rfl,_,i,o⟩:=id l;cases(show u'=Value.ref p2 from h);obtain⟨g,w,c⟩:=EO I i;rw[show AL (.lst xs) (.lst ys)=BN xs ys by simp only[AL]];have l1:=B.length;have l2:=o.length;have l3:=z.length;have Q:=w.length;by_cases D:qG.length=g.length
   ·have C:=pieces I (A:=A) (n:=m) (by rw[HQ];lia) px r B o z w;have key:=RcAt.lists (A:=A) d c (~~~D) a C;have f:=RcNeAt.lists (A:=A) d c (~~~D) a C;rw[<-F8];have O:min xs.length ys.length=qG.toArray.size:=by rw[size_toArray];lia
    have L:(xs.length==ys.length)=true:=by rw[beq_iff_eq];lia
    rw[O,L,Bool.and_true];exact⟨key,f⟩
   ·have L:(xs.length==ys.length)=false:=by rw[beq_eq_false_iff_ne];lia
    rw[<-F8,L,Bool.and_false];exact⟨RcAt.lists_lengths d c (~~~D) a,RcNeAt.lists_lengths d c (~~~D) a⟩
def Pn:R2:=λv u H Q=>∃(b:Addr) (Z:Addr->Prop) (x y:P),x.pl 9=true/\y.pl 9=true/\Rp b Z H x v/\Rp b Z H y u/\Q (.bl (AL x y)) H
def Po:R2:=λv u H Q=>∃(b:Addr) (Z:Addr->Prop) (x y:P),x.pl 9=true/\y.pl 9=true/\Rp b Z H x v/\Rp b Z H y u/\Q (.bl (!AL x y)) H
theorem Cd{k:Nat}(f:Room k X.A):Ay X (compareOp .Eq) Pn:=by
 rintro qA s Y H x y v u Q I c a⟨b,Z,px,g,h1,h2,e,d,q⟩;exact(Pm I (A:=X.A) (by have:=f.units;lia) h1 h2 e d c a).1 _ _ _ _ ⟨.bl _,H,I,rfl,q⟩
theorem Dj{k:Nat}(f:Room k X.A):Ay X (compareOp .NotEq) Po:=by
 rintro qA s Y H x y v u Q I c a⟨b,Z,px,g,h1,h2,e,d,q⟩;exact(Pm I (A:=X.A) (by have:=f.units;lia) h1 h2 e d c a).2 _ _ _ _ ⟨.bl _,H,I,rfl,q⟩
def Pp:p2:=λx _ y _ K=>(x.pl 9=true/\y.pl 9=true)/\K (.bl (AL x y)) .fr
def Pq:p2:=λx _ y _ K=>(x.pl 9=true/\y.pl 9=true)/\K (.bl (!AL x y)) .fr
theorem Ce:BV Pn Pp:=λW J Y Hs H Q K x y f h v u ok st d c a q =>
 ⟨W.b,_,x,y,a.1.1,a.1.2,d.any ok,c.any ok,q _ _ _ H a.2 (Step.refl ok.bag) Dc⟩
theorem Dk:BV Po Pq:=λW J Y Hs H Q K x y f h v u ok st d c a q =>
 ⟨W.b,_,x,y,a.1.1,a.1.2,d.any ok,c.any ok,q _ _ _ H a.2 (Step.refl ok.bag) Dc⟩
@[simp] theorem Pr(n:Nat)(i:Int):(P.int i).pl n=true:=by cases n<;>rfl
@[simp] theorem Pt(n:Nat)(i:Str):(P.str i).pl n=true:=by cases n<;>rfl
@[simp] theorem XO(n:Nat)(i:Bool):(P.bl i).pl n=true:=by cases n<;>rfl
@[simp] theorem XQ(n:Nat):P.non.pl n=true:=by cases n<;>rfl
@[simp] theorem XR(n:Nat)(xs:dH):(P.tup xs).pl (n+1)=xs.all (P.pl n):=rfl
@[simp] theorem XS(n:Nat)(xs:dH):(P.lst xs).pl (n+1)=xs.all (P.pl n):=rfl
theorem JM{α:Type}{f:α->P}(h:∀a,(f a).pl n=true)(xs:List α):(xs.map f).all (P.pl n)=true:=by
 rw[all_map,all_eq_true];intro a _;exact h a
@[simp] theorem XT(n:Nat)(xs:By):(xs.map P.int).all (P.pl n)=true:=JM (λa=>Pr n a) xs
@[simp] theorem XU(n:Nat)(xs:At):(xs.map P.str).all (P.pl n)=true:=JM (λa=>Pt n a) xs
mutual
def P.nb:P->Bool
 |.non=>true|.int _=>true|.str _=>true|.tup xs=>P.nbs xs|.lst xs=>P.nbs xs|_=>false
def P.nbs:dH->Bool
 |[]=>true
 |x::r=>x.nb&&P.nbs r
end
mutual
theorem FT:∀{x y:P},x.nb=true->y.nb=true->(AL x y=true↔x=y)
 |.non,y,_,c=>by cases y<;>simp_all [AL,P.nb]
 |.bl _,y,a,_=>by simp[P.nb]at a
 |.int _,y,_,c=>by cases y<;>simp_all [AL,P.nb]
 |.str _,y,_,c=>by cases y<;>simp_all [AL,P.nb]
 |.bag,y,a,_=>by simp[P.nb]at a
 |.tup xs,y,a,c=>by
  cases y with
  |tup ys =>
   rw[P.nb]at a c;rw[show AL (.tup xs) (.tup ys)=BN xs ys by simp only[AL],LY a c];simp
  |_=>simp[AL]
 |.lst xs,y,a,c=>by
  cases y with
  |lst ys =>
   rw[P.nb]at a c;rw[show AL (.lst xs) (.lst ys)=BN xs ys by simp only[AL],LY a c];simp
  |_=>simp[AL]
 |.dT _ _,y,a,_=>by simp[P.nb]at a
 |.fT _ _,y,a,_=>by simp[P.nb]at a
 |.dK _ _,y,a,_=>by simp[P.nb]at a
theorem LY:∀{xs ys:dH},P.nbs xs=true->P.nbs ys=true->(BN xs ys=true↔xs=ys)
 |[],[],_,_=>by simp[BN]
 |[],_::_,_,_=>by simp[BN]
 |_::_,[],_,_=>by simp[BN]
 |x::xs,y::ys,c,a=>by
  rw[P.nbs,cB]at c a;rw[BN,cB,FT c.1 a.1,LY c.2 a.2];simp
end
theorem F9{α:Type}{f:α->P}(h:∀a,(f a).nb=true):∀xs:List α,P.nbs (xs.map f)=true
 |[]=>by simp[P.nbs]
 |x::r=>by rw[map_cons,P.nbs,h x,F9 h r];rfl
def LZ(neg:Bool):R2:=λv u H Q=>∃(b p:Addr) (Z:Addr->Prop) (x:P) (ys:dH) (G:dG),u=.ref p/\(H p\(.lst G)\/H p\(.tup G))/\x.pl 8=true/\ys.all (P.pl 8)=true/\Rp b Z H x v/\AC b Z H ys G/\Q (.bl (if neg=true then !(ys.any λy=>AL y x)else ys.any λy=>AL y x)) H
section
variable{k:Nat}
open Classical in
theorem Pu(Q:Room k X.A){b:Addr}{x:P}{ys:dH}{G:dG}{qG:Do}(I:Inv X qA Y H s)(M:AJ v v')(w:AQ G qG)
  (h1:x.pl 8=true) (h2:ys.all (P.pl 8)=true) (N:Rp b Z H x v) (h:AC b Z H ys G) :
  ∃e:Value->Bool,(∀y,y∈qG.toArray->EqAt X.A.in1 s y v' (e y))/\qG.toArray.any e=ys.any λy=>AL y x:=by
 have ρ:∀j y,qG[j]?\y->∃z u,ys[j]?\z/\z∈ys/\Rp b Z H z u/\AJ u y:=λj y c=>by
  have l1:=h.length;have l2:=w.length;have r:j<qG.length:=by
   rcases cE j qG.length with q|q
   ·exact q
   ·rw[bQ q]at c;cases c
  have B:ys[j]?\(ys[j]'⋯):=by simp[l1,l2,r]
  obtain⟨u,us,E⟩:=h.get B;obtain⟨T,d,D⟩:=w.get us;rw[c]at d;cases d;exact⟨_,u,B,aM B,E,D⟩
 refine⟨λy=>decide (∃z u,z∈ys/\Rp b Z H z u/\AJ u y/\AL z x=true),λy p=>?_,?_⟩
 ·have p:y∈qG:=by simpa using p
  obtain⟨j,c,e⟩:=getElem_of_mem p;obtain⟨z,u,U,o,g,n⟩:=ρ j y (by rw[<-e];simp[c]);have C:=Pl I 8 (A:=X.A.in1) (by rw[HQ];have:=Q.units;lia) (all_eq_true.mp h2 z o) h1 g N n M;have:decide (∃z u,z∈ys/\Rp b Z H z u/\AJ u y/\AL z x=true)=AL z x:=by
   rw[Bool.eq_iff_iff,aW];constructor
   ·rintro⟨L,u',O,f,l,a⟩;cases n.inj l;rw[Pk 8 (all_eq_true.mp h2 z o) (all_eq_true.mp h2 L O) g f];exact a
   ·exactλa=>⟨z,u,o,g,n,a⟩
  show EqAt X.A.in1 s y v' (decide _);rw[this];exact C
 ·rw[Bool.eq_iff_iff,any_toArray,any_eq_true,any_eq_true];constructor
  ·rintro⟨y,_,a⟩;obtain⟨z,u,m,_,_,a⟩:=aL a;exact⟨z,m,a⟩
  ·rintro⟨z,m,a⟩;obtain⟨j,c,e⟩:=getElem_of_mem m;obtain⟨u,us,E⟩:=h.get (i:=j) (x:=z) (by rw[<-e];simp[c]);obtain⟨y,d,D⟩:=w.get us;exact⟨y,aM d,aK ⟨z,u,m,E,D,a⟩⟩
theorem HR(j:Room k X.A):Ay X (compareOp .In) (LZ false):=by
 rintro qA s Y H x y v u Q I f l⟨b,p,Z,px,ys,G,rfl,hp,h1,h2,i,g,q⟩;cases l;rcases hp with hp|hp
 ·obtain⟨qG,w,a⟩:=EO I hp;obtain⟨e,c,d⟩:=Pu j I f w h1 h2 i g;exact in_listAt e a c (by rw[d];exact⟨.bl _,H,I,rfl,q⟩)
 ·obtain⟨qG,w,a⟩:=EN I hp;obtain⟨e,c,d⟩:=Pu j I f w h1 h2 i g;exact in_tupleAt e a c (by rw[d];exact⟨.bl _,H,I,rfl,q⟩)
end
def La(neg:Bool):p2:=λx _ y _ K=>∃ys,y.items\ys/\(x.pl 8=true/\ys.all (P.pl 8)=true)/\K (.bl (if neg=true then !(ys.any λy=>AL y x)else ys.any λy=>AL y x)) .fr
abbrev XV:p2:=La false
theorem XW(a:Bool):BV (LZ a) (La a):=λW J Y Hs H Q K x y f h v u ok st d c j q=>by
 obtain⟨ys,e,⟨h1,h2⟩,l⟩:=j;have g:=RF.items (f:=.an) (W:=W) (J:=J) (Y:=Y) (Hs:=Hs) (c.any ok) e;obtain⟨p,vs,rfl,m,i⟩:=g;exact⟨W.b,p,_,x,ys,vs,rfl,m,h1,h2,d.any ok,i,q _ _ _ H l (Step.refl ok.bag) Dc⟩
theorem HS:BV (LZ false) XV:=XW false
theorem JN(z:Str)(xs:At):((xs.map P.str).any λy=>AL y (.str z))=decide (z∈xs):=by
 induction xs with
 |nil=>rfl
 |cons x r a =>
  rw[map_cons,any_cons,a,show AL (.str x) (.str z)=(x==z) by simp only[AL]];by_cases e:x=z
  ·subst e;simp
  ·have c:¬z=x:=λh=>e h.symm;simp[e,c]
end L2
namespace L2
open PySem PySem.Spec PyProof.Rows
def cut{α:Type}(xs:List α)(lo hi:Option Int):List α:=(xs.drop (HT.dB xs.length 0 lo)).take (HT.dB xs.length xs.length hi - HT.dB xs.length 0 lo)
abbrev pO:=dI->(Option Int->Prop)->Prop
def XX(t:TO)(p:pO):Prop:=∀(W:Wd) (J:dI) (Y:St) (H:Hp) (Q:Option Int->Hp->Prop) (K:Option Int->Prop),Ok W J Y H->p J K->(∀o H',K o->Step W.b W.a H H'->Q o H')->t Y H Q
def QO{ι:Type}(Xs:ι->Cx)(e:Option Expr)(p:pO):Prop:=∃t,(∀i,PO (Xs i) e t)/\XX t p
def Pw:pO:=λ_ K=>K none
def Px(p:pE):pO:=λJ K=>p J λx _=>match x with|.int i=>K (some i)|_=>False
def Py(pe:pE)(pl ph:pO):pE:=λJ K=>pe J λx f=>pl J λlo=>ph J λhi=>match x with
 |.lst xs=>K (.lst (cut xs lo hi)) (BC f (cut xs lo hi))
 |.tup xs=>K (.tup (cut xs lo hi)) f.el
 |.str z=>z.length<=16777216/\K (.str (Txt.slice z lo hi)) .fr
 |_=>False
section
variable{e:Expr}{lo hi:Option Expr}{pl ph:pO}{p2:Pos}
theorem JO:QO Xs none Pw:=⟨_,λ_=>Gf,λW J Y H Q K ok h q=>q none H h (Step.refl ok.bag)⟩
theorem JP(h:QE Xs e pe):QO Xs (some e) (Px pe):=by
 obtain⟨t,h1,h2⟩:=h;refine⟨_,λi=>Gg (h1 i),λW J Y H Q K ok d q=>h2 W J Y H _ _ ok d λx f v H1 k1 a c=>?_⟩;split at k1
 ·exact⟨_,CZ (ok.step a) c,q _ H1 k1 a⟩
 ·exact k1.elim
def Pz(K:Fg):V->Option Int->Option Int->Hp->VK->Prop:=λx lo hi H Q=>(Nu K x lo hi H Q\/OX x lo hi H Q)\/ON x lo hi H Q
theorem XY:DE X (Pz X.K):=DE.or (DE.or IZ V6) OP
theorem AC.cut{b:Addr}{lo hi:Option Int}(h:AC b Z H xs vs):AC b Z H (L2.cut xs lo hi) (DF vs lo hi):=by
 unfold L2.cut DF;rw[h.length];exact(h.drop _).take _
theorem JQ(z:∀i,(Xs i).K=Kf)(y:QE Xs e pe)(g:QO Xs lo pl)(w:QO Xs hi ph):QE Xs (.Subscript e (.Slice lo hi none p2) pos) (Py pe pl ph):=by
 obtain⟨te,B,A⟩:=y;obtain⟨tl,l1,l2⟩:=g;obtain⟨th,h1,h2⟩:=w;refine⟨Nm (Pz Kf) te tl th,λi=>Gh (by rw[<-z i];exact XY) (B i) (l1 i) (h1 i),λW J Y H Q K ok u q=>A W J Y H _ _ ok u λx f v H1 k1 h s=>l2 W J Y H1 _ _ (ok.step h) k1 λo H2 k2 j=>h2 W J Y H2 _ _ ((ok.step h).step j) k2 λo' C k3 r=>?_⟩;have a:=(h.trans j).trans r;have d:=ok.step a;have m:=s.step (ok.step h) (j.trans r);split at k3
 ·obtain⟨p,G,rfl,c,rv⟩:=Ca d m;exact .inl (.inl ⟨p,G,rfl,.of c,λl g=>q _ _ _ _ k3 (a.trans (Step.new a.bag g)) (RF.newL d a rv.cut g)⟩)
 ·obtain⟨p,G,rfl,c,rv⟩:=Cb d m;refine .inl (.inr ⟨p,G,rfl,c,λn=>q _ _ _ _ k3 a ?_,λn l g=>q _ _ _ _ k3 (a.trans (Step.new a.bag g)) ?_⟩)
  ·rename_i xs0;have e:L2.cut xs0 o o'=xs0:=by
    unfold L2.cut;rw[rv.length,n.1,n.2,drop_zero,Nat.sub_zero,<-rv.length,take_length]
   rw[e];exact RF.ofEl (f:=f) ⟨p,G,rfl,c,rv⟩
  ·exact RF.ofEl (f:=f) ⟨l,_,rfl,AX,(rv.cut).step (Step.new a.bag g) a.bag⟩
 ·cases FN d m;exact .inr ⟨_,rfl,k3.1,q _ _ _ _ k3.2 a O3⟩
 ·exact k3.elim
end
section
variable{x x':P}{k:Nat}{p:Addr}
theorem FU(ok:Ok W J Y H)(h:AZ J Y p)(c:f=.cl\/f=.fr):(∀q u,¬AG W J Y f q->H q\u->¬AG W J Y f q/\AD H p o q\u)/\∀q G,H q\(.tup G)->AD H p o q\(.tup G):=by
 obtain⟨_,_,_,_,o',q1,q2⟩:=ok.ow (.inr h);refine⟨λq u a e=>⟨a,?_⟩,λq G e=>?_⟩
 ·rw[AI (λz=>a (by subst z;rcases c with rfl|rfl<;>simp[AG,Ow,h]))];exact e
 ·rw[AI (λz=>by subst z;rw[e]at q1;cases q1;exact q2 G rfl)];exact e
theorem Ok.mut(ok:Ok W J Y H)(A:J[k]?\(.own x))(E:Y[k]?\(some (.ref p)))(no:∀ys,o≠.tup ys)(us:Rc W.b (Zf W J Y) (AD H p o) x' p):Ok W (J.set k (.own x')) Y (AD H p o):=by
 have d:AZ J Y p:=⟨k,x,A,E⟩;obtain⟨Q,O,M,N,o',q1,q2⟩:=ok.ow (.inr d);have L:k<J.length:=by
  rcases cE k J.length with q|q
  ·exact q
  ·rw[bQ q]at A;cases A
 have get:∀(i:Nat) (y:P),(J.set k (S.own x'))[i]?\(S.own y)->∃z,J[i]?\(S.own z):=λi y e=>by
  by_cases hi:k=i
  ·subst hi;exact⟨x,A⟩
  ·rw[bV hi]at e;exact⟨y,e⟩
 have D:∀q,AZ (J.set k (.own x')) Y q↔AZ J Y q:=λq=>by
  constructor
  ·rintro⟨i,y,h1,h2⟩;obtain⟨z,e⟩:=get i y h1;exact⟨i,z,e,h2⟩
  ·rintro⟨i,y,h1,h2⟩;by_cases hi:k=i
   ·subst hi;exact⟨k,x',bY L,h2⟩
   ·exact⟨i,y,by rw[bV hi];exact h1,h2⟩
 have T:∀f q,AG W (J.set k (.own x')) Y f q↔AG W J Y f q:=λf q=>by
  have:Ow W (J.set k (.own x')) Y q↔Ow W J Y q:=or_congr Iff.rfl (D q);cases f<;>simp only[AG,this]
 have C:∀f,AG W (J.set k (.own x')) Y f=AG W J Y f:=λf=>funext λq=>propext (T f q);refine⟨ok.bag.put M N,ok.fb,λq u I e=>?_,λq u e=>?_,λq I=>?_,by rw[length_set];exact ok.len,λi s e=>?_,λi j y z h1 h2 ρ=>?_⟩
 ·rw[AI (λz=>by subst z;rw[Q]at e;cases e)];exact ok.old q u I e
 ·rw[AI (λz=>by subst z;rw[O]at e;cases e)];exact ok.frm q u e
 ·obtain⟨h1,h2,ρ,h4,u,h5,h6⟩:=ok.oo q I;refine⟨h1,h2,ρ,h4,?_⟩;by_cases w:q=p
  ·subst w;exact⟨o,AX,no⟩
  ·exact⟨u,by rw[AI w];exact h5,h6⟩
 ·by_cases hi:k=i
  ·subst hi;rw[bY L]at e;cases e;exact⟨_,E,p,rfl,Q,O,M,N,by rw[show Zf W (J.set k (.own x')) Y=Zf W J Y from C .fr];exact us⟩
  ·rw[bV hi]at e;obtain⟨u,h1,h2⟩:=ok.slot i s e;refine⟨u,h1,?_⟩;cases s with
   |emp=>trivial
   |sh y =>
    obtain⟨v,g,m⟩:=h2;have a:=FU (o:=o) ok d (.inl rfl);exact⟨v,g,by rw[show Zc W (J.set k (.own x')) Y=Zc W J Y from C .cl];exact m.keep a.1 a.2⟩
   |fr y =>
    obtain⟨v,g,m⟩:=h2;have a:=FU (o:=o) ok d (.inr rfl);exact⟨v,g,by rw[show Zf W (J.set k (.own x')) Y=Zf W J Y from C .fr];exact m.keep a.1 a.2⟩
   |own y =>
    obtain⟨r,g,m,e3,e4,e5,B⟩:=h2;have a:=FU (o:=o) ok d (f:=.fr) (.inr rfl);have c:r≠p:=λz=>by
     subst z;exact hi (ok.uniq k i x y A e (by rw[E,h1,g]))
    refine⟨r,g,m,e3,e4,e5,?_⟩;rw[show Zf W (J.set k (.own x')) Y=Zf W J Y from C .fr];cases y with
    |lst xs=>obtain⟨vs,l,h⟩:=B;exact⟨vs,by rw[AI c];exact l,h.keep a.1 a.2⟩
    |dT ks xs=>obtain⟨vs,l,n,h⟩:=B;exact⟨vs,by rw[AI c];exact l,n,h.keep a.1 a.2⟩
    |fT ks xs=>obtain⟨vs,l,n,h⟩:=B;exact⟨vs,l.map λ_ e=>by rw[AI c];exact e,n,h.keep a.1 a.2⟩
    |dK ks xs=>obtain⟨vs,l,n,h⟩:=B;exact⟨vs,by rw[AI c];exact l,n,h.keep a.1 a.2⟩
    |_=>exact B.elim
 ·obtain⟨σ,g⟩:=get i y h1;obtain⟨U,m⟩:=get j z h2;exact ok.uniq i j σ U g m ρ
theorem Ok.ownL(ok:Ok W J Y H)(a:J[k]?\(.own (.lst xs))):∃p vs,Y[k]?\(some (.ref p))/\H p\(.lst vs)/\AC W.b (Zf W J Y) H xs vs/\AZ J Y p:=by
 obtain⟨o,h1,p,h2,_,_,_,_,vs,d,c⟩:=ok.slot k _ a;subst h2;exact⟨p,vs,h1,d,c,k,_,a,h1⟩
theorem Ok.mutL{ys:dH}{vs G:dG}(ok:Ok W J Y H)(d:J[k]?\(.own (.lst xs)))(c:Y[k]?\(some (.ref p)))(e:AC W.b (Zf W J Y) H ys G):Ok W (J.set k (.own (.lst ys))) Y (AD H p (.lst G)):=by
 have a:=FU (o:=HO.lst G) ok ⟨k,_,d,c⟩ (f:=.fr) (.inr rfl);exact ok.mut d c '6' ⟨G,AX,e.keep a.1 a.2⟩
end
def HU(k:Nat)(pe:pE):pS:=λE J=>match J[k]? with
 |some (.own (.lst xs))=>pe J λy f=>As y f=.nw/\xs.length<16777216/\E.nx (J.set k (.own (.lst (xs++[y]))))
 |_=>False
def JR(k j:Nat)(pi:pE):pS:=λE J=>match J[k]?,J[j]? with
 |some (.own (.lst xs)),some (.own (.lst ys))=>pi J λi _=>∃(m:Nat) (z:P),i=.int (m:Int)/\m<2 ^ 62/\ys[m]?\z/\xs.length<16777216/\k≠j/\E.nx ((J.set j (.own (.lst (ys.eraseIdx m)))).set k (.own (.lst (xs++[z]))))
 |_,_=>False
def frzS(k:Nat)(J:dI):dI:=match J[k]? with
 |some (.own x)=>J.set k (.fr x)
 |_=>J
def P0(k:Nat)(p:pS):pS:=λE J=>p E (frzS k J)
theorem Lb(ok:Ok W J Y H)(r:RF W J Y Hs f H y v)(h:As y f=.nw):Rp W.b (Zf W J Y) H y v:=by
 have:=(LA ok r).2.2;rw[h]at this;exact this
section
variable{a b:Expr}{p1:Pos}{k:Nat}{t u:TE}
theorem Ok.stepL{k:Nat}{p:Addr}(ok:Ok W J Y H)(st:Step W.b W.a H H')(g:Y[k]?\(some (.ref p)))(e:H p\(.lst vs))(c:AC W.b (Zf W J Y) H xs vs)(d:AZ J Y p):H' p\(.lst vs)/\AC W.b (Zf W J Y) H' xs vs :=
 ⟨st.same p _ (ok.ow (.inr d)).2.2.1 e,c.step (f:=.fr) st ok.bag⟩
theorem XZ(h2:BL t pa):FO (IM (Fk Kf "list" Gi (CV k) (Bx t CD))) (HU k pa):=λW J Y H D E ok c r=>by
 unfold HU at c;split at c
 ·rename_i xs e;obtain⟨p,vs,d,l,j,n⟩:=ok.ownL e;refine⟨.ref p,d,.inl ⟨rfl,vs,.of l⟩,h2 W J Y H _ _ ok c λy f v H1 zz i m=>?_⟩;obtain⟨k1,k2,k3⟩:=zz;have a:=ok.step i;obtain⟨h,g⟩:=ok.stepL i d l j n;refine⟨p,vs,v,rfl,rfl,h,by rw[<-j.length];exact k2,r.nx _ _ _ k3 (a.mutL (vs:=vs) e d (g.snoc (Lb a m k1)))⟩
 ·exact c.elim
theorem FV(n:∀i,(Xs i).K=Kf)(l:QE Xs a pa)(m:∀i,(Xs i).N[k]?\x:=by rfl)(e:∀i,Cw (Xs i).env.scope x:=by intro _;trivial)(h:No x:=by decide)(d:N_ x:=by decide)
  (g:(qK.endLine==qJ.line)=true:=by rfl) (f:∀i,swapsWith (.Call (.Attribute (.Name x p1) "append" qK) [a] [] qJ) none pos.line (Xs i).env=pure false:=by rfl)
  (j:∀i,attributeBase (.Name x p1) "append" (Xs i).env (eval (.Name x p1) (Xs i).env)=eval (.Name x p1) (Xs i).env:=by rfl)
  (c:∀i,starEach [a] (Xs i).env=[(false,eval a (Xs i).env)]:=by rfl):QS Xs (.Expr (.Call (.Attribute (.Name x p1) "append" qK) [a] [] qJ) pos) (HU k pa):=by
 obtain⟨t,h1,h2⟩:=l;refine⟨_,λi=>?_,XZ (Kf:=Kf) h2⟩;rw[<-n i];exact IN (Fm PySem.F.plainAttrs_list PySem.F.slot_list_append PySem.F.type_list_append Fo (Ds (m i) (e i) h d) (Ag (h1 i) Az (c i)) (j i) (by rw[c i];rfl) g (c i) rfl) (f i)
theorem Ok.frzS(A:∀p,¬W.O p)(ok:Ok W J Y H):Ok W (frzS k J) Y H:=by
 unfold L2.frzS;split
 ·rename_i x e;obtain⟨o,h1,p,h2,C,E,B,D,g⟩:=ok.slot k _ e;subst h2;have r:k<J.length:=by
   rcases cE k J.length with q|q
   ·exact q
   ·rw[bQ q]at e;cases e
  have u:k<Y.length:=by rw[ok.len];exact r
  have h:Y.set k (some (.ref p))=Y:=by
   apply ext_getElem?;intro i;by_cases hi:k=i
   ·subst hi;rw[bY u,h1]
   ·rw[bV hi]
  have hn:=F0 (J:=J) (Y:=Y) (k:=k) (v:=.ref p) (s:=.fr x) '6';have key:=ok.put (v:=.ref p) (s:=.fr x) (Step.refl ok.bag) r (λq z=>.inl (hn q z)) ?_ (λy z=>nomatch z)
  ·rw[h]at key;exact key
  ·refine⟨.ref p,rfl,?_⟩;rw[h]at hn ⊢;have l:∀q o,¬Zf W J Y q->H q\o->¬Zf W (J.set k (.fr x)) Y q/\H q\o:=Ix (f:=.fr) (Step.refl ok.bag) (λq z=>.inl (hn q z));have j:¬Zf W (J.set k (.fr x)) Y p:=by
    intro z;simp only[AG]at z;rcases z with z|(z|z)|z
    ·exact B z
    ·-- n m: w same cell
     exact A p z
    ·obtain⟨i,y,q1,q2⟩:=z;by_cases hi:k=i
     ·subst hi;rw[bY r]at q1;cases q1
     ·rw[bV hi]at q1;exact hi (ok.uniq k i x y e q1 (by rw[h1,q2]))
    ·exact z C
   cases x with
   |lst xs=>obtain⟨vs,c,a⟩:=g;exact⟨p,vs,rfl,j,c,a.keep l λq G e=>e⟩
   |dT ks xs=>obtain⟨vs,c,d,a⟩:=g;exact⟨p,vs,rfl,j,c,d,a.keep l λq G e=>e⟩
   |fT ks xs=>obtain⟨vs,c,d,a⟩:=g;exact⟨p,vs,rfl,j,c,d,a.keep l λq G e=>e⟩
   |dK ks xs=>obtain⟨vs,c,d,a⟩:=g;exact⟨p,vs,rfl,j,c,d,a.keep l λq G e=>e⟩
   |_=>exact g.elim
 ·exact ok
theorem FW{p:pS}(k:Nat)(h:QS Xs st p):QS Xs st (P0 k p):=by
 obtain⟨t,h1,h2⟩:=h;exact⟨t,h1,λW J Y H D E ok a r=>h2 W _ Y H D E (ok.frzS r.noO) a r⟩
def Lc(g:Int->Int->Int)(k:Nat)(pe:pE):pS:=λE J=>match J[k]? with
 |some (.sh (.int o))=>pe J λy _=>∃d,y=.int d/\E.nx (J.set k (.sh (.int (g o d))))
 |_=>False
theorem Xa{op:Operator}{g:Int->Int->Int}{p3:Pos}(j:∀i,IP (Xs i) op (NK g))(l:∀i,(Xs i).N.Nodup)(u:QE Xs a pa)(hi:∀i,(Xs i).N[k]?\x:=by rfl)(q:∀i,CU (Xs i).env.scope x:=by intro _;trivial)
  (s:∀i,(Xs i).fn x=true\/(Xs i).env.scope.names.lookup x\.local:=by intro _;trivial):QS Xs (.AugAssign (.Name x p3) op a pos) (Lc g k pa):=by
 obtain⟨t,h1,h2⟩:=u;refine⟨_,λi=>US (l i) (hi i) (q i) (h1 i) (j i) (s i),λW J Y H D E ok c r=>?_⟩;unfold Lc at c;split at c
 ·rename_i o e;obtain⟨w,C,n,B,A⟩:=ok.slot k _ e;subst B;cases(show n=.int o from A);refine⟨.int o,C,h2 W J Y H _ _ ok c λy f v H1 zz m p=>?_⟩;obtain⟨d,k1,k2⟩:=zz;subst k1;cases CZ (ok.step m) p;obtain⟨ρ',z,h⟩:=Ok.set (K:=λρ'=>ρ'=J.set k (.sh (.int (g o d)))) (k:=k) ok m (EI (k:=g o d)) (by simp[A0]);subst z;exact⟨o,d,rfl,rfl,r.nx _ _ _ k2 h⟩
 ·exact c.elim
theorem Xb{m:Nat}(h:m<n):seqIndex? (m:Int) n\m:=by
 rw[seqIndex_of ⋯ ⋯];simp
theorem Xc(h1:BL t pa):FO (IM (Fk Kf "list" Gi (CV k) (Bx (Fk Kf "list" N1 (CV j) (Bx t CD)) CD))) (JR k j pa):=λW J Y H D E ok us r=>by
 unfold JR at us;split at us
 ·rename_i xs ys e I;obtain⟨p,vs,n,σ,U,ho⟩:=ok.ownL e;obtain⟨q,G,a,C,u,x⟩:=ok.ownL I;refine⟨.ref p,n,.inl ⟨rfl,vs,.of σ⟩,.ref q,a,.inl ⟨rfl,G,.of C⟩,h1 W J Y H _ _ ok us λy f v H1 zz ρ r1=>?_⟩;obtain⟨m,z,k0,k1,k2,k3,T,k5⟩:=zz;subst k0;have d:=ok.step ρ;cases CZ d r1;obtain⟨B,a3⟩:=ok.stepL ρ n σ U ho;obtain⟨N,s⟩:=ok.stepL ρ a C u x;have l:=U.length;have l':=u.length;obtain⟨w,O,e4⟩:=s.get k2;have hm:m<G.length:=by
   rcases cE m G.length with qq|qq
   ·exact qq
   ·rw[bQ qq]at O;cases O
  have g:p≠q:=λzz=>by
   subst zz;exact T (ok.uniq k j _ _ e I (by rw[n,a]))
  refine⟨q,G,m,m,w,rfl,rfl,N,⋯,⋯,Xb hm,O,?_⟩;have c:=d.mutL (vs:=G) I a (s.erase m);have eA:(J.set j (.own (.lst (ys.eraseIdx m))))[k]?\(.own (.lst xs)):=by rw[bV (Ne.symm T)];exact e
  obtain⟨p',a0,h,A,M,a4⟩:=c.ownL eA;rw[n]at h;cases h;rw[AI g,B]at A;cases A;refine⟨p,vs,w,rfl,rfl,by rw[AI g];exact B,by rw[<-l];exact k3,r.nx _ _ _ k5 ?_⟩;refine c.mutL (vs:=vs) eA n (M.snoc ?_);have Q:=FU (o:=HO.lst (G.eraseIdx m)) d x (f:=.fr) (.inr rfl);have L:∀q',AZ (J.set j (.own (.lst (ys.eraseIdx m)))) Y q'->AZ J Y q':=λq' ⟨i,y,a1,a2⟩=>by
   by_cases hi:j=i
   ·subst hi;exact⟨j,_,I,a2⟩
   ·rw[bV hi]at a1;exact⟨i,y,a1,a2⟩
  have z5:=e4.keep Q.1 Q.2;exact z5.keep (Ix (f:=.fr) (Step.refl c.bag) (λq' z=>.inl (L q' z))) λ_ _ e=>e
 ·exact us.elim
theorem Xd{x':Str}{p2 e d:Pos}(z:∀i,(Xs i).K=Kf)(w:QE Xs a pa)(y:∀i,(Xs i).N[k]?\x:=by rfl)(q:∀i,Cw (Xs i).env.scope x:=by intro _;trivial)(u:No x:=by decide)(n:N_ x:=by decide)
  (p:∀i,(Xs i).N[j]?\x':=by rfl) (h:∀i,Cw (Xs i).env.scope x':=by intro _;trivial) (m:(x'==("__debug__":Str))=false:=by decide) (g:(x'==("__classdict__":Str))=false:=by decide)
  (s:(qK.endLine==qJ.line)=true:=by rfl) (l:(e.endLine==d.line)=true:=by rfl) (r:∀i,swapsWith (.Call (.Attribute (.Name x p1) "append" qK) [.Call (.Attribute (.Name x' p2) "pop" e) [a] [] d] [] qJ) none pos.line (Xs i).env=pure false:=by rfl)
  (v:∀i,attributeBase (.Name x p1) "append" (Xs i).env (eval (.Name x p1) (Xs i).env)=eval (.Name x p1) (Xs i).env:=by rfl) (o:∀i,attributeBase (.Name x' p2) "pop" (Xs i).env (eval (.Name x' p2) (Xs i).env)=eval (.Name x' p2) (Xs i).env:=by rfl)
  (f:∀i,starEach [a] (Xs i).env=[(false,eval a (Xs i).env)]:=by rfl)
  (c:∀i,starEach [.Call (.Attribute (.Name x' p2) "pop" e) [a] [] d] (Xs i).env=[(false,eval (.Call (.Attribute (.Name x' p2) "pop" e) [a] [] d) (Xs i).env)]:=by rfl) :
  QS Xs (.Expr (.Call (.Attribute (.Name x p1) "append" qK) [.Call (.Attribute (.Name x' p2) "pop" e) [a] [] d] [] qJ) pos) (JR k j pa):=by
 obtain⟨t,h1,h2⟩:=w;refine⟨_,λi=>?_,Xc (Kf:=Kf) h2⟩;rw[<-z i];exact IN (Fm PySem.F.plainAttrs_list PySem.F.slot_list_append PySem.F.type_list_append Fo (Ds (y i) (q i) u n) (Ag (Fm PySem.F.plainAttrs_list PySem.F.slot_list_pop PySem.F.type_list_pop VP (Ds (p i) (h i) m g) (Ag (h1 i) Az (f i)) (o i) (by rw[f i];rfl) l (f i) rfl) Az (c i)) (v i) (by rw[c i];rfl) s (c i) rfl) (r i)
end
end L2
namespace L2
open PySem PySem.Spec PyProof.Rows PySem.W
theorem Inv.laidF(I:Inv X qA Y H s)(hm:s.heap.Ns X.env.locals m)(d:h'.Ns X.env.locals m)(k:∀b u,b≠X.env.locals->'F' b\u->h'.get? b\u)(f:H D=none)(h:∀u,'F' D≠some u)
  (new:A3 X.prog X.w (AD H D o) h' D o):Inv X qA Y (AD H D o) { s with heap:=h',toks:=t' }:=by
 refine I.step (g':=s.gens) (d':=s.drawn) (ch:=[]) (λb a=>nomatch a) (λb u n1 _ _ e _=>k b u n1 e) (λb u n1 _ _ e _=>⟨u.slots,k b u n1 e⟩) (λb u _ e n=>?_) (λb u _ e=>?_) (λb xs e=>?_) (λb u v e=>?_) (λb ps e=>⟨#[],?_⟩) (λl h2=>?_) ?_ I.bare
 ·rw[AI (λz=>by subst z;exact h u e)];exact n
 ·by_cases a:b=X.env.locals
  ·subst a;obtain⟨o',_,_,j,_⟩:=d;exact⟨o',j⟩
  ·exact⟨u,k b u a e⟩
 ·rw[AI (Ao e f)];exact e
 ·rw[AI (Ao e f)];exact e
 ·rw[AI (Ao e f)];simpa using e
 ·rw[h2.eq_nsMap,<-hm.eq_nsMap];exact d
 ·intro b u e;by_cases a:b=D
  ·subst a;rw[AX]at e;cases e;exact new
  ·rw[AI a]at e;have g:∀c v,H c\v->c≠X.env.locals:=λc v q z=>by subst z;rw[I.free]at q;cases q
   refine(I.hok b u e).stay (λc v i q=>k c v ?_ q) (λc q=>?_) λc xs q=>?_
   ·rcases i with z|z
    ·rw[z];exact g b u e
    ·exact g c _ z
   ·rw[AI (Ao q f)];exact q
   ·rw[AI (Ao q f)];exact q
theorem P1{F:PySem.Fin->Shared->Prop}(f:'F' a\(seqObj "list" G.toArray n))(h2:G.length<2)(h:F (.done (.ret .none)) { s with heap:=sortedHeap s.heap a G G.toArray }) :
  'C' (Builtin.«list.sort» ⟨[.ref a],[]⟩) F E s:=by
 have i:=bN f;rw[list_sort_plain];refine wB (listItems_at f rfl (wB (listUpdate_at f rfl ?_)));have d:=get?_update_seq f (λ_=>#[]);refine wB (seqEpoch_at d rfl (wB (wpAny_newTuple (wB (wpAny_newList (bM ?_))))));have c:(((s.heap.update a (Obj.mapSeq λ_=>#[])).push (seqObj "tuple" G.toArray 0)).push (seqObj "list" #[] 0)).get? a=_ :=
  (Heap.get?_push_ne _ a _ (by rw[size_push',Heap.size_update];exact bX (Nat.lt_succ_of_lt i))).trans ((Heap.get?_push_ne _ a _ (by rw[Heap.size_update];exact bX i)).trans d)
 have g:G.toArray.size<2:=by rw[size_toArray];exact h2
 dsimp only;rw[aC g,aC g];refine wB (wP ?_);rw[StateT.run_pure];refine wB (wP (wB (seqEpoch_at c rfl (wB (listUpdate_at c rfl ?_ (hsz2:=?_))))))
 ·simp only[bne_self_eq_false,Bool.false_eq_true,if_false];have e:(arrOf (SortSt.mk' general' (G.toArray.zip G.toArray) #[] 7 none)).map (·.2)=G.toArray:=by
   show((G.toArray.zip G.toArray).map (·.2))=G.toArray;apply Array.ext';simp[map_snd_zip]
  rw[<-e]at h;exact wP h
 ·rw[Array.size_map];show(G.toArray.zip G.toArray).size<=_;rw[Array.size_zip,cT];lia
theorem Xe{l:Addr}(d:s.heap.IsList l G.toArray)(h2:G.length<2)(q:Q (.ref ('H'+1)) { s with heap:=sortedAll s.heap G G.toArray }) :
  'C' (call (.builtin "sorted") [.ref l]) Q E s:=by
 refine Calls.call_function_entry kind_sorted plain_sorted entry_sorted (args_sorted1 _) ?_;unfold Builtin.«sorted»;refine wB (m:=checkCount "sorted" 1 1 _) (wP (wB (collect_list d (wB (wpAny_newList ?_ (by rw[cT];lia))) (by rw[cT];lia))));have c:((s.heap.push (seqObj "list" #[] 0)).update 'H' (Obj.mapSeq (·++G.toArray))).objs.size='H'+1:=by
  rw[Heap.size_update,size_push']
 have a:=bP ((s.heap.push (seqObj "list" #[] 0)).update 'H' (Obj.mapSeq (·++G.toArray))) (o:=seqObj "list" G.toArray 0) rfl;rw[c]at a;show wpAny _ _ _ _ _ { s with heap:=((s.heap.push (seqObj "list" #[] 0)).update 'H' (Obj.mapSeq (·++G.toArray))).push (seqObj "list" G.toArray 0) };rw[c];exact wB (bM (cP slot_list_sort ⟨_,a,rfl⟩ entry_list_sort (P1 a h2 ⟨_,rfl,wP ⟨_,rfl,q⟩⟩) (args_list_sort _)))
abbrev DL(ps:List (Addr×By)):dG:=ps.map λq=>V.ref q.1
def B6(rs:List By):Prop:=rs.Pairwise λa b=>HT.lexLt b a=false
def P2:dG->Hp->VK->Prop:=λxs H Q=>∃(p:Addr) (ps:List (Addr×By)),xs=[.ref p]/\H p\(.lst (DL ps))/\(∀q∈ps,H q.1\(.tup (q.2.map V.int)))/\ps.length<64/\(ps.length<2\/∃n,0<n/\∀q∈ps,q.2.length=n) /\
 ∀(l:Addr) (ps':List (Addr×By)),H l=none->ps'.Perm ps->B6 (ps'.map (·.2))->Q (.ref l) (AD H l (.lst (DL ps')))
theorem P3:∀{ps:List (Addr×By)} {G:Do},AQ (DL ps) G->G=ps.map λq=>Value.ref q.1
 |[],_,.nil=>rfl
 |q::r,_,.cons e t=>by rw[P3 t,show _=Value.ref q.1 from e];rfl
theorem HV:∀(ps:List (Addr×By)),AQ (DL ps) (ps.map λq=>Value.ref q.1)
 |[]=>.nil
 |q::r=>.cons rfl (HV r)
theorem P4(M:Model)(h:Heap)(i:Int)(t:Tok):Looks M h (typeOf (.int i t)) (.type "int"):=λA Q E s _ q=>wP q
theorem A3.there(x:A3 P' w H h a o):∃u,h.get? a\u:=by
 cases o with
 |lst xs=>obtain⟨_,_,_,_,e⟩:=x;exact⟨_,e⟩
 |tup xs=>obtain⟨_,_,_,u,e,_⟩:=x;exact⟨u,e⟩
 |dK qH=>obtain⟨_,_,_,_,u,_,_,e,_⟩:=x;exact⟨u,e⟩
 |dT qH=>obtain⟨_,_,_,_,u,_,_,e,_⟩:=x;exact⟨u,e⟩
 |set S n=>obtain⟨u,_,_,_,e,_⟩:=x;exact⟨u,e⟩
 |ins C dx fs=>obtain⟨_,_,_,e,_⟩:=x;exact⟨_,e⟩
 |own y=>exact x
 |xd fs=>obtain⟨_,⟨u,_,_,e,_⟩,_⟩:=x;exact⟨u,e⟩
 |met f y=>exact⟨_,x⟩
 |rng lo hi=>obtain⟨_,_,_,e⟩:=x;exact⟨_,e⟩
 |frz u v=>exact⟨_,x.1⟩
 |tbl ps=>exact⟨_,x⟩
 |ext φ=>exact x.2.1
theorem Ld{h:Heap}:∀{ps:List (Addr×By)},(∀q∈ps,∃G,IntsAre G q.2/\∃o n,h.get? q.1\o/\o.cls=.type "tuple"/\o.data=.seq G.toArray n)->(∀q∈ps,0<q.2.length) ->
  ∃fs,KatTups h (ps.map λq=>Value.ref q.1) fs/\fs.length=ps.length/\∀v∈fs,∃i t,v=Value.int i t
 |[],_,_=>⟨[],.nil,rfl,λv f=>nomatch f⟩
 |q::r,h1,h2=>by
  obtain⟨fs,a,b,c⟩:=Ld (ps:=r) (λq e=>h1 q (bT _ e)) λq e=>h2 q (bT _ e);obtain⟨G,i1,o,n,m,l,d⟩:=h1 q cA;have j:=h2 q cA;generalize q.2=p at i1 j;have g:=i1.length
  match G,i1,d with
  |v::G,i1,d =>
   obtain⟨i,t,ev⟩:∃i t,v=Value.int i t:=by cases i1 with|cons i t _=>exact⟨i,t,rfl⟩
   refine⟨v::fs,.cons m l d '2' a,by simp[b],λx hx=>?_⟩;rcases aF.mp hx with rfl|hx
   ·exact⟨i,t,ev⟩
   ·exact c x hx
  |[],i1,d=>exfalso;simp at g;lia
theorem P5(hc:X.calm=true):BK X (.builtin "sorted") P2:=by
 rintro qA s Y H xs G Q I r⟨p,ps,rfl,hp,ht,a5,M,k⟩;obtain⟨u,rfl,ru⟩:=r.one;cases ru;obtain⟨qG,r,pl,hz⟩:=I.list (.of hp);have U:=P3 r;subst U;by_cases h2:ps.length<2
 ·refine Xe pl.isList (~~~h2) ?_;obtain⟨e,he⟩:=sortedAll_at s.heap (ps.map λq=>Value.ref q.1) (ps.map λq=>Value.ref q.1).toArray;refine⟨.ref ('H'+1),_,I.laid (t':=s.toks) (o:=.lst (DL ps)) (λb o q=>sortedAll_old q) (cR _) ⟨?_,_,e,HV ps,he⟩,rfl,k _ ps (I.hok.fresh (cR _)) (List.Perm.refl _) ?_⟩
  ·rw[aA];exact aY (C0 ⋯)
  ·match ps,h2 with
   |[],_=>exact List.Pairwise.nil
   |[_],_=>exact pairwise_singleton _ _
 ·obtain⟨n,n0,M⟩:=M.resolve_left h2;obtain⟨m,hm,_⟩:=I.loc;have w:(ps.map λq=>Value.ref q.1).length=ps.length:='2'
  refine kat_sorted (Att.fr_all hm) (NE (g:=Att.noObjs s.heap) (L:=X.env.locals)) pl.isList ⋯ ⋯ λD e1 h' F' N' hD=>?_;have y:∀b o,b≠X.env.locals->'F' b\o->h'.get? b\o:=λb o nb e=>N'.get (bT _ (Ea nb (Att.noObjs_get _ _) e));have nL:∀b o,H b\o->b≠X.env.locals:=λb o e z=>by subst z;rw[I.free]at e;cases e
  have d:∀q∈ps,∃G,IntsAre G q.2/\∃o n,h'.get? q.1\o/\o.cls=.type "tuple"/\o.data=.seq G.toArray n:=λq B=>by
   obtain⟨G,w1,tt,_⟩:=I.tuple (.of (ht q B));obtain⟨o,e1,e2,n',e3⟩:=tt;exact⟨G,Gd w1,o,n',y _ _ (nL _ _ (ht q B)) e1,e2,e3⟩
  obtain⟨fs,kt,fl,fi⟩:=Ld d (λq B=>by rw[M q B];exact n0);refine kat_kind (T:=.type "int") kt ⋯ (λv hv=>?_) rfl ?_
  ·obtain⟨i,t,rfl⟩:=fi v hv;exact P4 _ _ i t
  ·have A:∀i (hi:i<ps.length),(ps.map λq=>Value.ref q.1).getD i Value.none=.ref ps[i].1:=λi hi=>by
    rw[bW,bO,aH hi];rfl
   refine K5 (lt:=BD (O:=En) λi=>((ps[i]?).map (·.2)).getD []) (n:=ps.length) (λi j C hi E q=>?_) _ (by rw[w];exact Oj ⋯) ?_
   ·unfold kas_ask;rw[A i hi,A j E];obtain⟨G,a1,o1,n1,b1,c1,d1⟩:=d ps[i] (getElem_mem hi);obtain⟨vs,a2,o2,n2,b2,c2,d2⟩:=d ps[j] (getElem_mem E);have l1:=a1.length;have l2:=a2.length;have l3:=M ps[i] (getElem_mem hi);have l4:=M ps[j] (getElem_mem E);refine kat_lt b1 d1 b2 d2 ?_;rw[show decide (G.toArray.size<vs.toArray.size)=false by rw[size_toArray,size_toArray];exact cJ ⋯];refine Om 0 a1 a2 ⋯ ?_;simp only[BD,aH hi,aH E,Option.map_some,Option.getD_some]at q;exact q
   ·obtain⟨pp,ρ⟩:=Oc (O:=En) (key:=λi=>((ps[i]?).map (·.2)).getD []) (n:=ps.length) ⋯ _ rfl;rw[w];generalize ev (BD (O:=En) λi=>((ps[i]?).map (·.2)).getD []) (kas_sort ps.length)=pr at pp ρ;refine KasFin.intro (g:=λo=>(D,o)::D9 (Att.noObjs s.heap) s.heap X.env.locals) F' N' (.head λq B=>bX (hD q B)) λh2 c F2 N2=>?_;have nD:∀u,'F' D≠some u:=λu e=>aX _ (hD (D,u) (Ea (N' _ cA).2.1 (Att.noObjs_get _ _) e));have σ:H D=none:=by
     cases e:H D with
     |none=>rfl
     |some o=>obtain⟨u,e2⟩:=(I.hok D o e).there;exact bS e2 (nD u)
    have x:pr.toList.Perm (List.range ps.length):=by simpa using Array.perm_iff_toList_perm.mp pp
    have l:∀i∈pr.toList,i<ps.length:=λi hi=>bH.mp (x.mem_iff.mp hi);have us:Addr×By:=(0,[]);have eo:(pr.toList.map λi=>(ps.map λq=>Value.ref q.1).getD i Value.none)=((pr.toList.map λi=>ps.getD i us).map λq=>Value.ref q.1):=by
     rw[bZ];refine cF λi hi=>?_;have hi:=l i hi;rw[A i hi,Function.comp,bW,aH hi];rfl
    have f:(pr.toList.map λi=>ps.getD i us).Perm ps:=by
     have e1:((List.range ps.length).map λi=>ps.getD i us)=ps:=by
      apply ext_getElem?;intro i;rw[bO];by_cases hi:i<ps.length
      ·rw[getElem?_range hi,aH hi,Option.map_some,bW,aH hi];rfl
      ·rw[bQ (by rw[bG];lia),bQ ⋯];rfl
     have:=x.map λi=>ps.getD i us;rw[e1]at this;exact this
    refine⟨.ref D,_,I.laidF (t':=s.toks) (o:=.lst (DL (pr.toList.map λi=>ps.getD i us))) hm F2.ns (λb u nb e=>N2.get (bT _ (Ea nb (Att.noObjs_get _ _) e))) σ nD ⟨?_,_,c,HV _,?_⟩,rfl,k D _ σ f ?_⟩
    ·rw[aA,f.length_eq];exact aY (C0 ⋯)
    ·have:=N2.get (a:=D) cA;rw[eo]at this;exact this
    ·unfold B6;rw[pairwise_iff_getElem];intro i j hi E a3;have a4:i<pr.toList.length:=by simpa using hi
     have N:j<pr.toList.length:=by simpa using E
     have hs:=ρ i j (aY a3) (by rw[<-bG (n:=ps.length),<-x.length_eq];exact N);have a0:∀i (h:i<pr.toList.length),KP (O:=En) (λi=>((ps[i]?).map (·.2)).getD []) pr i=(ps.getD (pr.toList[i]) us).2:=λi h=>by
      have h3:pr.toList[i]<ps.length:=l _ (getElem_mem h);have h4:i<pr.size:=by simpa using h
      unfold KP;rw[Array.getD_eq_getD_getElem?,show pr[i]?\pr.toList[i] by simp[h4]];simp only[Option.getD_some];rw[bW,aH h3];rfl
     simp only[getElem_map];rw[<-a0 i a4,<-a0 j N];exact hs
end L2
namespace L2
open PySem PySem.Spec PyProof.Rows
section
variable{κ κ':Type}[DecidableEq κ][DecidableEq κ']
def BE:List κ->dH->κ->Option P
 |k0::ks,v::vs,k=>if k0=k then some v else BE ks vs k
 |_,_,_=>none
def Ai(ks:List κ)(k:κ):List κ:=if k∈ks then ks else ks++[k]
def Dl(ks:List κ)(vs:dH)(k:κ)(x:P):dH:=if k∈ks then zipWith (λk0 v=>if k0=k then x else v) ks vs else vs++[x]
theorem FX{b:Addr}{g:κ->κ'}(m:∀a c,g a=g c->a=c){ks:List κ}{k:κ}(r:AC b Z H xs vs)(f:ks.length=xs.length):(∀z,BE ks xs k\z->∃v,BG ((ks.map g).zip vs) (g k)\v/\Rp b Z H z v)/\(BE ks xs k=none->BG ((ks.map g).zip vs) (g k)=none):=by
 induction ks generalizing xs vs with
 |nil =>
  cases xs with
  |nil=>exact⟨(λz h=>(nomatch h)),dE⟩
  |cons x xs=>cases f
 |cons k0 ks d =>
  cases xs with
  |nil=>cases f
  |cons x xs =>
   obtain⟨v,t,rfl,j,i⟩:=r;have d:=d i (Nat.succ.inj f);simp only[BE,map_cons,zip_cons_cons];by_cases e:k0=k
   ·subst e;rw[aC rfl,Gj rfl];exact⟨(λz h=>⟨v,rfl,by cases h;exact j⟩),(λh=>(nomatch h))⟩
   ·rw[aB e];have l:¬g k0=g k:=λz=>e (m _ _ z);have:BG ((g k0,v)::(ks.map g).zip t) (g k)=BG ((ks.map g).zip t) (g k):=by unfold BG;rw[find?_cons];simp[l]
    rw[this];exact d
theorem P6{g:κ->κ'}(f:∀a c,g a=g c->a=c){k:κ}{v:V}:∀(ks:List κ) (vs:dG),((ks.map g).zip vs).map (λd=>if d.1=g k then(d.1,v)else d)=(ks.map g).zip (zipWith (λk0 u=>if k0=k then v else u) ks vs)
 |[],_=>'2'
 |_::_,[]=>'2'
 |k0::ks,u::vs=>by
  simp only[map_cons,zip_cons_cons,zipWith_cons_cons,P6 f ks vs];by_cases e:k0=k
  ·subst e;simp
  ·have h:¬g k0=g k:=λz=>e (f _ _ z);simp[e,h]
theorem Lf{g:κ->κ'}(d:∀a c,g a=g c->a=c){k:κ}:∀{ks:List κ} {vs:dG},ks.length=vs.length->((((ks.map g).zip vs).any λe=>decide (e.1=g k))=true↔k∈ks)
 |[],_,_=>'2'
 |k0::ks,[],h=>by simp at h
 |k0::ks,u::vs,h=>by
  simp only[map_cons,zip_cons_cons,any_cons,Bool.or_eq_true,aW,Lf (k:=k) d (show ks.length=vs.length by simpa using h),aF];constructor
  ·rintro(z|z)
   ·exact .inl (d _ _ z).symm
   ·exact .inr z
  ·rintro(z|z)
   ·exact .inl (by rw[z])
   ·exact .inr z
theorem P7{g:κ->κ'}(f:∀a c,g a=g c->a=c){ks:List κ}{k:κ}(e:ks.length=vs.length):BB ((ks.map g).zip vs) (g k) v=((Ai ks k).map g).zip (if k∈ks then zipWith (λk0 u=>if k0=k then v else u) ks vs else vs++[v]):=by
 unfold BB Ai;by_cases d:k∈ks
 ·rw[aC ((Lf f e).mpr d),aC d,aC d,P6 f]
 ·rw[aB (λz=>d ((Lf f e).mp z)),aB d,aB d,cN,zip_append (~~~e)];rfl
theorem Xf{b:Addr}{x:P}(c:Rp b Z H x v){k:κ}{ks:List κ}(r:AC b Z H xs vs)(a:ks.length=xs.length):AC b Z H (zipWith (λk0 y=>if k0=k then x else y) ks xs) (zipWith (λk0 u=>if k0=k then v else u) ks vs):=by
 induction ks generalizing xs vs with
 |nil=>exact rfl
 |cons k0 ks g =>
  cases xs with
  |nil=>cases a
  |cons y xs =>
   obtain⟨u,t,rfl,f,d⟩:=r;refine⟨_,_,rfl,?_,g d (Nat.succ.inj a)⟩;by_cases e:k0=k
   ·dsimp only;rw[aC e,aC e];exact c
   ·dsimp only;rw[aB e,aB e];exact f
theorem P8{b:Addr}{g:κ->κ'}(f:∀a c,g a=g c->a=c){ks:List κ}{k:κ}{x:P}(r:AC b Z H xs vs)(e:ks.length=xs.length)(d:Rp b Z H x v) :
  ∃vs',BB ((ks.map g).zip vs) (g k) v=((Ai ks k).map g).zip vs'/\AC b Z H (Dl ks xs k x) vs':=by
 refine⟨_,P7 f (e.trans r.length),?_⟩;unfold Dl;split
 ·exact Xf d r e
 ·exact r.snoc d
theorem P9{ks:List κ}{k:κ}{x:P}(a:ks.length=xs.length):(Ai ks k).length=(Dl ks xs k x).length:=by
 unfold Ai Dl;split
 ·rw[length_zipWith];lia
 ·simp[a]
end
theorem Dy(a c:By)(h:Ab a=Ab c):a=c:=by rw[<-LF a,h,LF]
theorem JS(a c:Str)(h:C1 a=C1 c):a=c:=Sum.inr.inj h
def Cf:P->Option By
 |.tup xs=>xs.mapM λx=>match x with|.int i=>some i|_=>none
 |_=>none
@[simp] theorem Cg(r:By):Cf (.tup (r.map P.int))\r:=by
 simp only[Cf]
 induction r with
 |nil=>rfl
 |cons x r a=>rw[map_cons,mapM_cons,a];rfl
theorem QB{x:P}(h:Cf x\r):x=.tup (r.map P.int):=by
 cases x with
 |tup xs =>
  simp only[Cf]at h
  congr 1
  induction xs generalizing r with
  |nil=>cases h;rfl
  |cons y xs a =>
   rw[mapM_cons]at h;cases y with
   |int i =>
    cases e:(xs.mapM λx=>match x with|.int i=>some i|_=>none)with
    |none=>rw[e]at h;cases h
    |some c=>rw[e]at h;cases h;rw[a e];rfl
   |_=>cases h
 |_=>cases h
def QC(pd pk:pE):pE:=λJ K=>pd J λx f=>pk J λy _=>match x with
 |.dT ks vs=>∃r z,Cf y\r/\BE ks vs r\z/\K z f.el
 |.dK ks vs=>match y with|.str k=>∃z,BE ks vs k\z/\K z f.el|_=>False
 |.fT ks vs=>∃r z,Cf y\r/\BE ks vs r\z/\K z f.el
 |_=>False
def QD(pd pk px:pE):pE:=λJ K=>pd J λx f=>(x.mut=true/\∀xs,x≠.lst xs)/\pk J λy _=>px J λz _=>match x with
 |.dT ks vs=>∃r,Cf y\r/\P.imms vs=true/\z.imm=true/\K ((BE ks vs r).getD z) .fr
 |.dK ks vs=>match y with|.str k=>P.imms vs=true/\z.imm=true/\K ((BE ks vs k).getD z) .fr|_=>False
 |_=>False
theorem FY{ks:List By}(ok:Ok W J Y H)(r:RF W J Y Hs f H (.dT ks xs) v):∃p vs,v=.ref p/\p≠W.b/\H p\(.dT ((ks.map Ab).zip vs))/\ks.length=xs.length/\AC W.b (AG W J Y f) H xs vs:=by
 cases f with
 |bo=>obtain⟨p,e,o,G,h1,h2,a⟩:=r;exact⟨p,G,e,(ok.ow (.inr o)).2.2.1,h1,h2,a⟩
 |nw=>obtain⟨p,G,e,z,h1,h2,a⟩:=r.1;exact⟨p,G,e,λq=>z (q▸AG.b),h1,h2,a⟩
 |fr=>obtain⟨p,G,e,z,h1,h2,a⟩:=r;exact⟨p,G,e,λq=>z (q▸AG.b (f:=.fr)),h1,h2,a⟩
 |cl=>obtain⟨p,G,e,z,h1,h2,a⟩:=r;exact⟨p,G,e,λq=>z (q▸AG.b (f:=.cl)),h1,h2,a⟩
 |rf=>obtain⟨p,G,e,z,h1,h2,a⟩:=r;exact⟨p,G,e,λq=>z (q▸AG.b (f:=.rf)),h1,h2,a⟩
 |an=>obtain⟨p,G,e,z,h1,h2,a⟩:=r;exact⟨p,G,e,λq=>z (q▸AG.b (f:=.an)),h1,h2,a⟩
theorem JT(ok:Ok W J Y H)(r:RF W J Y Hs f H (.dK ks xs) v):∃p vs,v=.ref p/\p≠W.b/\H p\(.dK ((ks.map C1).zip vs))/\ks.length=xs.length/\AC W.b (AG W J Y f) H xs vs:=by
 cases f with
 |bo=>obtain⟨p,e,o,G,h1,h2,a⟩:=r;exact⟨p,G,e,(ok.ow (.inr o)).2.2.1,h1,h2,a⟩
 |nw=>obtain⟨p,G,e,z,h1,h2,a⟩:=r.1;exact⟨p,G,e,λq=>z (q▸AG.b),h1,h2,a⟩
 |fr=>obtain⟨p,G,e,z,h1,h2,a⟩:=r;exact⟨p,G,e,λq=>z (q▸AG.b (f:=.fr)),h1,h2,a⟩
 |cl=>obtain⟨p,G,e,z,h1,h2,a⟩:=r;exact⟨p,G,e,λq=>z (q▸AG.b (f:=.cl)),h1,h2,a⟩
 |rf=>obtain⟨p,G,e,z,h1,h2,a⟩:=r;exact⟨p,G,e,λq=>z (q▸AG.b (f:=.rf)),h1,h2,a⟩
 |an=>obtain⟨p,G,e,z,h1,h2,a⟩:=r;exact⟨p,G,e,λq=>z (q▸AG.b (f:=.an)),h1,h2,a⟩
theorem QF{ks:List By}(ok:Ok W J Y H)(r:RF W J Y Hs f H (.fT ks xs) v):∃p vs,v=.ref p/\p≠W.b/\Fz H p ((ks.map Ab).zip vs)/\ks.length=xs.length/\AC W.b (AG W J Y f) H xs vs:=by
 cases f with
 |bo=>obtain⟨p,e,o,G,h1,h2,a⟩:=r;exact⟨p,G,e,(ok.ow (.inr o)).2.2.1,h1,h2,a⟩
 |nw=>obtain⟨p,G,e,z,h1,h2,a⟩:=r.1;exact⟨p,G,e,λq=>z (q▸AG.b),h1,h2,a⟩
 |fr=>obtain⟨p,G,e,z,h1,h2,a⟩:=r;exact⟨p,G,e,λq=>z (q▸AG.b (f:=.fr)),h1,h2,a⟩
 |cl=>obtain⟨p,G,e,z,h1,h2,a⟩:=r;exact⟨p,G,e,λq=>z (q▸AG.b (f:=.cl)),h1,h2,a⟩
 |rf=>obtain⟨p,G,e,z,h1,h2,a⟩:=r;exact⟨p,G,e,λq=>z (q▸AG.b (f:=.rf)),h1,h2,a⟩
 |an=>obtain⟨p,G,e,z,h1,h2,a⟩:=r;exact⟨p,G,e,λq=>z (q▸AG.b (f:=.an)),h1,h2,a⟩
theorem GA{x:P}(ok:Ok W J Y H)(g:Cf x\r)(a:RF W J Y Hs f H x v):∃q,v=.ref q/\H q\(.tup ((Ab r).map kV)):=by
 rw[QB g]at a;obtain⟨q,G,e,c,d⟩:=Cb ok a;rw[AC.ints.mp d]at c;exact⟨q,e,by rw[c];simp[Ab,bZ,Function.comp_def,kV]⟩
section
variable{o i e:Expr}{pd px:pE}
theorem HW(L:∀j,(Xs j).A.units+1<cLine)(N:QE Xs o pd)(hi:QE Xs i pk)(M:Kr i):QE Xs (.Subscript o i pos) (QC pd pk):=by
 obtain⟨td,U,T⟩:=N;obtain⟨tk,k1,k2⟩:=hi;refine⟨_,λj=>VY (L j) (U j) (k1 j) M,λW J Y H Q K ok O q=>T W J Y H _ _ ok O λx f v H1 h1 C ρ=>k2 W J Y H1 _ _ (ok.step C) h1 λy g u H2 h2 I D=>?_⟩;have c:=C.trans I;have a:=ok.step c;have d:=ρ.step (ok.step C) I;split at h2
 ·obtain⟨r,z,E,h,e⟩:=h2;obtain⟨p,G,rfl,_,n,m,l⟩:=FY a d;obtain⟨q2,rfl,us⟩:=GA a E D;obtain⟨w,B,s⟩:=(FX Dy (k:=r) l m).1 z h;exact⟨p,w,rfl,by rw[<-B];exact Cp.t n us,q z _ w H2 e c (RF.ofEl s)⟩
 ·split at h2
  ·obtain⟨z,h,e⟩:=h2;rename_i ks vs _ k;obtain⟨p,G,rfl,_,n,m,l⟩:=JT a d;cases FN a D;obtain⟨w,B,s⟩:=(FX JS (k:=k) l m).1 z h;exact⟨p,w,rfl,by rw[<-B];exact Cp.k (k:=Sum.inr k) n,q z _ w H2 e c (RF.ofEl s)⟩
  ·exact h2.elim
 ·obtain⟨r,z,E,h,e⟩:=h2;obtain⟨p,G,rfl,_,⟨o,n⟩,m,l⟩:=QF a d;obtain⟨q2,rfl,us⟩:=GA a E D;obtain⟨w,B,s⟩:=(FX Dy (k:=r) l m).1 z h;exact⟨p,w,rfl,by rw[<-B];exact .inr ⟨_,_,_,.inr ⟨o,n⟩,rfl,us,rfl⟩,q z _ w H2 e c (RF.ofEl s)⟩
 ·exact h2.elim
theorem QH{κ κ':Type}[DecidableEq κ][DecidableEq κ']{b:Addr}{g:κ->κ'}(i:∀a c,g a=g c->a=c){ks:List κ}{k:κ}{z:P}{u:V}(r:AC b Z H xs vs)(f:ks.length=xs.length)(hi:P.imms xs=true)(hz:z.imm=true)(j:Rp b Z H z u) :
  Rp b Z H ((BE ks xs k).getD z) ((BG ((ks.map g).zip vs) (g k)).getD u)/\((BE ks xs k).getD z).imm=true:=by
 cases e:BE ks xs k with
 |none=>rw[(FX i (k:=k) r f).2 e];exact⟨j,hz⟩
 |some w =>
  obtain⟨v,n,m⟩:=(FX i (k:=k) r f).1 w e;rw[n];refine⟨m,?_⟩;have:∀{ks:List κ} {xs:dH},P.imms xs=true->BE ks xs k\w->w.imm=true:=by
   intro ks
   induction ks with
   |nil=>intro xs _ h;cases h
   |cons k0 ks l =>
    intro xs d h;cases xs with
    |nil=>cases h
    |cons x xs =>
     rw[Im,cB]at d;simp only[BE]at h;split at h
     ·cases h;exact d.1
     ·exact l d.2 h
  exact this hi e
theorem HX(hu:∀j,(Xs j).A.units+1<cLine)(ho:QE Xs o pd)(hi:QE Xs e pk)(hx:QE Xs c px)
  (m:∀j,M2 (Xs j) o "get" qK e c qJ:=by intro _;exact⟨rfl,rfl,rfl,rfl⟩):QE Xs (.Call (.Attribute o "get" qK) [e,c] [] qJ) (QD pd pk px):=by
 obtain⟨td,d1,d2⟩:=ho;obtain⟨tk,k1,k2⟩:=hi;obtain⟨tx,x1,σ⟩:=hx;refine⟨_,λj=>OA (hu j) (d1 j) (k1 j) (x1 j) (m j),λW J Y H Q K ok hk q=>d2 W J Y H _ _ ok hk λx f v H1 zz T us=>?_⟩;obtain⟨⟨M,L⟩,h1⟩:=zz;have a:=ok.step T;obtain⟨p,rfl,hd⟩:∃p,v=.ref p/\Ib H1 p:=by
  cases x with
  |dT ks xs=>obtain⟨p,G,e,_,h,_⟩:=FY a us;exact⟨p,e,.inr ⟨_,.of h⟩⟩
  |dK ks xs=>obtain⟨p,G,e,_,h,_⟩:=JT a us;exact⟨p,e,.inl ⟨_,.of h⟩⟩
  |fT ks xs=>obtain⟨p,G,e,_,⟨o,h⟩,_⟩:=QF a us;exact⟨p,e,.inr ⟨_,.inr ⟨o,h⟩⟩⟩
  |lst xs=>exact bS rfl (L xs)
  |_=>simp[P.mut]at M
 refine⟨p,rfl,hd,k2 W J Y H1 _ _ a h1 λy g u H2 h2 E r2=>σ W J Y H2 _ _ (a.step E) h2 λz gz uz s n I U=>?_⟩;have i:=(T.trans E).trans I;have d:=ok.step i;have B:=us.step a (E.trans I);have w:=r2.step (a.step E) I;split at n
 ·obtain⟨r,e1,D,C,N⟩:=n;obtain⟨p',G,e,_,h,O,l⟩:=FY d B;cases e;obtain⟨q2,rfl,c4⟩:=GA d e1 w;have l:AC W.b (Zf W J Y) s _ G:=l.imm D;have ρ:Rp W.b (Zf W J Y) s z uz:=(U.any d).imm C;exact⟨_,Cp.t h c4,q _ _ _ s N i (QH Dy (k:=r) l O D C ρ).1⟩
 ·split at n
  ·obtain⟨D,C,N⟩:=n;rename_i ks vs _ k;obtain⟨p',G,e,_,h,O,l⟩:=JT d B;cases e;cases FN d w;have l:AC W.b (Zf W J Y) s _ G:=l.imm D;have ρ:Rp W.b (Zf W J Y) s z uz:=(U.any d).imm C;exact⟨_,Cp.k (k:=Sum.inr k) h,q _ _ _ s N i (QH JS (k:=k) l O D C ρ).1⟩
  ·exact n.elim
 ·exact n.elim
def QJ:pE:=λ_ K=>K (.dT [] []) .nw
theorem Lg:QE Xs (.Dict [] [] pos) QJ:=⟨_,λ_=>Vc,λW J Y H Q K ok c q=>λp a=>q _ _ _ _ c (Step.new ok.bag a) ⟨⟨p,[],rfl,λz=>ok.dom (f:=.fr) z a,AX,rfl,rfl⟩,λ_=>⟨p,rfl,a⟩⟩⟩
end
def JU(k:Nat)(pk pe:pE):pS:=λE J=>match J[k]? with
 |some (.own (.dT ks vs))=>pe J λy f=>pk J λz _=>∃r,Cf z\r/\As y f=.nw/\ks.length<16777216/\E.nx (J.set k (.own (.dT (Ai ks r) (Dl ks vs r y))))
 |some (.own (.dK ks vs))=>pe J λy f=>pk J λz _=>∃r,z=.str r/\As y f=.nw/\ks.length<16777216/\E.nx (J.set k (.own (.dK (Ai ks r) (Dl ks vs r y))))
 |_=>False
section
variable{a b:Expr}{p1:Pos}{k:Nat}{t u:TE}
theorem Xg(h1:BL t pa)(h2:BL u pb):FO (N7 (CV k) t u) (JU k pa pb):=λW J Y H D E ok x r=>by
 unfold JU at x;split at x
 ·rename_i ks xs e;obtain⟨w,j,p,M,_,_,I,_,vs,O,A,N⟩:=ok.slot k _ e;subst M;have us:AZ J Y p:=⟨k,_,e,j⟩;refine h2 W J Y H _ _ ok x λy f v H1 ky h C=>⟨.ref p,j,h1 W J Y H1 _ _ (ok.step h) ky λz T Q H2 zz n B=>?_⟩;obtain⟨g,k0,k1,k2,k3⟩:=zz;have c:=h.trans n;have a:=ok.step c;obtain⟨q,rfl,U⟩:=GA a k0 B;have m:=c.same p _ I O;have l:AC W.b (Zf W J Y) H2 xs vs:=N.step (f:=.fr) c ok.bag;have i:=Lb a (C.step (ok.step h) n) k1;refine⟨p,_,rfl,Ei.t m U (by rw[length_zip,aA];exact Nat.lt_of_le_of_lt (Nat.min_le_left _ _) k2),r.nx _ _ _ k3 ?_⟩;obtain⟨d,L,ρ⟩:=P8 Dy (k:=g) l A i;rw[L];have s:=FU (o:=HO.dT (((Ai ks g).map Ab).zip d)) a us (f:=.fr) (.inr rfl);exact a.mut e j '6' ⟨d,AX,P9 A,ρ.keep s.1 s.2⟩
 ·rename_i ks xs e;obtain⟨w,j,p,M,_,_,I,_,vs,O,A,N⟩:=ok.slot k _ e;subst M;have us:AZ J Y p:=⟨k,_,e,j⟩;refine h2 W J Y H _ _ ok x λy f v H1 ky h C=>⟨.ref p,j,h1 W J Y H1 _ _ (ok.step h) ky λz T Q H2 zz n B=>?_⟩;obtain⟨g,k0,k1,k2,k3⟩:=zz;have c:=h.trans n;have a:=ok.step c;subst k0;cases FN a B;have m:=c.same p _ I O;have l:AC W.b (Zf W J Y) H2 xs vs:=N.step (f:=.fr) c ok.bag;have i:=Lb a (C.step (ok.step h) n) k1;refine⟨p,_,rfl,Ei.k (k:=Sum.inr g) m (by rw[length_zip,aA];exact Nat.lt_of_le_of_lt (Nat.min_le_left _ _) k2),r.nx _ _ _ k3 ?_⟩;obtain⟨d,L,ρ⟩:=P8 JS (k:=g) l A i;rw[show(Sum.inr g:AK)=C1 g from rfl,L];have s:=FU (o:=HO.dK (((Ai ks g).map C1).zip d)) a us (f:=.fr) (.inr rfl);exact a.mut e j '6' ⟨d,AX,P9 A,ρ.keep s.1 s.2⟩
 ·exact x.elim
theorem Lh(e:∀i,(Xs i).A.units+1<cLine)(j:QE Xs a pa)(h:QE Xs b pb)(l:∀i,(Xs i).N[k]?\x:=by rfl)(d:∀i,Cw (Xs i).env.scope x:=by intro _;trivial)(g:No x:=by decide)(c:N_ x:=by decide)
  (f:∀i,swapsWith b (some (.Subscript (.Name x p1) a pos')) pos.line (Xs i).env=pure false:=by rfl):QS Xs (.Assign [.Subscript (.Name x p1) a pos'] b pos) (JU k pa pb):=by
 obtain⟨t,p,o⟩:=j;obtain⟨u,n,m⟩:=h;exact⟨_,λi=>VZ (e i) (Ds (l i) (d i) g c) (p i) (n i) (f i),Xg o m⟩
end
end L2
namespace L2
open PySem PySem.Spec PyProof.Rows PySem.W
def C5(h:Heap)(d:Addr)(es:Array DictEntry)(ep:Nat):Prop:=∃o,h.get? d\o/\o.ExactDict/\o.data=.dict es ep
theorem C5.typeIs{es:Array DictEntry}(x:C5 s.heap d es ep):s.TypeIs (.ref d) "dict":=by obtain⟨o,e,c,_⟩:=x;exact ⟨o,e,c.1⟩
theorem C5.keep{es:Array DictEntry}(x:C5 h d es ep)(k:∀o,h.get? d\o->h'.get? d\o):C5 h' d es ep:=by obtain⟨o,e,r⟩:=x;exact ⟨o,k o e,r⟩
theorem C5.lt{es:Array DictEntry}(x:C5 h d es ep):d<h.objs.size:=by obtain⟨_,e,_⟩:=x;exact bN e
section
variable{es:Array DictEntry}
theorem Xh(f:(d==sysModules)=false)(c:C5 s.heap d es ep)
  (g:Q (.ref 'H') { s with heap:=s.heap.push { cls:=.type "dict_keyiterator",data:=.fields #[.ref d,.int 0 0,.int es.size 0,.int ep 0] } }):'C' (pyIter (.ref d)) Q E s:=by
 obtain⟨o,e,h,a⟩:=id c;refine wpAny_pyIter_slot c.typeIs F.slot_dict_iter (cP F.slot_dict_iter c.typeIs F.entry_dict_iter ?body (F.args_dict_iter_1 _));unfold Builtin.«dict.__iter__» Builtin.Dict.dictSlotNone;refine wB (wB (wpAny_notOrdered_dict c.typeIs ?_));show 'A' (pure (Value.ref d)) _ _ s;refine wP ?_;show 'A' (Builtin.Dict.showsAll d >>= _) _ _ s;unfold Builtin.Dict.showsAll;rw[aB (show¬_ by rw[f];simp)];refine wB (wP (wB (wpAny_dictEntries e a (wB (wpAny_dictEpoch e a (wB (cG (wP ⟨_,rfl,"dict_keyiterator",_,⟨_,bP _ rfl,rfl⟩,F.slot_dict_keyiterator_next.lookup,?_⟩))))))));simpa[rawInt]using g
theorem Xi{Q:Ex->Shared->Prop}(a:s.heap.IsKeyIter it d i es.size ep)(l:C5 s.heap d es ep)(hi:i<es.size)
  (p:∀h',h'.IsKeyIter it d (i+1) es.size ep->Heap.SameBut it s.heap h'->Q (some es[i].key) { s with heap:=h' }):'C' (pyNext (.ref it)) Q E s:=by
 obtain⟨o,j,n,h⟩:=id a;obtain⟨q,f,m,g⟩:=id l;have e:Builtin.Dict_items.ownsTuple "dict_keyiterator"=false:=by decide
 unfold pyNext;refine wB (wpAny_attempt (wpAny_callSpecial?_slot (name:=Str.ofString "__next__") a.typeIs F.slot_dict_keyiterator_next (cP F.slot_dict_keyiterator_next a.typeIs F.entry_dict_keyiterator_next ?body (F.args_dict_keyiterator_next_1 _))));refine wB (wP (wB (wB ?_)))
 first
  |refine wB (wpAny_typeNameOfWhole_keyiter a.typeIs (wP (wB (wpAny_fieldsOf j h ?_))))
  |refine wB (wpAny_typeNameOf_keyiter a.typeIs (wP (wB (wpAny_fieldsOf j h ?_))))
 simp only[e,Bool.false_eq_true,if_false];show 'A' (if(Value.ref d==Value.none)=true then _ else _) _ _ s;rw[aB (show¬(Value.ref d==Value.none)=true from cH)];refine wB (wP (wB (wpAny_dictEntries f g ?_)));rw[aB '2'];refine wB (wP (wB (wpAny_dictEpoch f g ?_)));rw[aB '2'];refine wP ?_;simp only[show¬((i:Int)<0) by lia,if_false,Int.toNat_natCast,cK hi];refine wB ?_
 first
  |refine wB (wpAny_typeNameOfWhole_keyiter a.typeIs (wP (wB (wpAny_isOneOf_keyiter a.typeIs ?_))))
  |refine wB (wpAny_typeNameOf_keyiter a.typeIs (wP (wB (wpAny_isOneOf_keyiter a.typeIs ?_))))
 show 'A' (setField (.ref it) 1 (rawInt ((i:Int)+1)) >>= _) _ _ s;refine wB (wpAny_setField j h '2' ?_);have c:(s.heap.update it (Obj.mapFields (·.setIfInBounds 1 (rawInt ((i:Int)+1))))).IsKeyIter it d (i+1) es.size ep :=
  ⟨_,Heap.get?_update_self _ j (Obj.isFreed_of_fields (Obj.data_mapFields h _)),(Obj.cls_mapFields ..).trans n,by rw[Obj.data_mapFields h]<;>simp[rawInt]⟩
 refine wB (bM (wB (wpAny_isOneOf_keyiter (s:={ s with heap:=s.heap.update it (Obj.mapFields (·.setIfInBounds 1 (rawInt ((i:Int)+1)))) }) c.typeIs ?_)));show 'A' (pure es[i].key) _ _ _;exact wP (wP ⟨_,rfl,wP (p _ c (Heap.SameBut.update ..))⟩)
theorem Xj{Q:Ex->Shared->Prop}(l:A.handled=none)(c:s.heap.IsKeyIter it d es.size es.size ep)(j:C5 s.heap d es ep)(p:∀h',Heap.ExtBut it s.heap h'->Q none { s with heap:=h' }):'C' (pyNext (.ref it)) Q E s:=by
 obtain⟨o,h,x,i⟩:=id c;obtain⟨r,f,n,g⟩:=id j;have e:Builtin.Dict_items.ownsTuple "dict_keyiterator"=false:=by decide
 unfold pyNext;refine wB (wpAny_attempt (wpAny_callSpecial?_slot (name:=Str.ofString "__next__") c.typeIs F.slot_dict_keyiterator_next (cP F.slot_dict_keyiterator_next c.typeIs F.entry_dict_keyiterator_next ?body (F.args_dict_keyiterator_next_1 _))));refine wB (wP (wB (wB ?_)))
 first
  |refine wB (wpAny_typeNameOfWhole_keyiter c.typeIs (wP (wB (wpAny_fieldsOf h i ?_))))
  |refine wB (wpAny_typeNameOf_keyiter c.typeIs (wP (wB (wpAny_fieldsOf h i ?_))))
 simp only[e,Bool.false_eq_true,if_false];show 'A' (if(Value.ref d==Value.none)=true then _ else _) _ _ s;rw[aB (show¬(Value.ref d==Value.none)=true from cH)];refine wB (wP (wB (wpAny_dictEntries f g ?_)));rw[aB '2'];refine wB (wP (wB (wpAny_dictEpoch f g ?_)));rw[aB '2'];refine wP ?_;simp only[show¬((es.size:Int)<0) by lia,if_false,Int.toNat_natCast,Array.getElem?_eq_none (aQ es.size)];refine wB ?_
 first
  |refine wB (wpAny_typeNameOfWhole_keyiter c.typeIs (wP ?_))
  |refine wB (wpAny_typeNameOf_keyiter c.typeIs (wP ?_))
 show 'A' (setField (.ref it) 0 .none >>= _) _ _ s;refine wB (wpAny_setField h i '2' ?_);show 'A' (newExc (.type "StopIteration") [] >>= _) _ _ _;refine wB ?_;simp only[newExc,newTuple];refine wB (cG ?v (by size_fits));refine wB (m:=firstArgMember _ _) (wpAny_of_eq (a:=Value.none) (by first|rfl|(simp only[firstArgMember];rfl)) (cG ?u (by size_fits)));simp only[raiseNew];refine wB (wpAny_handled ?_);rw[show A.in1.handled=none from l];refine wB (wP (wpAny_throw ?_));refine wB (wpAny_isInstance (T:="StopIteration") (b:=true) ⟨_,bP _ rfl,rfl⟩ isSubtype_stop ?q);exact wP (p _ (((Heap.SameBut.update ..).extBut.push _).push _))
theorem Xk(n:A.handled=none)(I d:Addr)(j:d≠I)(es:Array DictEntry)(ep:Nat) :
  Walks prog w A I [I,d] [I] es.size (λi v=>∃h:i<es.size,v=es[i].key) (λi h=>h.IsKeyIter I d i es.size ep/\C5 h d es ep) where
 sub:=λb a=>by simp at a;simp[a]
 frame:=λ_ _ _ st m=>⟨st.1.at λo e=>m I '2' o e,st.2.keep λo e=>m d '2' o e⟩
 item:=λi s Q E hi st g=>Xi st.1 st.2 hi λh' f c =>
  g _ h' s.toks ⟨hi,rfl⟩ ⟨f,st.2.keep λo e=>c.extBut d o j e⟩ λb o a e=>c.extBut b o (λh=>a (by simp[h])) e
 done:=λs Q E st g=>Xj n st.1 st.2 λh' l=>g h' s.toks λb o a e=>l b o (λh=>a (by simp[h])) e
 self:=λ_ _ _ _ st g=>wpAny_pyIter_keyiter st.1 g
theorem Li(lo:(d==sysModules)=false):KdlSrc prog w "dict" d d es.size (λi v=>∃h:i<es.size,v=es[i].key) (λh=>C5 h d es ep) where
 type:=λ_ a=>a.typeIs
 there:=λ_ a=>⟨a.lt,a.lt⟩
 keep:=λ_ _ a f=>a.keep λo e=>f d (.inl rfl) o e
 notList:=by decide
 notTuple:=by decide
 hint:=λ_ _ _ _ a c=>kdl_hint_dict a.typeIs c
 iter:=λ_ _ g a=>⟨_,_,(λ_ _ c=>Xh lo a c),Xk g _ d (bX a.lt) es ep,⟨⟨_,bP _ rfl,rfl,rfl⟩,a.keep λo e=>aS _ e⟩⟩
end
abbrev AM(r:By):P:=.tup (r.map P.int)
def QK:dG->Hp->VK->Prop:=λxs H Q=>∃(p:Addr) (qH:List (List AK×V)),xs=[.ref p]/\H p\(.dT qH) /\
 ∀(l:Addr) (ps:List (Addr×List AK)),H l=none->ps.map (·.2)=qH.map (·.1)->(∀q∈ps,H q.1\(.tup (q.2.map kV)))->Q (.ref l) (AD H l (.lst (ps.map λq=>V.ref q.1)))
theorem Lj:∀{qH:List (List AK×V)} {xs:List (List AK×Addr×Value)},Paired (λ(p:List AK×V) (q:List AK×Addr×Value)=>p.1=q.1/\H q.2.1\(.tup (p.1.map kV))/\AJ p.2 q.2.2) qH xs ->
  (xs.map λx=>(x.2.1,x.1)).map (·.2)=qH.map (·.1)/\∀q∈(xs.map λx=>(x.2.1,x.1)),H q.1\(.tup (q.2.map kV))
 |_,_,.nil=>⟨rfl,λq hq=>nomatch hq⟩
 |_,_,.cons r t=>by
  obtain⟨a,b⟩:=Lj t;refine⟨by simp only[map_cons];rw[a,r.1],λq hq=>?_⟩;rw[map_cons]at hq;rcases aF.mp hq with rfl|hq
  ·have:=r.2.1;rw[r.1]at this;exact this
  ·exact b q hq
theorem QL{p:Addr}{qH:List (List AK×V)}(c:A7 P' w H h)(e:H p\(.dT qH)) :
  ∃(es:Array DictEntry) (ep:Nat) (ps:List (Addr×List AK)),C5 h p es ep/\(p==sysModules)=false/\qH.length<=sizeLine/\ps.map (·.2)=qH.map (·.1)/\(∀q∈ps,H q.1\(.tup (q.2.map kV)))/\es.toList.map (·.key)=ps.map λq=>Value.ref q.1:=by
 obtain⟨z,d,xs,a,o,es,ep,h1,h2,g,f,_⟩:=c p _ e;exact⟨es,ep,xs.map λx=>(x.2.1,x.1),⟨o,h1,h2,g⟩,d,z,(Lj a).1,(Lj a).2,by rw[f,bZ,bZ];rfl⟩
theorem QM{es:Array DictEntry}{cf:FG}(h:ItemsOf (λi v=>∃h:i<es.size,v=es[i].key) cf n)(a:n=es.size):cf.toList=es.toList.map (·.key):=by
 apply ext_getElem?;intro i;have c:cf.size=es.size:=by rw[<-a];exact h.1
 by_cases hi:i<cf.size
 ·obtain⟨h',e⟩:=h.2 i cf[i] (by simp[hi]);rw[bO];simp[hi,h',e]
 ·rw[bQ (~~~hi),bQ '4']
theorem Xl(ps:List (Addr×List AK)):AQ (ps.map λq=>V.ref q.1) (ps.map λq=>Value.ref q.1):=by
 induction ps with
 |nil=>exact .nil
 |cons q r a=>exact .cons rfl a
theorem Lk(n:X.calm=true):BK X (.type "list") QK:=by
 rintro qA s Y H xs G Q I r⟨p,i,rfl,j,k⟩;obtain⟨u,rfl,f⟩:=r.one;cases f;obtain⟨es,ep,ps,g,m,z,e,x,d⟩:=QL I.hok j;have b:=aT length e;simp at b;have A:es.size=i.length:=by
  have a:=aT length d;simp at a;lia
 refine kdl_call (Li m) (I.ok.hd n) g ⋯ λh' tk cf y l v c=>?_;have w:=QM c rfl;refine⟨.ref 'H',_,I.laid (t':=tk) (o:=.lst (ps.map λq=>V.ref q.1)) l (aQ _) ⟨?_,cf.toList,y,?_,?_⟩,rfl,k _ ps (I.hok.fresh (aQ _)) e x⟩
 ·rw[aA];lia
 ·rw[w,d];exact Xl ps
 ·simpa using v
def Ll:pC:=p1 λx f K=>match x with
 |.dT ks vs=>K (.lst (ks.map AM)) .nw
 |_=>False
theorem Xm(ks:List By):P.imms (ks.map AM)=true:=FL (λr=>'2') ks
theorem JV{b:Addr}{Z:Addr->Prop}{H:Hp}:∀{ps:List (Addr×By)},(∀q∈ps,H q.1\(.tup (q.2.map V.int)))->AC b Z H (ps.map λq=>AM q.2) (ps.map λq=>V.ref q.1)
 |[],_=>rfl
 |q::r,h=>⟨_,_,rfl,⟨q.1,_,rfl,h q cA,AC.ints.mpr rfl⟩,JV λp a=>h p (bT _ a)⟩
theorem Lm(r:By):(Ab r).map kV=r.map V.int:=by simp[Ab,bZ,Function.comp_def,kV]
theorem QN{ps:List (Addr×List AK)}{ks:List By}(h:ps.map (·.2)=ks.map Ab):∃d:List (Addr×By),d.map (·.1)=ps.map (·.1)/\d.map (·.2)=ks/\∀q'∈d,(q'.1,Ab q'.2)∈ps:=by
 induction ps generalizing ks with
 |nil =>
  cases ks with
  |nil=>exact⟨[],rfl,rfl,λ_ h=>nomatch h⟩
  |cons k ks=>simp at h
 |cons q r e =>
  cases ks with
  |nil=>simp at h
  |cons k ks =>
   simp only[map_cons,List.cons.injEq]at h;obtain⟨d,a,b,c⟩:=e h.2;refine⟨(q.1,k)::d,by simp[a],by simp[b],λq' hq=>?_⟩;rcases aF.mp hq with rfl|hq
   ·simp[<-h.1]
   ·exact bT _ (c q' hq)
theorem Ln:Bz QK Ll:=λW J Y Hs H Q K xs vs ok st r e q=>by
 unfold Ll p1 at e;split at e
 ·obtain⟨v,rfl,rv⟩:=r.one;split at e
  ·rename_i ks h;obtain⟨p,G,rfl,_,w,u,s⟩:=FY ok rv;refine⟨p,_,rfl,w,λl ps f g o=>q _ _ _ _ e (Step.new ok.bag f) ?_⟩;rw[map_fst_zip (by rw[aA,u,s.length];exact aQ _)]at g;obtain⟨d,a,b,c⟩:=QN g;have i:AC W.b (AG W J Y .nw) H (ks.map AM) (ps.map λq=>V.ref q.1):=by
    have:=JV (b:=W.b) (Z:=AG W J Y .nw) (H:=H) (ps:=d) λq' j=>by
     have:=o _ (c q' j);rw[Lm]at this;exact this
    have n:(d.map λq=>V.ref q.1)=ps.map λq=>V.ref q.1:=by
     have:=aT (map V.ref) a;simpa[bZ,Function.comp_def]using this
    have m:(d.map λq=>AM q.2)=ks.map AM:=by
     rw[<-b,bZ];rfl
    rw[n,m]at this;exact this
   exact FS ok st '2' '2' i f
  ·exact e.elim
 ·exact e.elim
def Lo:pC:=p1 λx f K=>∃rs:List By,x=.lst (rs.map AM)/\rs.length<64/\(rs.length<2\/∃n,0<n/\∀r∈rs,r.length=n)/\∀rs':List By,rs'.Perm rs->B6 rs'->K (.lst (rs'.map AM)) .nw
theorem QP{b:Addr}{Z:Addr->Prop}{H:Hp}:∀{rs:List By} {vs:dG},AC b Z H (rs.map AM) vs->∃ps:List (Addr×By),vs=DL ps/\ps.map (·.2)=rs/\∀q∈ps,H q.1\(.tup (q.2.map V.int))
 |[],vs,h=>⟨[],h,rfl,λ_ h=>nomatch h⟩
 |r::rs,vs,h=>by
  obtain⟨v,t,rfl,⟨p,G,rfl,e,d⟩,h2⟩:=h;obtain⟨ps,a,b,c⟩:=QP h2;rw[AC.ints.mp d]at e;refine⟨(p,r)::ps,by rw[a];rfl,by rw[map_cons,b],λq hq=>?_⟩;rcases aF.mp hq with rfl|hq
  ·exact e
  ·exact c q hq
theorem QR:Bz P2 Lo:=λW J Y Hs H Q K xs vs ok st r f q=>by
 unfold Lo p1 at f;split at f
 ·obtain⟨v,rfl,rv⟩:=r.one;obtain⟨rs,rfl,s,g,o⟩:=f;obtain⟨p,G,rfl,c,j⟩:=Ca ok rv;obtain⟨ps,rfl,e,i⟩:=QP j;have u:ps.length=rs.length:=by rw[<-e,aA]
  refine⟨p,ps,rfl,c,i,⋯,?_,λl a d h1 h2=>q _ _ _ _ (o (a.map (·.2)) (by rw[<-e];exact h1.map _) h2) (Step.new ok.bag d) ?_⟩
  ·rcases g with g|⟨n,m,g⟩
   ·exact .inl ⋯
   ·exact .inr ⟨n,m,λq h=>g _ (by rw[<-e];exact aP h)⟩
  ·have:=JV (b:=W.b) (Z:=AG W J Y .nw) (H:=H) (ps:=a) λq h=>i q (h1.mem_iff.mp h);rw[show(a.map λq=>AM q.2)=(a.map (·.2)).map AM by rw[bZ];rfl]at this;exact FS ok st '2' '2' this d
 ·exact f.elim
end L2
namespace HT
open PySem PyProof.Rows
theorem Xo(A:Around)(s:Shared)(a:Int)(t:Tok)(c:Int)(u:Tok)(prog:Program)(w:World)(E:VS)(Q:VS)(h:Q (.bool (decide (c<=a))) s) :
  'C' (richCompare .GtE (.int a t) (.int c u)) Q E s :=
 (PyProof.Rows.ge_int h:'C' (compareOp .GtE (.int a t) (.int c u)) Q E s)
section
open PySem.SeqAt
open PySem.AutoSeq1 (wpAny_loadPart')
open PySem.MeetsSeq PySem.MeetsSeq2 PySem.MeetsSeq3
theorem Xp(l b:Addr)(items f:FG)(n U:Nat)(dd N:Go)(T ρ:Array Ex)(ns H:By)(hi:IntsAre items.toList ns)(Q:IntsAre f.toList H) :
  Meets (Builtin.«tuple.__ge__» ⟨[.ref l,.ref b],[]⟩)
   (λ_ R s=>'F' l\{ cls:=.type "tuple",dict:=dd,data:=.seq items n,slots:=T }/\'F' b\{ cls:=.type "tuple",dict:=N,data:=.seq f U,slots:=ρ } /\
    R (.ok (.ret (.bool (!lexLt ns H)))) s) :=
 .of_wp λprog w A R s h=>by
  obtain⟨I,g,d,tk,os⟩:=s;obtain⟨hl,hb,h⟩:=h;have f2:=AutoSeq1.sub_tuple_tuple;have z1:items.size=ns.length:=by rw[<-hi.length];simp
  have z2:f.size=H.length:=by rw[<-Q.length];simp
  wp_walk using wpAny_loadPart' hl,wpAny_loadPart' hb,wpAny_forIn_list _ (λqF b s'=>b.1=none/\s'=⟨I,g,d,tk,os⟩/\∃(vs us:Do) (j m:By),qF=vs.zip us /\
   IntsAre vs j/\IntsAre us m/\j.length+f.size=m.length+items.size/\R (.ok (.ret (.bool (!lexLt j m)))) ⟨I,g,d,tk,os⟩) _
  case turn =>
   rintro⟨y,x⟩ qF b s' ⟨C,rfl,vs,us,j,m,o,z,p,i,r⟩;cases z with
   |nil=>rw[zip_nil_left]at o;cases o
   |cons a t E =>
    cases p with
    |nil=>rw[zip_nil_right]at o;cases o
    |cons c u D =>
     rw[zip_cons_cons]at o;injection o with L B
     injection L with σ hx
     subst σ hx;rw[dA]at r;simp only[length_cons]at i;obtain⟨e,he,v⟩:=U0 A.in1 ⟨I,g,d,tk,os⟩ a t c u;refine wB (he prog w _ _ ?_);cases e with
     |true =>
      rw[aC (v.mp rfl)]at r
      wp_walk
      exact⟨rfl,rfl,_,_,_,_,B,E,D,⋯,r⟩
     |false =>
      rw[aB (λq=>bS (v.mpr q) cH)]at r;have M:=Xo A.in1 ⟨I,g,d,tk,os⟩ a t c u prog w
      wp_walk using M
      have e9:(!decide (a<c))=decide (c<=a):=by rw[<-decide_not];exact decide_eq_decide.mpr ⋯
      rw[e9]at r;exact⟨_,rfl,by simpa using r⟩
  case fin =>
   rintro⟨b1,b2⟩ s' ⟨C,rfl,vs,us,j,m,o,z,p,i,r⟩;simp only at C;subst C;have O:lexLt j m=decide (items.size<f.size):=by
    cases z with
    |nil =>
     cases p with
     |nil =>
      simp only[length_nil]at i;rw[Ux];exact(cJ ⋯).symm
     |cons c u hw =>
      simp only[length_nil,length_cons]at i;rw[Uy];exact(aK ⋯).symm
    |cons a t O =>
     cases p with
     |nil =>
      simp only[length_nil,length_cons]at i;rw[Uz];exact(cJ ⋯).symm
     |cons c u hw =>
      rw[zip_cons_cons]at o;cases o
   rw[O,show(!decide (items.size<f.size))=decide (f.size<=items.size) by rw[<-decide_not];exact decide_eq_decide.mpr ⋯]at r
   wp_walk
   exact⟨_,rfl,by simpa[Builtin.Tuple.tupleCompareSizes]using r⟩
  case h =>
   exact⟨rfl,rfl,items.toList,f.toList,ns,H,rfl,hi,Q,⋯,h⟩
end
theorem dP{l b:Addr}{items a:FG}{c:By}(y:IsTup s.heap l items)(B:IsTup s.heap b a)(hi:IntsAre items.toList ns)(z:IntsAre a.toList c)
  (v:A.units<cLine) (h:Q (.bool (!lexLt ns c)) s):'C' (compareOp .GtE (.ref l) (.ref b)) Q E s:=by
 obtain⟨⟨C,dd,p,r⟩,j,o,n,m⟩:=id y;obtain⟨⟨q,i,data2,g⟩,d,f,u,e⟩:=id B;simp only at o m f e;subst o m f e;exact richCompare_meets_room (op:=.GtE) ⟨_,j,rfl⟩ ⟨_,d,rfl⟩ PySem.F.slot_tuple_ge PySem.F.entry_tuple_ge (PySem.F.args_tuple_ge_2 _ _) (Xp l b items a n u dd i r g ns c hi z)
  ⟨j,d,show Value.bool (!lexLt ns c)≠Value.notImplemented/\Q (.bool (!lexLt ns c)) s from⟨(λx=>nomatch x),h⟩⟩ v
end HT
namespace L2
open PySem PySem.Spec PyProof.Rows
def HY(K : Fg)(l1 l2 : Addr) : It :=
  ⟨λi H => ∃xs ys, Am K H l1 xs /\ Am K H l2 ys /\ i < xs.length /\ i < ys.length,
   λi H v H' => ∃T x y, H T = none /\ v = .ref T /\ H' = AD H T (.tup [x, y]) /\ ∀xs ys, Am K H l1 xs -> Am K H l2 ys -> xs[i]? = some x /\ ys[i]? = some y,
   λi H => ∃xs ys, Am K H l1 xs /\ Am K H l2 ys /\ (xs.length <= i \/ ys.length <= i)⟩
theorem Xq{P:Program}{K:Fg}{x1}{TI TO:Addr}(D:ZipApart z TI TO i1 i2 l1 l2) :
  Turn P w K (.Tuple elts x1 pos) (HY K l1 l2) [z,TI,TO,i1,i2] z (λi h=>IsZip h z TI TO .none/\IsPair h TI (.ref i1) (.ref i2)/\(∃a b,IsPair h TO a b)/\h.IsListIter i1 l1 i/\h.IsListIter i2 l2 i) where
 mem:='2'
 obj:=λi h st b d=>by
  obtain⟨m,j,⟨a,c,l⟩,⟨L,B,_,d1⟩,⟨us,A,_,d2⟩⟩:=st;simp only[aF,bB,or_false]at d;rcases d with rfl|rfl|rfl|rfl|rfl
  ·exact⟨_,m,λv q=>nomatch q⟩
  ·exact⟨_,j,λv q=>nomatch q⟩
  ·exact⟨_,l,λv q=>nomatch q⟩
  ·exact⟨_,B,λv q=>by rw[d1]at q;cases q⟩
  ·exact⟨_,A,λv q=>by rw[d2]at q;cases q⟩
 keep:=λi h h' st k=>by
  obtain⟨m,j,⟨a,c,l⟩,⟨L,B,r1⟩,⟨us,A,r2⟩⟩:=st;exact⟨k z '2' _ m,k TI '2' _ j,⟨a,c,k TO '2' _ l⟩,⟨L,k i1 '2' _ B,r1⟩,⟨us,k i2 '2' _ A,r2⟩⟩
 item:=by
  intro X hP hw hK hc i qA s Y H E I σ st hg;subst hP hw hK;obtain⟨m,j,⟨a,c,l⟩,h1,h2⟩:=st;obtain⟨xs,ys,q1,q2,g1,g2⟩:=hg;obtain⟨qG,rv,pq,a7⟩:=I.list q1;have p:=pq.isList;obtain⟨M,n,r,N⟩:=I.list q2;have p2:=r.isList;have hx:xs[i]?\xs[i]:=by simp[g1]
  have hy:ys[i]?\ys[i]:=by simp[g2]
  obtain⟨u,hu,ru⟩:=rv.get hx;obtain⟨C,a8,a0⟩:=n.get hy;refine wpAny_pyNext_zip_item D m j l h1 h2 p p2 (x:=u) (y:=C) (~~~hu) (~~~a8) λh' a1 a2 a3 a4 a5 a6 U=>⟨_,rfl,wpAny_letOwnedTupleGo_zip a1 λT O f=>?_⟩;have a9:H 'H'=none:=I.fresh;have ρ:Inv X qA Y (AD H 'H' (.tup [xs[i],ys[i]])) { s with heap:=s.heap.push { cls:=.type "tuple",data:=.seq #[u,C] } } :=
   I.laid (t':=s.toks) (λb o q=>aS _ q) (aQ _) ⟨by show 2<=sizeLine;decide,[u,C],.cons ru (.cons a0 .nil),DX.new _ _⟩
  have Q:∀b∈[z,TI,TO,i1,i2],b≠'H':=λb d e=>by
   have o:∃o,'F' b\o:=by
    simp only[aF,bB,or_false]at d;obtain⟨L,B,_⟩:=h1;obtain⟨us,A,_⟩:=h2;rcases d with rfl|rfl|rfl|rfl|rfl
    ·exact⟨_,m⟩
    ·exact⟨_,j⟩
    ·exact⟨_,l⟩
    ·exact⟨_,B⟩
    ·exact⟨_,A⟩
   obtain⟨o,q⟩:=o;exact bS (bN q) (by rw[e];exact aX _)
  have hn:∀b∈[z,TI,TO,i1,i2],AD H 'H' (.tup [xs[i],ys[i]]) b=none:=λb d=>by rw[AI (Q b d)];exact(σ b d).1
  have nz:'H'≠z:=(Q z '2').symm;have J2:Inv X qA Y (AD H 'H' (.tup [xs[i],ys[i]])) { s with heap:=T }:=by
   refine Inv.turnedL (s:={ s with heap:=s.heap.push { cls:=.type "tuple",data:=.seq #[u,C] } }) (h':=T) (t':=s.toks) (ch:=[z,TO,i1,i2]) ρ (λb o d q=>?_) (λb d=>⟨hn b ?_,(σ b ?_).2⟩)
   ·simp only[aF,bB,or_false,not_or]at d;by_cases e:b='H'
    ·subst e;have q':=q;rw[show(s.heap.push { cls:=.type "tuple",data:=.seq #[u,C] }).get? 'H'\_ from bP _ rfl]at q';cases q';exact f.extBut _ _ nz a5
    ·have q0:'F' b\o:=by rw[<-Heap.get?_push_ne _ _ _ e];exact q
     exact f.extBut _ _ d.1 (U b o d.1 d.2.1 d.2.2.1 d.2.2.2 q0)
   ·simp only[aF,bB,or_false]at d ⊢;rcases d with h|h|h|h<;>simp[h]
   ·simp only[aF,bB,or_false]at d ⊢;rcases d with h|h|h|h<;>simp[h]
  refine⟨.ref 'H',_,J2,rfl,⟨_,_,_,a9,rfl,rfl,λab aa z1 z2=>?_⟩,?_,hn⟩
  ·rw[I.list_inj z1 q1,I.list_inj z2 q2];exact⟨hx,hy⟩
  ·obtain⟨L,B,r1⟩:=a3;obtain⟨us,A,r2⟩:=a4;exact⟨O,f.extBut _ _ D.TIz (U _ _ D.TIz D.TITO D.TIi1 D.TIi2 j),⟨_,_,f.extBut _ _ D.TOz a2⟩,⟨L,f.extBut _ _ D.i1z B,r1⟩,⟨us,f.extBut _ _ D.i2z A,r2⟩⟩
 done:=by
  intro X hP hw hK hc i qA s Y H E I σ st hg;subst hP hw hK;obtain⟨m,j,⟨a,c,l⟩,h1,h2⟩:=st;obtain⟨xs,ys,q1,q2,g⟩:=hg;obtain⟨qG,rv,pq,a7⟩:=I.list q1;have p:=pq.isList;obtain⟨M,n,r,N⟩:=I.list q2;have p2:=r.isList;have l1:=rv.length;have l2:=n.length;refine wpAny_pyNext_zip_end (I.ok.hd hc) D m j l h1 h2 p p2 '4' λh' U=>⟨rfl,I.turnedL (t':=s.toks) (ch:=[z,TO,i1,i2]) (λb o d q=>?_) λb d=>σ b ?_⟩
  ·simp only[aF,bB,or_false,not_or]at d;exact U b o d.1 d.2.1 d.2.2.1 d.2.2.2 q
  ·simp only[aF,bB,or_false]at d ⊢;rcases d with h|h|h|h<;>simp[h]
 self:=λ_ _ _ _ _ st h=>wpAny_pyIter_zip st.1 h
def QU(K:Fg)(ta:TA):TI:=λY H R=>ta Y H λvs H1=>∃l1 l2 xs ys,vs=[.ref l1,.ref l2]/\Am K H1 l1 xs/\Am K H1 l2 ys/\R (HY K l1 l2) H1
theorem Xr{a b:Expr}{ta:TA}{p:Pos}{x1}{tp:Pos}(E:Gl X "zip")(C:X.mg "zip"=none)(us:PA X [a,b] ta)(B:starEach [a,b] X.env=[(false,eval a X.env),(false,eval b X.env)]:=by rfl)(d:starEach [b] X.env=[(false,eval b X.env)]:=by rfl) :
  PI X (.Tuple elts x1 tp) (.Call (.Name "zip" p) [a,b] [] pos) (QU X.K ta):=by
 intro qA s Y H R I h;refine Call_ (EA I E C OW (PyProof.Rows.callWith_type1 (AH (us pos qA s Y H _ I h) λG c zz=>?_) (by rw[B,d]) (by rw[d];rfl)));obtain⟨vs,H1,g,r,q1⟩:=zz;obtain⟨l1,l2,xs,ys,rfl,q2,A,q⟩:=q1;obtain⟨u,v,rfl,z,rv⟩:=r.two;cases(show u=Value.ref l1 from z);cases(show v=Value.ref l2 from rv);obtain⟨qG,r,j,_⟩:=g.list q2;have p1:=j.isList;obtain⟨w,L,i,_⟩:=g.list A;have p2:=i.isList;refine call_zip_2 p1 p2 λh' x o n i1 i2 _ D=>?_;have ρ:Inv X qA Y H1 { c with heap:=h' }:=g.kept (t':=c.toks) D;have m:l1<c.heap.objs.size:=by obtain⟨_,e,_⟩:=p1;exact bN e
 have l:l2<c.heap.objs.size:=by obtain⟨_,e,_⟩:=p2;exact bN e
 refine wpAny_pyIter_zip x ⟨_,[c.heap.objs.size+4,c.heap.objs.size+2,c.heap.objs.size+3,c.heap.objs.size,c.heap.objs.size+1],_,_,H1,rfl,ρ,Xq (zipApart_new m l),⟨x,o,⟨_,_,n⟩,i1,i2⟩,λb y=>?_,q⟩;have f:c.heap.objs.size<=b:=by
  simp only[aF,bB,or_false]at y;rcases y with h|h|h|h|h<;>rw[h]<;>first|exact Nat.le_add_right _ _|exact aQ _
 exact g.fpOk f (g.hok.fresh f)
def QV:R2:=λx y H Q=>∃a b ns ms,x=.ref a/\y=.ref b/\H a\(.tup (ns.map V.int))/\H b\(.tup (ms.map V.int))/\Q (.bl (!HT.lexLt ns ms)) H
theorem Xt{k:Nat}(i:Room k X.A):Ay X (compareOp .GtE) QV:=by
 rintro qA s Y H x y v u Q I e d⟨a,b,ns,j,rfl,rfl,h1,h2,q⟩;cases e;cases d;obtain⟨qG,g,p1,_⟩:=I.tuple (.of h1);obtain⟨c,f,p2,_⟩:=I.tuple (.of h2);exact HT.dP p1 p2 (~~~(Gd g)) (~~~(Gd f)) i.units0 ⟨.bl _,H,I,rfl,q⟩
def QX(g:By->By->Bool):p2:=λx _ y _ K=>∃ns ms,Cf x\ns/\Cf y\ms/\K (.bl (g ns ms)) .fr
abbrev Xu:p2:=QX λa b=>!HT.lexLt a b
theorem QY{x:P}(ok:Ok W J Y H)(g:Cf x\ns)(r:RF W J Y Hs f H x v):∃a,v=.ref a/\H a\(.tup (ns.map V.int)):=by
 rw[QB g]at r;obtain⟨p,G,e,c,d⟩:=Cb ok r;rw[AC.ints.mp d]at c;exact⟨p,e,c⟩
theorem Xv:BV QV Xu:=λW J Y Hs H Q K x y f h v u ok st d c g q=>by
 obtain⟨ns,e,l,j,i⟩:=g;obtain⟨a,rfl,n⟩:=QY ok l d;obtain⟨b,rfl,m⟩:=QY ok j c;exact⟨a,b,ns,e,rfl,rfl,n,m,q _ _ _ H i (Step.refl ok.bag) Dc⟩
def Dz(x y:P):P:=.tup [x,y]
end L2
namespace L2
open PySem
abbrev AO(ns:At):P:=.tup (ns.map P.str)
abbrev BH(q:By×Int):P:=.tup [AM q.1,.int q.2]
abbrev Aa(t:List (By×Int)):P:=.lst (t.map BH)
abbrev DM(t:List (By×Int)):P:=.dT (t.map (·.1)) (t.map λq=>.int q.2)
@[simp] theorem C6(r:By):(AM r).imm=true:='2'
@[simp] theorem HZ(q:By×Int):(BH q).imm=true:='2'
@[simp] theorem QZ(t:List (By×Int)):P.imms (t.map BH)=true:=FL HZ t
@[simp] theorem Qa(t:List By):P.imms (t.map AM)=true:=FL C6 t
@[simp] theorem Xw(n:Nat)(r:By):(AM r).pl (n+1)=true:='2'
@[simp] theorem Qb(n:Nat)(q:By×Int):(BH q).pl (n+2)=true:='2'
@[simp] theorem Qc(n:Nat)(t:List (By×Int)):(t.map BH).all (P.pl (n+2))=true:=JM (Qb n) t
theorem Cs(a b:Int):AL (.int a) (.int b)=decide (a=b):=by simp only[AL];rw[Bool.eq_iff_iff];simp
theorem JW(a b:Str):AL (.str a) (.str b)=decide (a=b):=by simp only[AL];rw[Bool.eq_iff_iff];simp
theorem Xx(a b:Bool):AL (.bl a) (.bl b)=decide (a=b):=by simp only[AL];rw[Bool.eq_iff_iff];simp
theorem Lp(r:By):(AM r).nb=true:=by rw[P.nb];exact F9 dE r
theorem Xy(q:By×Int):(BH q).nb=true:=by rw[P.nb,P.nbs,P.nbs,P.nbs,Lp];rfl
theorem Qd(t:List (By×Int)):(Aa t).nb=true:=by rw[P.nb];exact F9 Xy t
theorem Lq(r:At):(AO r).nb=true:=by rw[P.nb];exact F9 dE r
theorem Qe{a b:By}(h:a.map P.int=b.map P.int):a=b:=by
 have:=aT (map λp=>match p with|P.int i=>i|_=>0) h;simpa[bZ,Function.comp_def]using this
theorem Qf{a b:At}(h:a.map P.str=b.map P.str):a=b:=by
 have:=aT (map λp=>match p with|P.str i=>i|_=>⟨#[]⟩) h;simpa[bZ,Function.comp_def]using this
theorem Lr{a b:By}(h:AM a=AM b):a=b:=Qe (P.tup.inj h)
theorem Qg{a b:By×Int}(h:BH a=BH b):a=b:=by
 have h:=P.tup.inj h;simp only[List.cons.injEq]at h;exact Prod.ext (Lr h.1) (P.int.inj h.2.1)
theorem JX{α:Type}{f:α->P}(c:∀a b,f a=f b->a=b):∀{a b:List α},a.map f=b.map f->a=b
 |[],[],_=>rfl
 |[],_::_,h=>by simp at h
 |_::_,[],h=>by simp at h
 |x::a,y::b,h=>by
  simp only[map_cons,List.cons.injEq]at h;rw[c x y h.1,JX c h.2]
theorem Xz{a b:List (By×Int)}(h:Aa a=Aa b):a=b:=JX (λ_ _=>Qg) (P.lst.inj h)
theorem X0(a b:By):AL (AM a) (AM b)=decide (a=b):=by
 rw[Bool.eq_iff_iff,FT (Lp a) (Lp b),aW];exact⟨Lr,λh=>by rw[h]⟩
theorem X1(a b:List (By×Int)):AL (Aa a) (Aa b)=decide (a=b):=by
 rw[Bool.eq_iff_iff,FT (Qd a) (Qd b),aW];exact⟨Xz,λh=>by rw[h]⟩
theorem X2(a b:At):AL (AO a) (AO b)=decide (a=b):=by
 rw[Bool.eq_iff_iff,FT (Lq a) (Lq b),aW];exact⟨λh=>Qf (P.tup.inj h),λh=>by rw[h]⟩
def B7(t:List (By×Int))(r:By)(c:Int):List (By×Int):=if r∈t.map (·.1)then t.map (λq=>if q.1=r then(q.1,c)else q)else t++[(r,c)]
def AY(t:List (By×Int))(r:By):Option Int:=(t.find? λq=>decide (q.1=r)).map (·.2)
theorem JY(r:By):∀t:List (By×Int),BE (t.map (·.1)) (t.map λq=>P.int q.2) r=(AY t r).map P.int
 |[]=>rfl
 |q::t=>by
  simp only[map_cons,BE];unfold AY;rw[find?_cons];by_cases e:q.1=r
  ·rw[aC e];simp[e]
  ·rw[aB e,JY r t];simp[e,AY]
theorem Qh(r:By)(c:Int):∀t:List (By×Int),zipWith (λk0 v=>if k0=r then P.int c else v) (t.map (·.1)) (t.map λq=>P.int q.2)=(t.map (λq=>if q.1=r then(q.1,c)else q)).map λq=>P.int q.2
 |[]=>rfl
 |q::t=>by
  simp only[map_cons,zipWith_cons_cons,Qh r c t];by_cases e:q.1=r<;>simp[e]
theorem Qi(t:List (By×Int))(r:By)(c:Int):P.dT (Ai (t.map (·.1)) r) (Dl (t.map (·.1)) (t.map λq=>P.int q.2) r (.int c))=DM (B7 t r c):=by
 unfold Ai Dl B7 DM;by_cases h:r∈t.map (·.1)
 ·rw[aC h,aC h,aC h,Qh]
  congr 1
  rw[bZ];refine cF λq _=>?_;by_cases e:q.1=r<;>simp[e]
 ·rw[aB h,aB h,aB h];simp
theorem X3(t:List (By×Int))(r:By)(c:Int):(B7 t r c).length<=t.length+1:=by
 unfold B7;split<;>simp
theorem Qj(t:List (By×Int))(r:By)(c:Int):(B7 t r c).map (·.1)=if r∈t.map (·.1)then t.map (·.1)else t.map (·.1)++[r]:=by
 unfold B7;split
 ·rw[bZ];refine cF λq _=>?_;by_cases e:q.1=r<;>simp[e]
 ·simp
theorem X4{t:List (By×Int)}{c:Int}(h:(t.map (·.1)).Nodup):((B7 t r c).map (·.1)).Nodup:=by
 rw[Qj];split
 ·exact h
 ·rename_i d;rw[nodup_append];exact⟨h,'2',λa g b f=>by rw[bI.mp f];exactλe=>d (e▸g)⟩
theorem Ls:∀{a b:List By},a.Perm b->B6 a->B6 b->a=b
 |[],b,h,_,_=>(nil_perm.mp h).symm
 |x::xs,[],h,_,_=>bS h.length_eq '2'
 |x::xs,y::ys,h,h1,h2=>by
  have e:x=y:=by
   have hx:x∈y::ys:=h.mem_iff.mp cA;have hy:y∈x::xs:=h.mem_iff.mpr cA;rcases aF.mp hx with e|hx
   ·exact e
   ·rcases aF.mp hy with e|hy
    ·exact e.symm
    ·exact G6 x y ((cS.mp h2).1 x hx) ((cS.mp h1).1 y hy)
  subst e;rw[Ls ((perm_cons x).mp h) (cS.mp h1).2 (cS.mp h2).2]
def GB(x:By):List By->List By
 |[]=>[x]
 |y::r=>if HT.lexLt y x=true then y::GB x r else x::y::r
def DN:List By->List By
 |[]=>[]
 |x::r=>GB x (DN r)
theorem Lu(x:By):∀r,(GB x r).Perm (x::r)
 |[]=>List.Perm.refl _
 |y::r=>by
  unfold GB;split
  ·exact((Lu x r).cons y).trans (List.Perm.swap x y r)
  ·exact List.Perm.refl _
theorem D0:∀r,(DN r).Perm r
 |[]=>List.Perm.refl _
 |x::r=>(Lu x (DN r)).trans ((D0 r).cons x)
theorem Qk(x:By):∀{r},B6 r->B6 (GB x r)
 |[],_=>pairwise_singleton _ _
 |y::r,h=>by
  unfold GB;have h1:=cS.mp h;split
  ·rename_i a;refine cS.mpr ⟨λz hz=>?_,Qk x h1.2⟩;rcases aF.mp ((Lu x r).mem_iff.mp hz)with e|hz
   ·rw[e];cases c:HT.lexLt x y
    ·rfl
    ·have:=G5 _ _ _ a c;rw[G4]at this;cases this
   ·exact h1.1 z hz
  ·rename_i a;have a:HT.lexLt y x=false:=by simpa using a
   refine cS.mpr ⟨λz hz=>?_,h⟩;rcases aF.mp hz with e|hz
   ·rw[e];exact a
   ·cases c:HT.lexLt z x
    ·rfl
    ·rcases Ol z y x c with q|q
     ·rw[h1.1 z hz]at q;cases q
     ·rw[a]at q;cases q
theorem Hc:∀r,B6 (DN r)
 |[]=>List.Pairwise.nil
 |x::r=>Qk x (Hc r)
theorem Lv{rs a:List By}(h:a.Perm rs)(c:B6 a):a=DN rs:=Ls (h.trans (D0 rs).symm) c (Hc rs)
def BA(t:List (By×Int)):List (By×Int):=((DN (t.map (·.1))).filter λr=>decide ((AY t r).getD 0≠0)).map λr=>(r,(AY t r).getD 0)
theorem Ql{t:List (By×Int)}(h:r∈t.map (·.1)):∃c,AY t r\c:=by
 obtain⟨q,a,e⟩:=bU.mp h;unfold AY;cases d:t.find? λq=>decide (q.1=r)with
 |some p=>exact⟨p.2,rfl⟩
 |none=>exact bS (aK e) (~~~(find?_eq_none.mp d q a))
def Rows(t:List (By×Int)):Prop:=t.length<2\/∃n,0<n/\∀q∈t,q.1.length=n
theorem QS.weak{ι:Type}{Xs:ι->Cx}{p m:pS}(h:QS Xs st p)(hw:∀E J,m E J->p E J):QS Xs st m:=by obtain⟨t,h1,h2⟩:=h;exact ⟨t,h1,λW J Y H D E ok h r=>h2 W J Y H D E ok (hw E J h) r⟩
structure Drawn(n:Nat)(t:List (By×Int)):Prop where
 len:t.length<=40
 rows:∀q∈t,q.1.length=n
 nd:(t.map (·.1)).Nodup
 row:∀q∈t,∀x∈q.1,0<=x/\x<=9
 cnt:∀q∈t,1<=q.2/\q.2<=1000000000000
end L2
namespace L2
open PySem PySem.Spec PyProof.Rows
theorem X5{a b:At}:(a.map P.str=b.map P.str)=(a=b):=propext ⟨Qf,λh=>by rw[h]⟩
theorem X6{a b:By}:(a.map P.int=b.map P.int)=(a=b):=propext ⟨Qe,λh=>by rw[h]⟩
theorem X7{a b:List (By×Int)}:(a.map BH=b.map BH)=(a=b):=propext ⟨λh=>JX (λ_ _=>Qg) h,λh=>by rw[h]⟩
theorem X8{a b:List By}:(a.map AM=b.map AM)=(a=b):=propext ⟨λh=>JX (λ_ _=>Lr) h,λh=>by rw[h]⟩
theorem Qm(t:List (By×Int)):(BA t).length<=t.length:=by
 unfold BA;rw[aA];refine aR (length_filter_le _ _) ?_;rw[(D0 _).length_eq,aA];exact aQ _
theorem Qn{t:List (By×Int)}(h:q∈BA t):q.1∈t.map (·.1):=by
 unfold BA at h;obtain⟨r,a,rfl⟩:=bU.mp h;exact(D0 _).mem_iff.mp (cW.mp a).1
end L2
namespace L2
open PySem PySem.Spec PyProof.Rows PySem.W PySem.SeqAt
theorem X9{M:Model}{a:Type}(f:Nat->a->Sem (ForInStep a))(I:Ge->a->Shared->Prop)(Q:a->Shared->Prop)
  (turn:∀y l c u,I (y::l) c u->wpAny M A (f y c) (λz u'=>match z with|.yield c'=>I l c' u'|.done c'=>Q c' u') E u)
  (fin:∀b s,I [] b s->Q b s) (m:Nat) (b:a) (h:I (range' 0 m) b s):wpAny M A (forIn [0:m] b f) Q E s:=by
 rw[Std.Legacy.Range.forIn_eq_forIn_range'];simp only[Std.Legacy.Range.size,Nat.sub_zero,Nat.add_sub_cancel,Nat.div_one];exact wpAny_forIn_list f I Q turn fin _ b h
theorem YA(l:Addr)(items:FG)(n:Nat)(dd:Go)(r:Array Ex)(x:Value)(e:Value->Bool)(j:Nat)(E:j<items.size)
  (q:e items[j]=true) (p:∀m (D:m<items.size),m<j->e items[m]=false):Meets (Builtin.«tuple.index» ⟨[.ref l,x],[]⟩)
   (λA R s=>'F' l\{ cls:=.type "tuple",dict:=dd,data:=.seq items n,slots:=r }/\(∀y,y∈items->EqAt A.in1 s y x (e y))/\R (.ok (.ret (.int j s.toks))) { s with toks:=s.toks+1 }) :=
 .of_wp λprog w A R s h=>by
  obtain⟨u,g,d,tk,os⟩:=s;obtain⟨v,B,h⟩:=h
  wp_walk using wpAny_loadPart' v,X9 _ (λqF b s'=>b.1=none/\s'=⟨u,g,d,tk,os⟩/\∃i,i<=j/\qF=range' i (items.size - i)) _
  case turn =>
   rintro i qF b s' ⟨C,rfl,f,hi,o⟩;obtain⟨rfl,a⟩:i=f/\qF=range' (f+1) (items.size - (f+1)):=by
    have e:items.size - f=(items.size - (f+1))+1:=⋯;rw[e,range'_succ]at o;injection o with h1 h2
    exact⟨h1,h2⟩
   have c:i<items.size:=⋯;rw[cK c];refine wB (B _ (Array.getElem_mem c) prog w _ _ ?_);by_cases z:i=j
   ·subst z;rw[q]
    wp_walk
    exact⟨_,rfl,h⟩
   ·rw[p i c ⋯]
    wp_walk
    exact⟨rfl,rfl,i+1,⋯,a⟩
  case fin =>
   rintro⟨H,us⟩ s' ⟨C,rfl,i,hi,o⟩;exfalso;have:=aT length o;simp at this;lia
  case h =>
   exact⟨rfl,rfl,0,cD _,'2'⟩
def Qo:V->dG->Hp->VK->Prop:=λx vs H Q=>∃(p:Addr) (ss:At) (z:Str) (j:Nat),x=.ref p/\vs=[.str z]/\H p\(.tup (ss.map V.str))/\ss[j]?\z/\(∀m,m<j->ss[m]?≠some z)/\Q (.int j) H
def Qp(r:V->dG->Hp->VK->Prop)(to:TE)(t:TA):TE:=λY H Q=>to Y H λx H1=>(∃p vs,x=.ref p/\H1 p\(.tup vs))/\t Y H1 λxs H2=>r x xs H2 Q
section
variable{o e:Expr}{to:TE}{t:TA}{name:Str}{id:String}{r:V->dG->Hp->VK->Prop}
theorem YB(slot:Slot "tuple" name id)(j:typeOf (.builtin id)=pure (.type "method_descriptor"))(E:IY X id r)(D:PE X o to)(us:PA X (e::es) t)
  (f:attributeBase o name X.env (eval o X.env)=eval o X.env:=by rfl)
  (g:((backTo qJ (starEach (e::es) X.env)).all (λx=>!x.1)&&(backToKw qJ (keywordEach [] X.env)).all (λx=>x.1.isSome)
   && decide ((e::es).length+([]:List Keyword).length+(if([]:List Keyword).isEmpty then 0 else 1)<30))=true:=by rfl)
  (d:(qK.endLine==qJ.line)=true:=by rfl) (B:starEach (e::es) X.env=(false,eval e X.env)::starEach es X.env:=by rfl) (c:(backTo qJ (starEach es X.env)).any (·.1)=false:=by rfl) :
  PE X (.Call (.Attribute o name qK) (e::es) [] qJ) (Qp r to t):=by
 intro qA s Y H Q I h;refine wpAny_Call_method_late f g d rfl (AH (D qA s Y H _ I h) λv i zz=>?_);obtain⟨x,H1,u,z,⟨p,N,ex,C⟩,q1⟩:=zz;subst ex;cases z;obtain⟨_,qG,_,A⟩:=u.hok p _ C;have l:i.TypeIs (.ref p) "tuple"/\∀a,Value.ref p=.ref a->∃m,i.heap.get? a\m/\m.dict=none:=by
  obtain⟨o',q,L,_,ρ⟩:=A;exact⟨⟨_,q,L⟩,λa e=>by cases e;exact⟨_,q,ρ⟩⟩
 obtain⟨h1,h2⟩:=l;refine⟨"tuple",id,PySem.F.plainAttrs_tuple,slot,j,h1,h2,?_⟩;have n:=us qJ qA i Y H1 _ u q1;rw[B]at n ⊢;refine Calls.callWith_builtin (by show(false||(backTo qJ (starEach es X.env)).any (·.1))=false;rw[c]<;>rfl) (Calls.evalArgs_plain ?_);exact AH n λG w zz=>(by obtain⟨vs,H2,M,y,q2⟩:=zz;exact E qA w Y H2 (.ref p) vs (.ref p) G Q M rfl y q2)
theorem YC:IY X "tuple.index" Qo:=by
 rintro qA s Y H x vs v G Q I N rv⟨p,ss,z,j,rfl,rfl,σ,ρ,C,q⟩;cases N;obtain⟨u,rfl,O⟩:=rv.one;obtain⟨t,rfl⟩:=O;obtain⟨_,qG,w,U⟩:=I.hok p _ σ;have E:=w.length;rw[aA]at E;have l:∀(m:Nat) (g:m<qG.toArray.size),∃x t',ss[m]?\x/\qG.toArray[m]=.str x t':=λm g=>by
  have o:m<ss.length:=by simpa[E]using g
  obtain⟨y,f,t',d⟩:=w.get (i:=m) (x:=V.str ss[m]) (by simp[o]);refine⟨ss[m],t',by simp[o],?_⟩;have A:qG[m]?\(qG.toArray[m]):=by simp[show m<qG.length by simpa using g]
  rw[f]at A;exact(oI A).symm.trans d
 have us:j<ss.length:=(aI.mp ρ).1;have r:j<qG.toArray.size:=by simpa[<-E]using us
 obtain⟨n,B,M⟩:∃(n:Nat) (B:Array Ex),'F' p\{ cls:=.type "tuple",dict:=none,data:=.seq qG.toArray n,slots:=B }:=by
  obtain⟨⟨c,dd,da,B⟩,f,d,⟨n,A⟩,L⟩:=U;simp only at d A L;subst d A L;exact⟨n,B,f⟩
 refine call_meets PySem.F.slot_tuple_index ⟨_,M,rfl⟩ PySem.F.entry_tuple_index (PySem.F.args_tuple_index_2 _ _)
  (YA p qG.toArray _ none _ (.str z t) (λy=>match y with|.str a _=>a==z|_=>false) j r ?_ ?_) ⟨M,λy T=>?_,⟨.int j,H,I.tok _,⟨_,rfl⟩,q⟩⟩
 ·obtain⟨x,t',f,d⟩:=l j r;rw[ρ]at f;cases f;rw[d];simp
 ·intro m g D;obtain⟨x,t',f,d⟩:=l m g;rw[d];have:x≠z:=λe=>C m D (by rw[f,e]);simp[this]
 ·obtain⟨m,g,rfl⟩:=Array.getElem_of_mem T;obtain⟨x,t',f,d⟩:=l m g;rw[d];exact EqAt.str_str x t' z t
end
end L2
namespace L2
open PySem PySem.Spec PyProof.Rows PySem.W
def Qq(po pe:pE):pE:=λJ K=>po J λx _=>(∃xs,x=.tup xs)/\pe J λy _=>∃(ss:At) (z:Str) (j:Nat),x=AO ss/\y=.str z/\ss[j]?\z/\(∀m,m<j->ss[m]?≠some z)/\K (.int j) .fr
section
variable{o e:Expr}{po:pE}
theorem Qr(D:QE Xs o po)(I:QE Xs e pe)(ρ:∀i,attributeBase o "index" (Xs i).env (eval o (Xs i).env)=eval o (Xs i).env:=by rfl)
  (E:(qK.endLine==qJ.line)=true:=by rfl) (d:∀i,starEach [e] (Xs i).env=[(false,eval e (Xs i).env)]:=by rfl):QE Xs (.Call (.Attribute o "index" qK) [e] [] qJ) (Qq po pe):=by
 obtain⟨to,C,B⟩:=D;obtain⟨te,σ,U⟩:=I;refine⟨Qp Qo to (Bx te CD),λi=>YB PySem.F.slot_tuple_index PySem.F.type_tuple_index YC (C i) (Ag (σ i) Az (d i)) (ρ i) (by rw[d i];rfl) E (d i) rfl,λW J Y H Q K ok us q=>B W J Y H _ _ ok us λx f v H1 zz n r=>?_⟩;obtain⟨⟨xs,ex⟩,h1⟩:=zz;have a:=ok.step n;subst ex;obtain⟨p,G,rfl,c,rv⟩:=Cb a r;refine⟨⟨p,G,rfl,c⟩,U W J Y H1 _ _ a h1 λy g u H2 zz l A=>?_⟩;obtain⟨ss,z,j,T,O,N,M,k2⟩:=zz;have h:=a.step l;obtain⟨p',w,L,s,m⟩:=Cb h (r.step a l);cases L;cases T;subst O;cases FN h A;rw[AC.strs.mp m]at s;exact⟨p,ss,z,j,rfl,rfl,s,N,M,q _ _ _ _ k2 (n.trans l) EI⟩
end
theorem YD(I:Inv X qA Y H s)(hm:s.heap.Ns X.env.locals m){ps:List (Addr×By)}(ht:∀q∈ps,H q.1\(.tup (q.2.map V.int)))(a5:ps.length<64)(n0:0<n)(hn:∀q∈ps,q.2.length=n)(h2:¬ps.length<2)
  {A':Around} {ρ:Nat} {tk:Nat} {Q:Shared->Prop} (F':Fr (Att.noObjs s.heap) X.env.locals h' m) (N':News (Att.noObjs s.heap) X.env.locals h' ((D,seqObj "list" #[] ρ)::D9 (Att.noObjs s.heap) s.heap X.env.locals))
  (hD:∀q∈D9 (Att.noObjs s.heap) s.heap X.env.locals,q.1<D)
  (kk:∀(x:List (Addr×By)),H D=none->x.Perm ps->B6 (x.map (·.2))->∀h2 tk,Inv X qA Y (AD H D (.lst (DL x))) { s with heap:=h2,toks:=tk }->Q { s with heap:=h2,toks:=tk }) :
  wpAny (model X.prog X.w) A' (keyKind' (ps.map λq=>Value.ref q.1).toArray) (λκ s'=>(kas_sort (ps.map λq=>Value.ref q.1).length).kasWp (kas_ask X.prog X.w A' κ (ps.map λq=>Value.ref q.1)) (λp a0=>KasFin (Att.noObjs s.heap) X.env.locals m D ρ (p.toList.map λi=>(ps.map λq=>Value.ref q.1).getD i Value.none) Q a0) s') '9' { s with heap:=h',toks:=tk }:=by
 have r:(ps.map λq=>Value.ref q.1).length=ps.length:='2'
 have A:∀b o,b≠X.env.locals->'F' b\o->h'.get? b\o:=λb o nb e=>N'.get (bT _ (Ea nb (Att.noObjs_get _ _) e));have nL:∀b o,H b\o->b≠X.env.locals:=λb o e z=>by subst z;rw[I.free]at e;cases e
 have d:∀q∈ps,∃G,IntsAre G q.2/\∃o n,h'.get? q.1\o/\o.cls=.type "tuple"/\o.data=.seq G.toArray n:=λq E=>by
  obtain⟨G,w1,tt,_⟩:=I.tuple (.of (ht q E));obtain⟨o,ρ,e2,n',e3⟩:=tt;exact⟨G,Gd w1,o,n',A _ _ (nL _ _ (ht q E)) ρ,e2,e3⟩
 obtain⟨fs,kt,fl,fi⟩:=Ld d (λq E=>by rw[hn q E];exact n0);refine kat_kind (T:=.type "int") kt ⋯ (λv hv=>?_) rfl ?_
 ·obtain⟨i,t,rfl⟩:=fi v hv;exact P4 _ _ i t
 ·have B:∀i (hi:i<ps.length),(ps.map λq=>Value.ref q.1).getD i Value.none=.ref ps[i].1:=λi hi=>by
   rw[bW,bO,aH hi];rfl
  refine K5 (lt:=BD (O:=En) λi=>((ps[i]?).map (·.2)).getD []) (n:=ps.length) (λi j C hi us q=>?_) _ (by rw[r];exact Oj ⋯) ?_
  ·unfold kas_ask;rw[B i hi,B j us];obtain⟨G,a1,o1,n1,b1,c1,d1⟩:=d ps[i] (getElem_mem hi);obtain⟨vs,a2,o2,n2,b2,c2,d2⟩:=d ps[j] (getElem_mem us);have l1:=a1.length;have l2:=a2.length;have l3:=hn ps[i] (getElem_mem hi);have l4:=hn ps[j] (getElem_mem us);refine kat_lt b1 d1 b2 d2 ?_;rw[show decide (G.toArray.size<vs.toArray.size)=false by rw[size_toArray,size_toArray];exact cJ ⋯];refine Om 0 a1 a2 ⋯ ?_;simp only[BD,aH hi,aH us,Option.map_some,Option.getD_some]at q;exact q
  ·obtain⟨pp,M⟩:=Oc (O:=En) (key:=λi=>((ps[i]?).map (·.2)).getD []) (n:=ps.length) ⋯ _ rfl;rw[r];generalize ev (BD (O:=En) λi=>((ps[i]?).map (·.2)).getD []) (kas_sort ps.length)=pr at pp M;refine KasFin.intro (g:=λo=>(D,o)::D9 (Att.noObjs s.heap) s.heap X.env.locals) F' N' (.head λq E=>bX (hD q E)) λh2 c F2 N2=>?_;have nD:∀u,'F' D≠some u:=λu e=>aX _ (hD (D,u) (Ea (N' _ cA).2.1 (Att.noObjs_get _ _) e));have U:H D=none:=by
    cases e:H D with
    |none=>rfl
    |some o=>obtain⟨u,e2⟩:=(I.hok D o e).there;exact bS e2 (nD u)
   have y:pr.toList.Perm (List.range ps.length):=by simpa using Array.perm_iff_toList_perm.mp pp
   have l:∀i∈pr.toList,i<ps.length:=λi hi=>bH.mp (y.mem_iff.mp hi);have L:Addr×By:=(0,[]);have eo:(pr.toList.map λi=>(ps.map λq=>Value.ref q.1).getD i Value.none)=((pr.toList.map λi=>ps.getD i L).map λq=>Value.ref q.1):=by
    rw[bZ];refine cF λi hi=>?_;have hi:=l i hi;rw[B i hi,Function.comp,bW,aH hi];rfl
   have f:(pr.toList.map λi=>ps.getD i L).Perm ps:=by
    have ρ:((List.range ps.length).map λi=>ps.getD i L)=ps:=by
     apply ext_getElem?;intro i;rw[bO];by_cases hi:i<ps.length
     ·rw[getElem?_range hi,aH hi,Option.map_some,bW,aH hi];rfl
     ·rw[bQ (by rw[bG];lia),bQ ⋯];rfl
    have:=y.map λi=>ps.getD i L;rw[ρ]at this;exact this
   refine kk _ U f ?_ _ _ (I.laidF (t':=tk) (o:=.lst (DL (pr.toList.map λi=>ps.getD i L))) hm F2.ns (λb u nb e=>N2.get (bT _ (Ea nb (Att.noObjs_get _ _) e))) U nD ⟨?_,_,c,HV _,?_⟩)
   rotate_left
   ·rw[aA,f.length_eq];exact aY (C0 ⋯)
   ·have:=N2.get (a:=D) cA;rw[eo]at this;exact this
   ·unfold B6;rw[pairwise_iff_getElem];intro i j hi us a3;have a4:i<pr.toList.length:=by simpa using hi
    have N:j<pr.toList.length:=by simpa using us
    have hs:=M i j (aY a3) (by rw[<-bG (n:=ps.length),<-y.length_eq];exact N);have σ:∀i (h:i<pr.toList.length),KP (O:=En) (λi=>((ps[i]?).map (·.2)).getD []) pr i=(ps.getD (pr.toList[i]) L).2:=λi h=>by
     have h3:pr.toList[i]<ps.length:=l _ (getElem_mem h);have h4:i<pr.size:=by simpa using h
     unfold KP;rw[Array.getD_eq_getD_getElem?,show pr[i]?\pr.toList[i] by simp[h4]];simp only[Option.getD_some];rw[bW,aH h3];rfl
    simp only[getElem_map];rw[<-σ i a4,<-σ j N];exact hs
def Qs:dG->Hp->VK->Prop:=λxs H Q=>∃(p:Addr) (ks:List By) (vs:dG),xs=[.ref p]/\H p\(.dT ((ks.map Ab).zip vs))/\ks.length=vs.length/\ks.length<64/\(ks.length<2\/∃n,0<n/\∀r∈ks,r.length=n) /\
 ∀(l:Addr) (ps':List (Addr×By)),H l=none->(∀q∈ps',H q.1\(.tup (q.2.map V.int)))->(ps'.map (·.2)).Perm ks->B6 (ps'.map (·.2))->Q (.ref l) (AD H l (.lst (DL ps')))
theorem YE(hc:X.calm=true):BK X (.builtin "sorted") Qs:=by
 rintro qA s Y H xs G Q I r⟨p,ks,vs,rfl,hp,N,a6,ρ,k⟩;obtain⟨u,rfl,ru⟩:=r.one;cases ru;obtain⟨es,ep,a5,rd,hd,hz,e1,e2,e3⟩:=QL I.hok hp;rw[map_fst_zip (by rw[aA,N];exact aQ _)]at e1;obtain⟨ps,a1,a2,a3⟩:=QN e1;have B:∀q∈ps,H q.1\(.tup (q.2.map V.int)):=λq i=>by
  have:=e2 _ (a3 q i);rw[Lm]at this;exact this
 have er:(es.toList.map (·.key))=ps.map λq=>Value.ref q.1:=by
  rw[e3];have:=aT (map Value.ref) a1;simpa[bZ,Function.comp_def]using this.symm
 have E:ps.length=ks.length:=by rw[<-a2,aA]
 have T:es.size=ps.length:=by
  have:=aT length er;simpa using this
 obtain⟨m,M,_⟩:=I.loc;refine kdu_sorted (Li hd) (I.ok.hd hc) (Att.fr_all M) (NE (g:=Att.noObjs s.heap) (L:=X.env.locals)) rd (by rw[T,E];exact aY (C0 ⋯)) λD h' tk v F' N' σ hl hv=>?_;have ew:v=ps.map λq=>Value.ref q.1:=by
  rw[<-er];apply ext_getElem?;intro j;by_cases hj:j<v.length
  ·obtain⟨O,e⟩:=hv j v[j] (by simp[hj]);rw[aH hj,e,bO];simp[O]
  ·rw[bQ ⋯,bQ '4']
 subst ew;have perm:∀c:List (Addr×By),c.Perm ps->(c.map (·.2)).Perm ks:=λc d=>by rw[<-a2];exact d.map _
 have A:∀c:List (Addr×By),c.Perm ps->∀q∈c,H q.1\(.tup (q.2.map V.int)):=λc d q i=>B q (d.mem_iff.mp i);have w:∀u,'F' D≠some u:=λu e=>aX _ (σ (D,u) (Ea (N' _ cA).2.1 (Att.noObjs_get _ _) e));have f:H D=none:=by
  cases e:H D with
  |none=>rfl
  |some o=>obtain⟨u,e2⟩:=(I.hok D o e).there;exact bS e2 (w u)
 by_cases h2:ps.length<2
 ·have l:h'.get? D\(seqObj "list" (ps.map λq=>Value.ref q.1).toArray 0):=N'.get (a:=D) cA;have U:X.env.locals≠D:=λz=>(N' _ cA).2.1 z.symm;refine cP slot_list_sort ⟨_,l,rfl⟩ entry_list_sort (P1 l (~~~h2) ⟨_,rfl,?_⟩) (args_list_sort _);obtain⟨e,he⟩:=sortedHeap_at (out:=(ps.map λq=>Value.ref q.1).toArray) l;have us:(sortedHeap h' D (ps.map λq=>Value.ref q.1) (ps.map λq=>Value.ref q.1).toArray).Ns X.env.locals m:=by
   obtain⟨o',x,y,e',rr⟩:=F'.ns;exact⟨o',x,y,(sortedHeap_old U (bN e')).trans e',rr⟩
  refine⟨.ref D,_,I.laidF (t':=tk) (o:=.lst (DL ps)) M us (λb u nb eb=>?_) f w ⟨?_,_,e,HV ps,he⟩,rfl,k D ps f B (perm ps (List.Perm.refl _)) ?_⟩
  ·have e4:=N'.get (bT _ (Ea nb (Att.noObjs_get _ _) eb));rw[sortedHeap_old (show b≠D fromλz=>w u (by rw[<-z];exact eb)) (bN e4)];exact e4
  ·rw[aA];exact aY (C0 ⋯)
  ·match ps,h2 with
   |[],_=>exact List.Pairwise.nil
   |[_],_=>exact pairwise_singleton _ _
 ·obtain⟨n,n0,ρ⟩:=ρ.resolve_left ⋯;refine kat_lsort (g:=λo=>(D,o)::D9 (Att.noObjs s.heap) s.heap X.env.locals) F' N' (.head λq i=>bX (σ q i)) rfl '4' '4' λe1 a7 a4 a0=>?_;exact YD I M B ⋯ n0 (λq i=>ρ _ (by rw[<-a2];exact aP i)) h2 a4 a0 σ λc f d C h2 tk I'=>⟨.ref D,_,I',rfl,k D c f (A c d) (perm c d) C⟩
def Lw:pC:=p1 λx f K=>∃(ks:List By) (xs:dH),x=.dT ks xs/\ks.length<64/\(ks.length<2\/∃n,0<n/\∀r∈ks,r.length=n)/\∀rs':List By,rs'.Perm ks->B6 rs'->K (.lst (rs'.map AM)) .nw
theorem YF:Bz Qs Lw:=λW J Y Hs H Q K xs vs ok st r c q=>by
 unfold Lw p1 at c;split at c
 ·obtain⟨v,rfl,rv⟩:=r.one;obtain⟨ks,xs,rfl,f,j,m⟩:=c;obtain⟨p,G,rfl,_,s,o,n⟩:=FY ok rv;refine⟨p,ks,G,rfl,s,by rw[o,n.length],f,j,λl a g h e d=>q _ _ _ _ (m _ e d) (Step.new ok.bag g) ?_⟩;have i:AC W.b (AG W J Y .nw) H ((a.map (·.2)).map AM) (DL a):=by
   have:=JV (b:=W.b) (Z:=AG W J Y .nw) (H:=H) (ps:=a) h;rw[bZ];exact this
  exact FS ok st '2' '2' i g
 ·exact c.elim
end L2
namespace PySem
open PySem.Sem (wp)
theorem YG:typeLookup (.type "list") (Str.ofString "keys")=pure none:=am_miss_of_fast nofun
theorem YH{o:Obj}{xs:FG}{k:Nat}{Q:Ex->Shared->Prop}
  (m:'F' a\o) (p:o.cls=.type "list") (f:o.data=.seq xs k) (n:o.dict=none) (z:A.handled=none)
  (h:∀h' tk e,Heap.NewExcOf s.heap h' e "AttributeError"->Q none { s with heap:=h',toks:=tk }) :
  'C' (getAttr? (.ref a) (Str.ofString "keys")) Q E s:=by
 obtain⟨c,v,x,r⟩:=o;simp only at p f n;subst p f n;obtain⟨u,g,d,tk,os⟩:=s;have q:∀j,(⟨u,g,d,j,os⟩:Shared).TypeIs (.ref a) "list":=λ_=>⟨_,m,rfl⟩;have us:=sub_AttributeError;have D:=F.slot_list_getattribute.lookup;have C:=F.slot_list_getattribute.bind (.ref a);have B:=am_list_getattr_none;have i:=YG;unfold getAttr? getAttrBy? getAttrBy
 repeat (any_goals (first|assumption|exact q _|((with_reducible show 'A' (call (Value.builtin "list.__getattribute__") _ _) _ _ _);refine call_meets F.slot_list_getattribute (q _) am_entry_list_getattribute (F.args_list_getattribute_2 _ _) (meets_getattribute_miss_list a xs k r (Str.ofString "keys") _ i nofun) ⟨m,by assumption,λh' j e l=>?_⟩)|wp_step))
 obtain⟨t',u',y⟩:=l.there;show 'A' (getattributeRaised _ _ _ _ _ _ _) _ _ _;unfold getattributeRaised
 repeat (any_goals (first|assumption|wp_step))
 all_goals first|exact h _ _ _ l.of|trace_state
end PySem
namespace L2
open PySem PySem.Spec PyProof.Rows PySem.W
theorem Et:plainId "dict.update.loop"=true:=by decide +kernel
theorem JZ:entryFor table "dict.update.loop"\Builtin.«dict.update.loop»:=entryFor_of_fast (by kernel_rfl)
theorem Qt(e:H a\o):AD H a o=H:=by
 funext b
 by_cases c:b=a
 ·subst c;rw[AX,e]
 ·rw[AI c]
theorem YI{qH:List (List AK×V)}{k:List AK}{b:Addr}{r:Value}{B:Around}{Q:Unit->Shared->Prop}(n:(tupleKind (Bq X.prog X.w)).room B)(I:Inv X qA Y H s)(e:H a\(.dT qH))(j:H b\(.tup (k.map kV)))(l:qH.length<sizeLine)(rv:AJ v r)
  (h:∀s',Inv X qA Y (AD H a (.dT (BB qH k v))) s'->Heap.SameBut a s.heap s'.heap->Q () s'):wpAny (model X.prog X.w) B (dictSet a (.ref b) r) Q E s:=by
 obtain⟨z,p,xs,d,dd⟩:=Kq I.hok e;have m:xs.length<=sizeLine:=by rw[<-Paired.length d];exact z
 have o:(BB qH k v).length<=sizeLine:=by have:=FF qH k v;lia
 refine wpAny_dictSet_heap (hsz:=m) n (Fp I.hok j) dd λh' dd' f=>h _ ?_ f;obtain⟨q,es,ep,g,h2,y,x,_,u⟩:=dd';refine Gp I (by rw[e];exact True.intro) f ⟨q,g⟩ ⟨o,p,_,(d.put k j rv).keeps λc ys i=>?_,q,es,ep,g,h2,y,x,u⟩;rw[AI (EZ i e '5')];exact i
def GC(qH:List (List AK×V)):List (Addr×List AK×Addr×V)->List (List AK×V)
 |[]=>qH
 |p::r=>GC (BB qH p.2.1 p.2.2.2) r
theorem YJ(hh:A.handled=none)(hr:(tupleKind (Bq X.prog X.w)).room A.in1){R:Result->Shared->Prop}{l:Addr}{ps:List (Addr×List AK×Addr×V)}:∀(n i:Nat) (s:Shared) (H:Hp) (qH:List (List AK×V)),ps.length - i=n->i<=ps.length->Inv X qA Y H s->H d\(.dT qH) ->
  H l\(.lst (ps.map λp=>V.ref p.1))->(∀p∈ps,H p.1\(.tup [.ref p.2.2.1,p.2.2.2])/\H p.2.2.1\(.tup (p.2.1.map kV)))->s.heap.IsListIter it l i->CC X qA H it->qH.length+n<sizeLine ->
  (∀s',Inv X qA Y (AD H d (.dT (GC qH (ps.drop i)))) s'->R (.ok (.ret .none)) s') ->
  wpAny (model X.prog X.w) A.in1 (Builtin.«dict.update.loop» ⟨[.ref d,.ref it,rawInt i,.none],[]⟩) (λfin s'=>match fin with|.done f=>R (.ok f) s'|.again c'=>c'.quiet=true/\codeAny (model X.prog X.w) A c' R s') (λe s'=>R (.error e) s') s:=by
 intro n
 induction n with
 |zero =>
  intro i s H qH hn hi I h el c st ρ E k;have us:i=ps.length:=⋯;obtain⟨qG,rv,pl,hz⟩:=I.list (.of el);have hl:=rv.length;rw[aA]at hl;obtain⟨g,y,O,v,q,m⟩:=ρ;unfold Builtin.«dict.update.loop»;refine wB (wpAny_pyNext_list_end (A:=A.in1) hh st pl.isList '4' λh' eb=>?_);have B:Inv X qA Y H { s with heap:=h' }:=I.turned (t':=s.toks) (λb o L e=>eb b o L e) g y v q m;have:=k _ (by rw[us,drop_length];unfold GC;rw[Qt h];exact B);show 'A' (Builtin.Dict.addKeywords d [] >>= _) _ _ _;exact wB (wP (wP this))
 |succ n ih =>
  intro i s H qH hn hi I h el c st ρ E k;have a:i<ps.length:=⋯;obtain⟨qG,rv,pl,hz⟩:=I.list (.of el);obtain⟨h1,h2⟩:=c ps[i] (getElem_mem a);obtain⟨u,hu,ru⟩:=rv.get (i:=i) (x:=V.ref ps[i].1) (by simp[a]);cases ru;obtain⟨g,y,O,v,q,m⟩:=id ρ;unfold Builtin.«dict.update.loop»;refine wB (wpAny_pyNext_list_item st pl.isList (x:=.ref ps[i].1) (~~~hu) λh' C sb=>?_);have B:Inv X qA Y H { s with heap:=h' }:=I.turned (t':=s.toks) (λb o L e=>(sb.2 b L).trans e) g y v q m;obtain⟨_,ts,σ,o1,N,g2,⟨n1,g3⟩,_⟩:=B.hok _ _ h1;obtain⟨u1,M,rfl,r1,r2⟩:=Na σ;cases r1;have hT:(⟨h',s.gens,s.drawn,s.toks,s.os⟩:Shared).TypeIs (.ref ps[i].1) "tuple":=⟨o1,N,g2⟩;have j:it≠d:=λz=>by rw[z,h]at g;cases g
  dsimp only;refine wB (bM ?_);refine wB (wpAny_tryCatch ?_);unfold Builtin.Dict.pairItems;refine wB (wpAny_typeOf hT ?_);rw[aC '3'];refine wB (wpAny_seqItems N g3 ?_);refine wP ?_;show 'A' (holding [Value.ref ps[i].2.2.1,M] (dictSet d (.ref ps[i].2.2.1) M)) _ _ _;refine bM (YI hr B h h2 ⋯ r2 λs2 I2 D=>?_);refine wP ⟨plainId_quiet Et _,codeAny_builtin JZ ?_⟩;rw[Around.under_plainId Et _];have hc:((i:Int)+1)=((i+1:Nat):Int):=by push_cast;rfl
  rw[hc];have nt:∀b ys,H b\(HO.tup ys)->b≠d:=λb ys e=>EZ e h '5';have a0:=FF qH ps[i].2.1 ps[i].2.2.2;refine ih (i+1) s2 _ _ ⋯ a I2 AX (by rw[AI (EZ el h '5')];exact el) (λp hp=>?_) ?_ ⟨by rw[AI j];exact g,y,O,v,q,m⟩ ⋯ λs' U=>k s' ?_
  ·obtain⟨T,Q⟩:=c p hp;exact⟨by rw[AI (nt _ _ T)];exact T,by rw[AI (nt _ _ Q)];exact Q⟩
  ·obtain⟨o,e,r⟩:=C;exact⟨o,(D.2 it j).trans e,r⟩
  ·rw[Fe]at U;rw[drop_eq_getElem_cons a];exact U
def Qu:dG->Hp->VK->Prop:=λxs H Q=>∃(l:Addr) (ps:List (Addr×List AK×Addr×V)),xs=[.ref l]/\H l\(.lst (ps.map λp=>V.ref p.1))/\(∀p∈ps,H p.1\(.tup [.ref p.2.2.1,p.2.2.2])/\H p.2.2.1\(.tup (p.2.1.map kV)))/\ps.length<16777216 /\
 ∀d,H d=none->Q (.ref d) (AD H d (.dT (GC [] ps)))
theorem Qv{k:Nat}(m:X.calm=true)(E:Room k X.A):BK X (.type "dict") Qu:=by
 rintro qA s Y H xs G Q I r⟨l,ps,rfl,j,g,σ,q⟩;obtain⟨u,rfl,B⟩:=r.one;cases B;have CH:H 'H'=none:=I.hok.fresh (aQ _);have x:Inv X qA Y (AD H 'H' (.dT [])) { s with heap:=s.heap.push { cls:=.type "dict",data:=.dict #[] } } :=
  I.laid (t':=s.toks) (λb o e=>aS _ e) (aQ _) (N8 s.heap (modules_low I.nolimit))
 refine callType_codes (Q₁:=λc a=>c=.ref 'H'/\a={ s with heap:=s.heap.push { cls:=.type "dict",data:=.dict #[] } }) F.kt_called_dict (F.kt_typeCall_dict_1 _) F.entry_dict_init (kt_code_dict_new _ ⟨rfl,rfl⟩) ?_;rintro c a ⟨rfl,rfl⟩;have n:(⟨s.heap.push { cls:=.type "dict",data:=.dict #[] },s.gens,s.drawn,s.toks,s.os⟩:Shared).TypeIs (.ref 'H') "dict":=⟨_,bP _ rfl,rfl⟩;have el:(AD H 'H' (.dT [])) l\(.lst (ps.map λp=>V.ref p.1)):=by rw[AI (Ao j CH)];exact j
 refine⟨n,F.args_dict_init_2 _ _,?_⟩;unfold Builtin.«dict.__init__»;refine wB ?_;unfold Builtin.Dict.selfAndRest;refine wB (wpAny_notOrdered_dict n ?_);show 'A' (pure ('H',[Value.ref l])) _ _ _;refine wP ?_;show 'A' (Builtin.Dict.updateFrom "dict.__init__" 'H' (.ref l) [] .none) _ _ _;unfold Builtin.Dict.updateFrom;obtain⟨qG,rv,pl,C⟩:=x.list (.of el);obtain⟨T,U,N,M,L,ρ⟩:=id pl;refine wB (wpAny_typeOf pl.isList.typeIs ?_);rw[aC '3'];refine wB (YH N M ρ L (I.ok.hd m) λh' tk e D=>?_);have d:=x.kept (t':=tk) (h':=h') D.keeps;simp only[Option.isNone_none,dC];refine wB (wpAny_rule ?_);obtain⟨i,z,f,_⟩:=d.list (.of el);refine wB (wpAny_pyIter_list f.isList ?_);have O:=d.kept (t':=tk) (h':=h'.push { cls:=.type "list_iterator",data:=.fields #[.ref l,.int 0 0] }) λb o e=>aS _ e;refine wP ⟨plainId_quiet Et _,codeAny_builtin JZ ?_⟩;rw[Around.under_plainId Et _];refine YJ (A:=X.A.in1) (l:=l) (ps:=ps) (I.ok.hd m) (tupleKind_room_in1 (by rw[HQ];have:=E.un;lia)) _ 0 _ _ [] rfl (cD _) O AX el (λp us=>?_) ⟨_,bP _ rfl,rfl,rfl⟩ (d.fpOk (aQ _) (d.hok.fresh (aQ _))) ?_ λs' y=>⟨rfl,.ref 'H',_,?_,rfl,q _ CH⟩
 ·obtain⟨w,v⟩:=g p us;exact⟨by rw[AI (Ao w CH)];exact w,by rw[AI (Ao v CH)];exact v⟩
 ·show 0+(ps.length - 0)<16777216;lia
 ·rw[Fe,drop_zero]at y;exact y
def Ja(t:List (By×Int)):List (By×Int):=t.foldl (λa q=>B7 a q.1 q.2) []
def Lx:pC:=p1 λx _ K=>∃t,x=Aa t/\t.length<16777216/\K (DM (Ja t)) .nw
theorem Qw{b:Addr}{Z:Addr->Prop}{H:Hp}:∀{t:List (By×Int)} {G:dG},AC b Z H (t.map BH) G->∃ps:List (Addr×List AK×Addr×V),G=(ps.map λp=>V.ref p.1)/\ps.map (λp=>(p.2.1,p.2.2.2))=t.map (λq=>(Ab q.1,V.int q.2)) /\
  ∀p∈ps,H p.1\(.tup [.ref p.2.2.1,p.2.2.2])/\H p.2.2.1\(.tup (p.2.1.map kV))
 |[],G,h=>⟨[],h,rfl,λ_ h=>nomatch h⟩
 |q::t,G,h=>by
  obtain⟨v,r,rfl,⟨a,o,rfl,c,s,u,rfl,⟨g,ks,rfl,d,k2⟩,e,f,rfl,n,m⟩,h2⟩:=h;obtain⟨ps,l,j,i⟩:=Qw h2;cases(show e=.int q.2 from n);cases(show f=[]from m);rw[AC.ints.mp k2]at d;refine⟨(a,Ab q.1,g,.int q.2)::ps,by rw[l];rfl,by rw[map_cons,map_cons,j],λp hp=>?_⟩;rcases aF.mp hp with rfl|hp
  ·exact⟨c,by rw[Lm];exact d⟩
  ·exact i p hp
theorem YK(a:List (By×Int))(r:By)(c:Int):BB (a.map λq=>(Ab q.1,V.int q.2)) (Ab r) (.int c)=(B7 a r c).map λq=>(Ab q.1,V.int q.2):=by
 unfold BB B7;have e:(a.map λq=>(Ab q.1,V.int q.2)).any (λg=>decide (g.1=Ab r))=decide (r∈a.map (·.1)):=by
  rw[Bool.eq_iff_iff,any_eq_true,aW];constructor
  ·rintro⟨x,i,j⟩;obtain⟨q,d,rfl⟩:=bU.mp i;have:=Dy _ _ (aL j);exact bU.mpr ⟨q,d,this⟩
  ·intro h;obtain⟨q,d,rfl⟩:=bU.mp h;exact⟨_,aP d,aK rfl⟩
 rw[e];by_cases h:r∈a.map (·.1)
 ·rw[aC (aK h),aC h,bZ,bZ];refine cF λq _=>?_;by_cases z:q.1=r
  ·simp[z]
  ·have f:¬Ab q.1=Ab r:=λh=>z (Dy _ _ h);simp[z,f]
 ·rw[aB (~~~h),aB h];simp
theorem Qx:∀(ps:List (Addr×List AK×Addr×V)) (t a:List (By×Int)),ps.map (λp=>(p.2.1,p.2.2.2))=t.map (λq=>(Ab q.1,V.int q.2))->GC (a.map λq=>(Ab q.1,V.int q.2)) ps=(t.foldl (λa q=>B7 a q.1 q.2) a).map λq=>(Ab q.1,V.int q.2)
 |[],[],a,_=>rfl
 |[],_::_,_,h=>by simp at h
 |_::_,[],_,h=>by simp at h
 |p::ps,q::t,a,h=>by
  simp only[map_cons,List.cons.injEq,Prod.mk.injEq]at h;unfold GC;rw[h.1.1,h.1.2,YK,foldl_cons];exact Qx ps t _ h.2
theorem YL(t:List (By×Int)):((t.map (·.1)).map Ab).zip (t.map λq=>V.int q.2)=t.map λq=>(Ab q.1,V.int q.2):=by
 induction t with
 |nil=>rfl
 |cons q t a=>simp only[map_cons,zip_cons_cons,a]
theorem YM{b:Addr}(t:List (By×Int)):AC b Z H (t.map λq=>P.int q.2) (t.map λq=>V.int q.2):=by
 have:=(AC.ints (b:=b) (Z:=Z) (H:=H) (ns:=t.map (·.2)) (vs:=(t.map (·.2)).map V.int)).mpr rfl;simpa[bZ,Function.comp_def]using this
theorem Qy:Bz Qu Lx:=λW J Y Hs H Q K xs vs ok st r g q=>by
 unfold Lx p1 at g;split at g
 ·obtain⟨v,rfl,rv⟩:=r.one;obtain⟨t,rfl,s,m⟩:=g;obtain⟨p,G,rfl,c,l⟩:=Ca ok rv;obtain⟨ps,o,j,n⟩:=Qw l;have i:ps.length=t.length:=by have:=aT length j;simpa using this
  refine⟨p,ps,rfl,by rw[c,o],n,⋯,λd h=>q _ _ _ _ m (Step.new ok.bag h) ?_⟩;have e:=Qx ps t [] j;rw[map_nil]at e;rw[e,show t.foldl (λa q=>B7 a q.1 q.2) []=Ja t from rfl,<-YL];refine⟨⟨d,_,rfl,λz=>ok.dom (f:=.fr) z h,AX,'2',YM _⟩,λ_=>⟨d,rfl,st.free h⟩⟩
 ·exact g.elim
end L2
namespace HT
open PySem PySem.Spec PyProof.Rows
theorem YN{Q:Option Obj->Shared->Prop}(h:Q ('F' a) s):'C' (loadIfAlive a) Q E s:=λc p _=>by
 unfold loadIfAlive;rw[Sem.wp_loadIfAlive];exact h
def Eu(h:Heap)(z TI TO:Addr)(f:Value)(b:Bool):Prop:=h.get? z\{ cls:=.type "zip",dict:=none,data:=.fields #[f,.bool b,.bool false,.ref TI,.ref TO],slots:=#[] }
def GD(h:Heap)(z TI TO:Addr):Prop:=∃f b,(f=.none\/∃a:Nat,f=rawInt a)/\Eu h z TI TO f b
theorem Qz{TI TO:Addr}{Q:Bool->Shared->Prop}(hz:GD s.heap z TI TO)(c:∀r h',Heap.SameBut z s.heap h'->GD h' z TI TO->Q r { s with heap:=h' }) :
  'C' (Builtin.SmallTypes.ownedTupleIsFree (.ref z)) Q E s:=by
 obtain⟨f,b,g,hz⟩:=hz;have same:Heap.SameBut z s.heap s.heap:=⟨rfl,λ_ _=>rfl⟩;unfold Builtin.SmallTypes.ownedTupleIsFree;refine wB (wpAny_field hz rfl (x:=f) rfl ?_);rcases g with rfl|⟨a,rfl⟩
 ·exact wP (c _ _ same ⟨_,_,.inl rfl,hz⟩)
 ·show 'A' (loadIfAlive ((a:Int).toNat) >>= _) _ _ _;refine wB (YN ?_);cases h:'F' (a:Int).toNat with
  |none=>exact wP (c _ _ same ⟨_,_,.inr ⟨a,rfl⟩,hz⟩)
  |some o =>
   show 'A' (field (.ref z) 1 >>= _) _ _ _;refine wB (wpAny_field hz rfl (x:=.bool b) rfl ?_);cases b with
   |true=>exact wP (c _ _ same ⟨_,_,.inr ⟨a,rfl⟩,hz⟩)
   |false=>
    show 'A' (setField (.ref z) 1 (.bool true) >>= _) _ _ _;exact wB (wpAny_setField_rec hz '2' λh' d e=>wP (c _ _ e ⟨_,true,.inr ⟨a,rfl⟩,d⟩))
theorem YO{TI TO:Addr}{k:Nat}{xs ys:FG}{x y a b:Value}{Q:Ex->Shared->Prop}(D:ZipApart z TI TO i1 i2 l1 l2)
  (hz:GD s.heap z TI TO) (ae:IsPair s.heap TI (.ref i1) (.ref i2)) (a5:IsPair s.heap TO a b)
  (h1:s.heap.IsTupleIter i1 l1 k) (h2:s.heap.IsTupleIter i2 l2 k) (hl1:s.heap.IsTuple l1 xs) (hl2:s.heap.IsTuple l2 ys) (hx:xs[k]?\x) (hy:ys[k]?\y)
  (hQ:∀h' a b,GD h' z TI TO->IsPair h' TO a b->h'.IsTupleIter i1 l1 (k+1)->h'.IsTupleIter i2 l2 (k+1)->IsPair h' 'H' x y ->
   (∀c o,c≠z->c≠TO->c≠i1->c≠i2->'F' c\o->h'.get? c\o)->Q (some (.ref 'H')) { s with heap:=h' }) :
  'C' (pyNext (.ref z)) Q E s:=by
 have hT:s.TypeIs (.ref z) "zip":=by obtain⟨f,b,_,e⟩:=hz;exact⟨_,e,rfl⟩
 have u:∀{h h':Heap} {t j:Addr} {qG:FG},h.IsTuple t qG->Heap.SameBut j h h'->t≠j->h'.IsTuple t qG:=λ{h h' t j qG} ⟨o,e,r⟩ sb ne=>⟨o,sb.extBut _ _ ne e,r⟩;have q:∀{h h':Heap} {i t j:Addr} {n:Nat},h.IsTupleIter i t n->Heap.SameBut j h h'->i≠j->h'.IsTupleIter i t n:=λ{h h' i t j n} ⟨o,e,r⟩ sb ne=>⟨o,sb.extBut _ _ ne e,r⟩;unfold pyNext;refine wB (wpAny_attempt (wpAny_callSpecial?_slot (name:=Str.ofString "__next__") hT F.slot_zip_next (cP F.slot_zip_next hT F.entry_zip_next ?_ (F.args_zip_next_1 _))));obtain⟨f0,b0,ag,a9⟩:=id hz;show 'A' (field (.ref z) 2 >>= _) _ _ _;refine wB (wpAny_field a9 rfl (x:=.bool false) rfl ?_);show 'A' (field (.ref z) 3 >>= _) _ _ _;refine wB (wpAny_field a9 rfl (x:=.ref TI) rfl (wB (wpAny_seqItems ae rfl ?_)));show 'A' (Builtin.SmallTypes.ownedTupleIsFree (.ref z) >>= _) _ _ _;refine wB (Qz hz λr g sb af=>?_)
 replace h1:=q h1 sb D.i1z
 replace h2:=q h2 sb D.i2z
 replace hl1:=u hl1 sb D.l1z
 replace hl2:=u hl2 sb D.l2z
 replace a5:IsPair g TO a b:=sb.extBut _ _ D.TOz a5
 have hg:g.objs.size='H':=sb.1;have kp:∀c o,c≠z->'F' c\o->g.get? c\o:=λc o n e=>sb.extBut _ _ n e;rw[<-hg]at hQ;clear hz;obtain⟨f,b1,hf,hz⟩:=af;obtain⟨hp,gn,d,tk,os⟩:=s;dsimp only at hQ kp ⊢;clear sb ae hg hT a9 ag;cases r with
 |true =>
  rw[aC rfl];refine wB (wpAny_rule (wB (wpAny_field hz rfl (x:=.ref TO) rfl ?_)));refine wB (wpAny_setField_rec hz '2' λh₁ N v=>?_)
  replace N:Eu h₁ z TI TO .ellipsis b1:=N
  refine wB ?_;simp only[zipIdx_cons,zipIdx_nil,forIn_cons,forIn_nil];refine wB (wB (wpAny_onRaise ?_));show 'A' (Builtin.SmallTypes.nextOf (.ref i1) >>= _) _ _ _;refine wB (FK (q h1 v D.i1z) (u hl1 v D.l1z) hx λh₂ T m=>wP ?_);have σ:IsPair h₂ TO a b:=m.extBut _ _ D.TOi1 (v.extBut _ _ D.TOz a5);refine wB (wpAny_seqItems σ rfl (wB (wpAny_updateSeq_pair σ λh₃ H B=>?_)))
  replace H:IsPair h₃ TO x b:=H
  refine wB (wpAny_letGo (wP ?_));refine wB (wB (wpAny_onRaise ?_));show 'A' (Builtin.SmallTypes.nextOf (.ref i2) >>= _) _ _ _;refine wB (FK (q (q (q h2 v D.i2z) m D.i12.symm) B D.TOi2.symm) (u (u (u hl2 v D.l2z) m D.l2i1) B D.l2TO) hy λρ O p=>wP ?_);have U:IsPair ρ TO x b:=p.extBut _ _ D.TOi2 H;refine wB (wpAny_seqItems U rfl (wB (wpAny_updateSeq_pair U λl C us=>?_)))
  replace C:IsPair l TO x y:=C
  refine wB (wpAny_letGo (wP (wP ?_)));refine wB (wpAny_seqItems C rfl (wB (wpAny_newTuple ?_)));have a3:l.objs.size=g.objs.size:=by rw[us.1,p.1,B.1,m.1,v.1]
  have a0:Eu l z TI TO .ellipsis b1:=us.extBut _ _ D.TOz.symm (p.extBut _ _ D.i2z.symm (B.extBut _ _ D.TOz.symm (m.extBut _ _ D.i1z.symm N)));have aa:∀c o,c≠z->c≠TO->c≠i1->c≠i2->hp.get? c\o->l.get? c\o:=λc o c1 c2 c3 c4 e=>us.extBut _ _ c2 (p.extBut _ _ c4 (B.extBut _ _ c2 (m.extBut _ _ c3 (v.extBut _ _ c1 (kp _ _ c1 e)))));have ac:l.IsTupleIter i1 l1 (k+1):=q (q (q T B D.TOi1.symm) p D.i12) us D.TOi1.symm;have ab:l.IsTupleIter i2 l2 (k+1):=q O us D.TOi2.symm;have a7:z<l.objs.size:=bN a0;show 'A' (Builtin.SmallTypes.ownedTupleHandOut (.ref z) (.ref l.objs.size) >>= _) _ _ _;refine wB ?_;unfold Builtin.SmallTypes.ownedTupleHandOut;have a8:Eu (l.push { cls:=.type "tuple",data:=.seq #[x,y] }) z TI TO .ellipsis b1:=aS _ a0;refine wB (wpAny_setField_rec a8 '2' λh₇ M a2=>?_)
  replace M:Eu h₇ z TI TO (rawInt l.objs.size) b1:=M
  refine wpAny_setField_rec M '2' λI L a1=>?_
  replace L:Eu I z TI TO (rawInt l.objs.size) false:=L
  have up:∀c o,c≠z->l.get? c\o->I.get? c\o:=λc o c1 e=>a1.extBut _ _ c1 (a2.extBut _ _ c1 (aS _ e));have a4:IsPair I l.objs.size x y:=a1.extBut _ _ (Nat.ne_of_gt a7) (a2.extBut _ _ (Nat.ne_of_gt a7) (bP _ rfl));have a6:∀{i t:Addr} {n:Nat},l.IsTupleIter i t n->i≠z->I.IsTupleIter i t n:=λ{i t n} ⟨o,e,r⟩ ne=>⟨o,up _ _ ne e,r⟩;refine wP ⟨_,rfl,wP ?_⟩;rw[a3]at a4;show Q (some (.ref l.objs.size)) _;rw[a3];exact hQ I x y ⟨_,_,.inr ⟨_,rfl⟩,L⟩ (up _ _ D.TOz C) (a6 ac D.i1z) (a6 ab D.i2z) a4 λc o c1 c2 c3 c4 e=>up c o c1 (aa c o c1 c2 c3 c4 e)
 |false =>
  rw[aB cH];rw[<-Array.forIn_toList];simp only[forIn_cons,forIn_nil];refine wB ?_;refine wB (wB (bM ?_));show 'A' (Builtin.SmallTypes.nextOf (.ref i1) >>= _) _ _ _;refine wB (FK h1 hl1 hx λh₂ T m=>wP ?_);refine wP ?_;refine wB (wB (bM ?_));show 'A' (Builtin.SmallTypes.nextOf (.ref i2) >>= _) _ _ _;refine wB (FK (q h2 m D.i12.symm) (u hl2 m D.l2i1) hy λρ O p=>wP ?_);refine wP (wP ?_);show 'A' (newTuple [x,y] >>= _) _ _ _;refine wB (wpAny_newTuple ?_);have a3:ρ.objs.size=g.objs.size:=by rw[p.1,m.1]
  have up:∀c o,c≠i1->c≠i2->g.get? c\o->(ρ.push { cls:=.type "tuple",data:=.seq #[x,y] }).get? c\o:=λc o c1 c2 e=>aS _ (p.extBut _ _ c2 (m.extBut _ _ c1 e));refine wP ⟨_,rfl,wP ?_⟩;show Q (some (.ref ρ.objs.size)) _;rw[a3];refine hQ _ a b ⟨_,_,hf,up _ _ D.i1z.symm D.i2z.symm hz⟩ (up _ _ D.TOi1 D.TOi2 a5) ?_ ?_ ?_ λc o c1 c2 c3 c4 e=>up c o c3 c4 (kp c o c1 e)
  ·obtain⟨o,e,r⟩:=q T p D.i12;exact⟨o,aS _ e,r⟩
  ·obtain⟨o,e,r⟩:=O;exact⟨o,aS _ e,r⟩
  ·show(Heap.push _ _).get? _=_;rw[<-a3];exact bP _ rfl
theorem YQ{TI TO:Addr}{k:Nat}{xs:FG}{a b:Value}{Q:Ex->Shared->Prop}(hh:A.handled=none)(D:ZipApart z TI TO i1 i2 l1 l2)
  (hz:GD s.heap z TI TO) (O:IsPair s.heap TI (.ref i1) (.ref i2)) (a3:IsPair s.heap TO a b)
  (h1:s.heap.IsTupleIter i1 l1 k) (hl1:s.heap.IsTuple l1 xs) (us:xs[k]?=none)
  (hQ:∀h',(∀c o,c≠z->c≠TO->c≠i1->c≠i2->'F' c\o->h'.get? c\o)->Q none { s with heap:=h' }):'C' (pyNext (.ref z)) Q E s:=by
 have hT:s.TypeIs (.ref z) "zip":=by obtain⟨f,b,_,e⟩:=hz;exact⟨_,e,rfl⟩
 have q:∀{h h':Heap} {t j:Addr} {qG:FG},h.IsTuple t qG->Heap.SameBut j h h'->t≠j->h'.IsTuple t qG:=λ{h h' t j qG} ⟨o,e,r⟩ B σ=>⟨o,B.extBut _ _ σ e,r⟩;have C:∀{h h':Heap} {i t j:Addr} {n:Nat},h.IsTupleIter i t n->Heap.SameBut j h h'->i≠j->h'.IsTupleIter i t n:=λ{h h' i t j n} ⟨o,e,r⟩ B σ=>⟨o,B.extBut _ _ σ e,r⟩;have ρ:∀h' e,(∀c o,c≠z->c≠TO->c≠i1->c≠i2->'F' c\o->h'.get? c\o)->(∃o,h'.get? e\o/\o.cls=.type "StopIteration") ->
   'C' (isInstance (.ref e) (.type "StopIteration") >>= λr=>if r=true then pure none else throw (.ref e)) Q E { s with heap:=h' }:=λh' e hk ⟨o,ho,hc⟩ =>
  wB (wpAny_isInstance (T:="StopIteration") (b:=true) ⟨o,ho,hc⟩ isSubtype_stop (wP (hQ _ hk)))
 unfold pyNext;refine wB (wpAny_attempt (wpAny_callSpecial?_slot (name:=Str.ofString "__next__") hT F.slot_zip_next (cP F.slot_zip_next hT F.entry_zip_next ?_ (F.args_zip_next_1 _))));obtain⟨f0,b0,a1,H⟩:=id hz;show 'A' (field (.ref z) 2 >>= _) _ _ _;refine wB (wpAny_field H rfl (x:=.bool false) rfl ?_);show 'A' (field (.ref z) 3 >>= _) _ _ _;refine wB (wpAny_field H rfl (x:=.ref TI) rfl (wB (wpAny_seqItems O rfl ?_)));show 'A' (Builtin.SmallTypes.ownedTupleIsFree (.ref z) >>= _) _ _ _;refine wB (Qz hz λr g B a0=>?_)
 replace h1:=C h1 B D.i1z
 replace hl1:=q hl1 B D.l1z
 have kp:∀c o,c≠z->'F' c\o->g.get? c\o:=λc o n e=>B.extBut _ _ n e;clear hz;obtain⟨f,b1,hf,hz⟩:=a0;obtain⟨hp,gn,d,tk,os⟩:=s;dsimp only at hQ kp ρ ⊢;clear B O hT H a1 hQ;cases r with
 |true =>
  rw[aC rfl];refine wB (wpAny_rule (wB (wpAny_field hz rfl (x:=.ref TO) rfl ?_)));refine wB (wpAny_setField_rec hz '2' λM m p=>?_)
  replace m:Eu M z TI TO .ellipsis b1:=m
  refine wB ?_;simp only[zipIdx_cons,zipIdx_nil,forIn_cons,forIn_nil];refine wB (wB (wpAny_onRaise ?_));show 'A' (Builtin.SmallTypes.nextOf (.ref i1) >>= _) _ _ _;refine wB (Ie hh (C h1 p D.i1z) (q hl1 p D.l1z) us λu e l zz=>?_);obtain⟨oe,I,N⟩:=zz;have v:Eu u z TI TO .ellipsis b1:=l _ _ D.i1z.symm m;have a2:e≠z:=λx=>by subst x;rw[v]at I;cases I;simp at N
  exact wpAny_setField_rec v '2' λL _ y=>ρ L e (λc o U _ c3 _ x=>y.extBut _ _ U (l _ _ c3 (p.extBut _ _ U (kp _ _ U x)))) ⟨oe,y.extBut _ _ a2 I,N⟩
 |false =>
  rw[aB cH];rw[<-Array.forIn_toList];simp only[forIn_cons,forIn_nil];refine wB ?_;refine wB (wB (bM ?_));show 'A' (Builtin.SmallTypes.nextOf (.ref i1) >>= _) _ _ _;exact wB (Ie hh h1 hl1 us λu e l he=>ρ u e (λc o U _ c3 _ x=>l _ _ c3 (kp _ _ U x)) he)
end HT
namespace PySem
open PySem.Sem (wp)
theorem YR:typeLookup (.type "zip") (Str.ofString "keys")=pure none:=am_miss_of_fast nofun
theorem YS:typeLookup (.type "zip") "__getattr__"=pure none:=by rw[typeLookup_type,builtinLookup_eq_fast];kernel_rfl
theorem YT:entryFor table "zip.__getattribute__"\Builtin.«object.__getattribute__»:=entryFor_alias (id':="object.__getattribute__") (by kernel_rfl) nofun nofun (by kernel_rfl)
theorem YU(a:Addr)(xs:FG)(h:Array Ex)(u:Tok) :
  Meets (Builtin.«object.__getattribute__» ⟨[.ref a,.str (Str.ofString "keys") u],[]⟩) (λA R s=>'F' a\{ cls:=.type "zip",dict:=none,data:=.fields xs,slots:=h }/\raisesAttr (.ref a) (Str.ofString "keys") A R s) :=
 Meets.of_wp λprog w A R s c=>by
  obtain⟨j,g,d,tk,os⟩:=s;obtain⟨i,c⟩:=c;have f:=YR;have e:(["__module__","__name__","__qualname__","__doc__","__annotations__"]:At).contains (Str.ofString "keys")=false:=by decide +kernel
  have l:(⟨j,g,d,tk,os⟩:Shared).TypeIs (.ref a) "zip":=⟨_,i,rfl⟩;unfold Builtin.«object.__getattribute__»
  repeat (any_goals (first|assumption|wp_step))
  exact wpAny_raiseAttrError c.1 c.2 (attrMsg_fits nofun (by size_fits))
theorem YV{xs:FG}{i:Array Ex}{Q:Ex->Shared->Prop}
  (j:'F' a\{ cls:=.type "zip",dict:=none,data:=.fields xs,slots:=i }) (o:A.handled=none)
  (h:∀h' tk e,Heap.NewExcOf s.heap h' e "AttributeError"->Q none { s with heap:=h',toks:=tk }) :
  'C' (getAttr? (.ref a) (Str.ofString "keys")) Q E s:=by
 obtain⟨m,g,d,tk,os⟩:=s;have l:∀c,(⟨m,g,d,c,os⟩:Shared).TypeIs (.ref a) "zip":=λ_=>⟨_,j,rfl⟩;have u:=sub_AttributeError;have r:=F.slot_zip_getattribute.lookup;have q:=F.slot_zip_getattribute.bind (.ref a);have p:=YS;unfold getAttr? getAttrBy? getAttrBy
 repeat (any_goals (first|assumption|exact l _|((with_reducible show 'A' (call (Value.builtin "zip.__getattribute__") _ _) _ _ _);refine call_meets F.slot_zip_getattribute (l _) YT (F.args_zip_getattribute_2 _ _) (YU a xs i _) ⟨j,by assumption,λh' c e f=>?_⟩)|wp_step))
 obtain⟨t',u',n⟩:=f.there;show 'A' (getattributeRaised _ _ _ _ _ _ _) _ _ _;unfold getattributeRaised
 repeat (any_goals (first|assumption|wp_step))
 all_goals first|exact h _ _ _ f.of|trace_state
end PySem
namespace L2
open PySem PySem.Spec PyProof.Rows PySem.W HT
def Ev(qH:List (AK×V)):List (AK×V)->List (AK×V)
 |[]=>qH
 |p::r=>Ev (BB qH p.1 p.2) r
theorem YW{qH:List (AK×V)}{k:AK}{r:Value}{B:Around}{Q:Unit->Shared->Prop}(I:Inv X qA Y H s)(e:H a\(.dK qH))(f:AJ (kV k) u)(l:qH.length<sizeLine)(rv:AJ v r)
  (h:∀s',Inv X qA Y (AD H a (.dK (BB qH k v))) s'->Heap.SameBut a s.heap s'.heap->Q () s'):wpAny (model X.prog X.w) B (dictSet a u r) Q E s:=by
 obtain⟨z,n,vs,c,dd⟩:=Kp I.hok e;have g:vs.length<=sizeLine:=by rw[<-c.length];exact z
 have j:(BB qH k v).length<=sizeLine:=by have:=FF qH k v;lia
 refine wpAny_dictSet_pairs (hsz:=g) (Gk f) dd λh' dd' d=>h _ ?_ d;have m:∃q,h'.get? a\q:=(by obtain⟨q,_,_,i,_⟩:=dd';exact ⟨q,i⟩);exact Gp I (by rw[e];exact True.intro) d m (N6 j n (c.put k rv) dd')
theorem YX(hh:A.handled=none){R:Result->Shared->Prop}{TI TO:Addr}{ks:List AK}(hk:ks.length=vs.length)(Z:ZipApart z TI TO i1 i2 l1 l2):∀(n i:Nat) (s:Shared) (H:Hp) (qH:List (AK×V)) (a b:Value),ks.length - i=n->i<=ks.length->Inv X qA Y H s->H d\(.dK qH) ->
  H l1\(.tup (ks.map kV))->H l2\(.tup vs)->GD s.heap z TI TO->IsPair s.heap TI (.ref i1) (.ref i2)->IsPair s.heap TO a b->s.heap.IsTupleIter i1 l1 i->s.heap.IsTupleIter i2 l2 i ->
  (∀c∈[z,TO,i1,i2],CC X qA H c)->H TI=none->qH.length+n<sizeLine ->
  (∀s',Inv X qA Y (AD H d (.dK (Ev qH ((ks.zip vs).drop i)))) s'->R (.ok (.ret .none)) s') ->
  wpAny (model X.prog X.w) A.in1 (Builtin.«dict.update.loop» ⟨[.ref d,.ref z,rawInt i,.none],[]⟩) (λfin s'=>match fin with|.done f=>R (.ok f) s'|.again c'=>c'.quiet=true/\codeAny (model X.prog X.w) A c' R s') (λe s'=>R (.error e) s') s:=by
 intro n
 induction n with
 |zero =>
  intro i s H qH a b hn hi I ρ L N hz j p m B l g a3 k;have a5:i=ks.length:=⋯;obtain⟨t1,r1,p1,_⟩:=I.tuple (.of L);have z1:=r1.length;rw[aA]at z1;unfold Builtin.«dict.update.loop»;refine wB (YQ (A:=A.in1) hh Z hz j p m p1 '4' λh' M=>?_);have I1:Inv X qA Y H { s with heap:=h' }:=I.turnedL (t':=s.toks) (ch:=[z,TO,i1,i2]) (λc o h e=>M c o (λq=>h (by simp[q])) (λq=>h (by simp[q])) (λq=>h (by simp[q])) (λq=>h (by simp[q])) e) l;have:=k _ (by rw[a5,drop_of_length_le (by rw[length_zip];lia)];unfold Ev;rw[Qt ρ];exact I1);show 'A' (Builtin.Dict.addKeywords d [] >>= _) _ _ _;exact wB (wP (wP this))
 |succ n ih =>
  intro i s H qH a b hn hi I ρ L N hz j p m B l g a3 k;have D:i<ks.length:=⋯;have a4:i<vs.length:=⋯;obtain⟨t1,r1,p1,_⟩:=I.tuple (.of L);obtain⟨t2,r2,p2,_⟩:=I.tuple (.of N);obtain⟨Q,a2,σ⟩:=r1.get (i:=i) (x:=kV ks[i]) (by simp[D]);obtain⟨O,a1,U⟩:=r2.get (i:=i) (x:=vs[i]) (by simp[a4]);unfold Builtin.«dict.update.loop»;refine wB (YO Z hz j p m B p1 p2 (x:=Q) (y:=O) (~~~a2) (~~~a1) λh' a' b' a0 E C v hP M=>?_);have I1:Inv X qA Y H { s with heap:=h' }:=I.turnedL (t':=s.toks) (ch:=[z,TO,i1,i2]) (λc o h e=>M c o (λq=>h (by simp[q])) (λq=>h (by simp[q])) (λq=>h (by simp[q])) (λq=>h (by simp[q])) e) l;have hT:(⟨h',s.gens,s.drawn,s.toks,s.os⟩:Shared).TypeIs (.ref 'H') "tuple":=⟨_,hP,rfl⟩;have nd:∀c,H c=none->c≠d:=λc q w=>by rw[w,ρ]at q;cases q
  have us:IsPair h' TI (.ref i1) (.ref i2):=M _ _ Z.TIz Z.TITO Z.TIi1 Z.TIi2 j;dsimp only;refine wB (bM ?_);refine wB (wpAny_tryCatch ?_);unfold Builtin.Dict.pairItems;refine wB (wpAny_typeOf hT ?_);rw[aC '3'];refine wB (wpAny_seqItems hP rfl ?_);refine wP ?_;show 'A' (holding [Q,O] (dictSet d Q O)) _ _ _;refine bM (YW I1 ρ σ ⋯ U λs2 I2 T=>?_);refine wP ⟨plainId_quiet Et _,codeAny_builtin JZ ?_⟩;rw[Around.under_plainId Et _];have h:((i:Int)+1)=((i+1:Nat):Int):=by push_cast;rfl
  rw[h];have nt:∀b ys,H b\(HO.tup ys)->b≠d:=λb ys e=>EZ e ρ '5';have a7:=FF qH ks[i] vs[i];have u:∀c,H c=none->∀o,h'.get? c\o->s2.heap.get? c\o:=λc q o e=>(T.2 c (nd c q)).trans e;have fz:=l z '2';have a6:=l TO '2';have f1:=l i1 '2';have f2:=l i2 '2';refine ih (i+1) s2 _ _ a' b' ⋯ D I2 AX (by rw[AI (nt _ _ L)];exact L) (by rw[AI (nt _ _ N)];exact N) ?_ (u _ g _ us) (u _ a6.1 _ E) ?_ ?_ (λc h=>?_) (by rw[AI (nd _ g)];exact g) ⋯ λs' I'=>k s' ?_
  ·obtain⟨f,bb,q,e⟩:=a0;exact⟨f,bb,q,u _ fz.1 _ e⟩
  ·obtain⟨o,e,r⟩:=C;exact⟨o,u _ f1.1 _ e,r⟩
  ·obtain⟨o,e,r⟩:=v;exact⟨o,u _ f2.1 _ e,r⟩
  ·obtain⟨q0,q⟩:=l c h;exact⟨by rw[AI (nd _ q0)];exact q0,q⟩
  ·rw[Fe]at I';rw[drop_eq_getElem_cons (by rw[length_zip];lia),getElem_zip];exact I'
def Ly:dG->Hp->VK->Prop:=λxs H Q=>∃(l1 l2:Addr) (ks:List AK) (vs:dG),xs=[.ref l1,.ref l2]/\H l1\(.tup (ks.map kV))/\H l2\(.tup vs)/\ks.length=vs.length/\ks.length<16777216 /\
 ∀d,H d=none->Q (.ref d) (AD H d (.dK (Ev [] (ks.zip vs))))
theorem YY(g:X.calm=true){TI TO:Addr}{ks:List AK}{a b:Value}{Q:VK}(I:Inv X qA Y H s)(M:ks.length=vs.length)(Z:ZipApart z TI TO i1 i2 l1 l2)
  (E:H l1\(.tup (ks.map kV))) (D:H l2\(.tup vs)) (hz:IsZip s.heap z TI TO .none) (p:IsPair s.heap TI (.ref i1) (.ref i2)) (m:IsPair s.heap TO a b) (i:s.heap.IsTupleIter i1 l1 0) (h:s.heap.IsTupleIter i2 l2 0)
  (N:∀c∈[z,TO,i1,i2],CC X qA H c) (n:H TI=none) (U:ks.length<16777216) (q:∀d,H d=none->Q (.ref d) (AD H d (.dK (Ev [] (ks.zip vs))))) :
  'B' (call (.type "dict") [.ref z]) (EP X qA Y Q) X.xe s:=by
 have CH:H 'H'=none:=I.hok.fresh (aQ _);have T:Inv X qA Y (AD H 'H' (.dK [])) { s with heap:=s.heap.push { cls:=.type "dict",data:=.dict #[] } } :=
  I.laid (t':=s.toks) (λb o e=>aS _ e) (aQ _) (Va s.heap (modules_low I.nolimit))
 refine callType_codes (Q₁:=λj f=>j=.ref 'H'/\f={ s with heap:=s.heap.push { cls:=.type "dict",data:=.dict #[] } }) F.kt_called_dict (F.kt_typeCall_dict_1 _) F.entry_dict_init (kt_code_dict_new _ ⟨rfl,rfl⟩) ?_;rintro j f ⟨rfl,rfl⟩;have C:(⟨s.heap.push { cls:=.type "dict",data:=.dict #[] },s.gens,s.drawn,s.toks,s.os⟩:Shared).TypeIs (.ref 'H') "dict":=⟨_,bP _ rfl,rfl⟩;have y:∀b o,'F' b\o->(s.heap.push { cls:=.type "dict",data:=.dict #[] }).get? b\o:=λb o e=>aS _ e;have l:=y _ _ hz;have x:(⟨s.heap.push { cls:=.type "dict",data:=.dict #[] },s.gens,s.drawn,s.toks,s.os⟩:Shared).TypeIs (.ref z) "zip":=⟨_,l,rfl⟩;have nd:∀c o,'F' c\o->c≠'H':=λc o e=>bX (bN e);refine⟨C,F.args_dict_init_2 _ _,?_⟩;unfold Builtin.«dict.__init__»;refine wB ?_;unfold Builtin.Dict.selfAndRest;refine wB (wpAny_notOrdered_dict C ?_);show 'A' (pure ('H',[Value.ref z])) _ _ _;refine wP ?_;show 'A' (Builtin.Dict.updateFrom "dict.__init__" 'H' (.ref z) [] .none) _ _ _;unfold Builtin.Dict.updateFrom;refine wB (wpAny_typeOf x ?_);rw[aC '3'];refine wB (YV l (I.ok.hd g) λh' tk e B=>?_);have O:=T.kept (t':=tk) (h':=h') B.keeps;simp only[Option.isNone_none,dC];refine wB (wpAny_rule ?_);have k2:∀b o,'F' b\o->h'.get? b\o:=λb o e=>B.keeps _ _ (y _ _ e);refine wB (wpAny_pyIter_zip (k2 _ _ hz) ?_);refine wP ⟨plainId_quiet Et _,codeAny_builtin JZ ?_⟩;rw[Around.under_plainId Et _];have v:l1≠'H':=Ao E CH;have u:l2≠'H':=Ao D CH;refine YX (A:=X.A.in1) (ks:=ks) (vs:=vs) (I.ok.hd g) M Z _ 0 _ _ [] a b rfl (cD _) O AX (by rw[AI v];exact E) (by rw[AI u];exact D) ⟨_,_,.inl rfl,k2 _ _ hz⟩ (k2 _ _ p) (k2 _ _ m) ?_ ?_ (λc g=>?_) ?_ ?_ λs' us=>⟨rfl,.ref 'H',_,?_,rfl,q _ CH⟩
 ·obtain⟨o,e,r⟩:=i;exact⟨o,k2 _ _ e,r⟩
 ·obtain⟨o,e,r⟩:=h;exact⟨o,k2 _ _ e,r⟩
 ·obtain⟨ρ,q1⟩:=N c g;have L:c≠'H':=by
   simp only[aF,bB,or_false]at g;rcases g with rfl|rfl|rfl|rfl
   ·exact nd _ _ hz
   ·exact nd _ _ m
   ·obtain⟨o,e,_⟩:=i;exact nd _ _ e
   ·obtain⟨o,e,_⟩:=h;exact nd _ _ e
  exact⟨by rw[AI L];exact ρ,q1⟩
 ·rw[AI (nd _ _ p)];exact n
 ·show 0+(ks.length - 0)<16777216;lia
 ·rw[Fe,drop_zero]at us;exact us
theorem YZ{d:Expr}{t:TA}{p1 p2 pos2:Pos}(a:X.calm=true)(D:Gl X "dict")(A:X.mg "dict"=none)(p:Gl X "zip")(o:X.mg "zip"=none)(us:PA X (d::es) t)
  (E:starEach (d::es) X.env=(false,eval d X.env)::starEach es X.env) (n:(backTo pos2 (starEach es X.env)).any (·.1)=false)
  (e:starEach [.Call (.Name "zip" p2) (d::es) [] pos2] X.env=[(false,eval (.Call (.Name "zip" p2) (d::es) [] pos2) X.env)]) :
  PE X (.Call (.Name "dict" p1) [.Call (.Name "zip" p2) (d::es) [] pos2] [] pos) (DD Ly t):=by
 intro qA s Y H Q I h;refine wpAny_Call_Name_kw (EA I D A (show bootBuiltins "dict"\(.type "dict") from nofun) ?_ nofun nofun);refine PyProof.Rows.callWith_type1 ?_ e rfl;rw[e];show 'A' (spliced [(false,eval (.Call (.Name "zip" p2) (d::es) [] pos2) X.env)]) _ _ s;refine Calls.spliced_cons ?_;refine wpAny_Call_Name_kw (EA I p o (show bootBuiltins "zip"\(.type "zip") from nofun) ?_ nofun nofun);refine PyProof.Rows.callWith_type1 (AH (us pos2 qA s Y H _ I h) λG g zz=>?_) E n;obtain⟨vs,H1,f,x,q1⟩:=zz;obtain⟨l1,l2,ks,xs,rfl,w,v,C,B,q⟩:=q1;obtain⟨O,N,rfl,j,i⟩:=Na x;cases j;cases i;obtain⟨U,M,p1,_⟩:=f.tuple (.of w);obtain⟨T,L,p2,_⟩:=f.tuple (.of v);have m:l1<g.heap.objs.size:=p1.lt;have l:l2<g.heap.objs.size:=p2.lt;refine dO p1 p2 λh' z u r i1 i2 y=>Calls.spliced_nil ?_;have ρ:=f.kept (t':=g.toks) (h':=h') y;have fp:∀c,g.heap.objs.size<=c->CC X qA H1 c:=λc a=>f.fpOk a (f.hok.fresh a);exact YY a ρ C (zipApart_new m l) w v z u r i1 i2 (λc a=>fp c (by
  simp only[aF,bB,or_false]at a;rcases a with h|h|h|h<;>rw[h]<;>first|exact Nat.le_add_right _ _|exact aQ _)) (fp _ (Nat.le_add_right _ _)).1 B q
end L2
namespace L2
open PySem PySem.Spec PyProof.Rows PySem.W
def Lz:pC:=λxs K=>match xs with
 |[(x,_),(y,_)]=>∃(ks:At) (ns:By),x=.tup (ks.map P.str)/\y=.tup (ns.map P.int)/\ks.Nodup/\ks.length=ns.length/\ks.length<16777216/\K (.dK ks (ns.map P.int)) .nw
 |_=>False
theorem Q0:∀(ps a:List (AK×V)),((a++ps).map (·.1)).Nodup->Ev a ps=a++ps
 |[],a,_=>(append_nil a).symm
 |p::r,a,h=>by
  have e:BB a p.1 p.2=a++[p]:=by
   unfold BB;rw[aB];intro z;obtain⟨q,c,e⟩:=any_eq_true.mp z;rw[cN,map_cons]at h;exact(nodup_append.mp h).2.2 _ (aP c) _ cA (aL e)
  unfold Ev;rw[e,Q0 r _ (~~~h),bK];rfl
theorem Ya:Bz Ly Lz:=λW J Y Hs H Q K xs vs ok st r a q=>by
 unfold Lz at a;split at a
 ·obtain⟨v,u,rfl,rv,j⟩:=r.two;obtain⟨ks,ns,rfl,rfl,nd,s,n,w⟩:=a;obtain⟨p,G,rfl,i,m⟩:=Cb ok rv;obtain⟨p2,ws,rfl,x,l⟩:=Cb ok j;rw[AC.strs.mp m]at i;have g:=AC.ints.mp l;have o:ws.length=ns.length:=by rw[g,aA]
  refine⟨p,p2,ks.map C1,ws,rfl,by rw[i,bZ];rfl,x,by rw[aA];lia,by rw[aA];exact n,λd c=>q _ _ _ _ w (Step.new ok.bag c) ?_⟩;have e:Ev [] ((ks.map C1).zip ws)=(ks.map C1).zip ws:=by
   rw[Q0 _ [] (by
    rw[nil_append,map_fst_zip (by rw[aA];lia)];exact List.Pairwise.map _ (λ_ _ h z=>h (JS _ _ z)) nd),nil_append]
  rw[e];exact⟨⟨d,ws,rfl,λz=>ok.dom (f:=.fr) z c,AX,by rw[aA];exact s,AC.ints.mpr g⟩,λ_=>⟨d,rfl,st.free c⟩⟩
 ·exact a.elim
section
variable{a:Expr}{p1 p2 pos2:Pos}{p:pA}
theorem Q3(l:∀i,(Xs i).calm=true)(g:∀i,(Xs i).mg "dict"=none)(d:∀i,(Xs i).mg "zip"=none)(m:QA Xs (a::es) p)(h:∀i,Gl (Xs i) "dict":=by rfl)(e:∀i,Gl (Xs i) "zip":=by rfl)
  (j:∀i,starEach (a::es) (Xs i).env=(false,eval a (Xs i).env)::starEach es (Xs i).env:=by rfl) (c:∀i,(backTo pos2 (starEach es (Xs i).env)).any (·.1)=false:=by rfl)
  (f:∀i,starEach [.Call (.Name "zip" p2) (a::es) [] pos2] (Xs i).env=[(false,eval (.Call (.Name "zip" p2) (a::es) [] pos2) (Xs i).env)]:=by rfl) :
  QE Xs (.Call (.Name "dict" p1) [.Call (.Name "zip" p2) (a::es) [] pos2] [] pos) (EG Lz p):=by
 obtain⟨t,h1,h2⟩:=m;exact⟨DD Ly t,λi=>YZ (l i) (h i) (g i) (e i) (d i) (h1 i) (j i) (c i) (f i),G9 Ya h2⟩
end
def Q4:dG->Hp->VK->Prop:=λxs H Q=>∃(p:Addr) (qH:List (AK×V)),xs=[.ref p]/\H p\(.dK qH)/\∀l:Addr,H l=none->Q (.ref l) (AD H l (.lst (qH.map λq=>kV q.1)))
theorem Yb{P:Program}{k:AK}(h:(Bq P w).is k u=true):AJ (kV k) u:=by
 rcases Dr h with⟨i,t,rfl,rfl⟩|⟨x,t,rfl,rfl⟩
 ·exact⟨t,rfl⟩
 ·exact⟨t,rfl⟩
theorem Yc{P:Program}{es:List DictEntry}{vs:List (AK×Value)}(h:Pairs (Bq P w) es vs):AQ (vs.map λq=>kV q.1) (es.map (·.key)):=by
 induction h with
 |nil=>exact .nil
 |cons h _ t a=>exact .cons (Yb h) a
theorem Q5:∀{qH:List (AK×V)} {vs:List (AK×Value)},KV qH vs->(qH.map λq=>kV q.1)=vs.map λq=>kV q.1
 |_,_,.nil=>rfl
 |_,_,.cons r t=>by rw[map_cons,map_cons,Q5 t,r.1]
theorem Yd(m:X.calm=true):BK X (.type "list") Q4:=by
 rintro qA s Y H xs G Q I r⟨p,e,rfl,i,k⟩;obtain⟨u,rfl,g⟩:=r.one;cases g;obtain⟨y,l,vs,c,o,es,ep,h1,h2,v,_,f,_⟩:=Kp I.hok i;have b:=c.length;have z:es.size=e.length:=by
  have a:=f.length;simp at a;lia
 refine kdl_call (Li l) (I.ok.hd m) ⟨o,h1,h2,v⟩ ⋯ λh' tk cf x j n d=>?_;have w:=QM d rfl;refine⟨.ref 'H',_,I.laid (t':=tk) (o:=.lst (e.map λq=>kV q.1)) j (aQ _) ⟨?_,cf.toList,x,?_,?_⟩,rfl,k _ (I.hok.fresh (aQ _))⟩
 ·rw[aA];lia
 ·rw[w,Q5 c];exact Yc f
 ·simpa using n
def Q6:pC:=p1 λx f K=>match x with
 |.dK ks vs=>K (.lst (ks.map P.str)) .nw
 |_=>False
theorem Ye:Bz Q4 Q6:=λW J Y Hs H Q K xs vs ok st r a q=>by
 unfold Q6 p1 at a;split at a
 ·obtain⟨v,rfl,rv⟩:=r.one;split at a
  ·rename_i ks d;obtain⟨p,G,rfl,_,h,g,f⟩:=JT ok rv;refine⟨p,_,rfl,h,λl c=>q _ _ _ _ a (Step.new ok.bag c) ?_⟩;have e:((ks.map C1).zip G).map (λq=>kV q.1)=ks.map V.str:=by
    rw[show(λq:AK×V=>kV q.1)=kV ∘ Prod.fst from rfl,<-bZ,map_fst_zip (by rw[aA,g,f.length];exact aQ _),bZ];rfl
   rw[e];exact FS ok st '2' '2' (AC.strs.mpr rfl) c
  ·exact a.elim
 ·exact a.elim
end L2
namespace L2
open PySem PySem.Spec PyProof.Rows
section
variable{ky:Keyed->O.α}
variable{a b out:List Keyed}{ia ib k:Nat}
end
section
variable{M:Model}{κ:SortKind}{ky:Keyed->O.α}{mem:Keyed->Prop}
end
section
variable{ky:Keyed->O.α}
variable{a b out:List Keyed}{na nb:Nat}
end
section
variable{M:Model}{κ:SortKind}{ky:Keyed->O.α}{mem:Keyed->Prop}
end
section
variable{M:Model}{κ:SortKind}{ky:Keyed->O.α}{mem:Keyed->Prop}
end
section
variable{M:Model}{κ:SortKind}{ky:Keyed->O.α}{mem:Keyed->Prop}
end
section
variable{M:Model}{κ:SortKind}{ky:Keyed->O.α}{mem:Keyed->Prop}
variable{a0:Array Keyed}{st:SortSt}{rs:List (List Keyed)}{qF:List Keyed}
end
end L2
namespace L2
open PySem PySem.Spec PyProof.Rows PySem.W
abbrev rv(ps:List (Addr×By)):Do:=ps.map λq=>Value.ref q.1
end L2
namespace L2
open PySem
abbrev Tl:=List (By×Int)
theorem Yf(t:Tl)(r:By)(c:Int)(r':By):AY (B7 t r c) r'=if r'=r then some c else AY t r':=by
 unfold B7;split
 ·rename_i f;by_cases e:r'=r
  ·subst e;rw[aC rfl];obtain⟨q,hq,e⟩:=bU.mp f;unfold AY
   induction t with
   |nil=>simp at hq
   |cons p t g =>
    rw[map_cons,find?_cons];by_cases a:p.1=r'
    ·simp[a]
    ·rw[aB a];simp only[a,decide_false];refine g ?_ ?_
     ·rcases bU.mp f with⟨z,hz,h⟩
      rcases aF.mp hz with rfl|hz
      ·exact bS h a
      ·exact bU.mpr ⟨z,hz,h⟩
     ·rcases aF.mp hq with rfl|hq
      ·exact bS e a
      ·exact hq
  ·rw[aB e];unfold AY;clear f
   induction t with
   |nil=>rfl
   |cons p t g =>
    rw[map_cons,find?_cons,find?_cons];by_cases a:p.1=r
    ·rw[aC a];have:¬p.1=r':=λz=>e (by rw[<-z,a]);simp only[this,decide_false];exact g
    ·rw[aB a];by_cases d:p.1=r'
     ·simp[d]
     ·simp only[d,decide_false];exact g
 ·rename_i f;unfold AY;rw[find?_append];by_cases e:r'=r
  ·subst e;rw[aC rfl];have:t.find? (λq=>decide (q.1=r'))=none:=find?_eq_none.mpr λq hq=>by
    simp only[decide_eq_true_eq];exactλz=>f (bU.mpr ⟨q,hq,z⟩)
   rw[this];simp
  ·rw[aB e];have:([(r,c)]:Tl).find? (λq=>decide (q.1=r'))=none:=by
    have:¬r=r':=λz=>e z.symm;simp[this]
   rw[this];cases t.find? (λq=>decide (q.1=r'))<;>rfl
theorem L0{t:Tl}(h:r∉t.map (·.1)):AY t r=none:=by
 unfold AY;rw[find?_eq_none.mpr λq a=>?_]
 ·rfl
 ·simp only[decide_eq_true_eq];exactλz=>h (bU.mpr ⟨q,a,z⟩)
theorem Q7{t:Tl}(nd:(t.map (·.1)).Nodup)(h:q∈t):AY t q.1\q.2:=by
 induction t with
 |nil=>cases h
 |cons p t a =>
  unfold AY;rw[find?_cons];rw[map_cons,bC]at nd;rcases aF.mp h with rfl|h
  ·simp
  ·have:¬p.1=q.1:=λz=>nd.1 (by rw[z];exact aP h);simp only[this,decide_false];exact a nd.2 h
theorem Yg(t:Tl)(r:By)(c:Int)(r':By):r'∈(B7 t r c).map (·.1)↔r'=r\/r'∈t.map (·.1):=by
 rw[Qj];split
 ·rename_i h;exact⟨.inr,λz=>z.elim (λz=>z▸h) id⟩
 ·rw[bA,bI,or_comm]
def Ch(a:Tl)(q:By×Int):Tl:=B7 a q.1 ((AY a q.1).getD 0+q.2)
def Bk(t:Tl):Tl:=t.foldl Ch []
def cnt(t:Tl)(r:By):Int:=(t.map λq=>if q.1=r then q.2 else 0).sum
theorem Yh(a:Tl)(q:By×Int)(r:By):(AY (Ch a q) r).getD 0=(AY a r).getD 0+if q.1=r then q.2 else 0:=by
 unfold Ch;rw[Yf];by_cases e:r=q.1
 ·subst e;simp
 ·rw[aB e,aB (λz=>e z.symm)];simp
theorem Yi(t:Tl):∀(a:Tl) (r:By),(AY (t.foldl Ch a) r).getD 0=(AY a r).getD 0+cnt t r:=by
 induction t with
 |nil=>intro a r;simp[cnt]
 |cons q t c =>
  intro a r;rw[foldl_cons,c,Yh];unfold cnt;rw[map_cons,sum_cons];lia
theorem GF(t:Tl)(r:By):(AY (Bk t) r).getD 0=cnt t r:=by
 unfold Bk;rw[Yi];simp[AY]
theorem Yj(t:Tl):∀(a:Tl) (r:By),r∈(t.foldl Ch a).map (·.1)↔r∈a.map (·.1)\/r∈t.map (·.1):=by
 induction t with
 |nil=>intro a r;simp
 |cons q t c =>
  intro a r;rw[foldl_cons,c];unfold Ch;rw[Yg,map_cons,aF];constructor
  ·rintro((h|h)|h)
   ·exact .inr (.inl h)
   ·exact .inl h
   ·exact .inr (.inr h)
  ·rintro(h|h|h)
   ·exact .inl (.inr h)
   ·exact .inl (.inl h)
   ·exact .inr h
theorem Jb(t:Tl)(r:By):r∈(Bk t).map (·.1)↔r∈t.map (·.1):=by
 unfold Bk;rw[Yj];simp
theorem Jc(t:Tl):∀a:Tl,(t.foldl Ch a).length<=a.length+t.length:=by
 induction t with
 |nil=>intro a;simp
 |cons q t c =>
  intro a;have h1:=c (Ch a q);have h2:(Ch a q).length<=a.length+1:=X3 _ _ _;simp only[foldl_cons,length_cons];lia
theorem L3(t:Tl):(Bk t).length<=t.length:=by have:=Jc t [];simpa[Bk]using this
theorem Yk(t:Tl):∀a:Tl,(a.map (·.1)).Nodup->((t.foldl Ch a).map (·.1)).Nodup:=by
 induction t with
 |nil=>intro a h;exact h
 |cons q t c=>intro a h;exact c (Ch a q) (X4 h)
theorem Ew(t:Tl):((Bk t).map (·.1)).Nodup:=Yk t [] '2'
theorem L4{t:Tl}(h:∀q∈t,q.1.length=n):∀q∈Bk t,q.1.length=n:=λq a=>by
 have:q.1∈(Bk t).map (·.1):=aP a;obtain⟨p,c,e⟩:=bU.mp ((Jb t q.1).mp this);rw[<-e];exact h p c
def FZ(t:Tl):Tl:=((DN (t.map (·.1))).filter λr=>decide (0<(AY t r).getD 0)).map λr=>(r,(AY t r).getD 0)
theorem Yl{t:Tl}(h:∀r,0<=(AY t r).getD 0):FZ t=BA t:=by
 unfold FZ BA
 congr 1
 refine filter_congr λr _=>?_;have:=h r;by_cases e:(AY t r).getD 0=0
 ·simp[e]
 ·have:0<(AY t r).getD 0:=⋯;simp[e,this]
theorem Q8{t:Tl}(h:∀q∈t,0<=q.2)(r:By):0<=cnt t r:=by
 unfold cnt
 induction t with
 |nil=>simp
 |cons q t a =>
  rw[map_cons,sum_cons];have h1:=a λp c=>h p (bT _ c);have h2:=h q cA;split<;>lia
theorem Ym(t:Tl)(r:By):(AY (BA t) r).getD 0=(AY t r).getD 0:=by
 by_cases h:r∈t.map (·.1)/\(AY t r).getD 0≠0
 ·have i:(r,(AY t r).getD 0)∈BA t:=by
   unfold BA;exact bU.mpr ⟨r,cW.mpr ⟨(D0 _).mem_iff.mpr h.1,by simpa using h.2⟩,rfl⟩
  unfold AY at *;cases c:(BA t).find? λq=>decide (q.1=r)with
  |none=>have:=find?_eq_none.mp c _ i;simp at this
  |some p =>
   have h1:p.1=r:=by simpa using find?_some c
   have h2:=mem_of_find?_eq_some c;unfold BA at h2;obtain⟨f,_,e⟩:=bU.mp h2;rw[<-e]at h1 ⊢;simp only at h1;subst h1;rfl
 ·have g:r∉(BA t).map (·.1):=λz=>by
   obtain⟨q,d,e⟩:=bU.mp z;unfold BA at d;obtain⟨f,a,j⟩:=bU.mp d;rw[<-j]at e;simp only at e;subst e;obtain⟨h1,h2⟩:=cW.mp a;exact h ⟨(D0 _).mem_iff.mp h1,by simpa using h2⟩
  rw[L0 g];by_cases h1:r∈t.map (·.1)
  ·have:(AY t r).getD 0=0:=Classical.byContradiction λz=>h ⟨h1,z⟩;rw[this];rfl
  ·rw[L0 h1]
theorem Q9{t:Tl}(h:(t.map (·.1)).Nodup):((BA t).map (·.1)).Nodup:=by
 unfold BA;rw[bZ,show((λq:By×Int=>q.1) ∘ λr=>(r,(AY t r).getD 0))=id from rfl,map_id];exact((D0 _).nodup_iff.mpr h).filter _
theorem Yn{t:Tl}(h:∀q∈t,q.1.length=n):∀q∈BA t,q.1.length=n:=λq a=>by
 obtain⟨p,c,e⟩:=bU.mp (Qn a);rw[<-e];exact h p c
theorem Yo{t:Tl}(h:q∈BA t):q.2=(AY t q.1).getD 0/\q.2≠0:=by
 unfold BA at h;obtain⟨r,a,rfl⟩:=bU.mp h;exact⟨rfl,by simpa using(cW.mp a).2⟩
theorem RA{t:Tl}(h:(t.map (·.1)).Nodup):Ja t=t:=by
 have key:∀(t a:Tl),(∀q∈t,q.1∉a.map (·.1))->(t.map (·.1)).Nodup->t.foldl (λa q=>B7 a q.1 q.2) a=a++t:=by
  intro t
  induction t with
  |nil=>intro a _ _;simp
  |cons q t d =>
   intro a h1 h2;rw[map_cons,bC]at h2;rw[foldl_cons,show B7 a q.1 q.2=a++[q] by unfold B7;rw[aB (h1 q cA)]];rw[d _ (λp c=>?_) h2.2]
   ·simp
   ·rw[cN,bA];rintro(z|z)
    ·exact h1 p (bT _ c) z
    ·have:p.1=q.1:=by simpa using z
     exact h2.1 (by rw[<-this];exact aP c)
 have:=key t [] '2' h;simpa[Ja]using this
def dD(ss:At)(z:Str):Nat:=ss.findIdx λx=>decide (x=z)
theorem C7{z:Str}(h:z∈ss):ss[dD ss z]?\z/\∀m,m<dD ss z->ss[m]?≠some z:=by
 have a:dD ss z<ss.length:=findIdx_lt_length_of_exists ⟨z,h,aK rfl⟩;refine⟨?_,λm d e=>?_⟩
 ·have:=findIdx_getElem (p:=λx=>decide (x=z)) (xs:=ss) (w:=a);rw[aH a];exact aT some (aL this)
 ·have:=not_of_lt_findIdx d;obtain⟨c,f⟩:=aI.mp e;simp[f]at this
theorem EQ{z:Str}(h:z∈ss):dD ss z<ss.length:=(aI.mp (C7 h).1).1
def AU(qI:At)(r:By)(qC:At):By:=qC.map λn=>r.getD (dD qI n) 0
def A6(qI:At)(t:Tl)(qC:At):Tl:=t.map λq=>(AU qI q.1 qC,q.2)
theorem Jd(qI:At)(r:By)(qC:At):(AU qI r qC).length=qC.length:=by unfold AU;rw[aA]
theorem Je(qI:At)(t:Tl)(qC:At):(A6 qI t qC).length=t.length:=by unfold A6;rw[aA]
theorem RB(qI:At)(t:Tl)(qC:At):∀q∈A6 qI t qC,q.1.length=qC.length:=λq a=>by
 obtain⟨p,_,rfl⟩:=bU.mp a;exact Jd _ _ _
theorem RC{t:Tl}(h:∀q∈t,0<=q.2):∀q∈A6 qI t qC,0<=q.2:=λq a=>by
 obtain⟨p,c,rfl⟩:=bU.mp a;exact h p c
def BX(qI:At)(t:Tl)(qC:At):Tl:=BA (Bk (A6 qI t qC))
structure Sh(qI:At)(t:Tl)(qC:At):Prop where
 len:qC.length<=100
 sub:∀n∈qC,n∈qI
 few:t.length<=100000
 rows:∀q∈t,q.1.length=qI.length
structure Tal(n:Nat)(t:Tl):Prop where
 few:t.length<=1000
 rows:∀q∈t,q.1.length=n
 pos:∀q∈t,0<q.2
 nd:(t.map (·.1)).Nodup
theorem Yp{t:Tl}(h:∀q∈t,0<=q.2):FZ (Bk (A6 qI t qC))=BX qI t qC :=
 Yl λr=>by rw[GF];exact Q8 (RC h) r
theorem Yq{t:Tl}(d:t.length<=1000)(h1:∀q∈t,q.1.length=n)(h2:(t.map (·.1)).Nodup)(e:∀r,0<=(AY t r).getD 0):Tal n (BA t) where
 few:=aR (Qm t) d
 rows:=Yn h1
 pos:=λq c=>by
  obtain⟨a,b⟩:=Yo c;have:=e q.1;lia
 nd:=Q9 h2
theorem L5{t:Tl}(h:∀q∈t,0<=q.2)(a:t.length<=1000):Tal qC.length (BX qI t qC):=by
 refine Yq ?_ (L4 (RB qI t qC)) (Ew _) λr=>by rw[GF];exact Q8 (RC h) r
 exact aR (L3 _) (by rw[Je];exact a)
theorem L6(qI:At)(t:Tl)(qC:At):(BX qI t qC).length<=t.length:=aR (Qm _) (aR (L3 _) (by rw[Je];exact aQ _))
def AN(a b:At):At:=a.filter λn=>decide (n∈b)
theorem CG(a b:At):(∀n∈AN a b,n∈a)/\∀n∈AN a b,n∈b:=⟨λn c=>(cW.mp c).1,λn c=>by simpa using(cW.mp c).2⟩
theorem Jf(a b:At):(AN a b).length<=a.length:=length_filter_le _ _
theorem Yr{t:Tl}(h:Tal n t):∀q∈t,0<=q.2:=λq a=>Int.le_of_lt (h.pos q a)
theorem RD{t:Tl}(a:Tal qI.length t)(d:qC.length<=100)(c:∀n∈qC,n∈qI):Sh qI t qC:=⟨d,c,aR a.few '3',a.rows⟩
end L2
variable{ts:List L2.Tl}
namespace L2
open PySem PyProof.Rows
abbrev Dm(a b:Str):Prop:=¬(b.cps.toList<a.cps.toList)
abbrev Bg(l:At):Prop:=l.Pairwise Dm
theorem RE{a b c:Str}(h:Dm a b)(g:Dm b c):Dm a c:=λz=>h (List.lt_of_le_of_lt (List.not_lt.mp g) z)
theorem Ys{a b:Str}(h:a.cps.toList=b.cps.toList):a=b:=PyProof.Rows.ext_toList h
theorem RG{a b:Str}(h:Dm a b)(g:Dm b a):a=b:=Ys (List.le_antisymm (List.not_lt.mp h) (List.not_lt.mp g))
theorem RH:∀(l:At) (p:Str),risingS p l=true->(p::l).Pairwise Dm
 |[],p,_=>pairwise_singleton _ _
 |x::r,p,h=>by
  rw[risingS,cB]at h;have h1:Dm p x:=by have:=h.1;rw[ltCps_eq]at this;simpa using this
  have h2:=RH r x h.2;refine cS.mpr ⟨λy hy=>?_,h2⟩;rcases aF.mp hy with rfl|hy
  ·exact h1
  ·exact RE h1 ((cS.mp h2).1 y hy)
theorem GG{l:At}(h:sortedS l=true):Bg l:=by
 cases l with
 |nil=>exact List.Pairwise.nil
 |cons x r=>exact RH r x h
theorem Hd:∀{a b:At},a.Perm b->Bg a->Bg b->a=b
 |[],b,h,_,_=>(nil_perm.mp h).symm
 |x::xs,[],h,_,_=>bS h.length_eq '2'
 |x::xs,y::ys,h,h1,h2=>by
  have e:x=y:=by
   have hx:x∈y::ys:=h.mem_iff.mp cA;have hy:y∈x::xs:=h.mem_iff.mpr cA;rcases aF.mp hx with e|hx
   ·exact e
   ·rcases aF.mp hy with e|hy
    ·exact e.symm
    ·exact RG ((cS.mp h1).1 y hy) ((cS.mp h2).1 x hx)
  subst e;rw[Hd ((perm_cons x).mp h) (cS.mp h1).2 (cS.mp h2).2]
structure Rm(ns r:At):Prop where
 sub:∀n∈r,n∈ns
 nd:r.Nodup
 srt:Bg r
theorem Rm.len{ns r:At}(h:Rm ns r):r.length<=ns.length:=h.nd.length_le_of_subset h.sub
theorem Rm.of{ns l r:At}(a:r.Perm l)(c:sortedS r=true)(h1:∀n∈l,n∈ns)(h2:l.Nodup):Rm ns r:=⟨λn hn=>h1 n (a.mem_iff.mp hn),a.nodup_iff.mpr h2,GG c⟩
theorem Yt{α:Type}{l:List α}{m:Nat}{x:α}(h:l[m]?\x):(l.eraseIdx m++[x]).Perm l:=by
 obtain⟨a,e⟩:=aI.mp h;have h1:l=l.take m++x::l.drop (m+1):=by
  conv=>lhs;rw[<-take_append_drop m l,drop_eq_getElem_cons a,e]
 rw[eraseIdx_eq_take_drop_succ]
 conv=>rhs;rw[h1]
 rw[bK];exact List.Perm.append_left _ (perm_append_singleton x _)
end L2
namespace L2
open PySem PySem.Spec PyProof.Rows
end L2
namespace L2
open PySem PySem.Spec PyProof.Rows PySem.Calls
end L2
namespace L2
open PySem PySem.Spec PyProof.Rows
def mroIn(K:Fg)(C C':Addr):Bool:=match K.lookup C with
 |some ⟨_,_,.cls cd,_⟩=>cd.mro.contains (.ref C')
 |_=>true
section
variable{M:Model}{nm q:Str}{C N:Addr}{bs bm:Do}{hdct:Bool}{sn:At}{sub:Do}{ab:Bool}{col:Option Bool}{dd:Go}{k0 k1 k2 k3 k5:Ex}{newId:String}
 {nm' q':Str} {C' N':Addr} {bs' bm':Do} {hdct':Bool} {sn':At} {sub':Do} {ab':Bool} {col':Option Bool} {dd':Go} {l0 l1 l2 l3 l5:Ex} {newId':String}
end
end L2
namespace L2
open PySem PySem.Spec PyProof.Rows PySem.W Builtin Builtin.ObjectAttr
end L2
namespace L2
open PySem PySem.Spec PyProof.Rows PySem.W
end L2
namespace L2
open PySem PySem.Spec PyProof.Rows
mutual
def P.dry:P->Bool
 |.lst _=>false|.dT _ _=>false|.dK _ _=>false|.fT _ _=>false|.bag=>false
 |.tup xs=>P.drys xs
 |.non=>true|.bl _=>true|.int _=>true|.str _=>true
def P.drys:dH->Bool
 |[]=>true
 |x::r=>x.dry&&P.drys r
end
@[simp] theorem Yu(i:Int):(P.int i).dry=true:=by simp[P.dry]
@[simp] theorem Yv(i:Str):(P.str i).dry=true:=by simp[P.dry]
@[simp] theorem Yw(xs:dH):(P.tup xs).dry=P.drys xs:=by simp[P.dry]
@[simp] theorem Yx:P.drys []=true:=by simp[P.drys]
@[simp] theorem Yy(x:P)(xs:dH):P.drys (x::xs)=(x.dry&&P.drys xs):=by simp[P.drys]
@[simp] theorem RI:∀ns:By,P.drys (ns.map P.int)=true
 |[]=>'2'
 |n::r=>by simp[RI r]
abbrev Yz:=Xn->Hp->Prop
abbrev pX:=dI->(P->Fl->Prop)->(Xn->Prop)->Prop
abbrev Y0:=dI->(List (P×Fl)->Prop)->(Xn->Prop)->Prop
section
variable{EX:Yz}{a e:Expr}{pa:pX}{pr:Y0}
def Y1(k:Nat)(E:PEnds):PEnds:={ E with nx:=λJ=>J[k]?\.emp/\E.nx J,bk:=λJ=>J[k]?\.emp/\E.bk J,ct:=λJ=>J[k]?\.emp/\E.ct J }
end
section
end
end L2
namespace L2
open PySem PySem.Spec PyProof.Rows PySem.W
end L2
namespace L2
open PySem
def D1(t:Tl):Tl:=BA (Bk t)
theorem RJ{t:Tl}(h:(t.map (·.1)).Nodup)(r:By):cnt t r=(AY t r).getD 0:=by
 induction t with
 |nil=>rfl
 |cons q t c =>
  simp only[map_cons,bC]at h;have e:cnt (q::t) r=(if q.1=r then q.2 else 0)+cnt t r:=by unfold cnt;simp
  rw[e,c h.2];unfold AY;rw[find?_cons];by_cases z:q.1=r
  ·have f:t.find? (λp=>decide (p.1=r))=none:=find?_eq_none.mpr λp d=>by
    simp only[decide_eq_true_eq];exactλa=>h.1 (by rw[z,<-a];exact bU.mpr ⟨p,d,rfl⟩)
   rw[f];simp[z]
  ·simp[z]
theorem L7(t:Tl)(r:By):cnt (D1 t) r=cnt t r:=by
 unfold D1;rw[RJ (Q9 (Ew t)),Ym,GF]
theorem RK{t u:Tl}(d:(t.map (·.1)).Nodup)(c:(u.map (·.1)).Nodup)(h:∀r,(AY t r).getD 0=(AY u r).getD 0):BA t=BA u:=by
 have mem:∀{t:Tl} (r:By),(AY t r).getD 0≠0->r∈t.map (·.1):=λ{t} r z=>by
  by_cases a:r∈t.map (·.1)
  ·exact a
  ·rw[L0 a]at z;exact bS rfl z
 have key:((DN (t.map (·.1))).filter λr=>decide ((AY t r).getD 0≠0))=((DN (u.map (·.1))).filter λr=>decide ((AY u r).getD 0≠0)):=by
  refine Ls ((bD ?_ ?_).mpr λr=>?_) ((Hc _).filter _) ((Hc _).filter _)
  ·exact((D0 _).nodup_iff.mpr d).filter _
  ·exact((D0 _).nodup_iff.mpr c).filter _
  ·simp only[cW,(D0 _).mem_iff,decide_eq_true_eq];exact⟨λz=>⟨mem r (by rw[<-h];exact z.2),by rw[<-h];exact z.2⟩,λz=>⟨mem r (by rw[h];exact z.2),by rw[h];exact z.2⟩⟩
 unfold BA;rw[key];exact cF λr _=>by rw[h]
theorem RL{t u:Tl}(h:∀r,cnt t r=cnt u r):D1 t=D1 u:=RK (Ew t) (Ew u) λr=>by rw[GF,GF,h]
theorem Y2{t:Tl}(h:(t.map (·.1)).Nodup):BA t=D1 t:=RK h (Ew t) λr=>by rw[GF,RJ h]
def B8(φ:By->Int)(t:Tl):Int:=(t.map λq=>φ q.1 * q.2).sum
theorem RM(a:By->Int)(x:By)(c:Int):∀(L:List By),L.Nodup->(L.map λr=>a r * (if x=r then c else 0)).sum=if x∈L then a x * c else 0
 |[],_=>'2'
 |y::L,nd=>by
  simp only[bC]at nd;rw[map_cons,sum_cons,RM a x c L nd.2];by_cases e:x=y
  ·subst e;simp[nd.1]
  ·simp[e]
theorem L8{α:Type}(f g:α->Int):∀L:List α,(L.map λr=>f r+g r).sum=(L.map f).sum+(L.map g).sum
 |[]=>rfl
 |x::L=>by simp only[map_cons,sum_cons,L8 f g L];lia
theorem L9(a:By->Int){L:List By}(nd:L.Nodup):∀{t:Tl},(∀q∈t,q.1∈L)->B8 a t=(L.map λr=>a r * cnt t r).sum
 |[],_=>by
  have:(L.map λr=>a r * cnt [] r).sum=0:=by
   induction L with
   |nil=>rfl
   |cons x L c=>rw[map_cons,sum_cons,c (bC.mp nd).2 (λ_ z=>bS z '2')];simp[cnt]
  rw[this];rfl
 |q::t,h=>by
  have c:=L9 a nd (t:=t) λp d=>h p (bT _ d);have e:∀r,a r * cnt (q::t) r=a r * (if q.1=r then q.2 else 0)+a r * cnt t r:=λr=>by
   have:cnt (q::t) r=(if q.1=r then q.2 else 0)+cnt t r:=by unfold cnt;simp
   rw[this,Int.mul_add]
  have f:B8 a (q::t)=a q.1 * q.2+B8 a t:=by unfold B8;simp
  rw[f,c,cF λr _=>e r,L8,RM a q.1 q.2 L nd,aC (h q cA)]
theorem MA(a:By->Int){t u:Tl}(h:∀r,cnt t r=cnt u r):B8 a t=B8 a u:=by
 have nd:=Ew (t++u);have e:∀q∈t,q.1∈(Bk (t++u)).map (·.1):=λq c=>(Jb _ _).mpr (bU.mpr ⟨q,mem_append_left _ c,rfl⟩);have d:∀q∈u,q.1∈(Bk (t++u)).map (·.1):=λq c=>(Jb _ _).mpr (bU.mpr ⟨q,cC _ c,rfl⟩);rw[L9 a nd e,L9 a nd d];exact aT List.sum (cF λr _=>by rw[h])
theorem RN(a:By->Int)(t:Tl):B8 a (D1 t)=B8 a t:=MA a (L7 t)
theorem MB(qI:At)(t:Tl)(qC:At)(s:By):cnt (A6 qI t qC) s=B8 (λr=>if AU qI r qC=s then 1 else 0) t:=by
 unfold cnt A6 B8;rw[bZ];refine aT List.sum (cF λq _=>?_);show(if AU qI q.1 qC=s then q.2 else 0)=(if AU qI q.1 qC=s then(1:Int)else 0) * q.2;by_cases z:AU qI q.1 qC=s
 ·rw[aC z,aC z,Int.one_mul]
 ·rw[aB z,aB z,Int.zero_mul]
def C8(t:Tl):Int:=(t.map (·.2)).sum
theorem MC(t:Tl):C8 t=B8 (λ_=>1) t:=by unfold C8 B8;simp
theorem Y3(t:Tl):C8 (D1 t)=C8 t:=by rw[MC,MC,RN]
theorem Y4(qI:At)(t:Tl)(qC:At):C8 (A6 qI t qC)=C8 t:=by unfold C8 A6;rw[bZ];rfl
theorem ER(qI:At)(t:Tl)(qC:At):BX qI t qC=D1 (A6 qI t qC):=rfl
theorem Hf{less:At}(c:∀n∈less,n∈qC):AU qC (AU qI r qC) less=AU qI r less:=by
 unfold AU;refine cF λn a=>?_;have h:=(C7 (c n a)).1;rw[bW,bO,h];rfl
theorem Y5{less:At}(t:Tl)(a:∀n∈less,n∈qC):BX qC (BX qI t qC) less=BX qI t less:=by
 rw[ER,ER,ER];refine RL λs=>?_;rw[MB,RN,MB];unfold B8 A6;rw[bZ];refine aT List.sum (cF λq _=>?_);show(if AU qC (AU qI q.1 qC) less=s then(1:Int)else 0) * q.2=_;rw[Hf a]
theorem GH(nd:qI.Nodup)(h:r.length=qI.length):AU qI r qI=r:=by
 refine ext_getElem? λi=>?_;unfold AU;rw[bO];rcases cE i qI.length with hi|hi
 ·have e:dD qI qI[i]=i:=by
   have a:=C7 (getElem_mem hi);exact(getElem_inj nd).mp (aI.mp a.1).2
  rw[aH hi];show some (r.getD (dD qI qI[i]) 0)=_;rw[e,bW,aH ⋯];rfl
 ·rw[bQ hi,bQ ⋯];rfl
theorem Y6(nd:qI.Nodup){t:Tl}(h:∀q∈t,q.1.length=qI.length):BX qI t qI=D1 t:=by
 have e:A6 qI t qI=t:=by
  unfold A6
  conv=>rhs;rw[<-map_id t]
  exact cF λq a=>by rw[GH nd (h q a)];rfl
 rw[ER,e]
end L2
namespace L2
open PySem PySem.Spec PyProof.Rows PySem.W
theorem Y7(t:SetTable)(n:Nat):(t.orStandIn n).led=t.led:=by unfold SetTable.orStandIn;split<;>rfl
theorem Y8(t:SetTable)(es:Array (Int×Value))(h:Int)(x:Value):(layNew t es h x).2.1.led=t.led:=by
 unfold layNew;split
 ·exact Y7 _ _
 ·rfl
theorem RO{c a f:Nat}{led plain:Bool}{g:Array Int}{t':SetTable}{d:Array Nat}(e:SetTable.laid c a f led plain g\(t',d)):t'.led=led/\t'.plain=plain:=by
 unfold SetTable.laid at e;cases h:SetTable.layClean c g with
 |none=>rw[h]at e;cases e
 |some ow =>
  rw[h]at e;injection e with e
  injection e with i j
  subst i;exact⟨rfl,rfl⟩
theorem Y9(t:SetTable)(es:Array (Int×Value))(n:Nat):(relayAll t es n).2.1.led=t.led:=by
 unfold relayAll;split
 ·rename_i t' a e;dsimp only;split
  ·exact(RO e).1
  ·rfl
 ·rfl
theorem ZA{t:SetTable}(es:Array (Int×Value))(n:Nat)(p:t.plain=false):(relayAll t es n).2.1.plain=false:=by
 unfold relayAll;split
 ·rename_i t' a e;dsimp only;split
  ·rw[(RO e).2];exact p
  ·rfl
 ·rfl
theorem MD{α:Type}:∀{l:List α} {i:Nat} (h:i<l.length),(l[i]::l.eraseIdx i).Perm l
 |[],_,h=>by cases h
 |x::r,0,h=>'2'
 |x::r,i+1,h=>by
  have a:=MD (l:=r) (i:=i) (~~~h);simp only[getElem_cons_succ,eraseIdx_cons_succ];exact(List.Perm.swap _ _ _).trans (a.cons _)
theorem ZB{a:Source}{Q:Nat->Shared->Prop}(c:n≠0)(h:∀i,i<n->∀dr,Q i { s with drawn:=dr }):'C' (choose a n) Q E s:=λd p _=>by
 unfold choose;rw[Sem.wp];exact⟨c,by rw[Sem.wp];exact h _ (Nat.mod_lt _ (Nat.pos_of_ne_zero c)) _⟩
theorem RP{α:Type}:∀(n:Nat) (xs:List α) (s:Shared) (Q:List α->Shared->Prop),xs.length=n->(∀ys dr,ys.Perm xs->Q ys { s with drawn:=dr })->'C' (drawOrder n xs) Q E s
 |0,xs,s,Q,a,h=>by
  unfold drawOrder;obtain rfl:=cM a;exact wP (h [] s.drawn (List.Perm.refl _))
 |n+1,[],s,Q,a,h=>by cases a
 |n+1,x::xs,s,Q,a,h=>by
  unfold drawOrder;refine wB (ZB '2' λi hi dr=>?_);rw[aH hi];dsimp only;refine wB (RP n _ _ _ (by rw[length_eraseIdx_of_lt hi];simp at a ⊢;lia) λys dr c=>wP ?_);exact h _ dr ((c.cons _).trans (MD hi))
theorem RQ{α:Type}(next:Nat->Nat):∀(n k:Nat) (left:List α) (out:Array α),left.length=n->(pickOrder.go next n k left out).toList.Perm (out.toList++left)
 |0,k,left,out,a=>by
  obtain rfl:=cM a;unfold pickOrder.go;simp
 |n+1,k,left,out,a=>by
  unfold pickOrder.go;have hi:next k % left.length<left.length:=Nat.mod_lt _ ⋯;rw[aH hi];dsimp only;refine(RQ next n (k+1) _ _ (by rw[length_eraseIdx_of_lt hi];lia)).trans ?_;rw[Array.toList_push,bK];exact(MD hi).append_left _
theorem ME{α:Type}(next:Nat->Nat)(xs:Array α):(pickOrder next xs).toList.Perm xs.toList:=by
 unfold pickOrder;simpa using RQ next xs.size 0 xs.toList #[] rfl
theorem RR:Manifest.owners.lookup (String.ofList ['r','o','t','a','r','e','t','i','_','t','e','s'].reverse)\Manifest.sig_set_iterator:=by kernel_rfl
theorem Hg:Slot "set_iterator" "__next__" "set_iterator.__next__":=.of (owner:="set_iterator") (n:="__next__") (by rw[typeLookup_type,builtinLookup_eq_fast];kernel_rfl) nofun nofun nofun (by first|exact .inl nofun|exact .inr nofun) (by rw[isSubtype_type];kernel_rfl)
theorem ZC:entryFor table "set_iterator.__next__"\Builtin.«set_iterator.__next__»:=entryFor_of_tree (by kernel_rfl)
theorem ZD(a:Value):argsOk "set_iterator.__next__" ⟨[a],[]⟩:=by
 unfold argsOk;rw[signature?_of (id:="set_iterator.__next__") (n:=['_','_','t','x','e','n','_','_']) (o:=['r','o','t','a','r','e','t','i','_','t','e','s']) (by kernel_rfl) RR];kernel_rfl
theorem ZE:entryFor table "set.__iter__"\Builtin.«frozenset.__iter__»:=entryFor_alias (id':="frozenset.__iter__") (by kernel_rfl) rfl nofun (by kernel_rfl)
def BY(es:Array (Int×Value))(ep:Nat)(t:SetTable):Obj:={ cls:=.type "set",dict:=none,data:=.set es ep t,slots:=#[] }
def Ct(vs:FG):Obj:={ cls:=.type "set_iterator",dict:=none,data:=.fields vs,slots:=#[] }
abbrev iF(first:Value)(i:Nat)(a:Addr)(n ep:Nat):FG:=#[first,.int i 0,.ref a,.int n 0,.int ep 0]
section
variable{es:Array (Int×Value)}{t:SetTable}{first:Value}
def Jg(I:Addr):Sem PySem.Fin:=do setField (.ref I) 2 .none;raiseNew (<-newExc (.type "StopIteration") [])
theorem Jh{F:PySem.Fin->Shared->Prop}(c:'F' I\(Ct (iF (.int j 0) i a es.size ep)))(d:'F' a\(BY es ep t))(e:t.fits es.size=true)
  (h:'C' (setNext a j i ep >>= λr=>match r with|some (x,next)=>(do setField (.ref I) 0 (rawInt next);setField (.ref I) 1 (rawInt ((i:Int)+1));ret x)|none=>Jg I) F E s) :
  'C' (Builtin.«set_iterator.__next__» ⟨[.ref I],[]⟩) F E s:=by
 unfold Builtin.«set_iterator.__next__»;refine wB (m:=slotArgs "__next__" 0 _) (wP ?_);refine wB (wpAny_fieldsOf c rfl ?_);dsimp only;refine wB (wpAny_setEntries_of d rfl e ?_);rw[aB '2'];simp only[Int.toNat_natCast];exact h
theorem RS{T:Addr}{ps:Ge}{F:PySem.Fin->Shared->Prop}(c:'F' I\(Ct (iF (.ref T) i a es.size ep)))(d:'F' a\(BY es ep t))(f:t.fits es.size=true)(g:'F' T\(seqObj "tuple" (ps.map λp:Nat=>rawInt p).toArray 0))
  (h:'C' (match ps[i]? with|some p=>(do let x <-setNextDrawn a p ep;setField (.ref I) 1 (rawInt ((i:Int)+1));ret x)|none=>(do setField (.ref I) 0 (rawInt 0);Jg I)) F E s) :
  'C' (Builtin.«set_iterator.__next__» ⟨[.ref I],[]⟩) F E s:=by
 unfold Builtin.«set_iterator.__next__»;refine wB (m:=slotArgs "__next__" 0 _) (wP ?_);refine wB (wpAny_fieldsOf c rfl ?_);dsimp only;refine wB (wpAny_setEntries_of d rfl f ?_);rw[aB '2'];refine wB (wpAny_seqItems g rfl ?_);dsimp only;simp only[Int.toNat_natCast,getElem?_toArray,bO];cases e:ps[i]? with
 |none=>rw[e]at h;exact h
 |some p=>rw[e]at h;exact h
end
section
variable{es:Array (Int×Value)}{t:SetTable}{first:Value}
theorem GI{Q:Ex->Shared->Prop}(a:s.TypeIs (.ref I) "set_iterator")(h:wpAny (model prog w) A.in1 (Builtin.«set_iterator.__next__» ⟨[.ref I],[]⟩) (λfin s'=>∃v,fin=.done (.ret v)/\Q (some v) s') (λe s'=>s'.TypeIs e "StopIteration"/\Q none s') s):'C' (pyNext (.ref I)) Q E s:=by
 unfold pyNext;refine wB (wpAny_attempt (wpAny_callSpecial?_slot (name:=Str.ofString "__next__") a Hg (cP Hg a ZC (bL h (λfin s' x=>?_) λe s' x=>?_) (ZD _))))
 ·obtain⟨v,rfl,q⟩:=x;exact⟨_,rfl,wP q⟩
 ·exact wB (wpAny_isInstance (T:="StopIteration") (b:=true) x.1 isSubtype_stop (wP x.2))
theorem MF{vs:FG}{F:PySem.Fin->Shared->Prop}(f:A.handled=none)(c:'F' I\(Ct vs))(d:2<vs.size)
  (h:∀h' e,Heap.ExtBut I s.heap h'->Shared.TypeIs { s with heap:=h' } e "StopIteration"->E e { s with heap:=h' }):'C' (Jg I) F E s:=by
 unfold Jg;refine wB (wpAny_setField c rfl d ?_);refine wB ?_;simp only[newExc,newTuple];refine wB (cG ?i (by size_fits));refine wB (m:=firstArgMember _ _) (wpAny_of_eq (a:=Value.none) (by first|rfl|(simp only[firstArgMember];rfl)) (cG ?g (by size_fits)));simp only[raiseNew];refine wB (wpAny_handled ?_);rw[f];refine wB (wP (wpAny_throw ?_));exact h _ _ (((Heap.SameBut.update ..).extBut.push _).push _) ⟨_,bP _ rfl,rfl⟩
def ES(w:World)(a:Addr)(es:Array (Int×Value))(ep:Nat):Do:=(pickOrder (w.params.setOrder a ep) es).toList.map (·.2)
theorem RT{Q:Option (Value×Nat)->Shared->Prop}(e:w.params.followText "set-order"=true)(c:'F' a\(BY es ep t))(d:t.fits es.size=true)(h:Q ((ES w a es ep)[i]?.map λx=>(x,j)) s):'C' (setNext a j i ep) Q E s:=by
 unfold setNext;refine wB (wpAny_setState_of c rfl d ?_);dsimp only;refine wB ?_;unfold setsByText;refine wB (wpAny_askSetting (wP ?_));show 'A' (if w.params.followText "set-order"=true then _ else _) _ _ _;rw[aC e];rw[aB '2'];refine wB ?_;unfold setWalk;refine wB (wpAny_setState_of c rfl d ?_);dsimp only;refine wB ?_;unfold setsByText;refine wB (wpAny_askSetting (wP ?_));show 'A' (if w.params.followText "set-order"=true then _ else _) _ _ _;rw[aC e];refine wB (wpAny_askSetting (wP (wP ?_)));unfold ES at h;rw[bO,Array.getElem?_toList,Option.map_map]at h;exact h
end
section
variable{es:Array (Int×Value)}{t:SetTable}
theorem RU:Slot "set_iterator" "__iter__" "set_iterator.__iter__":=.of (owner:="set_iterator") (n:="__iter__") (by rw[typeLookup_type,builtinLookup_eq_fast];kernel_rfl) nofun nofun nofun (by first|exact .inl nofun|exact .inr nofun) (by rw[isSubtype_type];kernel_rfl)
theorem ZF:entryFor table "set_iterator.__iter__"\Builtin.«dict_keyiterator.__iter__»:=entryFor_alias (id':="dict_keyiterator.__iter__") (by kernel_rfl) rfl nofun (by kernel_rfl)
theorem ZG(a:Value):argsOk "set_iterator.__iter__" ⟨[a],[]⟩:=by
 unfold argsOk;rw[signature?_of (id:="set_iterator.__iter__") (n:=['_','_','r','e','t','i','_','_']) (o:=['r','o','t','a','r','e','t','i','_','t','e','s']) (by kernel_rfl) RR];kernel_rfl
theorem MG{vs:FG}(a:'F' I\(Ct vs))(d:Q (.ref I) s):'C' (pyIter (.ref I)) Q E s:=by
 have c:s.TypeIs (.ref I) "set_iterator":=⟨_,a,rfl⟩;refine wpAny_pyIter_slot c RU (cP RU c ZF ?_ (ZG _));exact wP ⟨_,rfl,"set_iterator",_,c,Hg.lookup,d⟩
theorem ZH(q:A.handled=none)(d:a≠I)(l:w.params.followText "set-order"=true)(f:t.fits es.size=true):WalksS prog w A I [I,a] [I] (λx y=>y=x) es.size (λi v=>(ES w a es ep)[i]?\v)
  (λi s=>'F' I\(Ct (iF (.int 0 0) i a es.size ep))/\'F' a\(BY es ep t)) where
 sub:=λb h=>by simp at h;simp[h]
 grefl:=λ_=>rfl
 gtrans:=λ_ _ _ h1 h2=>h2.trans h1
 frame:=λi s h' tk st _ g=>⟨g I '2' _ st.1,g a '2' _ st.2⟩
 item:=λi s Q E hi st c=>by
  have p:(ES w a es ep).length=es.size:=by unfold ES;rw[aA,(ME _ _).length_eq,bR]
  refine GI ⟨_,st.1,rfl⟩ (Jh (j:=0) st.1 st.2 f (wB (RT l st.2 f ?_)));rw[aH (show i<(ES w a es ep).length by lia),Option.map_some];dsimp only;refine wB (wpAny_setField_rec st.1 '2' λh1 u n=>wB (wpAny_setField_rec u '2' λh2 r m=>wP ⟨_,rfl,c _ _ (by rw[aH]) ⟨?_,?_⟩ ⟨?_,rfl,rfl,rfl,aQ _⟩⟩))
  ·rw[r];simp[Ct,rawInt]
  ·exact m.extBut _ _ d (n.extBut _ _ d st.2)
  ·exactλb o nb e=>m.extBut _ _ (λz=>nb (by simp[z])) (n.extBut _ _ (λz=>nb (by simp[z])) e)
 done:=λs Q E st c=>by
  have p:(ES w a es ep).length=es.size:=by unfold ES;rw[aA,(ME _ _).length_eq,bR]
  refine GI ⟨_,st.1,rfl⟩ (Jh (j:=0) st.1 st.2 f (wB (RT l st.2 f ?_)));rw[bQ ⋯,Option.map_none];dsimp only;exact MF q st.1 '2' λh' e x y=>⟨y,c _ ⟨λb o nb e=>x b o (λz=>nb (by simp[z])) e,rfl,rfl,rfl,aQ _⟩⟩
 self:=λi s Q E st c=>MG st.1 c
theorem ZI{T:Addr}{ps:Ge}(B:A.handled=none)(m:a≠I)(n:T≠I)(l:t.fits es.size=true)(C:ps.length=es.size)(u:∀p∈ps,p<es.size):WalksS prog w A I [I,a,T] [I] (λx y=>y=x) es.size (λi v=>∃p,ps[i]?\p/\∃h,es[p]?\(h,v))
  (λi s=>'F' I\(Ct (iF (.ref T) i a es.size ep))/\'F' a\(BY es ep t)/\'F' T\(seqObj "tuple" (ps.map λp:Nat=>rawInt p).toArray 0)) where
 sub:=λb r=>by simp at r;simp[r]
 grefl:=λ_=>rfl
 gtrans:=λ_ _ _ h1 h2=>h2.trans h1
 frame:=λi s h' tk st _ j=>⟨j I '2' _ st.1,j a '2' _ st.2.1,j T '2' _ st.2.2⟩
 item:=λi s Q E hi st f=>by
  have c:i<ps.length:=⋯;have d:=u _ (getElem_mem c);refine GI ⟨_,st.1,rfl⟩ (RS st.1 st.2.1 l st.2.2 ?_);rw[aH c];dsimp only;refine wB ?_;unfold setNextDrawn;refine wB (wpAny_setState_of st.2.1 rfl l ?_);dsimp only;rw[aB '2',cK d];dsimp only;refine wP ?_;refine wB (wpAny_setField_rec st.1 '2' λh1 q g=>wP ⟨_,rfl,f _ _ ⟨_,aH c,es[ps[i]].1,by rw[cK d]⟩ ⟨?_,?_,?_⟩ ⟨?_,rfl,rfl,rfl,aQ _⟩⟩)
  ·rw[q];simp[Ct,rawInt]
  ·exact g.extBut _ _ m st.2.1
  ·exact g.extBut _ _ n st.2.2
  ·exactλb o nb e=>g.extBut _ _ (λz=>nb (by simp[z])) e
 done:=λs Q E st f=>by
  refine GI ⟨_,st.1,rfl⟩ (RS st.1 st.2.1 l st.2.2 ?_);rw[bQ ⋯];dsimp only;refine wB (wpAny_setField_rec st.1 '2' λh1 q g=>?_);exact MF B q '2' λh' e x y=>⟨y,f _ ⟨λb o nb e=>x b o (λz=>nb (by simp[z])) (g.extBut _ _ (λz=>nb (by simp[z])) e),rfl,rfl,rfl,aQ _⟩⟩
 self:=λi s Q E st f=>MG st.1 f
theorem RV{Q:Option (Value×Nat)->Shared->Prop}(g:w.params.followText "set-order"=false)(h1:es.size<=1)(c:t.led=true)(e:'F' a\(BY es ep t))(f:t.fits es.size=true)
  (h:Q (match es[SetTable.below t.place j]?,t.place[SetTable.below t.place j]? with|some (_,x),some k=>some (x,k+1)|_,_=>none) s):'C' (setNext a j i ep) Q E s:=by
 unfold setNext;refine wB (wpAny_setState_of e rfl f ?_);dsimp only;refine wB ?_;unfold setsByText;refine wB (wpAny_askSetting (wP ?_));show 'A' (if w.params.followText "set-order"=true then _ else _) _ _ _;rw[aB (by rw[g];exact cH)];refine wpAny_ite_split (λd=>bS d ?_) (λ_=>?_)
 ·show¬((!t.plain&&decide (es.size > 1))=true);simp;lia
 ·refine wB (?_:'A' (if(!t.led&&!es.isEmpty)=true then _ else pure ()) _ _ _);rw[aB (by rw[c];simp)];exact wP (wP h)
theorem ZJ(xs:Array Nat):SetTable.below xs 0=0:=by
 unfold SetTable.below;have:∀n hi,SetTable.below.go xs 0 n 0 hi=0:=by
  intro n
  induction n with
  |zero=>intro hi;rfl
  |succ n a =>
   intro hi;unfold SetTable.below.go;split
   ·simp only[Nat.not_lt_zero,if_false];exact a _
   ·rfl
 exact this _ _
theorem ZK{xs:Array Nat}(h:xs.size=1)(k:Nat)(a:xs[0]?\k):SetTable.below xs (k+1)=1:=by
 unfold SetTable.below;rw[h];unfold SetTable.below.go;have e:xs.getD 0 (k+1)=k:=by rw[Array.getD_eq_getD_getElem?,a];rfl
 simp[e,SetTable.below.go]
theorem ZL(ρ:A.handled=none)(l:a≠I)(p:w.params.followText "set-order"=false)(h1:es.size<=1)(c:t.led=true)(d:t.fits es.size=true):WalksS prog w A I [I,a] [I] (λx y=>y=x) es.size (λi v=>∃h,es[i]?\(h,v))
  (λi s=>(∃j:Nat,'F' I\(Ct (iF (.int j 0) i a es.size ep))/\(i=0->j=0)/\(i=1->∃k,t.place[0]?\k/\j=k+1))/\'F' a\(BY es ep t)) where
 sub:=λb n=>by simp at n;simp[n]
 grefl:=λ_=>rfl
 gtrans:=λ_ _ _ h1 h2=>h2.trans h1
 frame:=λi s h' tk st _ m=>⟨(by obtain⟨j,e,r⟩:=st.1;exact ⟨j,m I '2' _ e,r⟩),m a '2' _ st.2⟩
 item:=λi s Q E hi st g=>by
  obtain⟨⟨j,e,r,_⟩,f⟩:=st;have D:i=0:=⋯;subst D;obtain rfl:=r rfl;have us:t.place.size=es.size:=by simp[SetTable.fits]at d;exact d.1
  refine GI ⟨_,e,rfl⟩ (Jh e f d (wB (RV p h1 c f d ?_)));rw[ZJ,cK hi,cK (show 0<t.place.size by lia)];dsimp only;refine wB (wpAny_setField_rec e '2' λh1 M u=>wB (wpAny_setField_rec M '2' λh2 L q=>wP ⟨_,rfl,g _ _ ⟨es[0].1,by rw[cK hi]⟩ ⟨⟨t.place[0]+1,?_,(λz=>bS z ⋯),(λ_=>⟨_,cK _,rfl⟩)⟩,?_⟩ ⟨?_,rfl,rfl,rfl,aQ _⟩⟩))
  ·rw[L];simp[Ct,rawInt]
  ·exact q.extBut _ _ l (u.extBut _ _ l f)
  ·exactλb o nb e=>q.extBut _ _ (λz=>nb (by simp[z])) (u.extBut _ _ (λz=>nb (by simp[z])) e)
 done:=λs Q E st g=>by
  obtain⟨⟨j,e,N,C⟩,f⟩:=st;have us:t.place.size=es.size:=by simp[SetTable.fits]at d;exact d.1
  refine GI ⟨_,e,rfl⟩ (Jh e f d (wB (RV p h1 c f d ?_)));have H:es[SetTable.below t.place j]?=none:=by
   by_cases z:es.size=0
   ·exact Array.getElem?_eq_none ⋯
   ·have B:es.size=1:=⋯;obtain⟨k,m,rfl⟩:=C B;rw[ZK ⋯ k m];exact Array.getElem?_eq_none ⋯
  rw[H];dsimp only;exact MF ρ e '2' λh' e x y=>⟨y,g _ ⟨λb o nb e=>x b o (λz=>nb (by simp[z])) e,rfl,rfl,rfl,aQ _⟩⟩
 self:=λi s Q E st g=>(by obtain⟨⟨_,e,_⟩,_⟩:=st;exact MG e g)
end
def Fa(w:World)(es:Array (Int×Value))(t:SetTable):Prop:=t.fits es.size=true/\es.size<=4096/\t.led=!w.params.followText "set-order"/\(0<es.size->t.plain=false)
def MH(prog:Program)(w:World)(A:Around)(a:Addr)(es:Array (Int×Value))(s:Shared)(I:Addr)(h1:Heap)(dr:PySem.Drawn):Prop :=
 'H'<=I/\(∀b o,'F' b\o->h1.get? b\o)/\∃(vs:Do) (fp:Ha) (St:Nat->Shared->Prop),
  vs.Perm (es.toList.map (·.2))/\(∀b∈fp,b=a\/'H'<=b/\b<h1.objs.size)/\I<h1.objs.size/\WalksS prog w A I fp [I] (λx y=>y=x) es.size (λi v=>vs[i]?\v) St/\St 0 { s with heap:=h1,drawn:=dr }
section
variable{es:Array (Int×Value)}{t:SetTable}
theorem WalksS.wk{wr:Ha}{us:Array GenState->Array GenState->Prop}{P P':Nat->Value->Prop}{St:Nat->Shared->Prop}(W:WalksS prog w A I fp wr us n P St)(h:∀i v,i<n->P i v->P' i v):WalksS prog w A I fp wr us n P' St where
 sub:=W.sub
 grefl:=W.grefl
 gtrans:=W.gtrans
 frame:=W.frame
 item:=λi s Q E hi st c=>W.item i s Q E hi st λv s' a=>c v s' (h i v hi a)
 done:=W.done
 self:=W.self
theorem ZM(B:A.handled=none)(f:'F' a\(BY es ep t))(ok:Fa w es t)(L:∀I h1 dr,MH prog w A a es s I h1 dr->Q (.ref I) { s with heap:=h1,drawn:=dr }):'C' (pyIter (.ref a)) Q E s:=by
 obtain⟨g,hz,n,y⟩:=ok;have ρ:s.TypeIs (.ref a) "set":=⟨_,f,rfl⟩;have D:=bN f;refine wpAny_pyIter_slot ρ F.slot_set_iter (cP F.slot_set_iter ρ ZE ?_ (F.args_set_iter_1 _));unfold Builtin.«frozenset.__iter__» Builtin.Frozenset.slot0 Builtin.Frozenset.addrOf Builtin.Frozenset.sizeOf;refine wB (wB (m:=slotArgs "__iter__" 0 _) (wP (wP ?_)));refine wB (wB (wpAny_setEntries_of f rfl g (wP ?_)));unfold setDrawn;refine wB (wB (wpAny_setState_of f rfl g ?_));dsimp only;refine wB ?_;unfold setsByText;refine wB (wpAny_askSetting (wP (wP ?_)));have M:∀(first:Value),∀{us:VS},us (.ref 'H') { s with heap:=s.heap.push (Ct (iF first 0 a es.size ep)) }->wpAny (model prog w) A.in1 (do let d <-setEpoch a;newFields "set_iterator" [first,rawInt 0,Value.ref a,rawInt ↑es.size,rawInt ↑d]) us E s:=λfirst us q =>
  wB (wpAny_setEpoch_of f rfl g (cG q))
 refine wpAny_ite_split (λC=>?_) (λC=>?_)
 ·have j:(!w.params.followText "set-order"&&(!t.plain&&decide (es.size > 1)))=true:=C;refine wB (RP es.size _ _ _ (bG) λps dr pp=>?_);have H:ps.length=es.size:=by rw[pp.length_eq,bG]
  refine wB (wpAny_newTuple ?_ (by rw[aA,H,cT];lia));have l:(s.heap.push (seqObj "tuple" (ps.map λp:Nat=>rawInt p).toArray 0)).get? a\(BY es ep t):=aS _ f;refine wB (wpAny_setEpoch_of (s:={ s with heap:=s.heap.push (seqObj "tuple" (ps.map λp:Nat=>rawInt p).toArray 0),drawn:=dr }) l rfl g ?_);refine wB (cG (wP ⟨_,rfl,"set_iterator",_,⟨_,bP _ rfl,rfl⟩,Hg.lookup,L _ _ _ ?_⟩));have c:(s.heap.push (seqObj "tuple" (ps.map λp:Nat=>rawInt p).toArray 0)).objs.size='H'+1:=size_push' _ _;show MH prog w A a es s (s.heap.push (seqObj "tuple" (ps.map λp:Nat=>rawInt p).toArray 0)).objs.size ((s.heap.push (seqObj "tuple" (ps.map λp:Nat=>rawInt p).toArray 0)).push (Ct (iF (.ref 'H') 0 a es.size ep))) dr;have lt:∀p∈ps,p<es.size:=λp N=>bH.mp (pp.mem_iff.mp N);refine⟨by rw[c];exact cR _,λb o e=>aS _ (aS _ e),ps.map λp=>((es[p]?).map (·.2)).getD .none,[_,a,'H'],_,?_,?_,by simp only[size_push'];exact Nat.lt_succ_self _,WalksS.wk (ZI (T:='H') (ps:=ps) B (by rw[c];exact bX (Nat.lt_succ_of_lt D)) (by rw[c];exact bX (Nat.lt_succ_self _)) g H lt) ?_,bP _ rfl,aS _ l,aS _ (bP _ rfl)⟩
  ·refine(pp.map _).trans ?_;have:(List.range es.size).map (λp=>((es[p]?).map (·.2)).getD .none)=es.toList.map (·.2):=by
    apply ext_getElem
    ·simp
    ·intro i h1 h2;have O:i<es.size:=by simpa using h1
     simp[O]
   rw[this]
  ·intro b r;simp only[aF,bB,or_false]at r;rw[size_push',c];rcases r with rfl|rfl|rfl
   ·right;rw[c];exact⟨cR _,Nat.lt_succ_self _⟩
   ·left;rfl
   ·right;exact⟨aQ _,Nat.lt_succ_of_lt (Nat.lt_succ_self _)⟩
  ·rintro i v hi ⟨p,σ,h,U⟩;rw[bO,σ,Option.map_some,U];rfl
 ·have j:¬(!w.params.followText "set-order"&&(!t.plain&&decide (es.size > 1)))=true:=C;refine wB (wP ?_);refine wB (wpAny_setEpoch_of f rfl g ?_);refine wB (cG (wP ⟨_,rfl,"set_iterator",_,⟨_,bP _ rfl,rfl⟩,Hg.lookup,L _ _ s.drawn ?_⟩));show MH prog w A a es s 'H' (s.heap.push (Ct (iF (.int 0 0) 0 a es.size ep))) s.drawn;have u:∀b∈['H',a],b=a\/'H'<=b/\b<(s.heap.push (Ct (iF (.int 0 0) 0 a es.size ep))).objs.size:=by
   intro b r;simp only[aF,bB,or_false]at r;rw[size_push'];rcases r with rfl|rfl
   ·right;exact⟨aQ _,Nat.lt_succ_self _⟩
   ·left;rfl
  cases x:w.params.followText "set-order" with
  |true =>
   refine⟨aQ _,λb o e=>aS _ e,ES w a es ep,_,_,(ME _ _).map _,u,by rw[size_push'];exact Nat.lt_succ_self _,ZH (ep:=ep) B (bX D) x g,bP _ rfl,aS _ f⟩
  |false =>
   have h1:es.size<=1:=by
    rw[x]at j;by_cases z:es.size<=1
    ·exact z
    ·exfalso;apply j;rw[y ⋯];simp;lia
   refine⟨aQ _,λb o e=>aS _ e,es.toList.map (·.2),_,_,List.Perm.refl _,u,by rw[size_push'];exact Nat.lt_succ_self _,WalksS.wk (ZL (ep:=ep) B (bX D) x h1 (by rw[n,x];rfl) g) ?_,⟨0,bP _ rfl,λ_=>rfl,λz=>bS z ⋯⟩,aS _ f⟩;rintro i v hi ⟨h,e⟩;rw[bO,Array.getElem?_toList,e];rfl
end
section
variable{es:Array (Int×Value)}{t:SetTable}
theorem ZN{Q:Bool->Shared->Prop}(e:s.TypeIs (.ref a) "set")(h:Q false s):'C' (Builtin.List.listLengthHint (.ref a)) Q E s:=by
 unfold Builtin.List.listLengthHint;refine wB (wpAny_specialOf e F.slot_set_len.lookup ?_);generalize c:("set.__len__":String)=d
 wp_delta
 rw[show splitId d\("set","__len__")from by subst c;decide +kernel];subst c;refine wB (wpAny_isInstance (T:="set") (b:=true) e sub_set_self ?_);refine wpAny_ite_split (λz=>bS z '3') (λ_=>wpAny_ite_split (λ_=>wB (wpAny_typeOf e (wP h))) (λz=>bS nofun z))
theorem ZO{R:Result->Shared->Prop}(U:A.handled=none)(v:'F' a\(BY es ep t))(ok:Fa w es t)(S:Addr)(res:Value)(p:S≠a)(C:'F' S\{ cls:=.type "list",data:=.seq #[] })
  (hR:∀h' tk dr cf c',(∀b o,b≠S->'F' b\o->h'.get? b\o)->h'.get? S\{ cls:=.type "list",dict:=none,data:=.seq cf c',slots:=#[] }->cf.toList.Perm (es.toList.map (·.2))->R (.ok (.ret res)) { s with heap:=h',toks:=tk,drawn:=dr }) :
  wpAny (model prog w) A.in1 (Builtin.List.listExtendWith (.ref S) (.ref a) res)
   (λfin s'=>match fin with|.done f=>R (.ok f) s'|.again c'=>c'.quiet=true/\codeAny (model prog w) A c' R s') (λe s'=>R (.error e) s') s:=by
 have j:=bN C;have hz:es.size<=sizeLine:=by rw[cT];have:=ok.2.1;lia
 unfold Builtin.List.listExtendWith;refine wB (wpAny_typeOf (T:="set") ⟨_,v,rfl⟩ ?_);have N:Builtin.List.listSameRef (.ref S) (.ref a)=false:=by simp[Builtin.List.listSameRef,p]
 rw[aB (by rw[N];decide)];refine wB (ZM U v ok λI h1 dr W=>?_);obtain⟨D,keep,vs,fp,St,pp,x,a0,W,st⟩:=W;have σ:S≠I:=λz=>bS j (by rw[z];exact Nat.not_lt.mpr D);have n:S∉fp:=λhb=>(x S hb).elim p λz=>bS j (Nat.not_lt.mpr z.1);have key:∀(h:Heap) (d:Nat),St 0 { s with heap:=h,drawn:=dr }->(∀b o,b≠S->'F' b\o->h.get? b\o)->h.get? S\{ cls:=.type "list",data:=.seq #[] d } ->
   codeAny (model prog w) A (.builtin "list.extend.loop" ⟨[.ref S,.ref I,res],[]⟩) R { s with heap:=h,drawn:=dr }:=by
  intro h d u Q l;refine codeAny_extend_loopS W hz S n res es.size 0 _ #[] d rfl (cD _) u l (ItemsOf.nil _) λs' cf c' r B g=>?_;have e:s'={ s with heap:=s'.heap,toks:=s'.toks,drawn:=dr }:=by
   have ρ:=r.gens;have H:=r.drawn;have us:=r.os;obtain⟨O,g',d',L,M⟩:=s';simp only at ρ H us;subst ρ;subst H;subst us;rfl
  rw[e];refine hR _ _ _ cf c' (λb o nb E=>r.heap b o (λhb=>?_) (Q b o nb E)) B ?_
  ·rcases aF.mp hb with z|hb
   ·exact nb z
   ·exact bS (bN E) (by rw[bI.mp hb];exact Nat.not_lt.mpr D)
  ·have hl:vs.length=es.size:=by rw[pp.length_eq];simp
   have:cf.toList=vs:=by
    apply ext_getElem?;intro i;by_cases hi:i<cf.size
    ·have:=g.2 i cf[i] (by rw[cK hi]);rw[this,Array.getElem?_toList,cK hi]
    ·rw[bQ (~~~hi),bQ (by have:=g.1;lia)]
   rw[this];exact pp
 have m:=keep _ _ C;refine wB (bM (ZN ⟨_,keep _ _ v,rfl⟩ ?_));refine wpAny_ite_split (λ_=>?_) (λ_=>wP ⟨plainId_quiet PySem.F.plain_extend_loop _,key _ _ st (λb o _ e=>keep b o e) m⟩);refine wB (wpAny_rule (wB ?_));show 'A' (updateSeq S (·.push .none) >>= λ_=>updateSeq S (·.pop)) _ _ _;refine wB (wpAny_updateSeq m rfl ?_);have q:=Heap.get?_update_self (Obj.mapSeq (·.push Value.none)) m rfl;refine wpAny_updateSeq (hz:=by seq_fits) q rfl ?_;have y:=Heap.get?_update_self (Obj.mapSeq (·.pop)) q rfl;refine wP ⟨plainId_quiet PySem.F.plain_extend_loop _,key _ _ (W.frame 0 _ _ _ st (aQ _) λb hb o e=>?_) (λb o nb e=>?_) y⟩
 ·have nb:S≠b:=λz=>n (z▸hb);exact(cL _ _ nb).trans ((cL _ _ nb).trans e)
 ·exact(cL _ _ nb.symm).trans ((cL _ _ nb.symm).trans (keep b o e))
theorem ZP{R:Do->Shared->Prop}(p:A.handled=none)(l:'F' a\(BY es ep t))(ok:Fa w es t)
  (h:∀h' tk dr cf,(∀b o,'F' b\o->h'.get? b\o)->cf.Perm (es.toList.map (·.2))->R cf { s with heap:=h',toks:=tk,drawn:=dr }):'C' (collect (.ref a)) R E s:=by
 have r:=bN l;unfold collect;refine wB (wpAny_runValue (codeAny_builtin entry_proto_collect' ?_));rw[Around.under_plainId PySem.F.plain_proto_collect _];refine wB (m:=newList []) (cG (wP ⟨plainId_quiet PySem.F.plain_list_iadd _,codeAny_builtin entry_list_iadd' ?_⟩));rw[Around.under_plainId PySem.F.plain_list_iadd _];have g:(s.heap.push { cls:=.type "list",data:=.seq ([]:Do).toArray }).get? 'H'\{ cls:=.type "list",data:=.seq #[] }:=bP _ rfl;have key:=ZO (prog:=prog) (A:=A) (s:={ s with heap:=s.heap.push { cls:=.type "list",data:=.seq ([]:Do).toArray } })
  (R:=λq s'=>∃h' tk dr cf d,q=.ok (.ret (.ref 'H'))/\s'={ s with heap:=h',toks:=tk,drawn:=dr }/\(∀b o,'F' b\o->h'.get? b\o)/\h'.get? 'H'\{ cls:=.type "list",dict:=none,data:=.seq cf d,slots:=#[] }/\cf.toList.Perm (es.toList.map (·.2)))
  p (aS _ l) ok 'H' (.ref 'H') (Nat.ne_of_gt r) g λh' tk dr cf d k1 k2 k3=>⟨h',tk,dr,cf,d,rfl,rfl,λb o e=>k1 b o (bX (bN e)) (aS _ e),k2,k3⟩
 refine bL key (λi s' x=>?_) λe s' x=>?_
 ·cases i with
  |done f =>
   obtain⟨h',tk,dr,cf,d,e,rfl,k1,k2,k3⟩:=x;cases e;exact wB (wpAny_load k2 (wP (h h' tk dr _ k1 k3)))
  |again n =>
   refine⟨x.1,codeAny_mono x.2 λq j y=>?_⟩;obtain⟨h',tk,dr,cf,d,rfl,rfl,k1,k2,k3⟩:=y;exact wB (wpAny_load k2 (wP (h h' tk dr _ k1 k3)))
 ·obtain⟨_,_,_,_,_,u,_⟩:=x;cases u
theorem ZQ(B:A.handled=none)(x:'F' a\(BY es ep t))(ok:Fa w es t)(n:StrsAre (es.toList.map (·.2)) ss)(us:es.size<64)
  (h:∀h' tk dr (D:Addr) (out:Do) (c:At) e,(∀u,'F' D≠some u)->(∀b o,'F' b\o->h'.get? b\o)->h'.get? D\(seqObj "list" out.toArray e)->StrsAre out c->c.Perm ss->sortedS c=true->Q (.ref D) { s with heap:=h',toks:=tk,drawn:=dr }) :
  'C' (call (.builtin "sorted") [.ref a]) Q E s:=by
 refine Calls.call_function_entry kind_sorted plain_sorted entry_sorted (args_sorted1 _) ?_;unfold Builtin.«sorted»;refine wB (m:=checkCount "sorted" 1 1 _) (wP (wB (ZP (A:=A.in1) B x ok λh' tk dr cf k1 k2=>?_)));have z:cf.length=es.size:=by rw[k2.length_eq];simp
 refine wB (wpAny_newList ?_ (by rw[z,cT];lia));have i:(h'.push (seqObj "list" cf.toArray 0)).get? h'.objs.size\(seqObj "list" cf.toArray 0):=bP _ rfl;have g:StrsAre cf (cf.map strOf):=strsAre_map cf λv f=>n.all v (k2.mem_iff.mp f);have y:(cf.map strOf).Perm ss:=by
  have:=k2.map strOf
  rwa [n.strs]at this
 refine wB (bM (cP slot_list_sort ⟨_,i,rfl⟩ entry_list_sort (list_sort_treeK strKind_oneLt i g.keysOf (λl j qF e=>keyKind_strs (by rw[<-e];exact g)) ⋯ λd O N=>⟨_,rfl,?_⟩) (args_list_sort _)));obtain⟨c,M,L,ρ⟩:=sorted_out_str g O N;obtain⟨e,C⟩:=sortedHeap_at (out:=(arrOf d).map (·.2)) i;refine wP ⟨_,rfl,h _ _ _ _ ((arrOf d).map (·.2)).toList c e ?_ (λb o I=>?_) ?_ M (L.trans y) ρ⟩
 ·exactλu H=>bS (bN (k1 _ _ H)) (aX _)
 ·have q:=k1 b o I;have r:b≠h'.objs.size:=bX (bN q);have p:(h'.push (seqObj "list" cf.toArray 0)).get? b\o:=aS _ q;rw[sortedHeap_old r (bN p)];exact p
 ·rw[Array.toArray_toList];exact C
end
theorem RW(y:Str)(tk:Tok):(PySem.strKind prog w).is y (.str y tk)=true:=by
 show Value.isStrOf y (.str y tk)=true;simp[Value.isStrOf]
theorem MI{y:Str}{v:Value}(h:(PySem.strKind prog w).is y v=true):strOf v=y/\∃tk,v=.str y tk:=by
 obtain⟨tk,rfl⟩:=Value.isStrOf_shape h;exact⟨rfl,tk,rfl⟩
abbrev RX(es:Array (Int×Value)):At:=es.toList.map λe=>strOf e.2
def C9(prog:Program)(w:World)(h:Heap)(a:Addr)(ks:At):Prop:=∃es ep t,h.get? a\(BY es ep t)/\Fa w es t/\es.size<scanBound/\ElemsOf (PySem.strKind prog w) es.toList/\(RX es).Perm ks
def BI(ks:At)(y:Str):At:=if y∈ks then ks else ks++[y]
theorem C9.at(x:C9 prog w h a ks)(k:∀o,h.get? a\o->h'.get? a\o):C9 prog w h' a ks:=by obtain⟨es,ep,t,e,r⟩:=x;exact ⟨es,ep,t,k _ e,r⟩
theorem RY{es c:Array (Int×Value)}{t t':SetTable}{Q:Unit->Shared->Prop}(d:'F' a\(BY es ep t))(hz:c.size<scanBound)(h:∀h',Heap.SameBut a s.heap h'->h'.get? a\(BY c (ep+1) t')->Q () { s with heap:=h' }):'C' (storeSet a c t') Q E s:=by
 refine wpAny_storeSet_of d rfl (h _ (Heap.SameBut.update ..) ?_) (fits_of_scanBound hz);exact Heap.get?_update_self (Obj.putSet c t') d rfl
theorem RZ(g:Bool->Sem Unit)(c:g=λb=>match b with|true=>rule "set.scan.the-table-gave-way" | false=>pure ())(b:Bool){Q:Unit->Shared->Prop}(a:Q () s):'C' (g b) Q E s:=by
 subst c;cases b<;>first|exact wP a|exact wpAny_rule a
theorem ZR{y:Str}{tk:Tok}{Q:Bool->Shared->Prop}(x:C9 prog w s.heap a ks)(T:ks.length+1<scanBound)(h:∀b h',Heap.SameBut a s.heap h'->C9 prog w h' a (BI ks y)->Q b { s with heap:=h' }) :
  'C' (setAddHashed a (.str y tk) ((PySem.strKind prog w).hash y)) Q E s:=by
 obtain⟨es,ep,t,ρ,⟨hf,hz,f,U⟩,hb,g,I⟩:=x;have hk:=RW (prog:=prog) (w:=w) y tk;have a1:es.size=ks.length:=by rw[<-I.length_eq];simp
 have mem:y∈ks↔∃e∈es.toList,(PySem.strKind prog w).is y e.2=true:=by
  rw[<-I.mem_iff,bU];constructor
  ·rintro⟨e,v,rfl⟩;obtain⟨⟨k,C,_⟩,_⟩:=g e v;refine⟨e,v,?_⟩;rw[(MI C).1];exact C
  ·rintro⟨e,v,q⟩;exact⟨e,v,(MI q).1⟩
 unfold setAddHashed setAddHashedIn;refine bM (wB (wpAny_setState_of ρ rfl hf ?_));dsimp only;rw[aC (byScan_of rfl hb g)];unfold setAddByScan;refine wB (wB (wpAny_rule (wB (wpAny_setScan_of hk ρ rfl hf g ?_))));cases hr:findIdx? (λe=>(PySem.strKind prog w).is y e.2) es.toList with
 |some j =>
  obtain⟨hj,σ,_⟩:=findIdx?_eq_some_iff_getElem.mp hr;have hm:y∈ks:=mem.mpr ⟨_,getElem_mem hj,σ⟩;refine wP (wP (h _ s.heap (Heap.SameBut.refl a s.heap) ⟨es,ep,t,ρ,⟨hf,hz,f,U⟩,hb,g,?_⟩));unfold BI;rw[aC hm];exact I
 |none =>
  have hm:y∉ks:=λz=>by
   obtain⟨e,v,q⟩:=mem.mp z;have:=findIdx?_eq_none_iff.mp hr e v;rw[q]at this;cases this
  dsimp only;have u:=layNew_perm t es ((PySem.strKind prog w).hash y) (.str y tk);have M:=layNew_fits t es ((PySem.strKind prog w).hash y) (.str y tk);have ld:=Y8 t es ((PySem.strKind prog w).hash y) (.str y tk);generalize layNew t es ((PySem.strKind prog w).hash y) (.str y tk)=L at u M ld ⊢;obtain⟨c,N,wd,gv⟩:=L;dsimp only at u M ld ⊢;rw[Array.toList_push]at u;have z1:c.size=es.size+1:=by have:=u.length_eq;simpa using this
  have i:ElemsOf (PySem.strKind prog w) c.toList:=(g.push hk rfl).perm u;have us:c.size<scanBound:=⋯;have B:(RX c).Perm (BI ks y):=by
   unfold BI;rw[aB hm];refine(u.map _).trans ?_;rw[cN];exact I.append (List.Perm.refl _)
  have H:∀(t2:SetTable),t2.fits c.size=true->t2.led=t.led->t2.plain=false->'C' (do
    storeSet a c t2
    if(!wd&&t2.tooFull)=true then do
      (match (relayAll t2 c (SetTable.grown c.size)).2.2 with|true=>rule "set.scan.the-table-gave-way" | false=>pure ():Sem Unit)
      storeSet a (relayAll t2 c (SetTable.grown c.size)).1 (relayAll t2 c (SetTable.grown c.size)).2.1
      pure (some true)
     else pure (some true)) (λr s'=>'C' (match r with|some p=>pure p|none=>setAddHashedIn a (.str y tk) ((PySem.strKind prog w).hash y) 99999) Q E s') E s:=by
   intro t2 f2 l2 p2;have O:Fa w c t2:=⟨f2,by have:scanBound=4096:=rfl;lia,by rw[l2,f],λ_=>p2⟩;refine wB (RY ρ us λh1 b1 e1=>?_);split
   ·have d:=relayAll_perm t2 c (SetTable.grown c.size);have n:=relayAll_fits t2 c (SetTable.grown c.size);have m:=Y9 t2 c (SetTable.grown c.size);have l:=ZA c (SetTable.grown c.size) p2;generalize relayAll t2 c (SetTable.grown c.size)=L at d n m l ⊢;obtain⟨o,t3,a0⟩:=L;dsimp only at d n m l ⊢;have z3:o.size=c.size:=by have:=d.length_eq;simpa using this
    have D:o.size<scanBound:=⋯;refine wB (RZ _ rfl a0 (wB (RY (s:={ s with heap:=h1 }) e1 D λh3 b3 e3=>wP (wP (h _ _ (b1.trans b3) ⟨o,_,t3,e3,⟨n,by have:scanBound=4096:=rfl;lia,by rw[m,l2,f],λ_=>l⟩,D,i.perm d,(d.map _).trans B⟩)))))
   ·exact wP (wP (h _ _ b1 ⟨c,_,t2,e1,O,us,i,B⟩))
  refine wB (RZ _ rfl gv ?_);by_cases p1:N.plain=true
  ·rw[aC p1];refine wB (wP ?_);exact H { N with plain:=false } (SetTable.fits_plain_off M) ld rfl
  ·rw[aB p1];refine wB (wP ?_);exact H N M ld (~~~p1)
def Bl(ys:At):At:=ys.foldl BI []
theorem ZS{P:Nat->Value->Prop}{R:Result->Shared->Prop}{wr:Ha}{us:Array GenState->Array GenState->Prop}{vs:Do}{St:Nat->Shared->Prop}(W:WalksS prog w A.in1 I fp wr us n P St)(O:n=vs.length)(ρ:∀i v,P i v->vs[i]?\v)(d:StrsAre vs ys)(S:Addr)(u:S∉fp)(c:vs.length+1<scanBound) :
  ∀(k i:Nat) (s:Shared) (ks:At),vs.length - i=k->i<=vs.length->ks.length<=i->St i s->C9 prog w s.heap S ks->(∀s',Moved (S::wr) us s s'->C9 prog w s'.heap S ((ys.drop i).foldl BI ks)->R (.ok (.ret .none)) s') ->
   codeAny (model prog w) A (.builtin "set.update.loop" ⟨[.ref S,.ref I],[]⟩) R s:=by
 have r:S∉wr:=λh=>u (W.sub _ h);have U:vs.length=ys.length:=d.length;subst O;intro k
 induction k with
 |zero =>
  intro i s ks Q hi D st tx H;have E:i=vs.length:=⋯;subst E;refine codeAny_builtin PyProof.Rows.F.entry_set_update_loop ?_;rw[Around.under_plainId PyProof.Rows.F.plain_set_update_loop _];refine wB (m:=pyNext (.ref I)) (W.done s _ _ st λs' l=>?_);refine wP (H s' (l.mono λb c=>bT _ c) ?_);rw[drop_of_length_le ⋯];exact tx.at λo e=>l.heap S o r e
 |succ k M =>
  intro i s ks Q hi D st tx H;have a:i<vs.length:=⋯;have p:i<ys.length:=⋯;refine codeAny_builtin PyProof.Rows.F.entry_set_update_loop ?_;rw[Around.under_plainId PyProof.Rows.F.plain_set_update_loop _];refine wB (m:=pyNext (.ref I)) (W.item i s _ _ a st λv s' hP z l=>?_)
  replace hP:=ρ i v hP
  have N:∃tk,v=.str ys[i] tk:=by
   have C:vs[i]=v:=by rw[aH a]at hP;exact oI hP
   obtain⟨x,tk,e⟩:=d.all v (C▸getElem_mem a);have T:=d.strs;have:ys[i]=x:=by
    have L:(vs.map strOf)[i]?=ys[i]?:=by rw[T]
    rw[bO,hP,aH p,e]at L;exact(oI L).symm
   exact⟨tk,by rw[this];exact e⟩
  obtain⟨tk,rfl⟩:=N;refine wB (m:=holding _ _) (bM ?_);unfold setAdd;refine bM (wB ((PySem.strKind prog w).pyHash (RW ys[i] tk) ?_));refine ZR (s:={ s' with toks:=s'.toks+1 }) (tx.at λo e=>l.heap S o r e) ⋯ λb h' g y=>?_;have q:(BI ks ys[i]).length<=i+1:=by
   unfold BI;split
   ·lia
   ·simp;lia
  refine wP ⟨plainId_quiet PyProof.Rows.F.plain_set_update_loop _,M (i+1) _ _ ⋯ a q (W.frame _ s' _ _ z (cR _) λb c o e=>?_) y λB j f=>?_⟩
  ·rw[g.2 b (λh:b=S=>u (by rw[<-h];exact c))];exact e
  ·refine H B (Moved.trans W.gtrans ((l.mono λb c=>bT _ c).then_heap (cR _) λb o c e=>?_) j) ?_
   ·rw[g.2 b (λh:b=S=>c (by rw[h];exact cA))];exact e
   ·rw[drop_eq_getElem_cons p];exact f
theorem ZT(x:Value){Q₁:VS}(h:Q₁ (.ref 'H') { s with heap:=s.heap.push (BY #[] 0 (.fresh 0 0 (!w.params.followText "set-order"))) }) :
  codeAny (model prog w) A (.call (.builtin "set.__new__") ⟨[.type "set",x],[]⟩) (wants Q₁ E) s:=by
 refine codeAny_of_tree ?_;show wpAny _ A.in1 (do checkBuiltinCall "set.__new__" ⟨[.type "set",x],[]⟩;again (.builtin "set.__new__" ⟨[.type "set",x],[]⟩)) _ _ s;refine wB (wpAny_of_eq (F.newCall_set_1 x) (wP ⟨plainId_quiet F.plain_set_new _,codeAny_builtin F.entry_set_new ?_⟩));rw[Around.under_plainId F.plain_set_new _];unfold Builtin.«set.__new__» Builtin.Frozenset.newClass;have a:=sub_set_self;obtain⟨c,g,d,tk,os⟩:=s;dsimp only
 wp_walk
 refine wpAny_askSetting (wP ?_);dsimp only;simp only[newObj];exact wB (wpAny_alloc (wP (wP h)))
theorem ZU:Fa w #[] (.fresh 0 0 (!w.params.followText "set-order")):=⟨rfl,'3',rfl,λh=>bS h '3'⟩
theorem Ra{l:Addr}{c:String}{D:Go}{T:Data}{C:Array Ex}{vs:Do}(hh:A.handled=none)(x:'F' l\{ cls:=.type c,dict:=D,data:=T,slots:=C })(p:StrsAre vs ys)(L:ys.length+1<scanBound)
  (a0:isSubtype (.type c) (.type "set")=pure false) (a1:isSubtype (.type c) (.type "frozenset")=pure false) (a7:(Value.type c==Value.type "dict")=false)
  (ρ:∀(U:Around) (s':Shared),U.handled=none->s'.heap.get? l\{ cls:=.type c,dict:=D,data:=T,slots:=C }->∃(oI:Obj) (St:Nat->Heap->Prop),(∀(E':VS) (Q':VS),Q' (.ref s'.heap.objs.size) { s' with heap:=s'.heap.push oI }->wpAny (model prog w) U (pyIter (.ref l)) Q' E' s')/\Walks prog w U.in1 s'.heap.objs.size [s'.heap.objs.size,l] [s'.heap.objs.size] vs.toArray.size (λi v=>vs.toArray[i]?\v) St/\St 0 (s'.heap.push oI))
  (h:∀(h':Heap) (tk:Nat),C9 prog w h' 'H' (Bl ys)->(∀b o,'F' b\o->h'.get? b\o)->Q (.ref 'H') { s with heap:=h',toks:=tk }) :
  'C' (call (.type "set") [.ref l]) Q E s:=by
 obtain⟨c',tl,a2⟩:=F.called_set.mro;have H:=F.called_set.made;have σ:=F.called_set.sub;have I:=bN x;refine wpAny_call (codeAny_of_tree (?_:'A' (callAny (.type "set") _) _ _ _));refine wP ⟨Code.quiet_builtin _ nofun,codeAny_builtin F.entry_type_call ?_⟩;rw[Around.under_plain (weight_type_call_type "set" [.ref l] []) rfl];have q1:=F.called_set.notType;have q2:=F.called_set.canCreate;have a9:=F.typeCall_set_1 (.ref l)
 repeat (any_goals (first|assumption|wp_step))
 generalize z:SetTable.fresh 0 0 (!w.params.followText "set-order")=g;refine codeAny_mono (ZT (.ref l) (E:=E) (Q₁:=λn f=>n=.ref 'H'/\f={ s with heap:=s.heap.push (BY #[] 0 g) }) (by rw[z];exact⟨rfl,rfl⟩)) λr f us=>?_;cases r with
 |error e=>exact us
 |ok fl =>
  cases fl with
  |ret n =>
   obtain⟨rfl,rfl⟩:=us;have N:(s.heap.push (BY #[] 0 g)).get? 'H'\(BY #[] 0 g):=bP _ rfl;have hT:Shared.TypeIs { s with heap:=s.heap.push (BY #[] 0 g) } (.ref 'H') "set":=⟨_,N,rfl⟩;have a8:=F.called_set.init.lookup;have aa:=F.called_set.init.bind (.ref 'H')
   repeat (any_goals (first|assumption|wp_step))
   refine codeAny_mono (codeAny_call_builtin (R:=wants (λr d=>r=.none/\∃h' tk,d={ s with heap:=h',toks:=tk }/\C9 prog w h' 'H' (Bl ys)/\(∀b o,'F' b\o->h'.get? b\o)) E) F.called_set.init.plain F.entry_set_init (check_set_init_1 hT ?_)) λm d a=>?_
   ·have u:(s.heap.push (BY #[] 0 g)).get? l\{ cls:=.type c,dict:=D,data:=T,slots:=C }:=aS _ x;have ab:(s.heap.push (BY #[] 0 g)).get? 'H'\{ cls:=.type "set",dict:=none,data:=.set #[] 0 g,slots:=#[] }:=N;subst z;unfold Builtin.«set.__init__» noKeywords Builtin.Frozenset.updateFrom;generalize O:pyIter=PI
    wp_walk
    subst O;obtain⟨oI,St,y,W,st⟩:=ρ A.in1.in1 { s with heap:=s.heap.push (BY #[] 0 (SetTable.fresh 0 0 (!w.params.followText "set-order"))) } hh u;refine y _ _ (wB (wpAny_runValue ?_));have q:=size_push' s.heap (BY #[] 0 (SetTable.fresh 0 0 (!w.params.followText "set-order")));have M:'H'∉[(s.heap.push (BY #[] 0 (SetTable.fresh 0 0 (!w.params.followText "set-order")))).objs.size,l]:=by
     rw[q];simp only[aF,bB,or_false,not_or];exact⟨bX (Nat.lt_succ_self _),Nat.ne_of_gt I⟩
    have a3:=p.length;refine ZS W.toS (size_toArray) (vs:=vs) (λi v e=>by simpa using e) p 'H' M ⋯ (vs.length - 0) 0 _ [] rfl (cD _) (aQ _) st ⟨#[],0,_,aS _ N,ZU,'3',λe he=>by simp at he,List.Perm.refl _⟩ λs' B tx=>?_;have e:s'={ s with heap:=s'.heap,toks:=s'.toks }:=by
     have e1:=B.gens;have e2:=B.drawn;have e3:=B.os;obtain⟨a6,g',d',a4,a5⟩:=s';simp only at e1 e2 e3;subst e1;subst e2;subst e3;rfl
    refine wP (wP ⟨rfl,_,_,e,tx,λb o eb=>?_⟩);have L:=bN eb;refine B.heap b o ?_ (aS _ (aS _ eb));rw[q];simp only[aF,bB,or_false,not_or];exact⟨bX L,bX (Nat.lt_succ_of_lt L)⟩
   ·cases m with
    |error e=>exact a
    |ok j =>
     cases j with
     |ret r =>
      obtain⟨rfl,h',tk,rfl,x1,x2⟩:=a
      repeat (any_goals (first|assumption|wp_step))
      exact h _ _ x1 x2
     |_=>exact a.elim
  |_=>exact us.elim
theorem ZV:isSubtype (.type "tuple") (.type "set")=pure false:=by rw[isSubtype_type];kernel_rfl
theorem ZW:isSubtype (.type "tuple") (.type "frozenset")=pure false:=by rw[isSubtype_type];kernel_rfl
theorem ZX{l:Addr}{vs:Do}(m:A.handled=none)(j:s.heap.IsList l vs.toArray)(c:StrsAre vs ys)(p:ys.length+1<scanBound)
  (h:∀(h':Heap) (tk:Nat),C9 prog w h' 'H' (Bl ys)->(∀b o,'F' b\o->h'.get? b\o)->Q (.ref 'H') { s with heap:=h',toks:=tk }):'C' (call (.type "set") [.ref l]) Q E s:=by
 obtain⟨⟨f,x,y,v⟩,d,i,n,g⟩:=j;simp only at i g;subst i;subst g;exact Ra m d c p F.sub_list_set F.sub_list_frozenset '3' (λu s' r e=>have a:s'.heap.IsList l vs.toArray:=⟨_,e,rfl,n,rfl⟩;⟨_,_,λB z q=>wpAny_pyIter_list a q,Walks.list (A:=u.in1) r _ l (bX (bN e)) vs.toArray,⟨_,bP _ rfl,rfl,rfl⟩,a.push _⟩) h
theorem ZY{l:Addr}{vs:Do}(m:A.handled=none)(j:s.heap.IsTuple l vs.toArray)(a:StrsAre vs ys)(p:ys.length+1<scanBound)
  (h:∀(h':Heap) (tk:Nat),C9 prog w h' 'H' (Bl ys)->(∀b o,'F' b\o->h'.get? b\o)->Q (.ref 'H') { s with heap:=h',toks:=tk }):'C' (call (.type "set") [.ref l]) Q E s:=by
 obtain⟨⟨f,x,y,v⟩,c,i,n,g⟩:=j;simp only at i g;subst i;subst g;exact Ra m c a p ZV ZW '3' (λu s' r e=>have d:s'.heap.IsTuple l vs.toArray:=⟨_,e,rfl,n,rfl⟩;⟨_,_,λB z q=>wpAny_pyIter_tuple d q,Walks.tuple (A:=u.in1) r _ l (bX (bN e)) vs.toArray,⟨_,bP _ rfl,rfl,rfl⟩,⟨_,aS _ e,rfl,n,rfl⟩⟩) h
def GJ(prog:Program)(w:World)(a:Addr)(ks:At):HO:=.ext λh=>C9 prog w h a ks
def Hh(prog:Program)(w:World):dG->Hp->VK->Prop:=λxs H Q=>∃(p:Addr) (ss:At),xs=[.ref p]/\(H p\(.lst (ss.map V.str))\/H p\(.tup (ss.map V.str)))/\ss.length<4000/\∀a:Addr,H a=none->Q (.ref a) (AD H a (GJ prog w a (Bl ss)))
def MJ(prog:Program)(w:World):dG->Hp->VK->Prop:=λxs H Q=>∃(a:Addr) (ks:At),xs=[.ref a]/\H a\(GJ prog w a ks)/\ks.length<64/\∀(l:Addr) (ss':At),H l=none->ss'.Perm ks->sortedS ss'=true->Q (.ref l) (AD H l (.lst (ss'.map V.str)))
def MK(prog:Program)(w:World):dG->Hp->VK->Prop:=λxs H Q=>∃(a:Addr) (ks:At),xs=[.ref a]/\H a\(GJ prog w a ks)/\ks.length<4096/\Q (.int ks.length) H
theorem Inv.dr{d:PySem.Drawn}(I:Inv X qA Y H s):Inv X qA Y H { s with drawn:=d }:=⟨I.ok,I.os,I.bare,I.base,I.loc,I.cell,I.free,I.freeC,I.pin,I.hok,I.len⟩
theorem Rb(c:X.calm=true):BK X (.type "set") (Hh X.prog X.w):=by
 rintro qA s Y H xs G Q I r⟨p,ss,rfl,hp,g,q⟩;obtain⟨u,rfl,f⟩:=r.one;cases f;have a:∀(h':Heap) (tk:Nat),C9 X.prog X.w h' 'H' (Bl ss)->(∀b o,'F' b\o->h'.get? b\o)->EP X qA Y Q (.ref 'H') { s with heap:=h',toks:=tk }:=λh' tk tx k =>
  ⟨.ref 'H',_,I.laid (t':=tk) (o:=GJ X.prog X.w 'H' (Bl ss)) k (aQ _) ⟨tx,((by obtain⟨_,_,_,e,_⟩:=tx;exact ⟨_,e⟩)),λh1 h2 x y=>x.at y⟩,rfl,q _ (I.hok.fresh (aQ _))⟩
 have d:ss.length+1<scanBound:=by show ss.length+1<4096;lia
 rcases hp with hp|hp
 ·obtain⟨qG,r,pl,_⟩:=I.list (.of hp);exact ZX (I.ok.hd c) pl.isList (Gu r) d a
 ·obtain⟨qG,r,tt,_⟩:=I.tuple (.of hp);exact ZY (I.ok.hd c) tt (Gu r) d a
theorem ZZ(C:X.calm=true):BK X (.builtin "sorted") (MJ X.prog X.w):=by
 rintro qA s Y H xs G Q I r⟨a,ks,rfl,E,ρ,q⟩;obtain⟨u,rfl,y⟩:=r.one;cases y;obtain⟨⟨es,ep,t,e,ok,_,g,n⟩,_⟩:=I.hok a _ E;have M:es.size=ks.length:=by rw[<-n.length_eq];simp
 have us:StrsAre (es.toList.map (·.2)) ((es.toList.map (·.2)).map strOf):=strsAre_map _ λv A=>by
  obtain⟨x,z,rfl⟩:=bU.mp A;obtain⟨⟨k,B,_⟩,_⟩:=g x z;obtain⟨_,tk,e⟩:=MI B;exact⟨_,tk,e⟩
 have d:((es.toList.map (·.2)).map strOf).Perm ks:=by rw[bZ];exact n
 obtain⟨m,p,_⟩:=I.loc;refine ZQ (I.ok.hd C) e ok us ⋯ λh' tk dr D out c i j k1 k2 k3 l k5=>?_;have f:H D=none:=by
  cases e:H D with
  |none=>rfl
  |some o=>obtain⟨u,L⟩:=(I.hok D o e).there;exact bS L (j u)
 refine⟨.ref D,_,(Inv.laidF (t':=tk) (o:=.lst (c.map V.str)) I p (p.at' λo e=>k1 _ o e) (λb u _ e=>k1 b u e) f j ⟨?_,out,i,OS k3,k2⟩).dr,rfl,q D c f (l.trans d) k5⟩;rw[aA,(l.trans d).length_eq];exact aY (C0 ⋯)
theorem Za:BK X (.builtin "len") (MK X.prog X.w):=by
 rintro qA s Y H xs G Q I r⟨a,ks,rfl,j,d,q⟩;obtain⟨u,rfl,f⟩:=r.one;cases f;obtain⟨⟨es,ep,t,e,ok,l,i,g⟩,_⟩:=I.hok a _ j;have d:es.size=ks.length:=by rw[<-g.length_eq];simp
 have c:(es.size:Int)<2 ^ 63:=by
  have:((es.size:Int))<4096:=⋯;exact Int.lt_trans this '3'
 exact call_len_set e ⟨rfl,rfl,rfl⟩ rfl ok.1 c ⟨.int ks.length,H,I.tok _,⟨_,by rw[d]⟩,q⟩
theorem Zb{y:Str}:x∈BI ks y↔x∈ks\/x=y:=by
 unfold BI;split
 ·rename_i h;exact⟨.inl,λz=>z.elim id λe=>e▸h⟩
 ·simp
theorem Re{y:Str}(h:ks.Nodup):(BI ks y).Nodup:=by
 unfold BI;split
 ·exact h
 ·rename_i n;exact nodup_append.mpr ⟨h,'2',λa d b c e=>n (by rw[bI]at c;rw[<-c,<-e];exact d)⟩
theorem Rf:∀(ys ks:At) (x:Str),x∈ys.foldl BI ks↔x∈ks\/x∈ys
 |[],ks,x=>'2'
 |y::r,ks,x=>by
  rw[foldl_cons,Rf r,Zb,aF,or_assoc]
theorem Rg:∀(ys ks:At),ks.Nodup->(ys.foldl BI ks).Nodup
 |[],ks,h=>h
 |y::r,ks,h=>Rg r _ (Re h)
theorem ML:∀(ys ks:At),(ys.foldl BI ks).length<=ks.length+ys.length
 |[],ks=>'2'
 |y::r,ks=>by
  have:=ML r (BI ks y);have h2:(BI ks y).length<=ks.length+1:=by unfold BI;split<;>simp
  simp only[foldl_cons,length_cons];lia
theorem Rh:x∈Bl ys↔x∈ys:=by unfold Bl;rw[Rf];simp
theorem Ri(ys:At):(Bl ys).Nodup:=Rg ys [] List.Pairwise.nil
theorem Rj(ys:At):(Bl ys).length<=ys.length:=by unfold Bl;simpa using ML ys []
theorem Rk:∀(ys ks:At),(ks++ys).Nodup->ys.foldl BI ks=ks++ys
 |[],ks,h=>'2'
 |y::r,ks,h=>by
  have a:y∉ks:=λz=>(nodup_append.mp h).2.2 y z y '2' rfl;rw[foldl_cons,show BI ks y=ks++[y] by unfold BI;rw[aB a],Rk r _ (~~~h)];simp
theorem Zd(h:ys.Nodup):Bl ys=ys:=by unfold Bl;simpa using Rk ys [] (~~~h)
theorem Rl:∀(ys ks:At),ks.Nodup->(ys.foldl BI ks).length=ks.length+ys.length->(ks++ys).Nodup
 |[],ks,h,_=>by simpa using h
 |y::r,ks,h,e=>by
  have h1:=ML r (BI ks y);simp only[foldl_cons,length_cons]at e;have c:y∉ks:=λz=>by
   rw[show BI ks y=ks by unfold BI;rw[aC z]]at h1 e;lia
  have a:BI ks y=ks++[y]:=by unfold BI;rw[aB c]
  have:=Rl r (BI ks y) (Re h) (by rw[e,a];simp;lia);rw[a]at this;simpa using this
theorem Rn:(Bl ys).length=ys.length↔ys.Nodup :=
 ⟨λh=>by unfold Bl at h;simpa using Rl ys [] List.Pairwise.nil (~~~h),λh=>by rw[Zd h]⟩
def Ji:pC:=p1 λx f K=>∃ss:At,(x=.lst (ss.map P.str)\/x=.tup (ss.map P.str))/\ss.length<64/\∀ss':At,ss'.Nodup->(∀z,z∈ss'↔z∈ss)->Bg ss'->K (.lst (ss'.map P.str)) .nw
def Jj:pC:=p1 λx f K=>∃ss:At,(x=.lst (ss.map P.str)\/x=.tup (ss.map P.str))/\ss.length<4000/\K (.int (Bl ss).length) .fr
def Ro(prog:Program)(w:World):dG->Hp->VK->Prop:=λxs H Q=>Hh prog w xs H λv H1=>MJ prog w [v] H1 Q
def Rq(prog:Program)(w:World):dG->Hp->VK->Prop:=λxs H Q=>Hh prog w xs H λv H1=>MK prog w [v] H1 Q
section
theorem Rr{x:P}(ok:Ok W J Y H)(rv:RF W J Y Hs f H x v)(d:x=.lst (ss.map P.str)\/x=.tup (ss.map P.str)):∃p,v=.ref p/\(H p\(.lst (ss.map V.str))\/H p\(.tup (ss.map V.str))):=by
 rcases d with rfl|rfl
 ·obtain⟨p,G,rfl,c,a⟩:=Ca ok rv;rw[AC.strs.mp a]at c;exact⟨p,rfl,.inl c⟩
 ·obtain⟨p,G,rfl,c,a⟩:=Cb ok rv;rw[AC.strs.mp a]at c;exact⟨p,rfl,.inr c⟩
theorem Ze:Bz (Ro prog w) Ji:=λW J Y Hs H Q K xs vs ok st r d q=>by
 unfold Ji p1 at d;split at d
 ·obtain⟨v,rfl,rv⟩:=r.one;obtain⟨ss,h,n,i⟩:=d;obtain⟨p,rfl,j⟩:=Rr ok rv h;refine⟨p,ss,rfl,j,⋯,λa m=>⟨a,Bl ss,rfl,AX,by have:=Rj ss;lia,λl e f h1 h2=>?_⟩⟩;have c:Step W.b W.a H (AD H a (GJ prog w a (Bl ss))):=Step.new ok.bag m;exact q _ _ _ _ (i e (h1.nodup_iff.mpr (Ri ss)) (λz=>h1.mem_iff.trans Rh) (GG h2)) (c.trans (Step.new c.bag f)) (FS (g:=.nw) (ok.step c) (st.trans c) '2' '2' (AC.strs.mpr rfl) f)
 ·exact d.elim
theorem Zg:Bz (Rq prog w) Jj:=λW J Y Hs H Q K xs vs ok st r c q=>by
 unfold Jj p1 at c;split at c
 ·obtain⟨v,rfl,rv⟩:=r.one;obtain⟨ss,e,i,f⟩:=c;obtain⟨p,rfl,g⟩:=Rr ok rv e;refine⟨p,ss,rfl,g,⋯,λa h=>⟨a,Bl ss,rfl,AX,by have:=Rj ss;lia,?_⟩⟩;have d:Step W.b W.a H (AD H a (GJ prog w a (Bl ss))):=Step.new ok.bag h;exact q _ _ _ _ f d EI
 ·exact c.elim
section
variable{a:Expr}{p:pA}{p1 p2 pos2:Pos}
theorem Rs(e:∀i,(Xs i).prog=prog/\(Xs i).w=w)(f:∀i,(Xs i).calm=true)(j:∀i,(Xs i).mg "sorted"=none)(c:∀i,(Xs i).mg "set"=none)(n:QA Xs [a] p)
  (l:∀i,Gl (Xs i) "sorted":=by rfl) (d:∀i,Gl (Xs i) "set":=by rfl) (m:∀i,starEach [a] (Xs i).env=(false,eval a (Xs i).env)::starEach [] (Xs i).env:=by rfl) :
  QE Xs (.Call (.Name "sorted" p1) [.Call (.Name "set" p2) [a] [] pos2] [] pos) (EG Ji p):=by
 obtain⟨t,h1,h2⟩:=n;refine⟨DD (MJ prog w) (Bx (DD (Hh prog w) t) CD),λi=>?_,show BL (DD (Ro prog w) t) _ from G9 Ze h2⟩;have h:=ZZ (X:=Xs i) (f i);have g:=Rb (X:=Xs i) (f i);rw[(e i).1,(e i).2]at h g;exact Eh h (l i) (j i) (show bootBuiltins _\(.builtin "sorted") from nofun) (Ag (IW g (d i) (c i) nofun (h1 i) nofun nofun (m i) rfl) Az rfl) nofun nofun rfl rfl
theorem Zh(e:∀i,(Xs i).prog=prog/\(Xs i).w=w)(m:∀i,(Xs i).calm=true)(h:∀i,(Xs i).mg "len"=none)(c:∀i,(Xs i).mg "set"=none)(n:QA Xs [a] p)
  (j:∀i,Gl (Xs i) "len":=by rfl) (d:∀i,Gl (Xs i) "set":=by rfl) (l:∀i,starEach [a] (Xs i).env=(false,eval a (Xs i).env)::starEach [] (Xs i).env:=by rfl) :
  QE Xs (.Call (.Name "len" p1) [.Call (.Name "set" p2) [a] [] pos2] [] pos) (EG Jj p):=by
 obtain⟨t,h1,h2⟩:=n;refine⟨DD (MK prog w) (Bx (DD (Hh prog w) t) CD),λi=>?_,show BL (DD (Rq prog w) t) _ from G9 Zg h2⟩;have g:=Za (X:=Xs i);have f:=Rb (X:=Xs i) (m i);rw[(e i).1,(e i).2]at g f;exact Eh g (j i) (h i) (show bootBuiltins _\(.builtin "len") from nofun) (Ag (IW f (d i) (c i) nofun (h1 i) nofun nofun (l i) rfl) Az rfl) nofun nofun rfl rfl
end
end
theorem Zi(bs:List Bool):((List.range bs.length).any λi=>(bs[i]?).getD true)=bs.any id:=by
 have e:(List.range bs.length).map (λi=>(bs[i]?).getD true)=bs:=by
  apply ext_getElem
  ·simp
  ·intro i h1 h2;simp[h2]
 have:((List.range bs.length).any λi=>(bs[i]?).getD true)=((List.range bs.length).map λi=>(bs[i]?).getD true).any id:=by rw[any_map];rfl
 rw[this,e]
theorem Zj(m:X.calm=true):BK X (.builtin "any") (λxs H Q=>∃(p:Addr) (bs:List Bool),xs=[.ref p]/\Am X.K H p (bs.map V.bl)/\Q (.bl (bs.any id)) H):=by
 rintro qA s Y H xs G Q I r⟨p,bs,rfl,j,q⟩;obtain⟨u,rfl,g⟩:=r.one;cases g;obtain⟨qG,r,pl,o⟩:=I.list j;have d:=Kx r;have c:=pl.isList;have a:p<'H':=by obtain⟨_,e,_⟩:=c;exact bN e
 refine call_any_walk (wpAny_pyIter_list c ⟨'H',['H',p],['H'],qG.toArray.size,_,_,λi=>(bs[i]?).getD true,rfl,Walks.list (A:=X.A.in1) (I.ok.hd m) _ p (bX a) qG.toArray,⟨⟨_,bP _ rfl,rfl,rfl⟩,c.push _⟩,λi v s' w x n f=>?_,λh' tk l=>?_⟩)
 ·obtain⟨b,e,rfl⟩:=d.get i v (~~~n);simp only[e,Option.getD_some]at f;exact wpAny_truthy_bool f
 ·have e:((List.range qG.toArray.size).any λi=>(bs[i]?).getD true)=bs.any id:=by
   rw[size_toArray,d.length];exact Zi bs
  rw[e];exact⟨.bl _,H,I.kept (t':=tk) (LSm.kept_iter l),rfl,q⟩
def MM:pC:=p1 λx f K=>∃bs:List Bool,x=.lst (bs.map P.bl)/\K (.bl (bs.any id)) .fr
theorem Zk:Bz (λxs H Q=>∃(p:Addr) (bs:List Bool),xs=[.ref p]/\Am Kf H p (bs.map V.bl)/\Q (.bl (bs.any id)) H) MM:=λW J Y Hs H Q K xs vs ok st r a q=>by
 unfold MM p1 at a;split at a
 ·obtain⟨v,rfl,rv⟩:=r.one;obtain⟨bs,rfl,e⟩:=a;obtain⟨p,G,rfl,c,d⟩:=Ca ok rv;rw[AC.bls.mp d]at c;exact⟨p,bs,rfl,.of c,q _ _ _ H e (Step.refl ok.bag) Dc⟩
 ·exact a.elim
end L2
namespace L2
open PySem PySem.Spec PyProof.Rows
abbrev Bh(ce tg iter tg2 cg:Expr)(scope:Scope)(pos:Pos):Expr:=.ListComp ce [⟨tg,iter,[],0⟩,⟨tg2,cg,[],0⟩] scope pos
theorem Zl(ce tg iter tg2 cg:Expr)(scope:Scope)(pos:Pos)(it cf:Value)(env:Env):compTurn (Bh ce tg iter tg2 cg scope pos) 0 it cf env=(do
  standAt iter.pos
  match <-pyNext it with
  |none=>pure (.done .next)
  |some v =>
   letOwnedTupleGo tg it v
   assign tg env v
   let x <-eval cg env
   standAt cg.pos
   let x <-foldedSetIterable cg env x
   let i2 <-holding [x] (pyIter x)
   let _ <-runOwn (.compStart (Bh ce tg iter tg2 cg scope pos) 1 i2 cf env) env
   again (.compLoop (Bh ce tg iter tg2 cg scope pos) 0 it cf env)):=by rfl
theorem Zm(ce tg iter tg2 cg:Expr)(scope:Scope)(pos:Pos)(it cf:Value)(env:Env):compTurn (Bh ce tg iter tg2 cg scope pos) 1 it cf env=(do
  standAt cg.pos
  match <-pyNext it with
  |none=>pure (.done .next)
  |some v =>
   letOwnedTupleGo tg2 it v
   assign tg2 env v
   (do let _ <-call (.builtin "list.append") [cf,<-eval ce env])
   again (.compLoop (Bh ce tg iter tg2 cg scope pos) 1 it cf env)):=by rfl
section
variable{R:Result->Shared->Prop}{tg2 cg:Expr}{it cf:Value}
theorem Zn(I:Nat->Shared->Prop)
  (turn:∀n s,I n s->'C' (pyNext it) (λr s₁=>match r with
   |none=>R (.ok .next) s₁
   |some v=>'C' (letOwnedTupleGo tg2 it v) (λ_ a=>'C' (assign tg2 env v) (λ_ s₂ =>
     'C' (eval ce env) (λx d=>'C' (call (.builtin "list.append") [cf,x]) (λ_ c=>∃m,m<n/\I m c) '9' d) '9' s₂) '9' a) '9' s₁) '9' s)
  (n:Nat) (h:I n s):codeAny (model prog w) A (.compLoop (Bh ce tg iter tg2 cg scope pos) 1 it cf env) R s:=by
 refine codeAny_loop rfl I (λn s l=>?_) n h;show wpAny _ A ((compTurn (Bh ce tg iter tg2 cg scope pos) 1 it cf env).onRaise (λx=>do noteFrame x env;theTreesLotGoes x)) _ _ s;refine wpAny_noted ?_;rw[Zm];refine wB (wpAny_standAt (wB (bL (turn n s l) (λr s₁ e=>?_) λ_ _ h'=>h'.elim)));cases r with
 |none=>exact wP e
 |some v =>
  refine wB (bL e (λ_ a f=>?_) λ_ _ h'=>h'.elim);refine wB (bL f (λ_ s₂ j=>?_) λ_ _ h'=>h'.elim);exact wB (wB (bL j (λx d i=>wB (bL i (λ_ c g=>wP (wP ⟨rfl,g⟩)) λ_ _ h'=>h'.elim)) λ_ _ h'=>h'.elim))
theorem Zo(h:codeAny (model prog w) A (.compLoop (Bh ce tg iter tg2 cg scope pos) 1 it cf env) R s)
  (h2:'C' (pyIter it) (λa s'=>codeAny (model prog w) A (.compLoop (Bh ce tg iter tg2 cg scope pos) 1 a cf env) R s') (notedBy (model prog w) A env λx s'=>R (.error x) s') s) :
  codeAny (model prog w) A (.compStart (Bh ce tg iter tg2 cg scope pos) 1 it cf env) R s:=by
 refine codeAny_of_tree ?_;show 'A' ((compStart (Bh ce tg iter tg2 cg scope pos) 1 it cf env).onRaise (λx=>do noteFrame x env;standAt theWindowsPlace)) _ _ s;refine wpAny_notedAt ?_;unfold compStart;refine wpAny_ite ?_;rw[aB (show¬(((clausesOf (Bh ce tg iter tg2 cg scope pos))[1]?).elim false λx=>x.is_async != 0)=true from cH)];refine wB (wpAny_askSetting (wpAny_ite ?_));split
 ·exact wP ⟨rfl,h⟩
 ·refine wB (wpAny_rule (?_:'A' (standAt cg.pos >>= _) _ _ s));exact wB (wpAny_standAt (wB (bL h2 (λa s' h'=>wP ⟨rfl,h'⟩) λ_ _ x=>x)))
theorem Zp(p:∀x,foldedSetIterable cg env x=pure x)(I:Nat->Shared->Prop)
  (turn:∀n s,I n s->'C' (pyNext it) (λr s₁=>match r with
   |none=>R (.ok .next) s₁
   |some v=>'C' (letOwnedTupleGo tg it v) (λ_ a=>'C' (assign tg env v) (λ_ s₂ =>
     'C' (eval cg env) (λx f=>'C' (pyIter x) (λi2 e=>codeAny (model prog w) A (.compStart (Bh ce tg iter tg2 cg scope pos) 1 i2 cf env) (λr d=>r=.ok .next/\∃m,m<n/\I m d) e) '9' f) '9' s₂) '9' a) '9' s₁) '9' s)
  (n:Nat) (h:I n s):codeAny (model prog w) A (.compLoop (Bh ce tg iter tg2 cg scope pos) 0 it cf env) R s:=by
 refine codeAny_loop rfl I (λn s q=>?_) n h;show wpAny _ A ((compTurn (Bh ce tg iter tg2 cg scope pos) 0 it cf env).onRaise (λx=>do noteFrame x env;theTreesLotGoes x)) _ _ s;refine wpAny_noted ?_;rw[Zl];refine wB (wpAny_standAt (wB (bL (turn n s q) (λr s₁ g=>?_) λ_ _ h'=>h'.elim)));cases r with
 |none=>exact wP g
 |some v =>
  refine wB (bL g (λ_ a i=>?_) λ_ _ h'=>h'.elim);refine wB (bL i (λ_ s₂ o=>?_) λ_ _ h'=>h'.elim);refine wB (bL o (λx f l=>?_) λ_ _ h'=>h'.elim);refine wB (wpAny_standAt (wB (wpAny_of_eq (p x) ?_)));refine wB (bM (bL l (λi2 e j=>?_) λ_ _ h'=>h'.elim));refine wB (wpAny_runOwn (codeAny_mono j λr d c=>?_));obtain⟨rfl,c⟩:=c;exact wP ⟨rfl,c⟩
end
def Rt(D:Addr)(M:dG->Hp->Prop)(i2:Nat)(te:TE)(ys:dG)(σ4:St)(J2:It)(H5:Hp):Prop:=∃W2:Nat->Nat->dG->Hp->Prop,(∃m2,W2 0 m2 ys H5)/\∀k m2 zs H6,W2 k m2 zs H6->H6 D\(.lst zs)/\((J2.stop k H6/\M zs H6)\/(J2.go k H6/\∃M2:dG->Hp->Prop,(∀G H',M2 G H'->∃m',m'<m2/\W2 (k+1) m' G H') /\
 ∀y H7,J2.yld k H6 y H7->te (σ4.set i2 (some y)) H7 λz H9=>H9 D\(.lst zs)/\zs.length<sizeLine/\M2 (zs++[z]) (AD H9 D (.lst (zs++[z])))))
def Zq(ρ:It)(qD:List (Option Nat))(i1:Nat)(wi2:TI)(i2:Nat)(te:TE)(Y:St)(Q:VK)(H1:Hp):Prop:=∀D,H1 D=none->∃W:Nat->Nat->dG->Hp->Prop,(∃m,W 0 m [] (AD H1 D (.lst []))) /\
 ∀i m ys H2,W i m ys H2->H2 D\(.lst ys)/\((ρ.stop i H2/\Q (.ref D) H2)\/(ρ.go i H2/\∃M:dG->Hp->Prop,(∀zs H',M zs H'->∃m',m'<m/\W (i+1) m' zs H') /\
  ∀x H3,ρ.yld i H2 x H3->wi2 ((L2.picked Y qD).set i1 (some x)) H3 (Rt D M i2 te ys ((L2.picked Y qD).set i1 (some x)))))
def MN(wi:TI)(qD:List (Option Nat))(i1:Nat)(wi2:TI)(i2:Nat)(te:TE):TE:=λY H Q=>wi Y H λρ H1=>Zq ρ qD i1 wi2 i2 te Y Q H1
section
variable{tg2 cg:Expr}{wi2:TI}{i1 i2:Nat}
theorem Zr{Q:VK}{a8:Option (Value->Sem Unit)}{QQ:VS}
  (S:CompScope N sc N' qD scope) (hN:X.N=N) (ao:X.env.scope=sc) (hc:X.calm=true) (hi:PI X tg iter wi) (bj:qD[i1]?\none) (bi:qD[i2]?\none) (bl:i1≠i2) (hg:∀p,PG (X.comp N' scope p) tg (CJ i1)) (bo:∀p,PI (X.comp N' scope p) tg2 cg wi2) (bp:∀p,PG (X.comp N' scope p) tg2 (CJ i2))
  (he:∀p,PE (X.comp N' scope p) ce te) (hs:∀x,foldedSetIterable iter X.env x=pure x) (bh:∀p x,foldedSetIterable cg (X.comp N' scope p).env x=pure x)
  (I:Inv X qA Y H s) (h:MN wi qD i1 wi2 i2 te Y H Q)
  (fin:∀(D C:Addr) (H':Hp) (s':Shared) (m:Str->Ex),Inv X qA Y H' s'->Q (.ref D) H'->H' C=none->C≠X.env.locals->X.s₀.heap.objs.size<=C->(∀x c,X.env.cells.lookup x\c->c≠C)->(∀p∈X.pn++qA,p.1≠C)->s'.heap.Ns C m ->
   compPost (model X.prog X.w) X.A X.xe a8 QQ (.ref D) C (.ok .next) s') :
  'B' (comprehension (Bh ce tg iter tg2 cg scope pos) scope X.env (firstIterPos [⟨tg,iter,[],0⟩,⟨tg2,cg,[],0⟩] pos) (newList []) false (eval iter X.env) a8) QQ X.xe s:=by
 have aq:∀y∈scope.names,y.2=NameKind.free->∃c,X.env.cells.lookup y.1\c:=λy hy e=>by
  have q:=S.has y hy e;rw[<-ao]at q;exact I.ok.has y.1 q
 refine wpAny_comprehension_free rfl hs (OD aq) S.kind S.names (AH (hi qA s Y H _ I h) λv s1 h1=>AH h1 λcc f h2=>?_);obtain⟨it,fp,tn,ρ,H2,e,I2,T,ae,U,q⟩:=h2;subst e;have au:H2 f.heap.objs.size=none:=I2.fresh;obtain⟨W,⟨m0,w0⟩,ah⟩:=q f.heap.objs.size au;refine cG (T:="list") (wpAny_newFunctionEnv S.nocell (by intro y hy;simp at hy) (λh₁ j g=>?_) S.kind);dsimp only at j g ⊢;have I3:Inv X qA Y (AD H2 f.heap.objs.size (.lst [])) { f with heap:=f.heap.push { cls:=.type "list",dict:=none,data:=.seq ([]:Do).toArray } } :=
  I2.lnew (t':=f.toks) (qG:=[]) .nil (cD _)
 generalize a0:f.heap.push { cls:=.type "list",dict:=none,data:=.seq ([]:Do).toArray }=G3 at j g I3 ⊢;have f3:∀b∈fp,CC X qA (AD H2 f.heap.objs.size (.lst [])) b:=λb a=>by
  obtain⟨o,e,_⟩:=T.obj _ _ ae b a;refine⟨?_,(U b a).2⟩;rw[AI (bX (bN e))];exact(U b a).1
 have ap:∀b∈fp,∃o,G3.get? b\o:=λb a=>by
  obtain⟨o,e,_⟩:=T.obj _ _ ae b a;exact⟨o,a0▸aS _ e⟩
 have am:∀b o,G3.get? b\o->h₁.get? b\o:=λb o e=>(g.2 b (bX (bN e))).trans (aS _ e);have I4:=Vs (s4:={ f with heap:=h₁,toks:=f.toks+([]:List (Str×Value)).length }) S hN ao I3 f3 ap (aQ G3.objs.size) am j rfl rfl;have ak:tn 0 h₁:=T.keep _ _ _ ae λb a o e=>am b o (a0▸aS _ e);have σ:f.heap.objs.size<=G3.objs.size:=by rw[<-a0,Heap.size_push];exact cR _
 generalize O:(⟨BQ X.env.cells scope.names [],G3.objs.size,{ f with heap:=G3 },AD H2 f.heap.objs.size (.lst []),fp,qA⟩:CompP)=p at I4;have sub:∀y c,(X.comp N' scope p).env.cells.lookup y\c->X.env.cells.lookup y\c:=λy c e=>by
  subst O;rcases Gq (cs:=[]) e with q|q
  ·exact q
  ·simp at q
 have E:∀{H':Hp},(∀b∈fp,H' b=none)->∀b∈fp,CC (X.comp N' scope p) [] H' b:=λhn b a=>by
  refine⟨hn b a,λz=>?_,λz=>?_,.inl (by subst O;exact a),λx c e=>(U b a).2.2.2.2.1 x c (sub x c e),λq hq=>?_⟩
  ·subst O;obtain⟨o,e⟩:=ap b a;have z:b=G3.objs.size:=z;exact bS (bN e) (by rw[z];exact aX _)
  ·subst O;rcases aF.mp (I2.stkSub b z)with q|q
   ·exact(U b a).2.1 q
   ·exact(U b a).2.2.1 q
  ·refine(U b a).2.2.2.2.2 q ?_;subst O;have hq:q∈(X.pn++qA)++[]:=hq;simpa using hq
 have a6:codeAny (model X.prog X.w) X.A (.compLoop (Bh ce tg iter tg2 cg scope pos) 0 (.ref it) (.ref f.heap.objs.size) (X.comp N' scope p).env)
   (compPost (model X.prog X.w) X.A X.xe a8 QQ (.ref f.heap.objs.size) G3.objs.size) { f with heap:=h₁,toks:=f.toks+([]:List (Str×Value)).length }:=by
  refine Zp (bh p) (λn s'=>∃i ys H',Inv (X.comp N' scope p) [] (L2.picked Y qD) H' s'/\tn i s'.heap/\(∀b∈fp,H' b=none)/\W i n ys H') ?_ m0 ⟨0,[],_,I4,ak,λb a=>(f3 b a).1,w0⟩;rintro n s5 ⟨i,ys,H5,I5,aj,as,w5⟩;obtain⟨hD,bz⟩:=ah i n ys H5 w5;rcases bz with⟨ai,qn⟩|⟨go,M,hM,step⟩
  ·refine AH (T.done (X.comp N' scope p) rfl rfl rfl hc i [] s5 _ H5 _ I5 (E as) aj ai) λr s6 zz=>?_;obtain⟨hr,I6⟩:=zz;subst hr;obtain⟨m6,bm,_⟩:=I6.loc;have un:Un (CS X.stack) fp H2 H5 f.heap s6.heap:=by
    have u1:Un (CS X.stack) fp H2 (AD H2 f.heap.objs.size (.lst [])) f.heap G3:=Un.laid (λb o e=>a0▸aS _ e) (aQ _) au;have u2:=I6.base;subst O;exact u1.trans u2
   have IO:Inv X qA Y H5 s6:=I2.call' (by have e:=I6.os;subst O;exact e) un (by have e:=I6.hok;subst O;exact e) I6.bare λb a=>⟨(U b a).2.2.2.1,(U b a).2.1,(U b a).2.2.2.2.1,(U b a).2.2.2.2.2⟩;refine fin _ _ H5 s6 m6 IO qn ?_ ?_ ?_ ?_ ?_ ?_
   ·have e:=I6.free;subst O;exact e
   ·exact Nat.ne_of_gt (aU I2.lt σ)
   ·exact aR I2.sz σ
   ·intro x c e z;obtain⟨v,q⟩:=I2.cell x c e;exact bS (aU q.lt σ) (by rw[z];exact aX _)
   ·intro q hq z;exact bS (aU (bN (I2.pin q hq).1) σ) (by rw[z];exact aX _)
   ·subst O;exact bm
  ·refine AH (T.item (X.comp N' scope p) rfl rfl rfl hc i [] s5 _ H5 _ I5 (E as) aj go) λr s6 zz=>?_;obtain⟨u,hr,h6⟩:=zz;subst hr;refine AH h6 λ_ s7 zz=>?_;obtain⟨x,H7,I7,r7,y7,ac,bv⟩:=zz;have c0:=I7.pinned (E bv) (T.obj _ _ ac);refine AH (hg p _ s7 _ H7 x u (λσ' H'=>σ'=(L2.picked Y qD).set i1 (some x)/\wi2 σ' H' (Rt f.heap.objs.size M i2 te ys σ')) c0 r7 ⟨rfl,step x H7 y7⟩) λ_ s8 zz=>?_;obtain⟨B,H8,I8,e8,q8⟩:=zz;have w8:∀(k:Nat) v,(L2.picked Y qD)[k]?\(some v)->B[k]?\(some v):=λk v e=>by
    rw[e8,bV (λz=>by subst z;rw[Fs bj]at e;cases e)];exact e
   have n8:B[i2]?\none:=by rw[e8,bV bl];exact Fs bi
   refine AH (bo p _ s8 B H8 _ I8 q8) λv2 s9 h9=>AH h9 λc8 s10 bt=>?_;obtain⟨bg,af,b5,J2,c7,bx,c4,T2,a5,aw,W2,⟨m2,b3⟩,a9⟩:=bt;subst bx;have back:∀{H':Hp} {s':Shared},Inv (X.comp N' scope p) ([]++Ed fp s7.heap) B H' s'->∀{zs:dG},M zs H' ->
     ∃m,m<n/\∃i ys H'',Inv (X.comp N' scope p) [] (L2.picked Y qD) H'' s'/\tn i s'.heap/\(∀b∈fp,H'' b=none)/\W i m ys H'':=λ{H' s'} I' {zs} mz=>by
    obtain⟨m',hm,w'⟩:=hM _ _ mz;refine⟨m',hm,i+1,zs,H',?_,T.keep _ _ _ ac λb a o e=>(I'.pin (b,o) (cC _ (cC _ (Ee a e)))).1,λb a=>?_,w'⟩
    ·refine(I'.unpinned).weak ?_ w8;rw[(I'.unpinned).len,I7.len]
    ·obtain⟨o,e,d⟩:=T.obj _ _ ac b a;exact(I'.pin (b,o) (cC _ (cC _ (Ee a e)))).2.1
   have l:∀{H':Hp},(∀b∈af,H' b=none)->∀b∈af,CC (X.comp N' scope p) ([]++Ed fp s7.heap) H' b:=λhn b a=>⟨hn b a,(aw b a).2⟩;have L:codeAny (model X.prog X.w) X.A (.compLoop (Bh ce tg iter tg2 cg scope pos) 1 (.ref bg) (.ref f.heap.objs.size) (X.comp N' scope p).env) (λr s₆=>r=.ok .next/\∃m,m<n/\∃i ys H',Inv (X.comp N' scope p) [] (L2.picked Y qD) H' s₆/\tn i s₆.heap/\(∀b∈fp,H' b=none)/\W i m ys H') s10:=by
    refine Zn (λn2 s'=>∃k zs H',Inv (X.comp N' scope p) ([]++Ed fp s7.heap) B H' s'/\b5 k s'.heap/\(∀b∈af,H' b=none)/\W2 k n2 zs H') ?_ m2 ⟨0,ys,c7,c4,a5,λb a=>(aw b a).1,b3⟩;rintro n2 al ⟨k,zs,ag,b0,a4,a7,b4⟩;obtain⟨c9,ax⟩:=a9 k n2 zs ag b4;rcases ax with⟨aa,bf⟩|⟨bu,M2,bq,ab⟩
    ·refine AH (T2.done (X.comp N' scope p) rfl rfl rfl hc k _ al _ ag _ b0 (l a7) a4 aa) λr b9 zz=>?_;obtain⟨hr,c3⟩:=zz;subst hr;exact⟨rfl,back c3 bf⟩
    ·refine AH (T2.item (X.comp N' scope p) rfl rfl rfl hc k _ al _ ag _ b0 (l a7) a4 bu) λr b9 zz=>?_;obtain⟨u2,hr,br⟩:=zz;subst hr;refine AH br λ_ b8 zz=>?_;obtain⟨x2,b1,az,bb,b2,us,av⟩:=zz;have ay:=az.pinned (l av) (T2.obj _ _ us);refine AH (bp p _ b8 _ b1 x2 u2 (λσ' H'=>σ'=B.set i2 (some x2)/\te σ' H' λz a2=>a2 f.heap.objs.size\(.lst zs)/\zs.length<sizeLine/\M2 (zs++[z]) (AD a2 f.heap.objs.size (.lst (zs++[z])))) ay bb ⟨rfl,ab x2 b1 b2⟩) λ_ b7 zz=>?_;obtain⟨a3,a2,c2,bw,be⟩:=zz;refine AH (he p _ b7 a3 a2 _ c2 be) λv b6 zz=>?_;obtain⟨z,c6,c1,ba,ar,an,bd⟩:=zz;refine AH (Fo (X:=X.comp N' scope p) _ b6 a3 c6 (.ref f.heap.objs.size) [z] _ [v] (λ_ H'=>M2 (zs++[z]) H') c1 rfl (.cons ba .nil) ⟨_,zs,z,rfl,rfl,ar,an,bd⟩) λw ca zz=>?_;obtain⟨z',c5,a1,cb,bc⟩:=zz;obtain⟨m',bn,w'⟩:=bq _ _ bc;refine⟨m',bn,k+1,zs++[z],c5,?_,T2.keep _ _ _ us λb a o e=>(a1.pin (b,o) (cC _ (cC _ (Ee a e)))).1,λb a=>?_,w'⟩
     ·refine(a1.unpinned).weak ?_ λk v e=>?_
      ·rw[(a1.unpinned).len,az.len]
      ·rw[bw,bV (λz=>by subst z;rw[n8]at e;cases e)];exact e
     ·obtain⟨o,e,d⟩:=T2.obj _ _ us b a;exact(a1.pin (b,o) (cC _ (cC _ (Ee a e)))).2.1
   exact Zo L (T2.self _ 0 _ _ _ a5 L)
 subst O;exact codeAny_compStart_list a6 (T.self _ 0 _ _ _ ak a6)
end
theorem Zs{α:Type}{l:List α}(h:i<l.length):l.take (i+1)=l.take i++[l[i]]:=by
 apply ext_getElem?;intro k;rw[getElem?_append,getElem?_take,getElem?_take,aO];by_cases h1:k<i
 ·simp[h1,Nat.lt_succ_of_lt h1,show k<min i l.length by lia]
 ·by_cases h2:k=i
  ·subst h2;simp[h,show¬k<min k l.length by lia,show k - min k l.length=0 by lia]
  ·simp[show¬k<i+1 by lia,show¬k<min i l.length by lia,show k - min i l.length≠0 by lia]
theorem Zt(S:CompScopeC N sc N' qD scope)(z:X.calm=true)(hi:PI X tg iter wi)(v:Ek qD g)
  (w:∀p,PG (X.compC N' scope p) tg g) (n:∀p,Ej (X.compC N' scope p) ifs tt) (y:∀p,PE (X.compC N' scope p) ce te) (B:X.N=N:=by rfl) (a:X.env.scope=sc:=by rfl) (r:∀x,foldedSetIterable iter X.env x=pure x:=by rfl) :
  PE X (.ListComp ce [⟨tg,iter,ifs,0⟩] scope pos) (Fq wi qD g tt te):=by
 intro qA s Y H Q I h;rw[eval_ListComp];refine OK S B a z hi v w n y r I h λD C H' s' m IO q l j i f d u=>?_;exact⟨m,u,λh' c=>⟨.ref D,H',IO.turned (t':=s'.toks) (λb o A e=>(c.2 b A).trans e) l (Ne.symm (Ne.symm j)) (.inr i) f d,rfl,q⟩⟩
section
variable{pt:pT}
abbrev MO(Xs:ι->Cx)(N':At)(scope:Scope):ι×CompP->Cx:=λq=>(Xs q.1).compC N' scope q.2
theorem Zu(S:CompScopeC N sc N' qD scope)(h:F3 qD)(m:∀i,(Xs i).calm=true)(hi:QI Xs tg iter pi)(j:HJ (MO Xs N' scope) qD tg pg)(e:HK (MO Xs N' scope) ifs pt)(l:QE (MO Xs N' scope) ce pe)
  (n:∀i,(Xs i).N=N:=by rfl) (a:∀i,(Xs i).env.scope=sc:=by rfl) (f:∀i,∀x,foldedSetIterable iter (Xs i).env x=pure x:=by intro _ _;rfl) :
  QE Xs (.ListComp ce [⟨tg,iter,ifs,0⟩] scope pos) (HH pi qD pg pt pe):=by
 obtain⟨wi,i1,i2⟩:=hi;obtain⟨g,r,q,o⟩:=j;obtain⟨tt,d,c⟩:=e;obtain⟨te,u,s⟩:=l;exact⟨_,λi=>Zt S (m i) (i1 i) o (λp=>r (i,p)) (λp=>d (i,p)) (λp=>u (i,p)) (n i) (a i) (f i),LL h i2 q c s⟩
end
end L2
namespace L2
open PySem PySem.Spec PyProof.Rows PySem.W
def Ru(pa pb:pE):pI:=λJ K=>pa J λx f=>pb J λy g=>∃xs ys,x=.lst xs/\y=.lst ys/\P.imms xs=true/\K (zipWith Dz xs ys) g.el (DJ f&&DJ g)
section
variable{a b:Expr}{p1 tp:Pos}{x1:Nat}
theorem Rv(hK:∀i,(Xs i).K=Kf)(hm:∀i,(Xs i).mg "zip"=none)(ha:QE Xs a pa)(hb:QE Xs b pb)(hg:∀i,Gl (Xs i) "zip":=by rfl)(hs:∀i,starEach [a,b] (Xs i).env=[(false,eval a (Xs i).env),(false,eval b (Xs i).env)]:=by rfl)(A:∀i,starEach [b] (Xs i).env=[(false,eval b (Xs i).env)]:=by rfl) :
  QI Xs (.Tuple elts x1 tp) (.Call (.Name "zip" p1) [a,b] [] pos) (Ru pa pb):=by
 obtain⟨ta,a1,a2⟩:=ha;obtain⟨tb,σ,b2⟩:=hb;refine⟨QU Kf (Bx ta (Bx tb CD)),λi=>?_,λW J Y H R K ok hk q=>a2 W J Y H _ _ ok hk λx f v H1 h1 s1 r1=>b2 W J Y H1 _ _ (ok.step s1) h1 λy g u H2 ⟨xs,ys,m,j,i1,a4⟩ s2 ρ=>?_⟩
 ·have:=Xr (elts:=elts) (x1:=x1) (tp:=tp) (p:=p1) (pos:=pos) (hg i) (hm i) (Ag (a1 i) (Ag (σ i) Az (by rw[A i];rfl)) (by rw[hs i,A i])) (hs i) (A i);rw[hK i]at this;exact this
 ·subst m;subst j;have C:=s1.trans s2;have d:=ok.step C;have z:=r1.step (ok.step s1) s2;obtain⟨l1,vs,rfl,c1,D⟩:=Ca d z;obtain⟨l2,G,rfl,U,w⟩:=Ca d ρ;have nb:∀{f:Fl} {xs:dH} {l:Addr} {Hs:Hp},RF W J Y Hs f H2 (.lst xs) (.ref l)->l≠W.b:=λr=>by
   obtain⟨p',a7,m,j,_⟩:=r.any d;cases m;exact j
  have a3:=nb z;have a0:=nb ρ;have a6:=D.length;have a5:=w.length;have j2:=PJ (K:=Kf) d ρ U w;have core:∀O' ρ' σ' H',(∀i v c,(DY Kf l2).yld i H' v c->∀x,ys[i]?\x->Step W.b W.a H' c/\RF { W with O:=O' } ρ' σ' H' g.el c x v)->H' l1\(.lst vs)->H' l2\(.lst G)->(∀p vs,H2 p\(.tup vs)->H' p\(.tup vs))->Bag H' W.b W.a->∀i,(i<(zipWith Dz xs ys).length->(HY Kf l1 l2).go i H')/\((zipWith Dz xs ys).length<=i->(HY Kf l1 l2).stop i H') /\
    ∀v c,(HY Kf l1 l2).yld i H' v c->∀x,(zipWith Dz xs ys)[i]?\x->Step W.b W.a H' c/\RF { W with O:=O' } ρ' σ' H' g.el c x v:=λO' ρ' σ' H' us N g2 gt hb i=>by
   refine⟨λhi=>?_,λhi=>?_,λv c yl x n=>?_⟩
   ·rw[length_zipWith]at hi;exact⟨vs,G,.of N,.of g2,⋯,⋯⟩
   ·rw[length_zipWith]at hi;exact⟨vs,G,.of N,.of g2,⋯⟩
   ·obtain⟨T,x',y',M,rfl,rfl,e⟩:=yl;obtain⟨m,j⟩:=e vs G (.of N) (.of g2);rw[getElem?_zipWith]at n;cases ex:xs[i]? with
    |none=>rw[ex]at n;simp at n
    |some px =>
     cases Q:ys[i]? with
     |none=>rw[ex,Q]at n;simp at n
     |some L =>
      rw[ex,Q]at n;have n:Dz px L=x:=by simpa using n
      subst n;obtain⟨v1,a1,a2⟩:=D.get ex;obtain⟨v2,σ,b2⟩:=w.get Q;rw[m]at a1;cases a1;rw[j]at σ;cases σ;have m1:px.imm=true:=G7.mp i1 px (aM ex);refine⟨Step.new hb M,?_⟩;have k1:∀{Z:Addr->Prop},Rp W.b Z (AD H' T (.tup [x',y'])) px x':=λ{Z}=>(((a2.imm m1:Rp W.b (λ_=>True) H2 px x').keep (Z':=λ_=>True) (H':=AD H' T (.tup [x',y'])) (λp o E=>bS trivial E) (λp I e=>by rw[AI (Ao (gt p I e) M)];exact gt p I e)).imm m1);have B:=(us i y' H' ⟨rfl,λzs E=>by obtain⟨_,e3⟩:=e vs zs (.of N) E;exact e3⟩ L Q).2;have k2:∀{Z:Addr->Prop},Rp W.b Z H' L y'->Rp W.b Z (AD H' T (.tup [x',y'])) L y':=λ{Z} r=>r.keep (λp o E e=>⟨E,by rw[AI (Ao e M)];exact e⟩) (λp I e=>by rw[AI (Ao e M)];exact e);cases g with
      |bo=>exact⟨T,[x',y'],rfl,AX,x',[y'],rfl,k1,y',[],rfl,k2 B,rfl⟩
      |nw=>exact⟨T,[x',y'],rfl,AX,x',[y'],rfl,k1,y',[],rfl,k2 B,rfl⟩
      |fr=>exact⟨T,[x',y'],rfl,AX,x',[y'],rfl,k1,y',[],rfl,k2 B,rfl⟩
      |cl=>exact⟨T,[x',y'],rfl,AX,x',[y'],rfl,k1,y',[],rfl,k2 B,rfl⟩
      |rf=>exact⟨T,[x',y'],rfl,AX,x',[y'],rfl,k1,y',[],rfl,k2 B,rfl⟩
      |an=>exact⟨T,[x',y'],rfl,AX,x',[y'],rfl,k1,y',[],rfl,k2 B,rfl⟩
  refine⟨l1,l2,vs,G,rfl,.of c1,.of U,q _ _ _ _ H2 a4 C (λO' ρ' σ' H' s i=>?_) (λh O' ρ' σ' H' s i=>?_)⟩
  ·have us:=λi=>(j2.1 O' ρ' σ' H' s i).2.2;obtain⟨_,rfl,rfl,a8,st⟩:=s;exact core O' _ _ H' us (st.same l1 _ a3 c1) (st.same l2 _ a0 U) (λp I e=>st.same p _ (d.bag.neT e).1 e) st.bag i
  ·rw[cB]at h;have us:=λi=>(j2.2 h.2 O' ρ' σ' H' s i).2.2;obtain⟨rfl,s⟩:=s;have k1:=HG d s (JE h.1);have k2:=HG d s (JE h.2);have nz:∀{f:Fl} {xs:dH} {l:Addr} {Hs:Hp},DJ f=true->RF W J Y Hs f H2 (.lst xs) (.ref l)->¬AG W J Y f l:=λ{f xs l Hs} hf r=>by
    cases f with
    |nw=>obtain⟨q,G,m,j,_⟩:=r.1;cases m;exact j
    |fr=>obtain⟨q,G,m,j,_⟩:=r;cases m;exact j
    |cl=>obtain⟨q,G,m,j,_⟩:=r;cases m;exact j
    |_=>simp[DJ]at hf
   exact core _ _ _ H' us (k1.1 l1 _ (nz h.1 z) c1).2 (k2.1 l2 _ (nz h.2 ρ) U).2 k1.2 s.bag i
end
end L2
namespace L2
section
variable{α:Type}(adj:α->α->Prop)
structure Ring(l:List α):Prop where
 nd:l.Nodup
 len:4<=l.length
 near:∀i j (hi:i<j) (hj:j<l.length),adj (l[i]'⋯) l[j]↔(j=i+1\/(i=0/\j+1=l.length))
variable{adj}
end
section
variable{α:Type}[DecidableEq α](r:Nat->List α)(there:Ge)
def MP(a b:α):Prop:=a≠b/\∃i∈there,a∈r i/\b∈r i
structure AB(T:List α):Prop where
 nd:T.Nodup
 len:3<=T.length
 no:¬∃i∈there,∀y∈T,y∈r i
 but:∀x∈T,∃i∈there,∀y∈T,y≠x->y∈r i
variable{r there}
end
end L2
namespace L2
open PySem
section
variable{α:Type}{adj:α->α->Prop}
theorem Zv(f:∀a b,adj a b->adj b a){a:α}{t:List α}(h:Ring adj (a::t)):Ring adj (t++[a]):=by
 have nd:=h.nd;have n:=h.len;rw[bC]at nd;rw[length_cons]at n;refine⟨nodup_append.mpr ⟨nd.2,'2',λx m y l=>by rw[bI.mp l];exactλe=>nd.1 (e▸m)⟩,'4',λi j hi p=>?_⟩;have g:(t++[a]).length=t.length+1:='2'
 have o:(t++[a])[i]''4'=t[i]'⋯:=getElem_append_left ⋯;rw[o];by_cases c:j<t.length
 ·have d:(t++[a])[j]''4'=t[j]:=getElem_append_left c;rw[d];have:=h.near (i+1) (j+1) ⋯ '4';simp only[getElem_cons_succ,length_cons]at this;rw[this];lia
 ·obtain rfl:j=t.length:=⋯;have d:(t++[a])[t.length]''2'=a:='2'
  rw[d];have:=h.near 0 (i+1) ⋯ '4';simp only[getElem_cons_succ,getElem_cons_zero,length_cons]at this;rw[show adj (t[i]'⋯) a↔adj a (t[i]'⋯)from⟨f _ _,f _ _⟩,this,g];simp only[true_and,and_true];lia
theorem Zw(c:∀a b,adj a b->adj b a){l:List α}(h:Ring adj l):Ring adj l.reverse:=by
 have d:l.reverse.length=l.length:=length_reverse;refine⟨pairwise_reverse.mpr (h.nd.imp λq=>q.symm),by rw[length_reverse];exact h.len,λi j hi e=>?_⟩;rw[getElem_reverse,getElem_reverse];have:=h.near (l.length - 1 - j) (l.length - 1 - i) ⋯ ⋯;rw[show adj (l[l.length - 1 - i]'⋯) (l[l.length - 1 - j]'⋯)↔adj (l[l.length - 1 - j]'⋯) (l[l.length - 1 - i]'⋯)from⟨c _ _,c _ _⟩,this];lia
theorem MQ(c:∀a b,adj a b->adj b a):∀(a b:List α),Ring adj (a++b)->Ring adj (b++a)
 |[],b,h=>by rw[append_nil];exact h
 |x::a,b,h=>by
  have h1:Ring adj ((a++b)++[x]):=Zv c h;rw[bK]at h1;have h2:=MQ c a (b++[x]) h1;rw[bK]at h2;exact h2
theorem dX(c:∀a b,adj a b->adj b a){l:List α}(h:Ring adj l){x:α}(d:x∈l):∃t,Ring adj (x::t)/\∀y,y∈x::t↔y∈l:=by
 obtain⟨a,b,rfl⟩:=append_of_mem d;refine⟨b++a,?_,λy=>by simp only[aF,bA];constructor<;>(intro q;rcases q with q|q|q<;>simp[q])⟩;have:=MQ c a (x::b) h;rw[cons_append]at this;exact this
end
def Ci(rs:List At)(i:Nat):At:=(rs[i]?).getD []
abbrev Fb(rs:List At):Ge:=List.range rs.length
def CP(rs:List At)(T:At):Bool:=rs.any λqI=>T.all λn=>decide (n∈qI)
theorem Hi{T:At}:CP rs T=true↔∃i∈Fb rs,∀y∈T,y∈Ci rs i:=by
 unfold CP;rw[any_eq_true];constructor
 ·rintro⟨qI,c,h⟩;obtain⟨i,hi,rfl⟩:=getElem_of_mem c;refine⟨i,bH.mpr hi,λy a=>?_⟩;unfold Ci;rw[aH hi];exact aL (all_eq_true.mp h y a)
 ·rintro⟨i,hi,h⟩;have hi:=bH.mp hi;refine⟨rs[i],getElem_mem hi,all_eq_true.mpr λy a=>aK ?_⟩;have:=h y a;unfold Ci at this;rw[aH hi]at this;exact this
abbrev Dn(rs:List At):Str->Str->Prop:=MP (Ci rs) (Fb rs)
theorem Rx{a b:Str}(c:a≠b):CP rs [a,b]=true↔Dn rs a b:=by
 rw[Hi];unfold Dn MP;simp only[aF,bB,or_false,forall_eq_or_imp,forall_eq];exact⟨λh=>⟨c,h⟩,λh=>h.2⟩
theorem Zx{a b:Str}:CP rs [a,b]=CP rs [b,a]:=by
 unfold CP
 congr 1
 funext qI
 simp[Bool.and_comm]
def Hj(rs:List At)(row:At):Bool:=decide (4<=row.length)&&decide (row.Nodup)&&(List.range row.length).all λat_=>(List.range at_).all λah=>CP rs [row.getD ah ⟨#[]⟩,row.getD at_ ⟨#[]⟩]==decide (at_ - ah=1\/at_ - ah=row.length - 1)
theorem Ry:Hj rs row=true↔Ring (Dn rs) row:=by
 unfold Hj;simp only[cB,decide_eq_true_eq,all_eq_true,bH,beq_iff_eq];constructor
 ·rintro⟨⟨h1,h2⟩,c⟩;refine⟨h2,h1,λi j hi a=>?_⟩;have:=c j a i hi;rw[bW,bW,aH ⋯,aH a]at this;rw[<-Rx (λe=>by have:=(getElem_inj h2).mp e;lia)];simp only[Option.getD_some]at this;rw[this,aW];lia
 ·intro h;refine⟨⟨h.len,h.nd⟩,λj a i hi=>?_⟩;have:=h.near i j hi a;rw[bW,bW,aH ⋯,aH a];simp only[Option.getD_some];rw[Bool.eq_iff_iff,Rx (λe=>by have:=(getElem_inj h.nd).mp e;lia),this,aW];lia
def GK(l:At):Prop:=l.Pairwise λa b=>a.cps.toList<b.cps.toList
theorem GK.nd{l:At}(h:GK l):l.Nodup:=h.imp λa e=>by rw[e]at a;exact List.lt_irrefl _ a
inductive Kn where
 |ab (T:At)|rg (l:At)
theorem Zy{Q:At->Prop}:(∃i∈Fb rs,Q (Ci rs i))↔∃r∈rs,Q r:=by
 constructor
 ·rintro⟨i,hi,q⟩;have hi:=bH.mp hi;refine⟨rs[i],getElem_mem hi,?_⟩;unfold Ci at q;rw[aH hi]at q;exact q
 ·rintro⟨r,a,q⟩;obtain⟨i,hi,rfl⟩:=getElem_of_mem a;refine⟨i,bH.mpr hi,?_⟩;unfold Ci;rw[aH hi];exact q
theorem GL{a b:Str}:Dn rs a b↔a≠b/\∃r∈rs,a∈r/\b∈r:=by
 unfold Dn MP;rw[Zy (Q:=λr=>a∈r/\b∈r)]
def Af(n k:Nat):Nat:=if k=0 then n - 1 else k - 1
abbrev gt(row:At)(k:Nat):Str:=row.getD k ⟨#[]⟩
end L2
namespace L2
open PySem PySem.Spec PyProof.Rows PySem.W
end L2
namespace L2
open PySem
abbrev Wd.at(W:Wd)(h:Hp):Wd:={ W with H₀:=h,F:=h }
section
variable{h:Hp}{k:Nat}{p:Addr}
structure Sub(W:Wd)(h:Hp):Prop where
 fb:W.F W.b=none
 o:∀p x,p≠W.b->W.H₀ p\x->h p\x
 f:∀p x,W.F p\x->h p\x
end
end L2
namespace L2
open PySem PySem.Spec PyProof.Rows
theorem Zz(n:Nat):sliceRange ((n:Int) - 1) (-1) (-1)=(List.range n).reverse:=by
 unfold sliceRange;have c:(if(-1:Int) > 0 then(if((n:Int) - 1) < -1 then((-1:Int) - ((n:Int) - 1)+-1 - 1) / -1 else 0)else(if((n:Int) - 1) > -1 then(((n:Int) - 1) - -1 - -1 - 1) / (- -1)else 0))=(n:Int):=by
  rw[aB '3'];split
  ·rw[show(- -1:Int)=1 from rfl,Int.ediv_one];lia
  ·lia
 simp only[c,Int.toNat_natCast];refine ext_getElem '2' λi h1 h2=>?_;rw[aA,bG]at h1;rw[getElem_map,getElem_reverse,getElem_range,getElem_range,bG];lia
theorem Z0{α:Type}:∀l:List α,(List.range l.length).filterMap (l[·]?)=l:=λl=>by
 have:∀n,n<=l.length->(List.range n).filterMap (l[·]?)=l.take n:=λn=>by
  induction n with
  |zero=>intro _;rfl
  |succ n a =>
   intro h;rw[range_succ,filterMap_append,a ⋯,bJ,aH ⋯];simp[aH (show n<l.length by lia)]
 rw[this _ (aQ _),take_length]
theorem Z1(items:FG):slicePick items none none (some (-1))=items.toList.reverse.toArray:=by
 unfold slicePick;rw[show(sliceBounds none none (some (-1)) items.size)=((items.size:Int) - 1,-1,-1)from rfl];simp only[Zz,filterMap_reverse]
 congr 2
 have:=Z0 items.toList;simpa using this
def Rz(te:TE)(ts:TE):TE:=λY H Q=>te Y H λx H1=>ts Y H1 λy H2=>∃a xs,x=.ref a/\y=.int (-1)/\H2 a\(.lst xs)/\∀p,H2 p=none->Q (.ref p) (AD H2 p (.lst xs.reverse))
theorem Z2{e es:Expr}{ts:TE}{p2:Pos}(D:PE X e te)(C:PE X es ts)(d:∀a b:Addr,∃ops,subscripted (.Slice none none (some es) p2) false (.ref a) (.ref b)=operate ops (getItem (.ref a) (.ref b)):=by intro _ _;exact⟨_,by with_unfolding_all rfl⟩):PE X (.Subscript e (.Slice none none (some es) p2) pos) (Rz te ts):=by
 intro qA s Y H Q I h;refine Subscript_ (AH (D qA s Y H _ I h) λv j zz=>?_);obtain⟨x,H1,us,m,q1⟩:=zz;refine wpAny_Slice ?_;rw[evalPart_none];refine wP (wP ?_);rw[evalPart_some];refine AH (C qA j Y H1 _ us q1) λu c zz=>?_;obtain⟨y,ρ,E,l,n⟩:=zz;obtain⟨a,xs,rfl,rfl,B,q⟩:=n;obtain⟨t,rfl⟩:=l;cases m;have f:Inv X qA Y ρ { c with heap:=c.heap.push { cls:=.type "slice",data:=.fields #[.none,.none,.int (-1) t] } }:=E.kept (t':=c.toks) λb p q=>aS _ q;obtain⟨qG,r,g,z⟩:=f.list (.of B);have i:=r.length;show 'B' (subscriptTail e (.Slice none none (some es) p2) (.ref a) (.ref c.heap.objs.size)) (EP X qA Y Q) X.xe { c with heap:=c.heap.push { cls:=.type "slice",data:=.fields #[.none,.none,.int (-1) t] } };obtain⟨ops,d⟩:=d a c.heap.objs.size;refine tail_any (ops:=ops) g.isList.typeIs slot_list_getitem.lookup (wpAny_getItem_list_slice g.isList (Heap.IsSliceOf.new ..) .none .none (.int (-1) t) '3' ?_ (by rw[size_toArray]<;>lia)) d;rw[Z1];refine⟨.ref _,_,f.laid (t':=c.toks) (o:=.lst xs.reverse) (λb p q=>aS _ q) (aQ _) ?_,rfl,q _ (f.hok.fresh (aQ _))⟩;exact⟨by rw[length_reverse];exact z,_,0,r.reverse,bP _ rfl⟩
def Z3(pe ps:pE):pE:=λJ K=>pe J λx f=>ps J λy _=>y=.int (-1)/\match x with
 |.lst xs=>K (.lst xs.reverse) (BC f xs.reverse)
 |_=>False
theorem AC.rev{b:Addr}{Z:Addr->Prop}{H:Hp}:∀{xs:dH} {vs:dG},AC b Z H xs vs->AC b Z H xs.reverse vs.reverse
 |[],vs,h=>by rw[show vs=[]from h];rfl
 |x::xs,vs,h=>by
  obtain⟨v,r,rfl,h1,h2⟩:=h;rw[reverse_cons,reverse_cons];exact h2.rev.snoc h1
theorem Z4{ι:Type}{Xs:ι->Cx}{e es:Expr}{ps:pE}{p2:Pos}(D:QE Xs e pe)(A:QE Xs es ps)(B:∀a b:Addr,∃ops,subscripted (.Slice none none (some es) p2) false (.ref a) (.ref b)=operate ops (getItem (.ref a) (.ref b)):=by intro _ _;exact⟨_,by with_unfolding_all rfl⟩) :
  QE Xs (.Subscript e (.Slice none none (some es) p2) pos) (Z3 pe ps):=by
 obtain⟨te,I,us⟩:=D;obtain⟨ts,r,o⟩:=A;refine⟨Rz te ts,λi=>Z2 (I i) (r i) B,λW J Y H Q K ok C q=>us W J Y H _ _ ok C λx f v H1 k1 j z=>o W J Y H1 _ _ (ok.step j) k1 λy g u H2 zz m w=>?_⟩;obtain⟨E,k2⟩:=zz;have d:=j.trans m;have h:=ok.step d;have s:=z.step (ok.step j) m;subst E;cases CZ h w;split at k2
 ·obtain⟨p,G,rfl,c,rv⟩:=Ca h s;exact⟨p,G,rfl,rfl,c,λl n=>q _ _ _ _ k2 (d.trans (Step.new d.bag n)) (RF.newL h d rv.rev n)⟩
 ·exact k2.elim
end L2
namespace PySem
open PySem.Sem (wp)
section
variable{K:Type}[DecidableEq K]{knd:HeapKind prog w K}
theorem Z5{xs:List (K×Addr×Value)}{k:K}{v:Value}(r:knd.room A)(c:knd.is s.heap k a)(B:s.heap.DictOfH knd d xs)
  (h1:∀p,atKey xs k\p->Q p.2 { s with toks:=s.toks+knd.draws k })
  (h2:atKey xs k=none->∀h',h'.DictOfH knd d (storedH xs k a v)->Heap.SameBut d s.heap h'->Q v { s with heap:=h',toks:=s.toks+knd.draws k })
  (hsz:xs.length<=sizeLine):'C' (dictSetDefault d (.ref a) v) Q E s:=by
 obtain⟨o,es,ep,g,C,f,m,l,n⟩:=B;unfold dictSetDefault
 try with_reducible refine bM ?_
 refine wB (knd.pyHash r c ?_);refine wB (wpAny_dictFind_heap (s:={ s with toks:=s.toks+knd.draws k }) r c g f m l n ?_ ?_)
 ·intro i;have h:k∉xs.map (·.1):=not_mem_keys_of_get i;have z:=atKey_none_of_get i;have h2:=h2 z;rw[storedH_new z]at h2;refine wB (wpAny_rule (wB (wpAny_updateDictKeys (hz:=by have e:=size_of_entries m;lia) (s:={ s with toks:=s.toks+knd.draws k }) g f (wP (h2 _ ⟨_,_,ep+1,Heap.get?_update_self _ g (Obj.isFreed_of_dict (Obj.data_mapDictKeys f _)),
   C.mapDictKeys _,Obj.data_mapDictKeys f _,?_,?_,?_⟩ (Heap.SameBut.update ..))))))
  ·simp[m,entryOfKey]
  ·intro x hx;rcases bA.mp hx with hx|hx
   ·exact knd.keeps (l x hx) g f (Heap.SameBut.update ..)
   ·simp only[bI]at hx;subst hx;exact knd.keeps c g f (Heap.SameBut.update ..)
  ·rw[cN,nodup_append];refine⟨n,'2',?_⟩;intro x hx y q;simp only[map_cons,map_nil,bI]at q;subst q;exactλe=>h (e▸hx)
 ·intro j p u;have h1:=h1 p (atKey_of_get n u);refine wB (wpAny_dictEntries (s:={ s with toks:=s.toks+knd.draws k }) g f ?_);rw[entry_at m j,u];exact wB (wpAny_rule (wP h1))
theorem Z6(knd:HeapKind prog w K)(d a:Addr)(m:(d==sysModules)=false)(dflt:Value) :
  MeetsIn prog w (Builtin.«dict.setdefault» ⟨[.ref d,.ref a,dflt],[]⟩) (λA R s=>knd.room A.in1/\∃k xs,knd.is s.heap k a/\s.heap.DictOfH knd d xs/\xs.length<=sizeLine /\
   (∀p,atKey xs k\p->R (.ok (.ret p.2)) { s with toks:=s.toks+knd.draws k }) /\
   (atKey xs k=none->∀h',h'.DictOfH knd d (storedH xs k a dflt)->Heap.SameBut d s.heap h'->R (.ok (.ret dflt)) { s with heap:=h',toks:=s.toks+knd.draws k })) :=
 .of_wp λA R s ⟨i,k,xs,c,g,h,h1,h2⟩=>by
  unfold Builtin.«dict.setdefault»;refine wB ?_;unfold Builtin.Dict.keyAndDefault;refine wB (wpAny_notOrdered_dict g.typeIs ?_);show 'A' (pure (d,Value.ref a,some dflt)) _ _ s;refine wP ?_;show 'A' (if(d==sysModules)=true then _ else(dictSetDefault d (.ref a) dflt >>= _)) _ _ s;rw[aB (by rw[m];exact cH)];exact wB (Z5 i c g (λp j=>wP ⟨p.2,rfl,h1 p j⟩) (λl h' f e=>wP ⟨dflt,rfl,h2 l h' f e⟩) h)
end
end PySem
namespace L2
open PySem PySem.Spec PyProof.Rows
section
variable{b:Addr}{z:V}{r:Value}
theorem Z7{qH:List (List AK×V)}{k:List AK}(u:A.units+1<cLine)(I:Inv X qA Y H s)(e:H a\(.dT qH))(n:H b\(.tup (k.map kV)))(l:qH.length<sizeLine)(h:AJ z r)
  (h1:∀v,BG qH k\v->∀w' s',Inv X qA Y H s'->AJ v w'->Q w' s') (h2:BG qH k=none->∀w' s',Inv X qA Y (AD H a (.dT (BB qH k z))) s'->AJ z w'->Q w' s') :
  wpAny (model X.prog X.w) A (call (.builtin "dict.setdefault") [.ref a,.ref b,r]) Q E s:=by
 obtain⟨g,j,xs,d,dd⟩:=Kq I.hok e;have o:xs.length<=sizeLine:=by rw[<-Paired.length d];exact g
 have C:(BB qH k z).length<=sizeLine:=by have:=FF qH k z;lia
 refine call_meetsIn PySem.F.slot_dict_setdefault dd.typeIs PySem.F.entry_dict_setdefault (PySem.F.args_dict_setdefault_3 _ _ _) (Z6 (tupleKind (Bq X.prog X.w)) a b j r) ⟨tupleKind_room_in1 u,k,xs,Fp I.hok n,dd,o,λp y=>?_,λB h' dd' x=>?_⟩
 ·have q:=d.val k;rw[y]at q;cases f:BG qH k with
  |none=>rw[f]at q;exact q.elim
  |some v=>rw[f]at q;exact h1 v f _ _ (I.tok _) q
 ·have q:=d.val k;rw[B]at q;cases f:BG qH k with
  |some v=>rw[f]at q;exact q.elim
  |none =>
   refine h2 f _ _ ?_ h;obtain⟨q,es,ep,i,L,ρ,us,_,D⟩:=dd';refine Gp I (by rw[e];exact True.intro) x ⟨q,i⟩ ⟨C,j,_,(d.put k n h).keeps λc ys m=>?_,q,es,ep,i,L,ρ,us,D⟩;rw[AI (EZ m e '5')];exact m
end
def MR(td ty tx:TE):TE:=λY H Q=>td Y H λx H1=>∃a,x=.ref a/\Ib H1 a/\ty Y H1 λy H2=>tx Y H2 λz H3=>∃(qH:List (List AK×V)) (k:List AK) (b:Addr),H3 a\(.dT qH)/\y=.ref b/\H3 b\(.tup (k.map kV))/\qH.length<sizeLine /\
 (∀v,BG qH k\v->Q v H3)/\(BG qH k=none->Q z (AD H3 a (.dT (BB qH k z))))
theorem Z8{o e f:Expr}{td ty tx:TE}(us:X.A.units+1<cLine)(ρ:PE X o td)(O:PE X e ty)(N:PE X f tx)(m:M2 X o "setdefault" qK e f qJ):PE X (.Call (.Attribute o "setdefault" qK) [e,f] [] qJ) (MR td ty tx):=by
 intro qA s Y H Q I h;refine wpAny_Call_method m.base m.few m.line PySem.F.plainAttrs_dict PySem.F.slot_dict_setdefault PySem.F.type_dict_setdefault (AH (ρ qA s Y H _ I h) λu r zz=>?_);obtain⟨x,H1,i,C,a,ex,d,q1⟩:=zz;subst ex;obtain rfl:u=Value.ref a:=C;obtain⟨n,l,_⟩:=N9 i d;refine⟨n,l,?_⟩;rw[m.trees];refine Calls.callWith_builtin rfl (Calls.evalArgs_plain (Calls.spliced_cons (AH (O qA r Y H1 _ i q1) λD q zz=>?_)));obtain⟨y,H2,I2,B,q2⟩:=zz;refine Calls.spliced_cons (AH (N qA q Y H2 _ I2 q2) λfv s3 zz=>?_);obtain⟨z,H3,I3,w,qH,k,b,ea,σ,eb,M,U,T⟩:=zz;refine Calls.spliced_nil ?_
 subst σ;cases(show D=Value.ref b from B);exact Z7 us I3 ea eb M w (λv E j p g c=>⟨v,H3,g,c,U v E⟩) λL j p g c=>⟨z,_,g,c,T L⟩
abbrev Wd.put(W:Wd)(O:Addr->Prop):Wd:={ W with O:=O }
section
variable{O O':Addr->Prop}{p q:Addr}{k:Nat}
theorem Z9(h:∀p,O' p->O p)(z:AG (W.put O') J Y f p):AG (W.put O) J Y f p:=by
 have k:Ow (W.put O') J Y p->Ow (W.put O) J Y p:=λz=>z.elim (λz=>.inl (h p z)) .inr;cases f<;>simp only[AG]at z ⊢
 all_goals first|exact z|exact z.elim .inl λz=>.inr (k z)|exact z.elim .inl λz=>.inr (z.elim (λz=>.inl (k z)) .inr)
theorem Ok.lessO(h:∀p,O' p->O p)(ok:Ok (W.put O) J Y H):Ok (W.put O') J Y H where
 bag:=ok.bag
 fb:=ok.fb
 old:=ok.old
 frm:=ok.frm
 oo:=λp z=>ok.oo p (h p z)
 len:=ok.len
 slot:=λi s e=>by
  obtain⟨u,h1,h2⟩:=ok.slot i s e;exact⟨u,h1,CF.mv (W:=W.put O) (Wb:=W.put O') rfl rfl rfl rfl (λf p o a e=>⟨λz=>a (Z9 h z),e⟩) (λ_ _ e=>e) (λ_ _ _ e=>e) h2⟩
 uniq:=ok.uniq
theorem Ok.updO(ok:Ok W J Y H)(A:W.O q)(B:¬AZ J Y q)(no:∀ys,o≠.tup ys):Ok W J Y (AD H q o):=by
 obtain⟨N,M,ρ,L,o',q1,q2⟩:=ok.oo q A;have g:∀p vs,H p\(.tup vs)->AD H q o p\(.tup vs):=λp vs e=>by
  rw[AI (λz=>by subst z;rw[e]at q1;cases q1;exact q2 vs rfl)];exact e
 have d:∀{f:Fl},f=.cl\/f=.fr->∀p u,¬AG W J Y f p->H p\u->¬AG W J Y f p/\AD H q o p\u:=λC p u x e=>⟨x,by
  rw[AI (λz=>x (by subst z;rcases C with rfl|rfl<;>simp[AG,Ow,A]))];exact e⟩
 refine⟨ok.bag.put ρ L,ok.fb,λp u w e=>?_,λp u e=>?_,λp w=>?_,ok.len,λi s e=>?_,ok.uniq⟩
 ·rw[AI (λz=>by subst z;rw[N]at e;cases e)];exact ok.old p u w e
 ·rw[AI (λz=>by subst z;rw[M]at e;cases e)];exact ok.frm p u e
 ·obtain⟨h1,h2,I,us,u,E,D⟩:=ok.oo p w;refine⟨h1,h2,I,us,?_⟩;by_cases z:p=q
  ·subst z;exact⟨o,AX,no⟩
  ·exact⟨u,by rw[AI z];exact E,D⟩
 ·obtain⟨u,h1,h2⟩:=ok.slot i s e;refine⟨u,h1,?_⟩;cases s with
  |emp=>trivial
  |sh y=>obtain⟨v,h,m⟩:=h2;exact⟨v,h,m.keep (d (.inl rfl)) g⟩
  |fr y=>obtain⟨v,h,m⟩:=h2;exact⟨v,h,m.keep (d (.inr rfl)) g⟩
  |own y =>
   obtain⟨r,h,m,U,T,Q,l⟩:=h2;have n:r≠q:=λz=>B ⟨i,y,e,by rw[h1,h,z]⟩;refine⟨r,h,m,U,T,Q,?_⟩;cases y with
   |lst xs=>obtain⟨vs,c,a⟩:=l;exact⟨vs,by rw[AI n];exact c,a.keep (d (f:=.fr) (.inr rfl)) g⟩
   |dT ks xs=>obtain⟨vs,c,j,a⟩:=l;exact⟨vs,by rw[AI n];exact c,j,a.keep (d (f:=.fr) (.inr rfl)) g⟩
   |fT ks xs=>obtain⟨vs,c,j,a⟩:=l;exact⟨vs,c.map λ_ e=>by rw[AI n];exact e,j,a.keep (d (f:=.fr) (.inr rfl)) g⟩
   |dK ks xs=>obtain⟨vs,c,j,a⟩:=l;exact⟨vs,by rw[AI n];exact c,j,a.keep (d (f:=.fr) (.inr rfl)) g⟩
   |_=>exact l.elim
theorem Ok.moreO(ok:Ok (W.put O) J Y H)(hn:H q=none)(no:∀ys,o≠.tup ys):Ok (W.put λp=>O p\/p=q) J Y (AD H q o):=by
 have c:=ok.step (Step.new (o:=o) ok.bag hn);refine⟨c.bag,ok.fb,c.old,c.frm,λp hp=>?_,ok.len,λi s e=>?_,ok.uniq⟩
 ·rcases hp with hp|hp
  ·exact c.oo p hp
  ·subst hp;have nb:=ok.bag.nb hn;refine⟨?_,?_,nb,ok.bag.na hn,o,AX,no⟩
   ·cases z:(W.put O).H₀ p with
    |none=>rfl
    |some u=>rw[ok.old p u nb z]at hn;cases hn
   ·cases z:(W.put O).F p with
    |none=>rfl
    |some u=>rw[ok.frm p u z]at hn;cases hn
 ·obtain⟨u,h1,h2⟩:=ok.slot i s e;refine⟨u,h1,CF.mv (W:=W.put O) (Wb:=W.put λp=>O p\/p=q) rfl rfl rfl rfl (λf p u d a=>⟨λz=>d ?_,by rw[AI (Ao a hn)];exact a⟩) (λp vs a=>by rw[AI (Ao a hn)];exact a) (λp u _ a=>by rw[AI (Ao a hn)];exact a) h2⟩;have k:Ow (W.put λp=>O p\/p=q) J Y p->Ow (W.put O) J Y p:=λz=>z.elim (λz=>z.elim .inl λz=>by rw[z,hn]at a;cases a) .inr;cases f<;>simp only[AG]at z ⊢
  all_goals first|exact z|exact z.elim .inl λz=>.inr (k z)|exact z.elim .inl λz=>.inr (z.elim (λz=>.inl (k z)) .inr)
theorem Ok.aside{x:P}(ok:Ok W J Y H)(noO:∀p,¬W.O p)(c:J[k]?\(.own x))(g:Y[k]?\(some (.ref q))):Ok (W.put λp=>p=q) (J.set k .emp) Y H/\∀p,AZ (J.set k .emp) Y p->p≠q:=by
 have a:AZ J Y q:=⟨k,x,c,g⟩;have l:k<J.length:=by
  rcases cE k J.length with z|z
  ·exact z
  ·rw[bQ z]at c;cases c
 have get:∀(i:Nat) (y:P),(J.set k S.emp)[i]?\(S.own y)->i≠k/\J[i]?\(S.own y):=λi y e=>by
  by_cases hi:k=i
  ·subst hi;rw[bY l]at e;cases e
  ·rw[bV hi]at e;exact⟨Ne.symm hi,e⟩
 have d:∀p,AZ (J.set k .emp) Y p->AZ J Y p:=λp zz=>(by obtain⟨i,y,h1,h2⟩:=zz;exact ⟨i,y,(get i y h1).2,h2⟩);refine⟨⟨ok.bag,ok.fb,ok.old,ok.frm,λp h=>?_,by rw[length_set];exact ok.len,λi s e=>?_,λi j y z h1 h2 o=>ok.uniq i j y z (get i y h1).2 (get j z h2).2 o⟩,λp ⟨i,y,h1,h2⟩ z=>?_⟩
 ·have h:p=q:=h;subst h;exact ok.ow (.inr a)
 ·by_cases hi:k=i
  ·subst hi;rw[bY l]at e;cases e;exact⟨_,g,trivial⟩
  ·rw[bV hi]at e;obtain⟨u,h1,h2⟩:=ok.slot i s e;refine⟨u,h1,CF.mv (W:=W) (Wb:=W.put λp=>p=q) rfl rfl rfl rfl (λf p u m r=>⟨λz=>m ?_,r⟩) (λ_ _ e=>e) (λ_ _ _ e=>e) h2⟩;have k:Ow (W.put λp=>p=q) (J.set k .emp) Y p->Ow W J Y p:=λz=>z.elim (λz=>by rw[show p=q from z];exact .inr a) λz=>.inr (d p z);cases f<;>simp only[AG]at z ⊢
   all_goals first|exact z|exact z.elim .inl λz=>.inr (k z)|exact z.elim .inl λz=>.inr (z.elim (λz=>.inl (k z)) .inr)
 ·obtain⟨n,e⟩:=get i y h1;exact n (ok.uniq i k y x e c (by rw[h2,g,z]))
end
def MS(k:Nat)(g:TG)(p:pG):Prop:=∀(W:Wd) (J:dI) (Y:St) (Hs H:Hp) (x:P) (f:Fl) (v:V) (Q:St->Hp->Prop) (K:dI->Prop),Ok W J Y Hs->Step W.b W.a Hs H->RF W J Y Hs f H x v->x.imm=true->p x f J K ->
 (∀ρ' σ',K ρ'->Ok W ρ' σ' H->σ'[k]?=Y[k]?->ρ'[k]?=J[k]?->(∀p,AZ ρ' σ' p->AZ J Y p)->Q σ' H)->g v Y H Q
def R0{ι:Type}(Xs:ι->Cx)(k:Nat)(tg:Expr)(p:pG):Prop:=∃g,(∀i,PG (Xs i) tg g)/\MS k g p
section
variable{k:Nat}
theorem dY{x:P}{K:dI->Prop}(ok:Ok W J Y H)(hi:x.imm=true)(r:RF W J Y H .fr H x v)(h:A0 j x f J K):K (J.set j (.sh x))/\Ok W (J.set j (.sh x)) (Y.set j (some v)) H:=by
 unfold A0 at h;rw[aC hi]at h;obtain⟨ρ',e,a⟩:=Ok.set (k:=j) (K:=λρ'=>ρ'=J.set j (.sh x)) ok (Step.refl ok.bag) r (by unfold A0;rw[aC hi]);subst e;exact⟨h,a⟩
theorem R3{W:Wd}{H:Hp}{f:Fl}{Q:St->Hp->Prop}{K:dI->Prop}:∀{ks:Ge} {xs:dH} {vs:dG} {J:dI} {Y:St},k∉ks->P.imms xs=true->Ok W J Y H->AC W.b (λ_=>False) H xs vs->HE ks xs f J K ->
  (∀ρ' σ',K ρ'->Ok W ρ' σ' H->σ'[k]?=Y[k]?->ρ'[k]?=J[k]?->(∀p,AZ ρ' σ' p->AZ J Y p)->Q σ' H)->Dd ks vs Y H Q
 |[],[],vs,J,Y,_,_,ok,r,h,q=>⟨r,q J Y h ok rfl rfl λ_ z=>z⟩
 |[],_::_,_,_,_,_,_,_,_,h,_=>h.elim
 |_::_,[],_,_,_,_,_,_,_,h,_=>h.elim
 |j::ks,x::xs,vs,J,Y,i,hi,ok,r,h,q=>by
  obtain⟨v,t,u,n,m⟩:=r;subst u;rw[Im,cB]at hi;obtain⟨o,g⟩:=dY ok hi.1 (n.imm hi.1) h;have l:j≠k:=λz=>i (by simp[z]);refine⟨v,t,rfl,R3 (λz=>i (by simp[z])) hi.2 g m o λρ' σ' a b c d e=>q ρ' σ' a b (by rw[c,bV l]) (by rw[d,bV l]) λp z=>F0 (s:=.sh x) '6' p (e p z)⟩
theorem dZ{ks:Ge}(e:ks.length=n)(d:k∉ks):MS k (FA Kf n (Dd ks)) (FP ks):=λW J Y Hs H x f v Q K ok st r hi h q=>by
 obtain⟨xs,rfl,g,h⟩:=h;have a:=ok.step st;obtain⟨p,vs,rfl,i,c⟩:=(r.any a);have hi:P.imms xs=true:=by simpa[P.imm]using hi
 exact⟨p,vs,rfl,.of i,by rw[<-c.length,g,e],R3 d hi a (c.imm hi) h q⟩
theorem db{k1:Nat}{ks:Ge}(k:Nat)(f:∀i,(Xs i).calm=true)(g:∀i,(Xs i).K=Kf)(h:∀i,E9 (Xs i) es (Dd ks))(e:ks.length=n)(c:k∉ks:=by decide)
  (d:∀i,(assignEach es (Xs i).env).length=n:=by rfl) (a:∀i,(assignEach es (Xs i).env).findIdx? (·.1)=none:=by rfl):R0 Xs k (.Tuple es k1 pos) (FP ks) :=
 ⟨FA Kf n (Dd ks),λi=>by have:=Ka (k:=k1) (pos:=pos) (f i) (h i) (d i) (a i);rw[g i]at this;exact this,dZ e c⟩
end
structure Grp(b:Addr)(H:Hp)(g:Addr)(ks:List By)(gs:Ha)(xss:List dH):Prop where
 cell:H g\(.dT ((ks.map Ab).zip (gs.map V.ref)))
 l1:gs.length=ks.length
 l2:xss.length=ks.length
 kd:ks.Nodup
 nd:gs.Nodup
 ng:g∉gs
 inn:∀(j:Nat) q ys,gs[j]?\q->xss[j]?\ys->P.imms ys=true/\∃vs,H q\(.lst vs)/\AC b (λ_=>False) H ys vs
def D2(ks:List By)(xss:List dH)(r:By)(z:P):List dH:=if r∈ks then xss.modify (ks.idxOf r) (·++[z])else xss++[[z]]
theorem MT{r:By}:∀{ks:List By} {gs:Ha},gs.length=ks.length->BG ((ks.map Ab).zip (gs.map V.ref)) (Ab r)=(gs[ks.idxOf r]?).map V.ref
 |[],[],_=>rfl
 |k0::ks,g::gs,h=>by
  have c:=MT (r:=r) (ks:=ks) (gs:=gs) (~~~h);simp only[map_cons,zip_cons_cons];by_cases e:k0=r
  ·subst e;rw[Gj rfl,idxOf_cons_self];rfl
  ·have a:¬Ab k0=Ab r:=λz=>e (Dy _ _ z);have d:BG ((Ab k0,V.ref g)::(ks.map Ab).zip (gs.map V.ref)) (Ab r)=BG ((ks.map Ab).zip (gs.map V.ref)) (Ab r):=by unfold BG;rw[find?_cons];simp[a]
   rw[d,c,idxOf_cons,show(k0==r)=false from beq_eq_false_iff_ne.mpr e];rfl
abbrev BJ(g:Addr)(gs:Ha):Addr->Prop:=λp=>p=g\/p∈gs
section
variable{g:Addr}{ks:List By}{gs:Ha}{xss:List dH}{k:Nat}
theorem AC.still{b:Addr}{ys:dH}(hi:P.imms ys=true)(c:∀p G,H p\(.tup G)->H' p\(.tup G))(h:AC b Z H ys vs):AC b (λ_=>False) H' ys vs :=
 AC.imm (Z:=λ_=>True) hi ((h.imm (Z':=λ_=>True) hi).keep (λp o a e=>bS trivial a) c)
theorem Rp.still{b:Addr}(hi:y.imm=true)(c:∀p G,H p\(.tup G)->H' p\(.tup G))(h:Rp b Z H y v):Rp b (λ_=>False) H' y v :=
 Rp.imm (Z:=λ_=>True) hi ((h.imm (Z':=λ_=>True) hi).keep (λp o a e=>bS trivial a) c)
theorem Grp.step(us:Grp W.b H g ks gs xss)(st:Step W.b W.a H H')(f:Bag H W.b W.a)(nb:∀p,BJ g gs p->p≠W.b):Grp W.b H' g ks gs xss :=
 ⟨st.same g _ (nb g (.inl rfl)) us.cell,us.l1,us.l2,us.kd,us.nd,us.ng,λj q ys h1 h2=>by
  obtain⟨a,vs,c,d⟩:=us.inn j q ys h1 h2;exact⟨a,vs,st.same q _ (nb q (.inr (aM h1))) c,d.still a λp G e=>st.same p _ (f.neT e).1 e⟩⟩
theorem de{tK tV:TE}{pv:pE}{M:By->P->Prop}{Q:VK}(hK:BL tK pk)(hV:BL tV pv)(ok:Ok (W.put (BJ g gs)) J Y H)(hs:Y[k]?\(some (.ref g)))(U:∀p,AZ J Y p->¬BJ g gs p)(us:Grp W.b H g ks gs xss)
  (hn:n<16777216) (h1:ks.length<=n) (h2:∀ys∈xss,ys.length<=n) (hk:pk J λy _=>∃r,Cf y\r/\pv J λz _=>z.imm=true/\M r z)
  (q:∀r z a1 H',M r z->Ok (W.put (BJ g a1)) J Y H'->(∀p,AZ J Y p->¬BJ g a1 p)->Grp W.b H' g (Ai ks r) a1 (D2 ks xss r z)->Q .non H') :
  Fk Kf "list" Gi (MR (CV k) tK (Kh CD)) (Bx tV CD) Y H Q:=by
 have nb:∀p,BJ g gs p->p≠W.b:=λp z=>(ok.oo p z).2.2.1;refine⟨.ref g,hs,g,rfl,.inr ⟨_,.of us.cell⟩,hK _ J Y H _ _ ok hk λy f v Hy zz s1 r1=>?_⟩;obtain⟨r,a7,hv⟩:=zz;refine⟨cD _,λp hp=>?_⟩;have i:=ok.step s1;have G1:=us.step s1 ok.bag nb;obtain⟨b,rfl,ρ⟩:=GA i a7 r1;have s2:Step W.b W.a Hy (AD Hy p (.lst [])):=Step.new i.bag hp;have D:=i.step s2;have G2:=G1.step s2 i.bag nb;have hl:((ks.map Ab).zip (gs.map V.ref)).length<sizeLine:=by
  rw[length_zip,aA,aA,us.l1,Nat.min_self,cT];lia
 refine⟨_,_,b,G2.cell,rfl,s2.same b _ (i.bag.neT ρ).1 ρ,hl,λv d=>?_,λd=>?_⟩
 ·-- there
  rw[MT us.l1]at d;have c:r∈ks:=by
   refine Classical.byContradiction λz=>?_;rw[idxOf_eq_length (~~~z),bQ (by rw[us.l1];exact aQ _)]at d;cases d
  have hj:ks.idxOf r<ks.length:=idxOf_lt_length_iff.mpr c;have a0:ks.idxOf r<gs.length:=by rw[us.l1];exact hj
  have a8:ks.idxOf r<xss.length:=by rw[us.l2];exact hj
  obtain⟨j,a9⟩:∃j,ks.idxOf r=j:=⟨_,rfl⟩;rw[a9]at hj a0 a8 d;rw[aH a0]at d;cases d;have eg:gs[j]?\gs[j]:=aH a0;have ex:xss[j]?\xss[j]:=aH a8;obtain⟨im,vs,c1,c2⟩:=G2.inn j _ _ eg ex;refine⟨.inl ⟨rfl,vs,.of c1⟩,hV _ J Y _ _ _ D hv λz f2 I L zz N r3=>?_⟩;obtain⟨hz,hM⟩:=zz;have C:=D.step N;have G3:=G2.step N D.bag nb;obtain⟨im,vs,c1,c2⟩:=G3.inn j _ _ eg ex;have A:BJ g gs gs[j]:=.inr (aM eg);have ht:∀p G,L p\(.tup G)->AD L gs[j] (.lst (vs++[I])) p\(.tup G):=λp G e=>by rw[AI (λz=>by rw[z,c1]at e;cases e)];exact e
  have af:vs.length<16777216:=by rw[<-c2.length];have:=h2 _ (aM ex);lia
  refine⟨gs[j],vs,I,rfl,rfl,c1,by rw[cT];lia,q r z gs _ hM (C.updO A (λz=>U _ z A) λ_ z=>nomatch z) U ?_⟩;have ed:Ai ks r=ks:=by unfold Ai;rw[aC c]
  have ab:g≠gs[j]:=λz=>us.ng (z▸aM eg);rw[ed];have a2:D2 ks xss r z=xss.modify j (·++[z]):=by unfold D2;rw[aC c,a9]
  rw[a2];refine⟨by rw[AI ab];exact G3.cell,us.l1,by rw[length_modify];exact us.l2,us.kd,us.nd,us.ng,λB q' ys h l=>?_⟩;rw[getElem?_modify]at l;by_cases σ:j=B
  ·subst σ;rw[eg]at h;cases h;rw[ex]at l;simp only[Option.map_eq_map,Option.map_some,aC]at l;cases l;exact⟨by rw[WM,im];simp[hz],vs++[I],AX,(c2.still im ht).snoc (Rp.still hz ht (r3.any C))⟩
  ·cases ex':xss[B]? with
   |none=>rw[ex']at l;cases l
   |some zs =>
    rw[ex']at l;simp only[Option.map_eq_map,Option.map_some,aB σ]at l;cases l;obtain⟨u,G,d1,d2⟩:=G3.inn B _ _ h ex';have nq:q'≠gs[j]:=λz=>σ (by
     have ac:B<gs.length:=by
      rcases cE B gs.length with w|w
      ·exact w
      ·rw[bQ w]at h;cases h
     rw[aH ac]at h;cases h;exact((getElem_inj us.nd).mp z).symm)
    exact⟨u,G,by rw[AI nq];exact d1,d2.still u ht⟩
 ·-- new
  have c:r∉ks:=λz=>by
   rw[MT us.l1,aH (by rw[us.l1];exact idxOf_lt_length_iff.mpr z)]at d;cases d
  have E:g≠p:=Ao G1.cell hp;have a4:p∉gs:=λz=>by
   obtain⟨_,_,_,_,o,e,_⟩:=i.oo p (.inr z);rw[hp]at e;cases e
  have sub:∀x,BJ g (gs++[p]) x->BJ g gs x\/x=p:=λx z=>by
   rcases z with z|z
   ·exact .inl (.inl z)
   ·rcases bA.mp z with z|z
    ·exact .inl (.inr z)
    ·exact .inr (~~~z)
  have s:∀x,AZ J Y x->¬BJ g (gs++[p]) x:=λx z w=>(sub x w).elim (U x z) λe=>by
   obtain⟨_,_,_,_,o,h,_⟩:=i.ow (.inr z);rw[e,hp]at h;cases h
  have C:Ok (W.put (BJ g (gs++[p]))) J Y (AD Hy p (.lst [])):=Ok.lessO (W:=W) (O:=λx=>BJ g gs x\/x=p) sub (i.moreO hp λ_ z=>nomatch z);have T:=C.updO (q:=g) (o:=.dT (BB ((ks.map Ab).zip (gs.map V.ref)) (Ab r) (.ref p))) (.inl rfl) (λz=>s g z (.inl rfl)) λ_ z=>nomatch z;have a5:∀x,BJ g (gs++[p]) x->x≠W.b:=λx z=>(T.oo x z).2.2.1;have ep:BB ((ks.map Ab).zip (gs.map V.ref)) (Ab r) (V.ref p)=((Ai ks r).map Ab).zip ((gs++[p]).map V.ref):=by
   rw[P7 Dy (by rw[aA,us.l1]),aB c,cN];rfl
  have ed:Ai ks r=ks++[r]:=by unfold Ai;rw[aB c]
  refine⟨.inl ⟨rfl,[],.of (by rw[AI E.symm];exact AX)⟩,hV _ J Y _ _ _ T hv λz f2 I L zz N r3=>?_⟩;obtain⟨hz,hM⟩:=zz;have a3:=T.step N;have a6:L p\(.lst []):=N.same p _ (a5 p (.inr '2')) (by rw[AI E.symm];exact AX);have ae:L g\(.dT (((Ai ks r).map Ab).zip ((gs++[p]).map V.ref))):=by rw[<-ep];exact N.same g _ (a5 g (.inl rfl)) AX
  have A:BJ g (gs++[p]) p:=.inr '2';have ht:∀x G,L x\(.tup G)->AD L p (.lst ([]++[I])) x\(.tup G):=λx G e=>by rw[AI (λz=>by rw[z,a6]at e;cases e)];exact e
  refine⟨p,[],I,rfl,rfl,a6,by rw[cT];simp,q r z (gs++[p]) _ hM (a3.updO A (λz=>s _ z A) λ_ z=>nomatch z) s ?_⟩;have a2:D2 ks xss r z=xss++[[z]]:=by unfold D2;rw[aB c]
  rw[a2];refine⟨by rw[AI E];exact ae,by rw[ed];simp[us.l1],by rw[ed];simp[us.l2],by rw[ed];exact nodup_append.mpr ⟨us.kd,'2',λa ha b ρ e=>c (by simp at ρ;rw[<-ρ,<-e];exact ha)⟩,nodup_append.mpr ⟨us.nd,'2',λa ha b ρ e=>a4 (by simp at ρ;rw[<-ρ,<-e];exact ha)⟩,λz=>?_,λB q' ys h l=>?_⟩
  ·rcases bA.mp z with z|z
   ·exact us.ng z
   ·exact E (~~~z)
  ·have sg:∀x o,x≠W.b->x≠g->AD Hy p (.lst []) x\o->L x\o:=λx o h1 h2 e=>N.same x o h1 (by rw[AI h2];exact e);rcases cE B gs.length with w|w
   ·rw[getElem?_append_left w]at h;rw[getElem?_append_left (by rw[us.l2,<-us.l1];exact w)]at l;obtain⟨u,G,d1,d2⟩:=G2.inn B _ _ h l;have mq:q'∈gs:=aM h;have nq:q'≠p:=λz=>a4 (z▸mq);have aa:q'≠g:=λz=>us.ng (z▸mq);refine⟨u,G,by rw[AI nq];exact sg q' _ (nb q' (.inr mq)) aa d1,d2.still u λx G e=>ht x G (sg x _ (D.bag.neT e).1 (λz=>by rw[z,G2.cell]at e;cases e) e)⟩
   ·rw[getElem?_append_right w]at h;rw[getElem?_append_right (by rw[us.l2,<-us.l1];exact w)]at l;cases hd:B - gs.length with
    |succ m=>rw[hd]at h;cases h
    |zero =>
     rw[hd]at h;cases h;rw[show B - xss.length=0 by rw[us.l2,<-us.l1];exact hd]at l;cases l;exact⟨by simp[hz],[I],AX,I,[],rfl,Rp.still hz ht (r3.any a3),rfl⟩
end
theorem AC.of_get{b:Addr}(a:xs.length=vs.length)(h:∀(j:Nat) x v,xs[j]?\x->vs[j]?\v->Rp b Z H x v):AC b Z H xs vs:=by
 induction xs generalizing vs with
 |nil =>
  cases vs with
  |nil=>rfl
  |cons v vs=>cases a
 |cons x xs c =>
  cases vs with
  |nil=>cases a
  |cons v vs=>exact⟨v,vs,rfl,h 0 x v rfl rfl,c (Nat.succ.inj a) λj y u e d=>h (j+1) y u e d⟩
section
variable{g:Addr}{ks:List By}{gs:Ha}{xss:List dH}{k:Nat}
theorem Ok.ownBack(ok:Ok (W.put (BJ g gs)) J Y H)(noO:∀p,¬W.O p)(r:k<J.length)(h:Y[k]?\(some (.ref g)))(d:∀p,AZ J Y p->¬BJ g gs p)(us:Grp W.b H g ks gs xss):Ok W (J.set k (.own (.dT ks (xss.map .lst)))) Y H:=by
 have a:∀p,AZ (J.set k (.own (.dT ks (xss.map .lst)))) Y p->p=g\/AZ J Y p:=λp ⟨i,y,h1,h2⟩=>by
  by_cases hi:k=i
  ·subst hi;rw[h]at h2;cases h2;exact .inl rfl
  ·rw[bV hi]at h1;exact .inr ⟨i,y,h1,h2⟩
 have o:∀f p,AG W (J.set k (.own (.dT ks (xss.map .lst)))) Y f p->AG (W.put (BJ g gs)) J Y f p:=λf p z=>by
  have k:Ow W (J.set k (.own (.dT ks (xss.map .lst)))) Y p->Ow (W.put (BJ g gs)) J Y p:=λz=>z.elim (λz=>bS z (noO p)) λz=>(a p z).elim (λz=>.inl (.inl z)) .inr;cases f<;>simp only[AG]at z ⊢
  all_goals first|exact z|exact z.elim .inl λz=>.inr (k z)|exact z.elim .inl λz=>.inr (z.elim (λz=>.inl (k z)) .inr)
 refine⟨ok.bag,ok.fb,ok.old,ok.frm,λp z=>bS z (noO p),by rw[length_set];exact ok.len,λi s e=>?_,λi j y z h1 h2 l=>?_⟩
 ·by_cases hi:k=i
  ·subst hi;rw[bY r]at e;cases e;obtain⟨N,M,L,ρ,_⟩:=ok.oo g (.inl rfl);refine⟨_,h,g,rfl,N,M,L,ρ,gs.map V.ref,us.cell,by rw[aA,us.l2],AC.of_get (by rw[aA,aA,us.l1,us.l2]) λj x v n m=>?_⟩;rw[bO]at n m;obtain⟨ys,B,rfl⟩:=aJ.mp n;obtain⟨q,eq,rfl⟩:=aJ.mp m;obtain⟨w,vs,E,D⟩:=us.inn j q ys eq B;have mq:q∈gs:=aM eq;obtain⟨b1,b2,I,Q,_⟩:=ok.oo q (.inr mq);refine⟨q,vs,rfl,λz=>?_,E,D.imm w⟩;rcases z with z|z|z
   ·exact I z
   ·rcases z with z|z
    ·exact noO q z
    ·rcases a q z with z|z
     ·exact us.ng (z▸mq)
     ·exact d q z (.inr mq)
   ·exact z b1
  ·rw[bV hi]at e;obtain⟨u,h1,h2⟩:=ok.slot i s e;exact⟨u,h1,CF.mv (W:=W.put (BJ g gs)) (Wb:=W) rfl rfl rfl rfl (λf p u A C=>⟨λz=>A (o f p z),C⟩) (λ_ _ e=>e) (λ_ _ _ e=>e) h2⟩
 ·have c:∀(i:Nat) (y:P),k≠i->(J.set k (.own (.dT ks (xss.map .lst))))[i]?\(S.own y)->Y[i]?≠Y[k]?:=λi y hi e z=>by
   rw[bV hi]at e;exact d g ⟨i,y,e,by rw[z,h]⟩ (.inl rfl)
  by_cases hi:k=i
  ·by_cases hj:k=j
   ·exact hi.symm.trans hj
   ·subst hi;exact bS l.symm (c j z hj h2)
  ·by_cases hj:k=j
   ·subst hj;exact bS l (c i y hi h1)
   ·rw[bV hi]at h1;rw[bV hj]at h2;exact ok.uniq i j y z h1 h2 l
end
def R4(k:Nat)(pi:pI)(pg:pG)(pk pv:pE):pS:=λE J=>J[k]?\(.own (.dT [] []))/\pi J λxs f st=>st=true/\P.imms xs=true/\xs.length<16777216/\∃I:Nat->dI->List By->List dH->Prop,I 0 (J.set k .emp) [] [] /\
 (∀i ρ' ks xss x,xs[i]?\x->I i ρ' ks xss->pg x .fr ρ' λρ2=>pk ρ2 λy _=>∃r,Cf y\r/\pv ρ2 λz _=>z.imm=true/\I (i+1) ρ2 (Ai ks r) (D2 ks xss r z))/\∀ρ' ks xss,I xs.length ρ' ks xss->E.nx (ρ'.set k (.own (.dT ks (xss.map .lst))))
theorem df{ks:List By}{xss:List dH}{z:P}(h:∀ys∈xss,ys.length<=n):∀ys∈D2 ks xss r z,ys.length<=n+1:=by
 unfold D2;split
 ·intro ys hy;obtain⟨j,a⟩:=mem_iff_getElem?.mp hy;rw[getElem?_modify]at a;cases e:xss[j]? with
  |none=>rw[e]at a;cases a
  |some zs =>
   rw[e]at a;have:=h zs (aM e);simp only[Option.map_eq_map,Option.map_some]at a;split at a<;>cases a
   ·simp;lia
   ·lia
 ·intro ys hy;rcases bA.mp hy with hy|hy
  ·have:=h ys hy;lia
  ·rw[bI.mp hy];simp
theorem dKeys_le(ks:List By)(r:By):(Ai ks r).length<=ks.length+1:=by
 unfold Ai;split
 ·lia
 ·rw[aG];simp
theorem dg{tK tV:TE}{pv:pE}{k:Nat}(hi:JC wi pi)(hg:MS k g pg)(hK:BL tK pk)(hV:BL tV pv) :
  FO (NS wi g (IM (Fk Kf "list" Gi (MR (CV k) tK (Kh CD)) (Bx tV CD)))) (R4 k pi pg pk pv):=λW J Y H D E ok hh r=>by
 obtain⟨u,h⟩:=hh;refine hi W J Y H _ _ ok h λxs f st ρ H1 zz s1 _ jS=>?_;obtain⟨a6,a7,a9,I,h0,x,U⟩:=zz;have jS:=jS a6;have o:=ok.step s1;obtain⟨w,hs,a,e2,aa,gF,gb,ga,vs,c1,c2,c3⟩:=o.slot k _ u;subst e2;have kl:k<J.length:=by
  rcases cE k J.length with z|z
  ·exact z
  ·rw[bQ z]at u;cases u
 obtain⟨a2,N⟩:=Ok.aside o.frz r.noO u hs;have a1:Ok ((W.frz J Y H1).put (BJ a [])) (J.set k .emp) Y H1:=Ok.lessO (W:=W.frz J Y H1) (O:=λp=>p=a) (λp z=>z.elim id λz=>nomatch z) a2;have M:∀p,AZ (J.set k .emp) Y p->¬BJ a [] p:=λp z w=>w.elim (N p z) λw=>nomatch w;have G0:Grp W.b H1 a [] [] []:=⟨c1,rfl,rfl,nodup_nil,nodup_nil,'5',(λj q ys e=>nomatch e)⟩;refine⟨λi m σ' H'=>m=xs.length - i/\i<=xs.length/\∃ρ' ks gs xss,I i ρ' ks xss/\ρ'[k]?\.emp/\σ'[k]?\(some (.ref a))/\Ok ((W.frz J Y H1).put (BJ a gs)) ρ' σ' H'/\(∀p,AZ ρ' σ' p->¬BJ a gs p)/\Grp W.b H' a ks gs xss/\ks.length<=i/\(∀ys∈xss,ys.length<=i), ⟨xs.length,'2',cD _,J.set k .emp,[],[],[],h0,bY kl,hs,a1,M,G0,aQ _,λ_ z=>nomatch z⟩,?_⟩
 rintro i m σ' H' ⟨rfl,hi,ρ',ks,gs,xss,hI,B,A,l,T,us,b1,b2⟩;have L:Ok (W.frz J Y H1) ρ' σ' H':=Ok.lessO (W:=W.frz J Y H1) (O':=W.O) (λp z=>bS z (r.noO p)) l;obtain⟨q1,q2,q3⟩:=jS W.O ρ' σ' H' ⟨rfl,L⟩ i;by_cases s:i<xs.length
 ·refine .inr ⟨q1 s,λd H2=>∃c ks gs xss,I (i+1) c ks xss/\c[k]?\.emp/\d[k]?\(some (.ref a))/\Ok ((W.frz J Y H1).put (BJ a gs)) c d H2/\(∀p,AZ c d p->¬BJ a gs p)/\Grp W.b H2 a ks gs xss/\ks.length<=i+1/\(∀ys∈xss,ys.length<=i+1),
   λd H2 z=>⟨xs.length - (i+1),⋯,rfl,s,z⟩,λv H2 y=>?_⟩
  have hx:xs[i]?\xs[i]:=by simp[s]
  obtain⟨σ,y2⟩:=q3 v H2 y _ hx;have C:xs[i].imm=true:=G7.mp a7 _ (getElem_mem s);have a0:Ok W ρ' σ' H2:=(o.thaw L).step σ;have y3:RF ((W.frz J Y H1).put (BJ a gs)) ρ' σ' H' .fr H2 xs[i] v:=(y2.any a0).imm C;have nb:∀p,BJ a gs p->p≠W.b:=λp z=>(l.oo p z).2.2.1;refine hg ((W.frz J Y H1).put (BJ a gs)) ρ' σ' H' H2 _ .fr v _ _ l σ y3 C (x i ρ' ks xss _ hx hI) λc d e2 a4 es er eo=>?_;exact de (W:=W.frz J Y H1) (n:=i) hK hV a4 (by rw[es];exact A) (λp z=>T p (eo p z)) (us.step σ l.bag nb) ⋯ b1 b2 e2 λrr z a8 H3 hM a3 Q G3=>⟨c,_,a8,_,hM,by rw[er];exact B,by rw[es];exact A,a3,Q,G3,by have:=dKeys_le ks rr;lia,df b2⟩
 ·have e:i=xs.length:=⋯;subst e;have a5:k<ρ'.length:=by
   rcases cE k ρ'.length with z|z
   ·exact z
   ·rw[bQ z]at B;cases B
  exact .inl ⟨q2 (aQ _),r.nx _ σ' H' (U ρ' ks xss hI) (o.thaw (Ok.ownBack (W:=W.frz J Y H1) l r.noO a5 A T us))⟩
section
theorem dh{a d l:Expr}{k:Nat}{p1 j cp h f e p5:Pos}{pv:pE}(I:∀i,(Xs i).K=Kf)(v:∀i,(Xs i).A.units+1<cLine)(z:∀i,PassesOwn (model (Xs i).prog (Xs i).w) (Xs i).A (Xs i).env (Xs i).xe)(E:∀i,(Xs i).calm=true)
  (hi:QI Xs tg a pi) (C:R0 Xs k tg pg) (B:QE Xs d pk) (u:QE Xs l pv)
  (H:∀i,(Xs i).N[k]?\x:=by rfl) (n:∀i,Cw (Xs i).env.scope x:=by intro _;trivial) (D:No x:=by decide) (q:N_ x:=by decide)
  (m:∀i,M2 (Xs i) (.Name x p1) "setdefault" j d (.List [] h) cp:=by intro _;exact⟨rfl,rfl,rfl,rfl⟩)
  (p:(f.endLine==e.line)=true:=by rfl) (o:∀i,swapsWith (.Call (.Attribute (.Call (.Attribute (.Name x p1) "setdefault" j) [d,.List [] h] [] cp) "append" f) [l] [] e) none p5.line (Xs i).env=pure false:=by rfl)
  (us:∀i,attributeBase (.Call (.Attribute (.Name x p1) "setdefault" j) [d,.List [] h] [] cp) "append" (Xs i).env (eval (.Call (.Attribute (.Name x p1) "setdefault" j) [d,.List [] h] [] cp) (Xs i).env)=eval (.Call (.Attribute (.Name x p1) "setdefault" j) [d,.List [] h] [] cp) (Xs i).env:=by rfl)
  (c:∀i,starEach [l] (Xs i).env=[(false,eval l (Xs i).env)]:=by rfl) (y:∀i,∀x,foldedSetIterable a (Xs i).env x=pure x:=by intro _ _;rfl) :
  QS Xs (.For tg a [.Expr (.Call (.Attribute (.Call (.Attribute (.Name x p1) "setdefault" j) [d,.List [] h] [] cp) "append" f) [l] [] e) p5] [] pos) (R4 k pi pg pk pv):=by
 obtain⟨wi,i1,i2⟩:=hi;obtain⟨g,L,ρ⟩:=C;obtain⟨O,k1,k2⟩:=B;obtain⟨M,s,r⟩:=u;refine⟨_,λi=>GY (z i) (E i) (i1 i) (L i) (Cy ?_) (y i),dg (Kf:=Kf) i2 ρ k2 r⟩;rw[<-I i];exact IN (Fm PySem.F.plainAttrs_list PySem.F.slot_list_append PySem.F.type_list_append Fo (Z8 (v i) (Ds (H i) (n i) D q) (k1 i) (Gb Az) (m i)) (Ag (s i) Az (c i)) (us i) (by rw[c i];rfl) p (c i) rfl) (o i)
end
end L2
namespace L2
open PySem PySem.Spec PyProof.Rows PySem.W
end L2
namespace L2
open PySem PySem.Spec PyProof.Rows PySem.W SeqAt
end L2
namespace L2
open PySem PySem.Spec PyProof.Rows PySem.W
section
variable{a:Expr}{p1 p2:Pos}{y:Str}
theorem QE.weak{p m:pE}(h:QE Xs a p)(hw:∀J K,m J K->p J K):QE Xs a m:=by obtain⟨t,h1,h2⟩:=h;exact ⟨t,h1,λW J Y H Q K ok c q=>h2 W J Y H Q K ok (hw J K c) q⟩
end
end L2
namespace L2
open PySem PySem.Spec PyProof.Rows
def di(pa pb:pE):pI:=λJ K=>pa J λx f=>pb J λy g=>∃xs ys,x=.tup xs/\y=.tup ys/\(P.imms xs=true/\P.imms ys=true)/\K (zipWith Dz xs ys) .fr true
section
variable{a b:Expr}{p1 tp:Pos}{x1:Nat}
theorem dj(hK:∀i,(Xs i).K=Kf)(hm:∀i,(Xs i).mg "zip"=none)(ha:QE Xs a pa)(N:QE Xs b pb)(hg:∀i,Gl (Xs i) "zip":=by rfl)(hs:∀i,starEach [a,b] (Xs i).env=[(false,eval a (Xs i).env),(false,eval b (Xs i).env)]:=by rfl)(j:∀i,starEach [b] (Xs i).env=[(false,eval b (Xs i).env)]:=by rfl) :
  QI Xs (.Tuple elts x1 tp) (.Call (.Name "zip" p1) [a,b] [] pos) (di pa pb):=by
 obtain⟨ta,D,a2⟩:=ha;obtain⟨tb,C,b2⟩:=N;refine⟨OV Kf (Bx ta (Bx tb CD)),λi=>?_,λW J Y H R K ok hk q=>a2 W J Y H _ _ ok hk λx f v H1 h1 E r1=>b2 W J Y H1 _ _ (ok.step E) h1 λy g u H2 ⟨xs,ys,e1,e2,⟨i1,i2⟩,M⟩ s2 r2=>?_⟩
 ·have:=V5 (elts:=elts) (x1:=x1) (tp:=tp) (p:=p1) (pos:=pos) (hg i) (hm i) (Ag (D i) (Ag (C i) Az (by rw[j i];rfl)) (by rw[hs i,j i])) (hs i) (j i);rw[hK i]at this;exact this
 ·subst e1;subst e2;have n:=E.trans s2;have c:=ok.step n;have us:=r1.step (ok.step E) s2;obtain⟨l1,vs,rfl,B,s⟩:=Cb c us;obtain⟨l2,G,rfl,A,r⟩:=Cb c r2;have ρ:=(c.bag.neT B).1;have I:=(c.bag.neT A).1;have a3:=s.length;have a0:=r.length;have core:∀O' ρ' σ' H',H' l1\(.tup vs)->H' l2\(.tup G)->(∀p vs,H2 p\(.tup vs)->H' p\(.tup vs))->Bag H' W.b W.a->∀i,(i<(zipWith Dz xs ys).length->(Gx Kf l1 l2).go i H')/\((zipWith Dz xs ys).length<=i->(Gx Kf l1 l2).stop i H') /\
    ∀v h,(Gx Kf l1 l2).yld i H' v h->∀x,(zipWith Dz xs ys)[i]?\x->Step W.b W.a H' h/\RF { W with O:=O' } ρ' σ' H' .fr h x v:=λO' ρ' σ' H' σ U gt N i=>by
   refine⟨λhi=>?_,λhi=>?_,λv h yl x d=>?_⟩
   ·rw[length_zipWith]at hi;exact⟨vs,G,.of σ,.of U,⋯,⋯⟩
   ·rw[length_zipWith]at hi;exact⟨vs,G,.of σ,.of U,⋯⟩
   ·obtain⟨T,x',y',Q,rfl,rfl,e⟩:=yl;obtain⟨e1,e2⟩:=e vs G (.of σ) (.of U);rw[getElem?_zipWith]at d;cases ex:xs[i]? with
    |none=>rw[ex]at d;simp at d
    |some px =>
     cases z:ys[i]? with
     |none=>rw[ex,z]at d;simp at d
     |some w =>
      rw[ex,z]at d;have d:Dz px w=x:=by simpa using d
      subst d;obtain⟨v1,D,a2⟩:=s.get ex;obtain⟨v2,C,b2⟩:=r.get z;rw[e1]at D;cases D;rw[e2]at C;cases C;have m1:px.imm=true:=G7.mp i1 px (aM ex);have m2:w.imm=true:=G7.mp i2 w (aM z);refine⟨Step.new N Q,?_⟩;have k1:Rp W.b (AG { W with O:=O' } ρ' σ' .fr) (AD H' T (.tup [x',y'])) px x':=(((a2.imm m1:Rp W.b (λ_=>True) H2 px x').keep (Z':=λ_=>True) (H':=AD H' T (.tup [x',y'])) (λp o L=>bS trivial L) (λp l e=>by rw[AI (Ao (gt p l e) Q)];exact gt p l e)).imm m1);have k2:Rp W.b (AG { W with O:=O' } ρ' σ' .fr) (AD H' T (.tup [x',y'])) w y':=(((b2.imm m2:Rp W.b (λ_=>True) H2 w y').keep (Z':=λ_=>True) (H':=AD H' T (.tup [x',y'])) (λp o L=>bS trivial L) (λp l e=>by rw[AI (Ao (gt p l e) Q)];exact gt p l e)).imm m2);exact⟨T,[x',y'],rfl,AX,x',[y'],rfl,k1,y',[],rfl,k2,rfl⟩
  refine⟨l1,l2,vs,G,rfl,.of B,.of A,q _ _ _ _ H2 M n (λO' ρ' σ' H' m i=>?_) (λa5 O' ρ' σ' H' m i=>?_)⟩
  ·obtain⟨_,rfl,rfl,a4,st⟩:=m;exact core O' _ _ H' (st.same l1 _ ρ B) (st.same l2 _ I A) (λp l e=>st.same p _ (c.bag.neT e).1 e) st.bag i
  ·obtain⟨rfl,m⟩:=m;have k1:=(HG (f:=.nw) c m (.inl rfl)).2;exact core _ _ _ H' (k1 l1 _ B) (k1 l2 _ A) k1 m.bag i
end
end L2
namespace L2
open PySem
end L2
namespace L2
open PySem PySem.Spec PyProof.Rows PySem.W
end L2
namespace L2
open PySem
def BS{α:Type}(f:α->By)(t:List α):List By:=t.foldl (λks q=>Ai ks (f q)) []
section
variable{α:Type}{f:α->By}{g:α->P}
theorem R5(t:List α)(q:α):BS f (t++[q])=Ai (BS f t) (f q):=by unfold BS;rw[foldl_append];rfl
theorem dk{ks:List By}{x:By}:x∈Ai ks r↔x∈ks\/x=r:=by
 unfold Ai;split
 ·rename_i h;exact⟨.inl,λz=>z.elim id λe=>e▸h⟩
 ·rw[bA,bI]
theorem dKeys_nd{ks:List By}(h:ks.Nodup):(Ai ks r).Nodup:=by
 unfold Ai;split
 ·exact h
 ·rename_i d;exact nodup_append.mpr ⟨h,'2',λa f b c e=>d (by simp at c;rw[<-c,<-e];exact f)⟩
theorem R6(t:List α):∀(ks:List By),(∀x,x∈t.foldl (λks q=>Ai ks (f q)) ks↔x∈ks\/∃q∈t,f q=x)/\(ks.Nodup->(t.foldl (λks q=>Ai ks (f q)) ks).Nodup):=by
 induction t with
 |nil=>intro ks;exact⟨λx=>'2',id⟩
 |cons q t c =>
  intro ks;obtain⟨a,b⟩:=c (Ai ks (f q));refine⟨λx=>?_,λh=>b (dKeys_nd h)⟩;rw[foldl_cons,a,dk];simp only[aF,exists_eq_or_imp];constructor
  ·rintro((z|z)|z)
   ·exact .inl z
   ·exact .inr (.inl z.symm)
   ·exact .inr (.inr z)
  ·rintro(z|z|z)
   ·exact .inl (.inl z)
   ·exact .inl (.inr z.symm)
   ·exact .inr z
theorem R7{t:List α}{x:By}:x∈BS f t↔∃q∈t,f q=x:=by
 have:=(R6 (f:=f) t []).1 x;simpa[BS]using this
theorem dm(t:List α):(BS f t).Nodup:=(R6 (f:=f) t []).2 nodup_nil
def Bv(f:α->By)(t:List α)(r:By):List α:=t.filter λq=>decide (f q=r)
theorem MU(t:List α)(q:α)(r:By):Bv f (t++[q]) r=if f q=r then Bv f t r++[q]else Bv f t r:=by
 unfold Bv;rw[filter_append,filter_cons,filter_nil];by_cases h:f q=r
 ·rw[aC h,aC (~~~h)]
 ·rw[aB h,aB (~~~h),append_nil]
theorem dn(t:List α)(q:α):D2 (BS f t) ((BS f t).map λr=>(Bv f t r).map g) (f q) (g q)=(BS f (t++[q])).map λr=>(Bv f (t++[q]) r).map g:=by
 have nd:=dm (f:=f) t;rw[R5];unfold D2;by_cases h:f q∈BS f t
 ·rw[aC h,show Ai (BS f t) (f q)=BS f t by unfold Ai;rw[aC h]];apply ext_getElem?;intro i;rw[getElem?_modify,bO,bO];cases e:(BS f t)[i]? with
  |none=>rfl
  |some r =>
   simp only[Option.map_some,Option.map_eq_map];have hi:=(aI.mp e).1;have c:=(aI.mp e).2;rw[MU];by_cases a:f q=r
   ·have:(BS f t).idxOf (f q)=i:=by rw[a,<-c];exact nd.idxOf_getElem i hi
    rw[aC this,aC a,cN];rfl
   ·have:(BS f t).idxOf (f q)≠i:=λz=>a (by
     have h2:=getElem_idxOf (idxOf_lt_length_iff.mpr h);rw[<-c,<-h2];simp[z])
    rw[aB this,aB a]
 ·rw[aB h,show Ai (BS f t) (f q)=BS f t++[f q] by unfold Ai;rw[aB h],cN]
  congr 1
  ·refine cF λr j=>?_;rw[MU,aB (λz:f q=r=>h (z▸j))]
  ·rw[map_cons,map_nil,MU,aC rfl];have:Bv f t (f q)=[]:=filter_eq_nil_iff.mpr λx d z=>h (R7.mpr ⟨x,d,by simpa using z⟩);rw[this];rfl
end
abbrev Ps(t:Tl):Prop:=∀q∈t,0<q.2
abbrev Dp(qI qB uni:At)(r s:By):By:=AU (qI++qB) (r++s) uni
theorem MV{a b:At}{n:Str}(h:n∈a):dD (a++b) n=dD a n:=by
 have h2:=EQ h;unfold dD at h2 ⊢;rw[findIdx_append,aC h2]
theorem R8{a b:At}{n:Str}(h:n∉a):dD (a++b) n=dD b n+a.length:=by
 unfold dD;have:¬a.findIdx (λx=>decide (x=n))<a.length:=λz=>by
  have:=findIdx_getElem (w:=z);simp only[decide_eq_true_eq]at this;exact h (this▸getElem_mem _)
 rw[findIdx_append,aB this]
section
variable{qB uni less:At}{s:By}
theorem dq(d:r.length=qI.length)(c:∀n∈less,n∈qI):AU (qI++qB) (r++s) less=AU qI r less:=by
 unfold AU;refine cF λn a=>?_;have h:=c n a;have hi:=EQ h;rw[MV h,bW,getElem?_append_left ⋯,<-bW]
theorem R9{ns:At}{r:By}{a b:At}{x:By}{y:By}(h:AU a x ns=AU b y ns){n:Str}(c:n∈ns):x.getD (dD a n) 0=y.getD (dD b n) 0:=by
 unfold AU at h;exact(map_inj_left.mp h) n c
theorem dt(a:r.length=qI.length)(d:∀n∈less,n∈qB)(ag:AU qI r (AN qI qB)=AU qB s (AN qI qB)):AU (qI++qB) (r++s) less=AU qB s less:=by
 unfold AU;refine cF λn c=>?_;by_cases h:n∈qI
 ·have hi:=EQ h;rw[MV h,bW,getElem?_append_left ⋯,<-bW];exact R9 (r:=r) ag (cW.mpr ⟨h,by simpa using d n c⟩)
 ·rw[R8 h,bW,getElem?_append_right ⋯,<-bW,a,Nat.add_sub_cancel]
theorem du(nd:qI.Nodup)(a:r.length=qI.length)(c:∀n∈qI,n∈uni):AU uni (Dp qI qB uni r s) qI=r:=by
 rw[Hf c,dq a (λ_ h=>h),GH nd a]
theorem dv(nd:qB.Nodup)(d:r.length=qI.length)(c:s.length=qB.length)(a:∀n∈qB,n∈uni)(ag:AU qI r (AN qI qB)=AU qB s (AN qI qB)):AU uni (Dp qI qB uni r s) qB=s:=by
 rw[Hf a,dt d (λ_ h=>h) ag,GH nd c]
end
section
variable{α:Type}{f:α->By}
theorem Jk{t:List α}{k:By}{q:α}:q∈Bv f t k↔q∈t/\f q=k:=by unfold Bv;rw[cW];simp
theorem SA(t:List α)(k:By):(Bv f t k).Sublist t:=filter_sublist
end
section
variable{qB uni:At}{t u:Tl}
theorem dw{α:Type}{f:α->By}{t:List α}{k:By}:k∈BS f t↔Bv f t k≠[]:=by
 rw[R7];constructor
 ·rintro⟨q,a,e⟩ z;have:q∈Bv f t k:=Jk.mpr ⟨a,e⟩;rw[z]at this;cases this
 ·intro z;obtain⟨q,a⟩:=exists_mem_of_ne_nil _ z;exact⟨q,(Jk.mp a).1,(Jk.mp a).2⟩
structure Uni(qI qB uni:At):Prop where
 nd:uni.Nodup
 l:∀n∈qI,n∈uni
 r:∀n∈qB,n∈uni
 s:∀n∈uni,n∈qI\/n∈qB
end
end L2
namespace L2
theorem CH{α:Type}(x:α)(r:List α):atI (x::r) 0\x:=Co (j:=0) rfl
theorem Hk{α:Type}(x y:α)(r:List α):atI (x::y::r) 1\y:=Co (j:=1) rfl
end L2
namespace L2
open PySem
theorem Jl{κ:Type}[DecidableEq κ](F:κ->P):∀{ks:List κ} {k:κ},k∈ks->BE ks (ks.map F) k\(F k)
 |k0::ks,k,h=>by
  rw[map_cons];unfold BE;by_cases e:k0=k
  ·rw[aC e,e]
  ·rw[aB e];exact Jl F ((aF.mp h).resolve_left (Ne.symm e))
theorem SB(h:∀x∈r,0<=x/\x<=9):∀x∈AU qI r qC,0<=x/\x<=9:=λx a=>by
 unfold AU at a;obtain⟨n,_,rfl⟩:=bU.mp a;rw[bW];cases e:r[dD qI n]? with
 |none=>simp
 |some y=>exact h y (aM e)
theorem dy{t:Tl}(h:q∈BX qI t qC):∃p∈t,q.1=AU qI p.1 qC:=by
 have h:=Qn h;rw[Jb]at h;obtain⟨p,c,e⟩:=bU.mp h;unfold A6 at c;obtain⟨d,a,rfl⟩:=bU.mp c;exact⟨d,a,e.symm⟩
theorem SC{a b c d:At}(h1:a.Nodup)(h2:b.Nodup)(g:∀z,z∈a↔z∈c\/z∈d)(f:∀z,z∈b↔z∈c\/z∈d)(s1:Bg a)(e:Bg b):a=b :=
 Hd ((bD h1 h2).mpr λz=>(g z).trans (f z).symm) s1 e
theorem Uni.mem{qB uni:At}(h:Uni qI qB uni)(z:Str):z∈uni↔z∈qI\/z∈qB:=⟨h.s z,λw=>w.elim (h.l z) (h.r z)⟩
section
variable{qB uni:At}{t u ρ:Tl}
theorem SD{a b:By}(h:HT.lexLt b a=false)(c:a≠b):HT.lexLt a b=true:=by
 cases e:HT.lexLt a b with
 |true=>rfl
 |false=>exact bS (G6 _ _ e h) c
end
end L2
namespace L2
end L2
namespace L2
open PySem
section
variable{ns:At}
theorem dz{t:Tl}(nd:(t.map (·.1)).Nodup)(ps:Ps t)(s:B6 (t.map (·.1))):D1 t=t:=by
 rw[<-Y2 nd];unfold BA;have e:DN (t.map (·.1))=t.map (·.1):=(Lv (List.Perm.refl _) s).symm;rw[e,filter_eq_self.mpr λr c=>?_,bZ]
 ·conv=>rhs;rw[<-map_id t]
  refine cF λq a=>?_;show(q.1,(AY t q.1).getD 0)=q;rw[Q7 nd a];rfl
 ·obtain⟨q,a,rfl⟩:=bU.mp c;rw[Q7 nd a];have:=ps q a;simp;lia
end
end L2
namespace L2
open PySem PyProof.Rows
abbrev sg(x:Str):Ge:=x.cps.toList
end L2
namespace L2
open PySem PyProof.Rows PySem.NumText
end L2
namespace L2
open PySem PyProof.Rows
theorem ET{x:P}(h:x.imm=true):As x f=.nw:=by cases f<;>simp[As,h]
theorem Au{k:Nat}{x:P}{K:dI->Prop}(h:x.imm=true)(q:K (J.set k (.sh x))):A0 k x f J K:=by unfold A0;rw[aC h];exact q
theorem Hl{K:dI->Prop}(h:K ((J.set i (.sh (AM q.1))).set j (.sh (.int q.2)))):FP [i,j] (BH q) f J K:=⟨_,rfl,rfl,Au (C6 _) (Au rfl h)⟩
theorem Jm{x:P}(h:x.imm=true):EJ x f=true:=by unfold EJ;rw[h];rfl
theorem MW{x:P}:EJ x .nw=true:=by unfold EJ;exact Bool.or_true _
theorem Cj(ns:At):(AO ns).imm=true:='2'
theorem cI(f:Fl)(r:List By):BC f (r.map AM)=.nw:=by unfold BC;rw[aC (Xm r)]
theorem SE{k:Nat}{K:dI->Prop}(h:P.imms xs=true)(q:K (J.set k (.own (.lst xs)))):A0 k (.lst xs) (BC f xs) J K:=by unfold BC;rw[aC h];exact q
end L2
namespace L2
open PySem PySem.Spec PyProof.Rows
def B9(rs:List By)(n:Nat):List By:=rs.flatMap λr=>(List.range n).map λk:Nat=>r++[(k:Int)]
def SF(pi:pI)(j:Nat):pE:=λJ K=>pi J λxs f _=>f≠.bo/\∃(rs:List By) (n:Nat),xs=rs.map AM/\J[j]?\(.sh (.int (n:Int)))/\n<=1000/\rs.length<=10000/\(∀r∈rs,r.length<=1000)/\K (.lst ((B9 rs n).map AM)) .nw
theorem cO(e:f≠.bo)(h:RF W J Y Hs f H (AM ns) v):∃a,v=.ref a/\H a\(.tup (ns.map V.int)):=by
 have k:∀{Z:Addr->Prop},Rp W.b Z H (AM ns) v->∃a,v=.ref a/\H a\(.tup (ns.map V.int)):=λ{Z} h=>by
  obtain⟨a,G,rfl,c,d⟩:=h;rw[AC.ints.mp d]at c;exact⟨a,rfl,c⟩
 cases f with
 |bo=>exact bS rfl e
 |nw=>exact k h.1
 |fr=>exact k h
 |cl=>exact k h
 |rf=>exact k h
 |an=>exact k h
theorem cQ{rs:List By}(h:i<rs.length):B9 (rs.take (i+1)) n=B9 (rs.take i) n++(List.range n).map λk:Nat=>rs[i]++[(k:Int)]:=by
 unfold B9;rw[Zs h,flatMap_append];simp
theorem MX(n:Nat):∀rs:List By,(B9 rs n).length=rs.length * n
 |[]=>by simp[B9]
 |r::rs=>by
  have:=MX n rs;unfold B9 at this ⊢;rw[flatMap_cons,aG,this];simp[Nat.succ_mul,Nat.add_comm]
theorem MY{b:Addr}{rs:List By}(a:∀p G,H p\(.tup G)->H' p\(.tup G))(h:AC b (λ_=>True) H (rs.map AM) vs):AC b (λ_=>True) H' (rs.map AM) vs :=
 h.keep (λ_ _ z _=>bS trivial z) a
theorem cV{i1 i2 i3:Nat}(U:qD[i1]?\none)(T:qD[i2]?\none)(aa:i1≠i2)(N:qD[i3]?\(some j))(hi:JC wi pi) :
  BL (MN wi qD i1 (NR (Bx (CV i3) CD)) i2 (FC LR (CV i1) (Nb (Bx (CV i2) CD)))) (SF pi j):=by
 intro W J Y H Q K ok hk q;refine hi W J Y H _ _ ok hk λxs f _ ρ H1 zz s1 jC _=>?_;obtain⟨ab,rs,n,a8,hj,hn,aj,a9,a4⟩:=zz;subst a8;have d:=ok.step s1;have a7:i1≠i3:=λz=>by rw[z,N]at U;cases U
 have ak:i2≠i3:=λz=>by rw[z,N]at T;cases T
 have hσ:Y[j]?\(some (.int (n:Int))):=by
  obtain⟨o,h1,v,h2,h3⟩:=ok.slot j _ hj;rw[h1,h2,show v=.int _ from h3]
 have a0:∀{D H2},H1 D=none->Step W.b W.a H1 H2->∀{o},Step W.b W.a H1 (AD H2 D o):=λ{D H2} x s {o}=>⟨s.bag.put (d.bag.nb x) (d.bag.na x),λp u σ e=>by rw[AI (Ao e x)];exact s.same p u σ e⟩;intro D x;have a2:=d.bag.nb x;have lp:∀{i:Nat},qD[i]?\none->i<(L2.picked Y qD).length:=λσ=>(aI.mp (Fs (Y:=Y) σ)).1;have ag:∀v:V,((L2.picked Y qD).set i1 (some v))[i3]?\(some (.int (n:Int))):=λv=>by
  rw[bV a7,HI N,hσ];rfl
 have ai:∀v u:V,(((L2.picked Y qD).set i1 (some v)).set i2 (some u))[i1]?\(some v):=λv u=>by
  rw[bV aa.symm,bY (lp U)]
 have ah:∀v u:V,(((L2.picked Y qD).set i1 (some v)).set i2 (some u))[i2]?\(some u):=λv u=>by
  rw[bY (by rw[length_set];exact lp T)]
 have c:∀{E Hb:Hp},Step W.b W.a E Hb->Bag E W.b W.a->∀p G,E p\(.tup G)->Hb p\(.tup G):=λs hb p G e=>s.same p _ (hb.neT e).1 e;have r:∀{E:Hp} {o:HO} {l:dG},E D\(.lst l)->∀p G,E p\(.tup G)->AD E D o p\(.tup G):=λ{E o l} hl p G e=>by rw[AI (λz=>by rw[z,hl]at e;cases e)];exact e
 refine⟨λi m ys H2=>m=rs.length - i/\i<=rs.length/\AC W.b (λ_=>True) H2 ((B9 (rs.take i) n).map AM) ys/\H2 D\(.lst ys)/\Step W.b W.a H1 H2,⟨rs.length,'2',cD _,rfl,AX,a0 x (Step.refl d.bag)⟩,?_⟩;rintro i m ys H2 ⟨rfl,hi,M,eD,s2⟩;refine⟨eD,?_⟩;have a1:=d.step s2;obtain⟨j1,j2,j3⟩:=jC (λp=>W.O p\/p=D) J Y H2 ⟨λp z=>z.elim .inl λz=>.inr (z▸x),rfl,rfl,a1,s2⟩ i;rw[aA]at j1 j2;by_cases w:i<rs.length
 ·refine .inr ⟨j1 w,λzs H'=>AC W.b (λ_=>True) H' ((B9 (rs.take (i+1)) n).map AM) zs/\H' D\(.lst zs)/\Step W.b W.a H1 H',λzs H' zz=>(by obtain⟨z1,z2,z3⟩:=zz;exact ⟨rs.length - (i+1),⋯,rfl,w,z1,z2,z3⟩),λv H3 y=>?_⟩;obtain⟨y1,y2⟩:=j3 v H3 y (AM rs[i]) (by rw[bO,aH w];rfl);obtain⟨a,rfl,ha⟩:=cO ab y2;have s3:=s2.trans y1;have af:=y1.same D _ a2 eD;refine⟨_,ag _,(n:Int),rfl,⋯,⋯,?_⟩;rw[Int.toNat_natCast];refine⟨λk m2 zs us=>m2=n - k/\k<=n/\AC W.b (λ_=>True) us ((B9 (rs.take i) n++(List.range k).map λk:Nat=>rs[i]++[(k:Int)]).map AM) zs/\us D\(.lst zs)/\us a\(.tup (rs[i].map V.int))/\Step W.b W.a H1 us,⟨n,'2',cD _,by simpa using MY (c y1 a1.bag) M,af,ha,s3⟩,?_⟩;rintro k m2 zs us ⟨rfl,hk,L,B,ac,s6⟩;refine⟨B,?_⟩;by_cases a3:k<n
  ·refine .inr ⟨a3,λG H'=>AC W.b (λ_=>True) H' ((B9 (rs.take i) n++(List.range (k+1)).map λk:Nat=>rs[i]++[(k:Int)]).map AM) G/\H' D\(.lst G)/\H' a\(.tup (rs[i].map V.int))/\Step W.b W.a H1 H',λG H' zz=>(by obtain⟨z1,z2,z3,z4⟩:=zz;exact ⟨n - (k+1),⋯,rfl,a3,z1,z2,z3,z4⟩),λu H7 zz=>?_⟩;obtain⟨e7,e8⟩:=zz;subst e8;cases e7;rw[Int.zero_add];refine⟨_,ai _ _,_,ah _ _,by show 1<=sizeLine;decide,λp σ=>?_⟩;have pD:p≠D:=λz=>by rw[z,B]at σ;cases σ
   have I:=Step.new (o:=HO.tup [V.int (k:Int)]) s6.bag σ;have ae:AD us p (.tup [.int (k:Int)]) D\(.lst zs):=by rw[AI pD.symm];exact B
   have a5:AD us p (.tup [.int (k:Int)]) a\(.tup (rs[i].map V.int)):=c I s6.bag _ _ ac;have s7:=s6.trans I;have lz:zs.length<sizeLine:=by
    have al:sizeLine=16777216:=rfl;have h1:=L.length;have h2:=MX n (rs.take i);have h3:=Nat.mul_le_mul (show(rs.take i).length<=9999 by rw[aO];lia) hn;rw[aA,aG,aA,bG]at h1;lia
   have lr:=a9 _ (getElem_mem w);have a6:∀{C:Hp} {z:V},Step W.b W.a (AD us p (.tup [.int (k:Int)])) C->Rp W.b (λ_=>True) C (AM (rs[i]++[(k:Int)])) z ->
     C D\(.lst zs)/\zs.length<sizeLine/\(AC W.b (λ_=>True) (AD C D (.lst (zs++[z]))) ((B9 (rs.take i) n++(List.range (k+1)).map λk:Nat=>rs[i]++[(k:Int)]).map AM) (zs++[z])/\AD C D (.lst (zs++[z])) D\(.lst (zs++[z]))/\AD C D (.lst (zs++[z])) a\(.tup (rs[i].map V.int))/\Step W.b W.a H1 (AD C D (.lst (zs++[z])))):=λ{C z} s9 rz=>by
    have A:=s9.same D _ a2 ae;refine⟨A,lz,?_,AX,r A _ _ (c s9 s7.bag _ _ a5),a0 x (s7.trans s9)⟩;have r9:AC W.b (λ_=>True) C _ zs:=MY (c (I.trans s9) s6.bag) L;rw[range_succ,cN (l₂:=[k]),<-bK,cN (l₂:=[k].map _)];refine(MY (r A) r9).snoc ?_;exact rz.keep (λ_ _ z _=>bS trivial z) (r A)
   refine .inr ⟨a,p,_,_,rfl,rfl,a5,AX,?_,λe=>?_,λ_ e=>?_,λ_ _ l hl=>?_⟩
   ·rw[aA,show sizeLine=16777216 from rfl];simp only[length_cons,length_nil];lia
   ·refine a6 (Step.refl s7.bag) ⟨p,_,rfl,AX,?_⟩;rw[show rs[i]=[]from map_eq_nil_iff.mp e];exact AC.ints.mpr rfl
   ·cases e
   ·refine a6 (Step.new s7.bag hl) ⟨l,_,rfl,AX,AC.ints.mpr ?_⟩;rw[cN];rfl
  ·have e:k=n:=⋯;subst e;refine .inl ⟨aQ _,?_⟩;rw[cQ w];exact⟨L,B,s6⟩
 ·have e:i=rs.length:=⋯;subst e;rw[take_length]at M;refine .inl ⟨j2 (aQ _),q _ .nw _ H2 a4 (s1.trans s2) ?_⟩;have nz:∀g,¬AG W J Y g D:=λg z=>d.dom z x;exact⟨⟨D,_,rfl,nz .fr,eD,M.imm (Qa _)⟩,λ_=>⟨D,rfl,s1.free x⟩⟩
section
variable{tg2 cg:Expr}{wi2:TI}{i1 i2:Nat}
theorem cX{B:Pos}(S:CompScope N sc N' qD scope)(u:X.N.Nodup)(w:X.N[i]?\x)(T:CU X.env.scope x)(hc:X.calm=true)(hi:PI X tg iter wi)(n:qD[i1]?\none)(l:qD[i2]?\none)(r:i1≠i2)(hg:∀p,PG (X.comp N' scope p) tg (CJ i1))(y:∀p,PI (X.comp N' scope p) tg2 cg wi2)(A:∀p,PG (X.comp N' scope p) tg2 (CJ i2))
  (he:∀p,PE (X.comp N' scope p) ce te) (hN:X.N=N) (d:X.env.scope=sc) (c:swapsWith (Bh ce tg iter tg2 cg scope pos) (some (.Name x pos')) B.line X.env=pure true) (U:∀x,foldedSetIterable iter X.env x=pure x) (g:∀p x,foldedSetIterable cg (X.comp N' scope p).env x=pure x)
  (hf:X.fn x=true\/X.env.scope.names.lookup x\.local) :
  PS X (.Assign [.Name x pos'] (Bh ce tg iter tg2 cg scope pos) B) (Ec (MN wi qD i1 wi2 i2 te) (CJ i)):=by
 intro qA s Y H D I h;rw[exec_Assign_Name_used _ _ _ _ c];refine wB (wpAny_standAt (wB ?_));show 'A' (do let _ <-comprehension (Bh ce tg iter tg2 cg scope pos) scope X.env _ (newList []) false (eval iter X.env) (some (assign (.Name x pos') X.env))) _ _ s;refine wB (AH (Zr (QQ:=λ_ s'=>SP X qA D .next s') S hN d hc hi n l r hg y A he U g I h λD' C H' s' m IO q Q us O E M hn=>?_) λ_ s' σ=>wP (wP σ));refine wpAny_assign_Name (KU (v:=V.ref D') IO u w T rfl (λρ I2 zz=>?_) hf);obtain⟨a,f,ha⟩:=zz;have L:C≠a:=by
  rcases ha with e|e
  ·rw[e];exact us
  ·exactλz=>E _ _ e z.symm
 refine⟨m,hn.sameBut f L,λh' j=>⟨_,H',I2.turned (t':=ρ.toks) (λb o hb e=>(j.2 b hb).trans e) Q us (.inr O) E M,q⟩⟩
end
section
variable{q1 q2 p1 p2 p3 p4 p5 p6 p7 p8 p9:Pos}{u y z:Str}
theorem cY{k i1 i2 i3:Nat}{x1}(h:∀i,(Xs i).N.Nodup)(S:CompScope N sc N' qD scope)(ρ:∀i,(Xs i).calm=true)(us:∀i,(Xs i).mg "range"=none)(c:qD[i1]?\none)(a:qD[i2]?\none)(d:i1≠i2)(g:qD[i3]?\(some j))(hi:QI Xs (.Name x p1) iter pi)(nd:N'.Nodup)(n:N'[i1]?\x)(m:N'[i2]?\y)(A:N'[i3]?\z)
  (l:∀i,(Xs i).N[k]?\u:=by rfl) (D:∀i,CU (Xs i).env.scope u:=by intro _;trivial)
  (C:∀q:ι×CompP,CU ((CO Xs N' scope) q).env.scope x:=by intro _;trivial) (B:∀q:ι×CompP,CU ((CO Xs N' scope) q).env.scope y:=by intro _;trivial)
  (O:∀q:ι×CompP,((CO Xs N' scope) q).fn x=true\/((CO Xs N' scope) q).env.scope.names.lookup x\.local:=by intro _;trivial) (M:∀q:ι×CompP,((CO Xs N' scope) q).fn y=true\/((CO Xs N' scope) q).env.scope.names.lookup y\.local:=by intro _;trivial)
  (w:∀q:ι×CompP,Cw ((CO Xs N' scope) q).env.scope x:=by intro _;trivial) (v:∀q:ι×CompP,Cw ((CO Xs N' scope) q).env.scope y:=by intro _;trivial) (s:∀q:ι×CompP,Cw ((CO Xs N' scope) q).env.scope z:=by intro _;trivial)
  (dx:No x:=by decide) (T:(y==("__debug__":Str))=false:=by decide) (cx:N_ x:=by decide) (σ:(y==("__classdict__":Str))=false:=by decide) (Q:(z==("__debug__":Str))=false:=by decide) (U:(z==("__classdict__":Str))=false:=by decide)
  (H:∀q:ι×CompP,Gl ((CO Xs N' scope) q) "range":=by rfl)
  (L:∀i,(Xs i).N=N:=by rfl) (f:∀i,(Xs i).env.scope=sc:=by rfl) (E:∀i,∀x,foldedSetIterable iter (Xs i).env x=pure x:=by intro _ _;rfl)
  (e:∀i,swapsWith (Bh (.BinOp (.Name x p4) .Add (.Tuple [.Name y p5] x1 p6) p7) (.Name x p1) iter (.Name y p2) (.Call (.Name "range" p8) [.Name z p9] [] p3) scope pos) (some (.Name u q1)) q2.line (Xs i).env=pure true:=by rfl)
  (I:∀i,(Xs i).fn u=true\/(Xs i).env.scope.names.lookup u\.local:=by intro _;trivial) :
  QS Xs (.Assign [.Name u q1] (Bh (.BinOp (.Name x p4) .Add (.Tuple [.Name y p5] x1 p6) p7) (.Name x p1) iter (.Name y p2) (.Call (.Name "range" p8) [.Name z p9] [] p3) scope pos) q2) (HC (SF pi j) k):=by
 obtain⟨wi,r,o⟩:=hi;refine⟨_,λi=>?_,LJ (cV (i3:=i3) c a d g o)⟩;exact cX S (h i) (l i) (D i) (ρ i) (r i) c a d (λp=>BF (i:=i1) nd n (C (i,p)) (O (i,p))) (λp=>GX (H (i,p)) (us i) (Ag (Ds A (s (i,p)) Q U) Az rfl)) (λp=>BF (i:=i2) nd m (B (i,p)) (M (i,p)))
  (λp=>BU HM (Ds n (w (i,p)) dx cx) (Nc (Ag (Ds m (v (i,p)) T σ) Az rfl))) (L i) (f i) (e i) (E i) dF (I i)
end
theorem cZ(g:X.calm=true):BK X (.builtin "sum") (λxs H Q=>∃(p:Addr) (ns:By),xs=[.ref p]/\H p\(.tup (ns.map V.int))/\Q (.int ns.sum) H):=by
 rintro qA s Y H xs G Q I r⟨p,ns,rfl,d,q⟩;obtain⟨u,rfl,c⟩:=r.one;cases c;obtain⟨qG,r,pl,i⟩:=I.tuple (.of d);have hi:=Gd r;obtain⟨xs,e⟩:=hi.allInts.items;have a:(PySem.numsOf qG.toArray.toList).sum=ns.sum:=by rw[show qG.toArray.toList=qG from rfl,hi.numsOf]
 rw[e,nums_intItems]at a;refine PySem.W.ktm_sumG (I.ok.hd g) (xs:=xs) (by rw[<-e];exact pl) λh' tk t' f=>⟨.int ns.sum,H,I.kept (t':=tk) f,⟨t',?_⟩,q⟩;rw[preSum_eq,aZ '2',a]
def SG:pC:=p1 λx f K=>∃ns:By,x=AM ns/\K (.int ns.sum) .fr
theorem ci:Bz (λxs H Q=>∃(p:Addr) (ns:By),xs=[.ref p]/\H p\(.tup (ns.map V.int))/\Q (.int ns.sum) H) SG:=λW J Y Hs H Q K xs vs ok st r a q=>by
 unfold SG p1 at a;split at a
 ·obtain⟨v,rfl,rv⟩:=r.one;obtain⟨ns,rfl,e⟩:=a;obtain⟨p,G,rfl,c,d⟩:=Cb ok rv;rw[AC.ints.mp d]at c;exact⟨p,ns,rfl,c,q _ _ _ H e (Step.refl ok.bag) EI⟩
 ·exact a.elim
def SH:pC:=p1 λx _ K=>∃b:Bool,x=.bl b/\K (.int (if b then 1 else 0)) .fr
theorem cj:BK X (.type "int") (λxs H Q=>∃b:Bool,xs=[.bl b]/\Q (.int (if b then 1 else 0)) H):=by
 rintro qA s Y H xs G Q I r⟨b,rfl,q⟩;obtain⟨u,rfl,a⟩:=r.one;cases a;exact call_int_bool ⟨.int _,H,I.tok _,⟨_,rfl⟩,q⟩
theorem ck:Bz (λxs H Q=>∃b:Bool,xs=[.bl b]/\Q (.int (if b then 1 else 0)) H) SH:=λW J Y Hs H Q K xs vs ok st r a q=>by
 unfold SH p1 at a;split at a
 ·obtain⟨v,rfl,rv⟩:=r.one;obtain⟨b,rfl,c⟩:=a;cases HA ok rv;exact⟨b,rfl,q _ _ _ H c (Step.refl ok.bag) EI⟩
 ·exact a.elim
def cm(pd pk px:pE):pE:=λJ K=>pd J λx f=>∃ks vs,x=.dT ks vs/\f=.bo/\pk J λy _=>px J λz g=>∃r,Cf y\r/\g=.nw/\K ((BE ks vs r).getD z) .fr
section
variable{o i e:Expr}{pd px:pE}
theorem cn(N:∀j,(Xs j).A.units+1<cLine)(O:QE Xs o pd)(hi:QE Xs e pk)(M:QE Xs c px)
  (m:∀j,M2 (Xs j) o "get" qK e c qJ:=by intro _;exact⟨rfl,rfl,rfl,rfl⟩):QE Xs (.Call (.Attribute o "get" qK) [e,c] [] qJ) (cm pd pk px):=by
 obtain⟨td,d1,d2⟩:=O;obtain⟨tk,k1,k2⟩:=hi;obtain⟨tx,x1,I⟩:=M;refine⟨_,λj=>OA (N j) (d1 j) (k1 j) (x1 j) (m j),λW J Y H Q K ok T q=>d2 W J Y H _ _ ok T λx f v H1 zz C D=>?_⟩;obtain⟨ks,vs,ex,σ,h1⟩:=zz;subst ex σ;have a:=ok.step C;obtain⟨p,G,rfl,_,B,_⟩:=FY a D;refine⟨p,rfl,.inr ⟨_,.of B⟩,k2 W J Y H1 _ _ a h1 λy g u H2 h2 i L=>I W J Y H2 _ _ (a.step i) h2 λz gz uz H3 zz l ρ=>?_⟩;obtain⟨r,e1,U,e4⟩:=zz;subst U;have d:=(C.trans i).trans l;have h:=ok.step d;have s:=D.step a (i.trans l);have n:=L.step (a.step i) l;obtain⟨p',G,e,_,B,us,E⟩:=FY h s;cases e;obtain⟨q2,rfl,c4⟩:=GA h e1 n;refine⟨_,Cp.t B c4,q _ _ _ H3 e4 d ?_⟩;cases e:BE ks vs r with
 |none=>rw[(FX Dy (k:=r) E us).2 e];exact ρ.1
 |some w =>
  obtain⟨v,a1,a2⟩:=(FX Dy (k:=r) E us).1 w e;rw[a1];exact a2
end
theorem A5.keep{α:Type}{as:List α}{enc:α->P}{step:P->(Option (P×Fl)->Prop)->Prop}{K:P->Fl->Prop}(t:α->Bool)(g:∀a∈as,∀M:Option (P×Fl)->Prop,M (if t a=true then some (enc a,.cl)else none)->step (enc a) M)(h:K (.lst ((as.filter t).map enc)) .cl):A5 (as.map enc) step K:=by
 refine⟨.cl,λi ys=>ys=((as.take i).filter t).map enc,.inr rfl,rfl,λi x ys d c=>?_,λys c=>?_⟩
 ·obtain⟨a,_,hm,rfl,f⟩:=LM d;subst c;refine g a hm _ ?_;have key:((as.take (i+1)).filter t).map enc=((as.take i).filter t).map enc++if t a=true then [enc a]else []:=by
   rw[f,filter_append,cN];cases e:t a<;>simp[e]
  cases e:t a
  ·show((as.take i).filter t).map enc=((as.take (i+1)).filter t).map enc;rw[key,e];simp
  ·refine⟨?_,?_⟩
   ·show(if(enc a).imm=true then Fl.nw else .cl).join .cl=.cl;split<;>rfl
   ·show((as.take i).filter t).map enc++[enc a]=((as.take (i+1)).filter t).map enc;rw[key,e];simp
 ·rw[aA,take_length]at c;subst c;exact h
end L2
namespace L2
open PySem
def A1:Nat->Nat->List By
 |0,_=>[[]]
 |k+1,b=>B9 (A1 k b) b
theorem SI{rs:List By}{x:By}:x∈B9 rs n↔∃r∈rs,∃j:Nat,j<n/\x=r++[(j:Int)]:=by
 unfold B9;rw[mem_flatMap];constructor
 ·rintro⟨r,a,d⟩;obtain⟨j,c,rfl⟩:=bU.mp d;exact⟨r,a,j,bH.mp c,rfl⟩
 ·rintro⟨r,a,j,c,rfl⟩;exact⟨r,a,bU.mpr ⟨j,bH.mpr c,rfl⟩⟩
theorem DO{b:Nat}:∀{k:Nat} {r:By},r∈A1 k b->r.length=k/\∀x∈r,0<=x/\x<b:=by
 intro k
 induction k with
 |zero=>intro r h;rw[bI.mp h];exact⟨rfl,λx a=>nomatch a⟩
 |succ k c =>
  intro r h;obtain⟨r,d,j,e,rfl⟩:=SI.mp h;obtain⟨h1,h2⟩:=c d;refine⟨by rw[aG,h1];rfl,λx a=>?_⟩;rcases bA.mp a with z|z
  ·exact h2 x z
  ·rw[bI.mp z];lia
theorem MZ(b:Nat):∀k:Nat,(A1 k b).length=b ^ k:=by
 intro k
 induction k with
 |zero=>rfl
 |succ k a=>rw[A1,MX,a,Nat.pow_succ]
abbrev Fc(l:List By):Prop:=l.Pairwise λa b=>HT.lexLt a b=true
theorem cq:∀{r s:By} (x y:Int),HT.lexLt r s=true->r.length=s.length->HT.lexLt (r++[x]) (s++[y])=true:=by
 intro r
 induction r with
 |nil=>intro s x y h d;rw[cM d.symm]at h;cases h
 |cons a r f =>
  intro s x y h d;cases s with
  |nil=>cases d
  |cons c s =>
   rw[cons_append,cons_append];rw[HT.dA]at h ⊢;by_cases e:a=c
   ·rw[aC e]at h ⊢;exact f x y h (~~~d)
   ·rw[aB e]at h ⊢;exact h
theorem cr:∀(r:By) {x y:Int},x<y->HT.lexLt (r++[x]) (r++[y])=true:=by
 intro r x y h
 induction r with
 |nil=>rw[nil_append,nil_append,HT.dA,aB ⋯];exact aK h
 |cons a r c=>rw[cons_append,cons_append,HT.dA,aC rfl];exact c
theorem cu(b:Nat):∀k:Nat,Fc (A1 k b):=by
 intro k
 induction k with
 |zero=>exact pairwise_singleton _ _
 |succ k a =>
  show Fc (B9 (A1 k b) b);unfold B9;refine pairwise_flatMap.mpr ⟨λr _=>?_,?_⟩
  ·exact pairwise_map.mpr (pairwise_lt_range.imp λh=>cr r ⋯)
  ·refine a.imp_of_mem λ{r s} f e h x d y c=>?_;obtain⟨i,_,rfl⟩:=bU.mp d;obtain⟨j,_,rfl⟩:=bU.mp c;exact cq _ _ h (by rw[(DO f).1,(DO e).1])
theorem SJ{l:List By}(h:Fc l):B6 l:=h.imp λ{a c} h=>by
 cases e:HT.lexLt c a with
 |false=>rfl
 |true=>have:=G5 _ _ _ h e;rw[G4]at this;cases this
theorem Ma{l:List By}(h:Fc l):l.Nodup:=h.imp λ{a c} h e=>by rw[e,G4]at h;cases h
theorem SK(f:By->Int)(n:Nat):∀rs:List By,((B9 rs n).map f).sum=(rs.map λr=>((List.range n).map λj:Nat=>f (r++[(j:Int)])).sum).sum:=by
 intro rs
 induction rs with
 |nil=>rfl
 |cons r rs a =>
  unfold B9 at a ⊢;rw[flatMap_cons,cN,sum_append,a,map_cons,sum_cons,bZ];rfl
theorem Mb(x v:Int):∀n:Nat,((List.range n).map λj:Nat=>if(j:Int)=v then x else 0).sum=if 0<=v/\v<n then x else 0:=by
 intro n
 induction n with
 |zero=>rw[aB ⋯];rfl
 |succ n a =>
  rw[range_succ,cN,sum_append,a];by_cases h1:0<=v/\v<n
  ·rw[aC h1,aC ⋯];simp[show¬(n:Int)=v by lia]
  ·rw[aB h1];by_cases h2:(n:Int)=v
   ·rw[aC ⋯];simp[h2]
   ·rw[aB ⋯];simp[h2]
theorem SL(x:Int):∀n:Nat,((List.range n).map λ_:Nat=>x).sum=n * x:=by
 intro n
 induction n with
 |zero=>simp
 |succ n a=>rw[range_succ,cN,sum_append,a];simp[Int.add_mul]
theorem Hm{b t x:Int}(a:0<=t)(h1:t<b):x % b=t↔b ∣ x - t:=by
 constructor
 ·intro h;exact⟨x / b,by have:=Int.emod_add_mul_ediv x b;lia⟩
 ·rintro⟨c,h⟩;have:x=t+b * c:=⋯;rw[this,Int.add_mul_emod_self_left,Int.emod_eq_of_lt a h1]
theorem SM{b t x j:Int}(e:0<=t)(h1:t<b)(d:0<=j)(c:j<b):(x+j) % b=t↔j=(t - x) % b:=by
 rw[Hm e h1,eq_comm (a:=j),Hm d c];rw[<-Int.dvd_neg,show -(x+j - t)=t - x - j by lia]
abbrev Dq:=List (Option Int)
def D3:Option Int->Int->Bool
 |none,_=>true
 |some v,x=>decide (x=v)
def Bd:Dq->By->Bool
 |[],[]=>true
 |o::c,x::r=>D3 o x&&Bd c r
 |_,_=>false
def CA(b:Nat)(c:Dq):Bool:=c.all λo=>match o with|none=>true|some v=>decide (0<=v/\v<(b:Int))
def dN(c:Dq):Nat:=(c.filter λo=>o.isNone).length
theorem Mc(o:Option Int)(x:Int):∀{c:Dq} {r:By},c.length=r.length->Bd (c++[o]) (r++[x])=(Bd c r&&D3 o x):=by
 intro c
 induction c with
 |nil=>intro r h;rw[cM h.symm];simp[Bd]
 |cons a c d =>
  intro r h;cases r with
  |nil=>cases h
  |cons y r=>rw[cons_append,cons_append,Bd,Bd,d (~~~h),Bool.and_assoc]
theorem SN(b:Nat)(c:Dq)(o:Option Int):CA b (c++[o])=(CA b c&&CA b [o]):=by unfold CA;rw[all_append]
theorem SO{M:Dq->Prop}(e:M [])(h1:∀c o,M c->M (c++[o])):∀c,M c:=λc=>by
 have:∀n (c:Dq),c.length=n->M c:=by
  intro n
  induction n with
  |zero=>intro c h;rw[cM h];exact e
  |succ n a =>
   intro c h;rcases eq_nil_or_concat c with rfl|⟨d,o,rfl⟩
   ·cases h
   ·rw[concat_eq_append];exact h1 d o (a d (~~~h))
 exact this _ c rfl
theorem EU{α:Type}{f g:α->Int}{l:List α}(h:∀x∈l,f x=g x):(l.map f).sum=(l.map g).sum:=by rw[cF h]
theorem Md{α:Type}(x:Int)(f:α->Int):∀l:List α,(l.map λa=>x * f a).sum=x * (l.map f).sum:=by
 intro l
 induction l with
 |nil=>simp
 |cons a l c=>rw[map_cons,sum_cons,c,map_cons,sum_cons,Int.mul_add]
theorem cv{b:Nat}:∀c:Dq,((A1 c.length b).map λr=>if Bd c r=true then(1:Int)else 0).sum=if CA b c=true then((b ^ dN c:Nat):Int)else 0:=by
 refine SO (by simp[A1,Bd,CA,dN]) λc o a=>?_;rw[aG,show [o].length=1 from rfl,A1,SK,SN];have e:∀r∈A1 c.length b,((List.range b).map λj:Nat=>if Bd (c++[o]) (r++[(j:Int)])=true then(1:Int)else 0).sum=(if CA b [o]=true then((b ^ dN [o]:Nat):Int)else 0) * if Bd c r=true then 1 else 0:=λr f=>by
  have h:=(DO f).1;rw[EU (g:=λj:Nat=>if(Bd c r&&D3 o j)=true then(1:Int)else 0) λj _=>by rw[Mc o _ h.symm]];cases l:Bd c r
  ·simp[SL]
  ·cases o with
   |none=>simp[D3,SL,CA,dN]
   |some v =>
    have:=Mb 1 v b;simp only[D3,Bool.true_and,decide_eq_true_eq,this];by_cases d:0<=v/\v<(b:Int)<;>simp[CA,dN,d]
 rw[EU e,Md,a];have i:dN (c++[o])=dN [o]+dN c:=by unfold dN;rw[filter_append,aG,Nat.add_comm]
 cases h1:CA b c<;>cases h2:CA b [o]<;>simp[i,Nat.pow_add]
theorem SQ{b:Nat}(u:0<b):∀(c:Dq) {t:Int},1<=dN c->0<=t->t<b->((A1 c.length b).map λr=>if(Bd c r&&decide (r.sum % b=t))=true then(1:Int)else 0).sum=if CA b c=true then((b ^ (dN c - 1):Nat):Int)else 0:=by
 refine SO (λ{t} h=>by simp[dN]at h) λc o s {t} p l i=>?_;rw[aG,show [o].length=1 from rfl,A1,SK,SN];cases o with
 |none =>
  have e:∀r∈A1 c.length b,((List.range b).map λj:Nat=>if(Bd (c++[none]) (r++[(j:Int)])&&decide ((r++[(j:Int)]).sum % (b:Int)=t))=true then(1:Int)else 0).sum=if Bd c r=true then 1 else 0:=λr m=>by
   have n:=(DO m).1;rw[EU (g:=λj:Nat=>if(j:Int)=(t - r.sum) % b then(if Bd c r=true then(1:Int)else 0)else 0) λj f=>by
    have f:=bH.mp f;rw[Mc _ _ n.symm,sum_append,show [(j:Int)].sum=j by simp];by_cases q:(j:Int)=(t - r.sum) % b
    ·rw[aC q,aK ((SM l i ⋯ ⋯).mpr q)];simp[D3]
    ·rw[aB q,cJ (λz=>q ((SM l i ⋯ ⋯).mp z)),Bool.and_false];rfl]
   rw[Mb,aC ⟨Int.emod_nonneg _ ⋯,Int.emod_lt_of_pos _ ⋯⟩]
  rw[EU e,cv];have d:dN (c++[none]) - 1=dN c:=by unfold dN;rw[filter_append,aG];rfl
  rw[d];simp[CA]
 |some v =>
  have d:dN (c++[some v])=dN c:=by unfold dN;rw[filter_append,aG];rfl
  rw[d]at p ⊢;have e:∀r∈A1 c.length b,((List.range b).map λj:Nat=>if(Bd (c++[some v]) (r++[(j:Int)])&&decide ((r++[(j:Int)]).sum % (b:Int)=t))=true then(1:Int)else 0).sum=(if 0<=v/\v<(b:Int)then 1 else 0) * if(Bd c r&&decide (r.sum % (b:Int)=(t - v) % b))=true then(1:Int)else 0:=λr m=>by
   have n:=(DO m).1;rw[EU (g:=λj:Nat=>if(j:Int)=v then(if(Bd c r&&decide (r.sum % (b:Int)=(t - v) % b))=true then(1:Int)else 0)else 0) λj f=>by
    have f:=bH.mp f;rw[Mc _ _ n.symm,sum_append,show [(j:Int)].sum=j by simp];by_cases q:(j:Int)=v
    ·rw[aC q];have:decide ((r.sum+(j:Int)) % (b:Int)=t)=decide (r.sum % (b:Int)=(t - v) % b):=by
      rw[decide_eq_decide,Hm l i,Hm (Int.emod_nonneg _ ⋯) (Int.emod_lt_of_pos _ ⋯),q];have:=Int.emod_add_mul_ediv (t - v) b;rw[show r.sum - (t - v) % (b:Int)=r.sum+v - t+b * ((t - v) / b) by lia];exact⟨λh=>Int.dvd_add h (Int.dvd_mul_right _ _),λh=>(Int.dvd_add_left (Int.dvd_mul_right _ _)).mp h⟩
     rw[this];simp[D3,q]
    ·rw[aB q];simp[D3,q]]
   rw[Mb];by_cases a:0<=v/\v<(b:Int)
   ·rw[aC a,aC a,Int.one_mul]
   ·rw[aB a,aB a,Int.zero_mul]
  rw[EU e,Md,s p (Int.emod_nonneg _ ⋯) (Int.emod_lt_of_pos _ ⋯)];by_cases a:0<=v/\v<(b:Int)
  ·rw[aC a,Int.one_mul];simp[CA,a]
  ·rw[aB a,Int.zero_mul];simp[CA,a]
def Aj(k b:Nat)(t:Int):Tl:=((A1 k b).filter λr=>decide (r.sum % (b:Int)=t)).map λr=>(r,1)
theorem cw(k b:Nat)(t:Int):(Aj k b t).map (·.1)=(A1 k b).filter λr=>decide (r.sum % (b:Int)=t):=by
 unfold Aj;rw[bZ];exact map_id _
theorem Ey{k b:Nat}{t:Int}(h:q∈Aj k b t):q.1∈A1 k b/\q.1.sum % (b:Int)=t/\q.2=1:=by
 obtain⟨r,a,rfl⟩:=bU.mp h;obtain⟨h1,h2⟩:=cW.mp a;exact⟨h1,aL h2,rfl⟩
theorem SR(k b:Nat)(t:Int):Fc ((Aj k b t).map (·.1)):=by rw[cw];exact(cu b k).sublist filter_sublist
theorem SS(a:By->Int)(b k:Nat)(t:Int):B8 a (Aj k b t)=((A1 k b).map λr=>if decide (r.sum % (b:Int)=t)=true then a r else 0).sum:=by
 unfold B8 Aj;rw[bZ];generalize A1 k b=l
 induction l with
 |nil=>rfl
 |cons r l c =>
  rw[map_cons,sum_cons,<-c];cases h:decide (r.sum % (b:Int)=t)
  ·rw[filter_cons_of_neg (~~~h)];simp
  ·rw[filter_cons_of_pos (~~~h),map_cons,sum_cons];simp
def DP(p D:At)(s:By):Dq:=p.map λn=>if n∈D then some (s.getD (dD D n) 0)else none
theorem Mf(nd:ss.Nodup){n:Str}(h:ss[i]?\n):dD ss n=i:=by
 have m:=aM h;obtain⟨a,_⟩:=C7 m;exact(getElem?_inj (EQ m) nd).mp (a.trans h.symm)
theorem SU:∀{c:Dq} {r:By},c.length=r.length->(Bd c r=true↔∀(i:Nat) (v:Int),c[i]?\(some v)->r[i]?\v):=by
 intro c
 induction c with
 |nil=>intro r h;rw[cM h.symm];simp[Bd]
 |cons o c a =>
  intro r h;cases r with
  |nil=>cases h
  |cons x r =>
   rw[Bd,cB,a (~~~h)];constructor
   ·rintro⟨h1,h2⟩ i v e;cases i with
    |zero=>simp at e;subst e;simp[D3]at h1;simp[h1]
    |succ i=>exact h2 i v (~~~e)
   ·intro g;refine⟨?_,λi v e=>by have:=g (i+1) v (~~~e);simpa using this⟩;cases o with
    |none=>rfl
    |some v=>have:=g 0 v rfl;simp at this;simp[D3,this]
theorem cy{p D:At}{s:By}(c:s.length=D.length)(nd:D.Nodup):AU p r D=s↔∀n∈D,r.getD (dD p n) 0=s.getD (dD D n) 0:=by
 constructor
 ·intro h n d;subst h;obtain⟨a,_⟩:=C7 d;unfold AU;rw[bW,bW,bO,a];rfl
 ·intro h;apply ext_getElem?;intro i;unfold AU;rw[bO];cases e:D[i]? with
  |none=>rw[bQ (by rw[c];exact getElem?_eq_none_iff.mp e)];rfl
  |some n =>
   have:=h n (aM e);rw[Mf nd e]at this;rw[Option.map_some,this,bW];have hi:=(aI.mp e).1;rw[aH ⋯];rfl
theorem cz{p D:At}{s:By}(g:p.Nodup)(nd:D.Nodup)(m:∀n∈D,n∈p)(l:r.length=p.length)(j:s.length=D.length):Bd (DP p D s) r=decide (AU p r D=s):=by
 rw[Bool.eq_iff_iff,aW,SU (by unfold DP;rw[aA,l]),cy j nd];have f:∀{i n},p[i]?\n->r[i]?\(r.getD i 0):=λ{i n} e=>by
  have hi:=(aI.mp e).1;rw[bW,aH ⋯];rfl
 constructor
 ·intro h n c;obtain⟨a,_⟩:=C7 (m n c);have:=h (dD p n) (s.getD (dD D n) 0) (by unfold DP;rw[bO,a,Option.map_some,aC c]);rw[bW,this];rfl
 ·intro h i v e;unfold DP at e;rw[bO]at e;cases d:p[i]? with
  |none=>rw[d]at e;cases e
  |some n =>
   rw[d,Option.map_some,Option.some.injEq]at e;by_cases c:n∈D
   ·rw[aC c]at e;have:=h n c;rw[Mf g d]at this;rw[f d,this];exact e
   ·rw[aB c]at e;cases e
theorem bE{b:Nat}{p D:At}{s:By}(nd:D.Nodup)(e:∀n∈D,n∈p)(d:s.length=D.length):CA b (DP p D s)=s.all λx=>decide (0<=x/\x<(b:Int)):=by
 rw[Bool.eq_iff_iff];unfold CA DP;rw[all_map,all_eq_true,all_eq_true];constructor
 ·intro h x c;obtain⟨i,hi,rfl⟩:=getElem_of_mem c;have a:=getElem_mem (show i<D.length by lia);have:=h _ (e _ a);simp only[Function.comp_apply,aC a]at this;rw[Mf nd (aH ⋯),bW,aH hi]at this;exact this
 ·intro h n f;simp only[Function.comp_apply];by_cases a:n∈D
  ·rw[aC a];refine h _ ?_;rw[bW,aH (by rw[d];exact EQ a)];exact getElem_mem _
  ·rw[aB a]
theorem bF{α:Type}(f:α->Bool):∀l:List α,(l.filter f).length+(l.filter λx=>!f x).length=l.length:=by
 intro l
 induction l with
 |nil=>rfl
 |cons a l c=>cases h:f a<;>simp[h]<;>lia
theorem eB{p D:At}{s:By}(a:p.Nodup)(nd:D.Nodup)(c:∀n∈D,n∈p):dN (DP p D s)=p.length - D.length:=by
 have e:dN (DP p D s)=(p.filter λn=>!decide (n∈D)).length:=by
  unfold dN DP;rw[filter_map,aA]
  congr 2
  funext n
  by_cases h:n∈D<;>simp[h]
 have h1:=bF (λn=>decide (n∈D)) p;have h2:(p.filter λn=>decide (n∈D)).length=D.length:=by
  refine List.Perm.length_eq ((bD (a.sublist filter_sublist) nd).mpr λn=>?_);rw[cW,aW];exact⟨λh=>h.2,λh=>⟨c n h,h⟩⟩
 lia
theorem SV{k b:Nat}{t:Int}{p D:At}(v:0<b)(m:0<=t)(j:t<b)(h:p.Nodup)(f:p.length=k)(nd:D.Nodup)(g:∀n∈D,n∈p)(pr:D.length<k)(s:By) :
  cnt (A6 p (Aj k b t) D) s=if s.length=D.length then(if(s.all λx=>decide (0<=x/\x<(b:Int)))=true then((b ^ (k - D.length - 1):Nat):Int)else 0)else 0:=by
 rw[MB,SS];by_cases d:s.length=D.length
 ·rw[aC d];have q:=eB (s:=s) h nd g;have u:(DP p D s).length=k:=by unfold DP;rw[aA,f]
  have:=SQ (t:=t) v (DP p D s) ⋯ m j;rw[u,q,f,bE nd g d]at this;rw[<-this];refine EU λr i=>?_;rw[cz h nd g (by rw[(DO i).1,f]) d];cases h1:decide (r.sum % (b:Int)=t)<;>simp
 ·rw[aB d];have e:∀r∈A1 k b,(if decide (r.sum % (b:Int)=t)=true then(if AU p r D=s then(1:Int)else 0)else 0)=0:=λr i=>by
   rw[aB (c:=AU p r D=s) (λz=>d (by rw[<-z,Jd]))];simp
  rw[EU e];generalize A1 k b=l
  induction l with
  |nil=>rfl
  |cons a l o=>rw[map_cons,sum_cons,o];rfl
theorem Jn{k b:Nat}{t:Int}(j:0<b)(f:0<=t)(d:t<b)(p:1<=k):(Aj k b t).length=b ^ (k - 1):=by
 have h1:B8 (λ_=>1) (Aj k b t)=((Aj k b t).length:Int):=by
  rw[<-MC];unfold C8 Aj;rw[bZ,aA];generalize (A1 k b).filter _=l
  induction l with
  |nil=>rfl
  |cons a l h=>rw[map_cons,sum_cons,h];simp;lia
 have h2:=SQ (t:=t) j (replicate k none) (by simp[dN];lia) f d;rw[length_replicate]at h2;have o:∀r∈A1 k b,Bd (replicate k none) r=true:=λr c=>by
  rw[SU (by rw[length_replicate,(DO c).1])];intro i v e;rw[getElem?_replicate]at e;split at e<;>cases e
 rw[EU (g:=λr=>if decide (r.sum % (b:Int)=t)=true then 1 else 0) λr c=>by rw[o r c,Bool.true_and],<-SS,h1]at h2;have n:CA b (replicate k none)=true:=by simp[CA]
 have m:dN (replicate k none)=k:=by simp[dN]
 rw[n,aC rfl,m]at h2;exact Int.ofNat.inj h2
def BZ(qI qC:At)(r:By):By:=qI.map λn=>if n∈qC then r.getD (dD qC n) 0 else 0
def Ck(qI qC:At)(t:Tl):Tl:=t.map λq=>(BZ qI qC q.1,q.2)
theorem eC(f:By->By)(t:Tl)(s:By):cnt (t.map λq=>(f q.1,q.2)) s=B8 (λr=>if f r=s then 1 else 0) t:=by
 unfold cnt B8;rw[bZ];refine aT List.sum (cF λq _=>?_);show(if f q.1=s then q.2 else 0)=(if f q.1=s then 1 else 0) * q.2;split<;>simp
theorem SW{C:At}(d:∀n∈C,n∈qI):AU qI (BZ qI qC r) C=C.map λn=>if n∈qC then r.getD (dD qC n) 0 else 0:=by
 unfold AU BZ;refine cF λn c=>?_;obtain⟨a,_⟩:=C7 (d n c);rw[bW,bO,a];rfl
theorem eE{C E:At}(h1:∀n∈C,n∈qC↔n∈E):(C.map λn=>if n∈qC then r.getD (dD qC n) 0 else 0)=BZ C E (AU qC r E):=by
 unfold BZ;refine cF λn c=>?_;by_cases h:n∈E
 ·rw[aC h,aC ((h1 n c).mpr h)];obtain⟨a,_⟩:=C7 h;unfold AU;rw[bW (l:=E.map _),bO,a];rfl
 ·rw[aB h,aB (λz=>h ((h1 n c).mp z))]
theorem eF(c:∀n∈qC,n∈qI)(nd:qC.Nodup)(a:r.length=qC.length):AU qI (BZ qI qC r) qC=r:=by
 rw[SW c];have e:=GH nd a;unfold AU at e
 conv=>rhs;rw[<-e]
 exact cF λn d=>aC d
theorem eG:∀{qI:At} {f:Str->Bool} {r s:By},qI.Nodup->r.length=(qI.filter f).length->s.length=(qI.filter f).length->HT.lexLt r s=true->HT.lexLt (BZ qI (qI.filter f) r) (BZ qI (qI.filter f) s)=true:=by
 intro qI
 induction qI with
 |nil=>intro f r s _ h1 h2 h;rw[cM h1,cM h2]at h;cases h
 |cons n qI g =>
  intro f r s nd h1 h2 h;have d:=(bC.mp nd).1;have c:=(bC.mp nd).2;cases j:f n with
  |false =>
   have e:(n::qI).filter f=qI.filter f:=filter_cons_of_neg (by simp[j]);rw[e]at h1 h2 ⊢;have i:n∉qI.filter f:=λz=>d (cW.mp z).1;have:=g c h1 h2 h;unfold BZ at this ⊢;rw[map_cons,map_cons,aB i,aB i,HT.dA,aC rfl];exact this
  |true =>
   have e:(n::qI).filter f=n::qI.filter f:=filter_cons_of_pos (by simp[j]);rw[e]at h1 h2 ⊢;rw[length_cons]at h1 h2;cases r with
   |nil=>cases h1
   |cons x r =>
    cases s with
    |nil=>cases h2
    |cons y s =>
     have l:dD (n::qI.filter f) n=0:=by simp[dD,findIdx_cons]
     have tl:∀(x:Int) (r:By),BZ (n::qI) (n::qI.filter f) (x::r)=x::BZ qI (qI.filter f) r:=λx r=>by
      unfold BZ;rw[map_cons,aC cA,l];refine aT (x::·) (cF λm o=>?_);have a:m≠n:=λz=>d (z▸o);by_cases q:m∈qI.filter f
      ·rw[aC (bT _ q),aC q];have:dD (n::qI.filter f) m=dD (qI.filter f) m+1:=by
        unfold dD;rw[findIdx_cons];simp[show¬n=m fromλz=>a z.symm]
       rw[this];rfl
      ·rw[aB (λz=>(aF.mp z).elim a q),aB q]
     rw[tl,tl];rw[HT.dA]at h ⊢;by_cases q:x=y
     ·rw[aC q]at h ⊢;exact g c (Nat.succ.inj h1) (Nat.succ.inj h2) h
     ·rw[aB q]at h ⊢;exact h
def Ar(i:Nat):Int:=if i=0 then 1 else 0
def Hn(ps:List At)(qC:At):Ge:=(List.range ps.length).filter λi=>qC.all λn=>decide (n∈ps.getD i [])
def DQ(ps:List At)(names:At)(k b:Nat)(qI:At):Tl:=match Hn ps (AN qI names)with
 |i::_=>Ck qI (AN qI names) (BX (ps.getD i []) (Aj k b (Ar i)) (AN qI names))
 |[]=>[]
structure Kno(rs:List At)(names:At)(ps:List At)(k b:Nat):Prop where
 b2:2<=b
 b9:b<=10
 k1:1<=k
 few:b ^ (k - 1)<=625
 ne:ps≠[]
 nd:∀p∈ps,p.Nodup
 srt:∀p∈ps,Bg p
 len:∀p∈ps,p.length=k
 sub:∀p∈ps,∀n∈p,n∈names
 dif:∀(i j:Nat) (p q:At),ps[i]?\p->ps[j]?\q->(∀n∈p,n∈q)->i=j
 fit:∀r∈rs,∃p∈ps,∀n∈r,n∈names->n∈p
 has:∀p∈ps,∃r∈rs,∀n∈p,n∈r
 sum:∃m:Int,(b:Int) ∣ m/\∀g:Str->Int,(ps.map λp=>(p.map g).sum).sum=m * (names.map g).sum
structure RmsOk(rs:List At):Prop where
 nd:∀r∈rs,r.Nodup
 srt:∀r∈rs,Bg r
 len:∀r∈rs,r.length<=20
theorem DR{b:Nat}(h:2<=b)(i:Nat):0<=Ar i/\Ar i<(b:Int):=by unfold Ar;split<;>lia
theorem eH(t:Tl):B6 ((BA t).map (·.1)):=by
 unfold BA;rw[bZ];have:((λx:By×Int=>x.1) ∘ λr=>(r,(AY t r).getD 0))=id:=rfl;rw[this,map_id];exact(Hc _).sublist filter_sublist
theorem eI{l:List By}(s:B6 l)(nd:l.Nodup):Fc l:=(s.and nd).imp λzz=>(by obtain⟨h,n⟩:=zz;exact SD h n)
section
variable{names:At}{ps:List At}{k b:Nat}
structure BrnAt(ps:List At)(names:At)(k b:Nat)(qI:At)(i:Nat)(p:At):Prop where
 at_:ps[i]?\p
 fit:∃r,Hn ps (AN qI names)=i::r
 sub:∀n∈AN qI names,n∈p
 eq:DQ ps names k b qI=Ck qI (AN qI names) (BX p (Aj k b (Ar i)) (AN qI names))
theorem Kno.at(K:Kno rs names ps k b)(d:qI∈rs):∃i p,BrnAt ps names k b qI i p:=by
 obtain⟨p,f,g⟩:=K.fit qI d;obtain⟨j,hj,e⟩:=getElem_of_mem f;have c:∀{i},(h:i<ps.length)->ps.getD i []=ps[i]:=λh=>by rw[bW,aH h];rfl
 have hm:j∈Hn ps (AN qI names):=by
  refine cW.mpr ⟨bH.mpr hj,all_eq_true.mpr λn hn=>aK ?_⟩;rw[c hj,e];exact g n ((CG _ _).1 n hn) ((CG _ _).2 n hn)
 cases a:Hn ps (AN qI names)with
 |nil=>rw[a]at hm;cases hm
 |cons i r =>
  have hi:i∈Hn ps (AN qI names):=by rw[a];exact cA
  obtain⟨h1,h2⟩:=cW.mp hi;have h1:=bH.mp h1;refine⟨i,ps[i],aH h1,⟨r,a⟩,λn hn=>?_,?_⟩
  ·have:=aL (all_eq_true.mp h2 n hn);rw[c h1]at this;exact this
  ·unfold DQ;rw[a];show Ck _ _ (BX (ps.getD i []) _ _)=_;rw[c h1]
theorem Mg{t:Int}:∀q∈Aj k b t,0<=q.2:=λq a=>by rw[(Ey a).2.2];decide
theorem Kno.few1(K:Kno rs names ps k b)(i:Nat):(Aj k b (Ar i)).length<=625:=by
 rw[Jn (by have:=K.b2;lia) (DR K.b2 i).1 (DR K.b2 i).2 K.k1];exact K.few
structure GoodT(n:Nat)(t:Tl):Prop where
 few:t.length<=625
 rows:∀q∈t,q.1.length=n
 pos:∀q∈t,0<q.2
 rng:∀q∈t,∀x∈q.1,0<=x/\x<=9
 ris:Fc (t.map (·.1))
 ne:t≠[]
theorem GoodT.tal{t:Tl}(h:GoodT n t):Tal n t:=⟨aR h.few '3',h.rows,h.pos,Ma h.ris⟩
theorem Kno.good(K:Kno rs names ps k b)(R:RmsOk rs)(f:qI∈rs):GoodT qI.length (DQ ps names k b qI):=by
 obtain⟨i,p,A⟩:=K.at f;rw[A.eq];have few:=K.few1 i;have nd:=R.nd qI f;have t':=L5 (qI:=p) (qC:=AN qI names) (Mg (k:=k) (b:=b) (t:=Ar i)) ⋯;have y:=L6 p (Aj k b (Ar i)) (AN qI names);have sub:∀n∈AN qI names,n∈qI:=(CG _ _).1;refine⟨by unfold Ck;rw[aA];lia,λq c=>?_,λq c=>?_,λq c x d=>?_,?_,?_⟩
 ·obtain⟨q,c,rfl⟩:=bU.mp c;unfold BZ;rw[aA]
 ·obtain⟨q,hm,rfl⟩:=bU.mp c;exact t'.pos q hm
 ·obtain⟨q,hm,rfl⟩:=bU.mp c;obtain⟨n,hn,rfl⟩:=bU.mp d;obtain⟨u,o,e⟩:=dy hm;have b9:=K.b9;have rg:∀x∈q.1,0<=x/\x<=9:=by
   rw[e];exact SB λx d=>by have:=(DO (Ey o).1).2 x d;lia
  split
  ·rw[bW];cases w:q.1[dD (AN qI names) n]? with
   |none=>simp
   |some v=>exact rg v (aM w)
  ·decide
 ·unfold Ck;rw[bZ,show((λx:By×Int=>x.1) ∘ λq:By×Int=>(BZ qI (AN qI names) q.1,q.2))=(BZ qI (AN qI names)) ∘ λq=>q.1 from rfl,<-bZ];refine pairwise_map.mpr ((eI (eH _) t'.nd).imp_of_mem λ{r s} h1 h2 h=>?_);obtain⟨q1,j,rfl⟩:=bU.mp h1;obtain⟨q2,g,rfl⟩:=bU.mp h2;exact eG nd (t'.rows q1 j) (t'.rows q2 g) h
 ·unfold Ck;intro z;have z:=map_eq_nil_iff.mp z;have h1:C8 (BX p (Aj k b (Ar i)) (AN qI names))=C8 (Aj k b (Ar i)):=by rw[ER,Y3,Y4]
  rw[z]at h1;have h2:C8 (Aj k b (Ar i))=((Aj k b (Ar i)).length:Int):=by
   have:∀q∈Aj k b (Ar i),q.2=1:=λq c=>(Ey c).2.2;generalize Aj k b (Ar i)=l at this;unfold C8
   induction l with
   |nil=>rfl
   |cons a l m=>rw[map_cons,sum_cons,m λq c=>this q (bT _ c),this a cA];simp;lia
  rw[h2,Jn (by have:=K.b2;lia) (DR K.b2 i).1 (DR K.b2 i).2 K.k1]at h1;have:0<b ^ (k - 1):=Nat.pow_pos (by have:=K.b2;lia);have B:C8 []=0:=rfl;lia
theorem SX{p C:At}(A:BrnAt ps names k b qI i p)(c:∀n∈C,n∈qI)(x:By) :
  cnt (A6 qI (DQ ps names k b qI) C) x=B8 (λr=>if BZ C (AN C names) r=x then 1 else 0) (A6 p (Aj k b (Ar i)) (AN C names)):=by
 rw[A.eq];have d:∀n∈AN C names,n∈AN qI names:=λn a=>cW.mpr ⟨c n ((CG _ _).1 n a),aK ((CG _ _).2 n a)⟩;have e:A6 qI (Ck qI (AN qI names) (BX p (Aj k b (Ar i)) (AN qI names))) C=(A6 (AN qI names) (BX p (Aj k b (Ar i)) (AN qI names)) (AN C names)).map λq=>(BZ C (AN C names) q.1,q.2):=by
  unfold A6 Ck;rw[bZ,bZ];refine cF λq _=>?_;show(AU qI (BZ qI (AN qI names) q.1) C,q.2)=(BZ C (AN C names) (AU (AN qI names) q.1 (AN C names)),q.2);rw[SW c,eE (E:=AN C names) λn a=>⟨λz=>cW.mpr ⟨a,aK ((CG _ _).2 n z)⟩,d n⟩]
 rw[e,eC];refine MA _ λs=>?_;rw[<-L7,<-ER,Y5 _ d,ER,L7]
theorem Kno.agree(K:Kno rs names ps k b)(R:RmsOk rs){qE:At}(h1:qI∈rs)(h2:qE∈rs):BX qI (DQ ps names k b qI) (AN qI qE)=BX qE (DQ ps names k b qE) (AN qI qE):=by
 obtain⟨i,p,A⟩:=K.at h1;obtain⟨j,q,B⟩:=K.at h2;have e:=K.b2;rw[ER,ER];refine RL λx=>?_;rw[SX A (CG _ _).1,SX B (CG _ _).2];refine MA _ λs=>?_;have f:=aM A.at_;have h:=aM B.at_;have d:∀n∈AN (AN qI qE) names,n∈p:=λn hn=>A.sub n (cW.mpr ⟨(CG _ _).1 n ((CG _ _).1 n hn),aK ((CG _ _).2 n hn)⟩);have c:∀n∈AN (AN qI qE) names,n∈q:=λn hn=>B.sub n (cW.mpr ⟨(CG _ _).2 n ((CG _ _).1 n hn),aK ((CG _ _).2 n hn)⟩);have a:(AN (AN qI qE) names).Nodup:=((R.nd qI h1).sublist filter_sublist).sublist filter_sublist;have less:∀{p:At},(∀n∈AN (AN qI qE) names,n∈p)->p.length=k->(¬∀n∈p,n∈AN (AN qI qE) names)->(AN (AN qI qE) names).length<k:=λ{p} o r hn=>by
  have:∃n∈p,n∉AN (AN qI qE) names:=by
   by_cases z:∃n∈p,n∉AN (AN qI qE) names
   ·exact z
   ·exact bS (λn hm=>Classical.byContradiction λy=>z ⟨n,hm,y⟩) hn
  obtain⟨n,h1,h2⟩:=this;have:=(bC.mpr ⟨h2,a⟩).length_le_of_subset (l₂:=p) λm hm=>(aF.mp hm).elim (λz=>z▸h1) (o m);rw[length_cons]at this;lia
 by_cases g:i=j
 ·subst g;have:=A.at_.symm.trans B.at_;cases this;rfl
 ·have n1:¬∀n∈p,n∈AN (AN qI qE) names:=λz=>g (K.dif i j p q A.at_ B.at_ λn hn=>c n (z n hn));have l:=less d (K.len p f) n1;rw[SV ⋯ (DR e i).1 (DR e i).2 (K.nd p f) (K.len p f) a d l,SV ⋯ (DR e j).1 (DR e j).2 (K.nd q h) (K.len q h) a c l]
theorem eJ{b:Nat}(f:At->Int):∀{l:List At},(∀p∈l,f p % (b:Int)=0)->(b:Int) ∣ (l.map f).sum:=by
 intro l
 induction l with
 |nil=>intro _;exact⟨0,'2'⟩
 |cons p l a =>
  intro h;rw[map_cons,sum_cons];exact Int.dvd_add (Int.dvd_of_emod_eq_zero (h p cA)) (a λq c=>h q (bT _ c))
theorem Kno.none(K:Kno rs names ps k b)(R:RmsOk rs){Q:At}{g:By}(M:∀r∈rs,∀n∈r,n∈Q)(h:∀r∈rs,AU Q g r∈(DQ ps names k b r).map (·.1)):False:=by
 have L:=K.b2;have one:∀(i:Nat) (p:At),ps[i]?\p->(p.map λn=>g.getD (dD Q n) 0).sum % (b:Int)=Ar i:=λi p o=>by
  have pm:=aM o;obtain⟨qI,f,a⟩:=K.has p pm;obtain⟨j,q,A⟩:=K.at f;have d:∀n∈p,n∈AN qI names:=λn hn=>cW.mpr ⟨a n hn,aK (K.sub p pm n hn)⟩;obtain rfl:=K.dif i j p q o A.at_ λn hn=>A.sub n (d n hn);have:=o.symm.trans A.at_;cases this;have I:AN qI names=p:=Hd ((bD ((R.nd qI f).sublist filter_sublist) (K.nd p pm)).mpr λn=>⟨A.sub n,d n⟩) ((R.srt qI f).sublist filter_sublist) (K.srt p pm);have E:BX p (Aj k b (Ar i)) p=Aj k b (Ar i):=by
   rw[Y6 (K.nd p pm) λq c=>by rw[(DO (Ey c).1).1,K.len p pm]];exact dz (Ma (SR k b _)) (λq c=>by rw[(Ey c).2.2];decide) (SJ (SR k b _))
  have hm:=h qI f;rw[A.eq,I,E]at hm;obtain⟨u,C,H⟩:=bU.mp hm;obtain⟨v,s,rfl⟩:=bU.mp C;have B:v.1.length=p.length:=by rw[(DO (Ey s).1).1,K.len p pm]
  have ρ:AU Q g p=v.1:=by
   have:=aT (λr=>AU qI r p) H;simp only at this;rw[eF a (K.nd p pm) B,Hf a]at this;exact this.symm
  have z:=(Ey s).2.1;rw[<-ρ]at z;exact z
 obtain⟨m,hm,a⟩:=K.sum;have a:=a λn=>g.getD (dD Q n) 0;have ne:=K.ne;cases ps with
 |nil=>exact ne rfl
 |cons p l =>
  have us:_=(1:Int):=one 0 p rfl;have D:(b:Int) ∣ (l.map λp=>(p.map λn=>g.getD (dD Q n) 0).sum).sum:=eJ _ λq c=>by
   obtain⟨i,hi,rfl⟩:=getElem_of_mem c;exact one (i+1) _ (by rw[getElem?_cons_succ,aH hi])
  have h1:=(Hm '3' (by show(1:Int)<b;lia)).mp us;rw[map_cons,sum_cons]at a;have h2:(b:Int) ∣ m * (names.map λn=>g.getD (dD Q n) 0).sum:=Int.dvd_mul_of_dvd_left hm;rw[<-a]at h2;have w:=Int.dvd_sub h2 (Int.dvd_add h1 D);have e:∀x y:Int,x+y - (x - 1+y)=1:=λx y=>⋯;rw[e]at w;have:=Int.le_of_dvd '3' w;lia
end
def Bi(a b:Str):At:=if b.cps.toList<a.cps.toList then [b,a]else [a,b]
theorem EV{a b n:Str}:n∈Bi a b↔n=a\/n=b:=by unfold Bi;split<;>simp[or_comm]
theorem Mh(a b:Str):(Bi a b).Perm [a,b]:=by unfold Bi;split;exact List.Perm.swap a b [];exact List.Perm.refl _
theorem SY(a b:Str):Bg (Bi a b):=by
 unfold Bi;split
 ·rename_i h;exact pairwise_pair.mpr λz=>List.lt_irrefl _ (List.lt_trans h z)
 ·rename_i h;exact pairwise_pair.mpr h
theorem eK{a b:Str}(h:a≠b):(Bi a b).Nodup:=(Mh a b).nodup_iff.mpr (~~~h)
theorem eL(g:Str->Int)(a b:Str):((Bi a b).map g).sum=g a+g b:=by unfold Bi;split<;>simp<;>lia
def DS(l:At):List At:=(List.range l.length).map λi=>Bi (gt l (Af l.length i)) (gt l i)
theorem Mi{l:At}{p:At}(h:(DS l)[i]?\p):i<l.length/\p=Bi (gt l (Af l.length i)) (gt l i):=by
 unfold DS at h;rw[bO]at h;rcases cE i l.length with q|q
 ·rw[getElem?_range q]at h;exact⟨q,(oI h).symm⟩
 ·rw[bQ (by rw[bG];exact q)]at h;cases h
theorem Ba{l:At}(h:i<l.length):gt l i=l[i]:=by unfold gt;rw[bW,aH h];rfl
theorem D4{l:At}(nd:l.Nodup)(hi:i<l.length)(a:j<l.length)(h:gt l i=gt l j):i=j:=by
 rw[Ba hi,Ba a]at h;exact(getElem_inj nd).mp h
theorem eM(f:Nat->Int):∀n,((List.range n).map λi=>f (Af n i)).sum=((List.range n).map f).sum:=by
 intro n;cases n with
 |zero=>rfl
 |succ m =>
  have e:((List.range (m+1)).map λi=>f (Af (m+1) i))=f m::(List.range m).map f:=by
   rw[range_succ_eq_map,map_cons,bZ];rfl
  rw[e,range_succ,cN,sum_append,sum_cons];simp;lia
theorem SZ{α:Type}(f g:α->Int)(l:List α):(l.map λa=>f a+g a).sum=(l.map f).sum+(l.map g).sum:=L8 f g l
theorem Sa(l:At):(List.range l.length).map (gt l)=l:=by
 apply ext_getElem?;intro i;rw[bO];rcases cE i l.length with q|q
 ·rw[getElem?_range q,aH q,Option.map_some,Ba q]
 ·rw[bQ q,bQ (by rw[bG];exact q)];rfl
theorem Kno.ring{l:At}(h:Ring (Dn rs) l):Kno rs l (DS l) 2 2:=by
 have us:=h.len;have nd:=h.nd;have mem:∀{p},p∈DS l->∃i,i<l.length/\p=Bi (gt l (Af l.length i)) (gt l i):=λ{p} c=>by
  obtain⟨i,hi⟩:=mem_iff_getElem?.mp c;exact⟨i,Mi hi⟩
 have put:∀{i},i<l.length->Bi (gt l (Af l.length i)) (gt l i)∈DS l:=λ{i} hi=>bU.mpr ⟨i,bH.mpr hi,rfl⟩;have pl:∀{i},i<l.length->Af l.length i<l.length:=λ{i} hi=>by unfold Af;split<;>lia
 have x:∀{i},i<l.length->gt l i∈l:=λ{i} hi=>by rw[Ba hi];exact getElem_mem hi
 have near:∀{i j},i<j->j<l.length->∀{r},r∈rs->gt l i∈r->gt l j∈r->j=i+1\/(i=0/\j+1=l.length):=λ{i j} m hj {r} a h1 h2=>by
  refine(h.near i j m hj).mp ?_;rw[Ba ⋯]at h1;rw[Ba hj]at h2;exact GL.mpr ⟨λe=>by have:=(getElem_inj nd).mp e;lia,r,a,h1,h2⟩
 refine⟨'3','3','3','3',?_,λp c=>?_,λp c=>?_,λp c=>?_,λp c n hn=>?_,λi j p q c A w=>?_,λr a=>?_,λp c=>?_,2,⟨1,rfl⟩,λg=>?_⟩
 ·exact ne_nil_of_mem (put (i:=0) ⋯)
 ·obtain⟨i,hi,rfl⟩:=mem c;exact eK λz=>by have:=D4 nd (pl hi) hi z;unfold Af at this;split at this<;>lia
 ·obtain⟨i,hi,rfl⟩:=mem c;exact SY _ _
 ·obtain⟨i,hi,rfl⟩:=mem c;exact(Mh _ _).length_eq
 ·obtain⟨i,hi,rfl⟩:=mem c;rcases EV.mp hn with rfl|rfl
  ·exact x (pl hi)
  ·exact x hi
 ·obtain⟨hi,rfl⟩:=Mi c;obtain⟨hj,rfl⟩:=Mi A;have E:=EV.mp (w _ (EV.mpr (.inl rfl)));have D:=EV.mp (w _ (EV.mpr (.inr rfl)));have b1:=E.imp (D4 nd (pl hi) (pl hj)) (D4 nd (pl hi) hj);have b2:=D.imp (D4 nd hi (pl hj)) (D4 nd hi hj);unfold Af at b1 b2;split at b1<;>split at b1<;>simp_all<;>lia
 ·by_cases u:∃i j,i<j/\j<l.length/\gt l i∈r/\gt l j∈r
  ·obtain⟨i,j,m,hj,h1,h2⟩:=u;have o:=near m hj a h1 h2;have only:∀n∈r,n∈l->n=gt l i\/n=gt l j:=λn hn d=>by
    obtain⟨k,f,rfl⟩:=getElem_of_mem d;rw[<-Ba f]at hn ⊢;by_cases y:k=i
    ·exact .inl (by rw[y])
    by_cases B:k=j
    ·exact .inr (by rw[B])
    exfalso;have I:(k<i/\(i=k+1\/(k=0/\i+1=l.length)))\/(i<k/\(k=i+1\/(i=0/\k+1=l.length))):=by
     rcases cE k i with q|q
     ·exact .inl ⟨q,near q ⋯ a hn h1⟩
     ·exact .inr ⟨⋯,near ⋯ f a h1 hn⟩
    have H:(k<j/\(j=k+1\/(k=0/\j+1=l.length)))\/(j<k/\(k=j+1\/(j=0/\k+1=l.length))):=by
     rcases cE k j with q|q
     ·exact .inl ⟨q,near q hj a hn h2⟩
     ·exact .inr ⟨⋯,near ⋯ f a h2 hn⟩
    lia
   rcases o with e|⟨C,y⟩
   ·refine⟨_,put hj,λn hn d=>EV.mpr ?_⟩;have:Af l.length j=i:=by unfold Af;rw[aB ⋯];lia
    rw[this];exact only n hn d
   ·refine⟨_,put (i:=0) ⋯,λn hn d=>EV.mpr ?_⟩;have:Af l.length 0=j:=by unfold Af;rw[aC rfl];lia
    rw[this];have:=only n hn d;rw[C]at this;exact this.symm
  ·by_cases v:∃i,i<l.length/\gt l i∈r
   ·obtain⟨i,hi,h1⟩:=v;refine⟨_,put hi,λn hn d=>EV.mpr (.inr ?_)⟩;obtain⟨k,f,rfl⟩:=getElem_of_mem d;rw[<-Ba f]at hn ⊢;rcases Nat.lt_trichotomy k i with q|q|q
    ·exact bS ⟨k,i,q,hi,hn,h1⟩ u
    ·rw[q]
    ·exact bS ⟨i,k,q,f,h1,hn⟩ u
   ·refine⟨_,put (i:=0) ⋯,λn hn d=>?_⟩;obtain⟨k,f,rfl⟩:=getElem_of_mem d;exact bS ⟨k,f,by rw[Ba f];exact hn⟩ v
 ·obtain⟨i,hi,rfl⟩:=mem c;have two:∃r∈rs,gt l (Af l.length i)∈r/\gt l i∈r:=by
   by_cases s:i=0
   ·have e:Af l.length i=l.length - 1:=by unfold Af;rw[aC s]
    obtain⟨_,r,a,h1,h2⟩:=GL.mp ((h.near 0 (l.length - 1) ⋯ ⋯).mpr (.inr ⟨rfl,⋯⟩));rw[e,Ba ⋯,Ba hi];exact⟨r,a,h2,by subst s;exact h1⟩
   ·have e:Af l.length i=i - 1:=by unfold Af;rw[aB s]
    obtain⟨_,r,a,h1,h2⟩:=GL.mp ((h.near (i - 1) i ⋯ hi).mpr (.inl ⋯));rw[e,Ba ⋯,Ba hi];exact⟨r,a,h1,h2⟩
  obtain⟨r,a,h1,h2⟩:=two;exact⟨r,a,λn hn=>(EV.mp hn).elim (λz=>z▸h1) λz=>z▸h2⟩
 ·unfold DS;rw[bZ];have e:(λp=>(map g p).sum) ∘ (λi=>Bi (gt l (Af l.length i)) (gt l i))=λi=>g (gt l (Af l.length i))+g (gt l i):=by funext i;exact eL _ _ _
  rw[e,SZ,eM (λi=>g (gt l i))];have:((List.range l.length).map λi=>g (gt l i))=l.map g:=by
   conv=>rhs;rw[<-Sa l]
   rw[bZ];rfl
  rw[this];lia
theorem Ho{T:At}(nd:T.Nodup)(hi:i<T.length){n:Str}:n∈T.eraseIdx i↔n∈T/\n≠T[i]:=by
 rw[mem_eraseIdx_iff_getElem?];constructor
 ·rintro⟨j,a,e⟩;obtain⟨d,c⟩:=aI.mp e;exact⟨aM e,λz=>a ((getElem_inj nd).mp (c.trans z))⟩
 ·rintro⟨h1,h2⟩;obtain⟨j,a,rfl⟩:=getElem_of_mem h1;exact⟨j,λz=>h2 (by subst z;rfl),aH a⟩
theorem eN(g:Str->Int):∀{T:At} {i:Nat} (hi:i<T.length),((T.eraseIdx i).map g).sum=(T.map g).sum - g T[i]:=by
 intro T
 induction T with
 |nil=>intro i hi;cases hi
 |cons a T c =>
  intro i hi;cases i with
  |zero=>simp;lia
  |succ i=>rw[eraseIdx_cons_succ,map_cons,sum_cons,c (~~~hi),map_cons,sum_cons,getElem_cons_succ];lia
def dM(k:Nat):Nat:=if k=4 then 2 else k
def DT(T:At):List At:=(List.range T.length).map λi=>T.eraseIdx i
theorem Mj{l:At}{p:At}(h:(DT l)[i]?\p):i<l.length/\p=l.eraseIdx i:=by
 unfold DT at h;rw[bO]at h;rcases cE i l.length with q|q
 ·rw[getElem?_range q]at h;exact⟨q,(oI h).symm⟩
 ·rw[bQ (by rw[bG];exact q)]at h;cases h
theorem eO{α:Type}(x:Int):∀l:List α,(l.map λ_=>x).sum=l.length * x:=by
 intro l
 induction l with
 |nil=>simp
 |cons a l c=>rw[map_cons,sum_cons,c,length_cons];push_cast;rw[Int.add_mul];lia
theorem Kno.allbut{T:At}(h:AB (Ci rs) (Fb rs) T)(srt:Bg T)(l6:T.length<=6):Kno rs T (DT T) (T.length - 1) (dM (T.length - 1)):=by
 have v:=h.len;have nd:=h.nd;have mem:∀{p},p∈DT T->∃i,i<T.length/\p=T.eraseIdx i:=λ{p} f=>by
  obtain⟨i,hi⟩:=mem_iff_getElem?.mp f;exact⟨i,Mj hi⟩
 have put:∀{i},i<T.length->T.eraseIdx i∈DT T:=λ{i} hi=>bU.mpr ⟨i,bH.mpr hi,rfl⟩;have rm:∀{i},i∈Fb rs->Ci rs i∈rs:=λ{i} hi=>by
  have hi:=bH.mp hi;unfold Ci;rw[aH hi];exact getElem_mem hi
 have d:∀{M:Nat->Prop},M 2->M 3->M 4->M 5->M (T.length - 1):=λ{M} h2 C B A=>by
  have:T.length - 1=2\/T.length - 1=3\/T.length - 1=4\/T.length - 1=5:=⋯;rcases this with e|e|e|e<;>rw[e]<;>assumption
 refine⟨d (M:=λk=>2<=dM k) '3' '3' '3' '3',d (M:=λk=>dM k<=10) '3' '3' '3' '3',⋯,d (M:=λk=>dM k ^ (k - 1)<=625) '3' '3' '3' '3',?_,λp f=>?_,λp f=>?_,λp f=>?_,λp f n hn=>?_,λi j p q f u l=>?_,λr s=>?_,λp f=>?_,((T.length - 1:Nat):Int),?_,λg=>?_⟩
 ·exact ne_nil_of_mem (put (i:=0) ⋯)
 ·obtain⟨i,hi,rfl⟩:=mem f;exact nd.sublist (eraseIdx_sublist _ _)
 ·obtain⟨i,hi,rfl⟩:=mem f;exact srt.sublist (eraseIdx_sublist _ _)
 ·obtain⟨i,hi,rfl⟩:=mem f;rw[length_eraseIdx,aC hi]
 ·obtain⟨i,hi,rfl⟩:=mem f;exact((Ho nd hi).mp hn).1
 ·obtain⟨hi,rfl⟩:=Mj f;obtain⟨hj,rfl⟩:=Mj u;refine Classical.byContradiction λne=>?_;have:=(Ho nd hj).mp (l T[j] ((Ho nd hi).mpr ⟨getElem_mem hj,λe=>ne ((getElem_inj nd).mp e).symm⟩));exact this.2 rfl
 ·have:∃x∈T,x∉r:=by
   refine Classical.byContradiction λz=>h.no ?_;obtain⟨i,hi,rfl⟩:=getElem_of_mem s;refine⟨i,bH.mpr hi,λy m=>Classical.byContradiction λw=>z ⟨y,m,λq=>w ?_⟩⟩;unfold Ci;rw[aH hi];exact q
  obtain⟨x,o,hn⟩:=this;obtain⟨i,hi,rfl⟩:=getElem_of_mem o;exact⟨_,put hi,λn h1 h2=>(Ho nd hi).mpr ⟨h2,λe=>hn (e▸h1)⟩⟩
 ·obtain⟨i,hi,rfl⟩:=mem f;obtain⟨j,hj,l⟩:=h.but T[i] (getElem_mem hi);exact⟨_,rm hj,λn hn=>(by obtain⟨a,c⟩:=(Ho nd hi).mp hn;exact l n a c)⟩
 ·exact d (M:=λk=>((dM k:Nat):Int) ∣ (k:Int)) '3' '3' '3' '3'
 ·unfold DT;rw[bZ];have e:∀i∈List.range T.length,((λp=>(map g p).sum) ∘ λi=>T.eraseIdx i) i=(T.map g).sum+(-1) * g (gt T i):=λi hi=>by
   have hi:=bH.mp hi;show((T.eraseIdx i).map g).sum=_;rw[eN g hi,Ba hi];lia
  rw[cF e,SZ,eO,Md,bG];have:((List.range T.length).map λi=>g (gt T i))=T.map g:=by
   conv=>rhs;rw[<-Sa T]
   rw[bZ];rfl
  rw[this,Int.natCast_sub ⋯,Int.sub_mul];lia
abbrev CB(names qI:At):By×Int->By:=λq=>AU qI q.1 (AN names qI)
def CQ(names qI:At)(t:Tl)(g:By):Tl:=Bv (CB names qI) t (AU names g (AN names qI))
def DA(names qI uni:At)(t:Tl)(L:List By):List By:=L.flatMap λg=>(CQ names qI t g).map λq=>Dp names qI uni g q.1
structure Tg(rs:List At)(ts:List Tl)(i:Nat)(U:At)(L:List By):Prop where
 nd:U.Nodup
 srt:Bg U
 mem:∀n,n∈U↔∃r∈rs.take i,n∈r
 lu:U.length<=6
 len:∀g∈L,g.length=U.length
 rng:∀g∈L,∀x∈g,0<=x/\x<=9
 lnd:L.Nodup
 sh:∀g∈L,∀(j:Nat) (r:At) (t:Tl),j<i->rs[j]?\r->ts[j]?\t->AU U g r∈t.map (·.1)
theorem eP{b:Nat}:∀{k:Nat} {r:By},r.length=k->(∀x∈r,0<=x/\x<b)->r∈A1 k b:=by
 intro k
 induction k with
 |zero=>intro r h _;rw[cM h];exact bI.mpr rfl
 |succ k d =>
  intro r h a;rcases eq_nil_or_concat r with rfl|⟨s,x,rfl⟩
  ·cases h
  ·rw[concat_eq_append]at h a ⊢;have c:=a x (cC _ (bI.mpr rfl));refine SI.mpr ⟨s,d (~~~h) λy e=>a y (mem_append_left _ e),x.toNat,⋯,?_⟩;rw[Int.toNat_of_nonneg c.1]
theorem Tg.few(h:Tg rs ts i U L):L.length<=1000000:=by
 have h1:=h.lnd.length_le_of_subset (l₂:=A1 U.length 10) λg a=>eP (h.len g a) λx c=>by have:=h.rng g a x c;lia
 rw[MZ]at h1;have h2:10 ^ U.length<=10 ^ 6:=Nat.pow_le_pow_right '3' h.lu;lia
theorem Tg.nil:Tg rs ts 0 [] [[]] where
 nd:=nodup_nil
 srt:=List.Pairwise.nil
 mem:=λn=>'2'
 lu:=by decide
 len:=λg a=>by rw[bI.mp a];rfl
 rng:=λg a x c=>by rw[bI.mp a]at c;cases c
 lnd:='2'
 sh:=λg a j r t hj=>bS hj (Nat.not_lt_zero j)
theorem Hr{names:At}{t:Tl}{g:By}(h:q∈CQ names qI t g):q∈t/\AU names g (AN names qI)=AU qI q.1 (AN names qI):=by
 obtain⟨h1,h2⟩:=Jk.mp h;exact⟨h1,h2.symm⟩
theorem Tg.step{uni:At}{t:Tl}(h:Tg rs ts i U L)(h1:rs[i]?\qI)(h2:ts[i]?\t)(C:qI.Nodup)(B:Tal qI.length t)(rg:∀q∈t,∀x∈q.1,0<=x/\x<=9)(un:Uni U qI uni)(srt:Bg uni)(lu:uni.length<=6) :
  Tg rs ts (i+1) uni (DA U qI uni t L):=by
 have mem:∀{o},o∈DA U qI uni t L->∃g∈L,∃q∈CQ U qI t g,o=Dp U qI uni g q.1:=λ{o} a=>by
  obtain⟨g,hm,h2⟩:=mem_flatMap.mp a;obtain⟨q,c,rfl⟩:=bU.mp h2;exact⟨g,hm,q,c,rfl⟩
 have f:∀{g q},g∈L->AU uni (Dp U qI uni g q) U=g:=λ{g q} a=>du h.nd (h.len g a) un.l;have d:∀{g} {q:By×Int},g∈L->q∈CQ U qI t g->AU uni (Dp U qI uni g q.1) qI=q.1:=λ{g q} a c=>dv C (h.len g a) (B.rows q (Hr c).1) un.r (Hr c).2;refine⟨un.nd,srt,λn=>?_,lu,λo a=>?_,λo a=>?_,?_,λo a j r u hj m A=>?_⟩
 ·rw[un.mem,h.mem,bJ,h1];constructor
  ·rintro(⟨r,m,hn⟩|hn)
   ·exact⟨r,mem_append_left _ m,hn⟩
   ·exact⟨qI,cC _ (bI.mpr rfl),hn⟩
  ·rintro⟨r,m,hn⟩;rcases bA.mp m with z|z
   ·exact .inl ⟨r,z,hn⟩
   ·rw[bI.mp (show r∈[qI]from z)]at hn;exact .inr hn
 ·obtain⟨g,_,q,_,rfl⟩:=mem a;exact Jd _ _ _
 ·obtain⟨g,hm,q,c,rfl⟩:=mem a;exact SB λx w=>(bA.mp w).elim (h.rng g hm x) (rg q (Hr c).1 x)
 ·refine pairwise_flatMap.mpr ⟨λg a=>?_,h.lnd.imp_of_mem λ{I H} v s ne x w y D e=>?_⟩
  ·have sub:(CQ U qI t g).Sublist t:=SA _ _;have p:((CQ U qI t g).map (·.1)).Nodup:=B.nd.sublist (sub.map _);refine pairwise_map.mpr ((pairwise_map.mp p).imp_of_mem λ{q1 q2} v s ne e=>ne ?_);rw[<-d a v,<-d a s,e]
  ·obtain⟨q1,_,rfl⟩:=bU.mp w;obtain⟨q2,_,us⟩:=bU.mp D;rw[<-us]at e;exact ne (by rw[<-f (q:=q1.1) v,<-f (q:=q2.1) s,e])
 ·obtain⟨g,hm,q,c,rfl⟩:=mem a;rcases cE j i with z|z
  ·have E:∀n∈r,n∈U:=λn hn=>(h.mem n).mpr ⟨r,aM (by rw[getElem?_take,aC z];exact m),hn⟩;rw[<-Hf (qC:=U) E,f hm];exact h.sh g hm j r u z m A
  ·obtain rfl:j=i:=⋯;rw[m]at h1;rw[A]at h2;cases h1;cases h2;rw[d hm c];exact aP (Hr c).1
theorem eQ{names:At}{t:Tl}{g:By}(F:Tl->P)(f:F []=.lst []):(BE (BS (CB names qI) t) ((BS (CB names qI) t).map λr=>F (Bv (CB names qI) t r)) (AU names g (AN names qI))).getD (.lst [])=F (CQ names qI t g):=by
 unfold CQ;by_cases h:AU names g (AN names qI)∈BS (CB names qI) t
 ·rw[Jl (λr=>F (Bv (CB names qI) t r)) h];rfl
 ·have e:Bv (CB names qI) t (AU names g (AN names qI))=[]:=Classical.byContradiction λz=>h (dw.mpr z);rw[e,f];have:∀(ks:List By) (xs:dH) (k:By),k∉ks->BE ks xs k=none:=by
   intro ks
   induction ks with
   |nil=>intro xs k _;rfl
   |cons a ks d =>
    intro xs k c;cases xs with
    |nil=>rfl
    |cons x xs =>
     simp only[BE];rw[aB (λe=>c (by rw[e];exact cA)),d _ _ λz=>c (bT _ z)]
  rw[this _ _ _ h];rfl
end L2
namespace L2
open PySem PySem.Spec PyProof.Rows PySem.Calls
end L2
namespace HT
open PySem PySem.Spec PyProof.Rows
end HT
namespace L2
open PySem PySem.Spec PyProof.Rows
end L2
namespace L2
open PySem PySem.Spec PyProof.Rows PySem.Calls PySem.Builtin PySem.Builtin.Str
end L2
namespace L2
open PySem PySem.Spec PyProof.Rows
end L2
open PySem L2
local macro_rules
 |`(tactic| simp! only[$ls,*] $[$l:location]?)=>do
  let ids:=("BM EG Iu Ir HH PL PK PM PN Fx pK Fy Iy Ov Ox Oy Oz O0 O1 LH O8 O6 O5 O7 HC A0 PU LK p1 LS LU JJ Di CT L2.ST Pb P.isNon LP LQ Pf LW F6 Pp Pq La Py Pw Px HU JR Lc P0 frzS DJ Op Oq CL As Fl.join Fl.el Fl.top BC EJ FQ Dh LV JK Lo Ll QC QD QJ JU Pa QX Qq Lw Lx FP HE JG PQ Y1 isEmpty_cons isEmpty_nil Ji Jj MM Ru replicate map_cons map_nil length_cons length_nil cons_append nil_append getElem?_cons_zero getElem?_cons_succ set_cons_zero set_cons_succ getElem?_nil Option.getD_some Option.getD_none Nat.reduceAdd Nat.reduceSub Nat.sub_self Nat.zero_add dC if_false Bool.false_eq_true exists_eq_left exists_eq_left' ite_self exists_and_left exists_and_right exists_eq exists_eq' exists_const and_true true_and Option.some.injEq P.int.injEq P.str.injEq P.bl.injEq P.tup.injEq P.lst.injEq P.fT.injEq List.cons.injEq Prod.mk.injEq ne_eq reduceCtorEq not_false_eq_true decide_true decide_false Bool.true_or Bool.or_true Bool.false_or Bool.or_false Bool.and_true Bool.true_and Bool.and_false Bool.false_and Bool.not_true Bool.not_false Yu Yv Yw Yx Yy RI WC WD WE WF WG WH WI WJ WK WL Im Ip Iq WN QZ Qa C6 HZ WO WQ WR WS WT WU Pr Pt XO XQ XR XS XT XU Qc Qb Xw all_cons all_nil Cg Cs JW Xx X0 X1 X2 Bool.not_eq_true' decide_eq_false_iff_not decide_eq_true_eq".splitOn " ").toArray.map λs=>Lean.mkIdent s.toName
  `(tactic| simp only[$[$ids:term],*,$ls,*] $[$l]?)
local macro_rules
 |`(tactic| simp![$ls,*] $[$l:location]?)=>`(tactic| simp! only[X5,X6,X7,X8,aA,exists_prop,and_assoc,forall_const,forall_eq,forall_eq_apply_imp_iff,$ls,*] $[$l]?)
namespace K
open PySem L2
def top(i:Nat):Stmt:=PySem.Challenge.pw_roomtally_k20_tallies_of_a_handed_knot.main.body.getD i (.Pass ⟨0,0,0,0⟩)
abbrev Jo:Stmt:=top 4
theorem eR:FnScope ["part","room"] ["part","room"] (AR Jo):='0'
abbrev Jp:Stmt:=top 5
theorem eS:FnScope ["one","other"] ["one","other"] (AR Jp):='0'
abbrev Jq:Stmt:=top 6
theorem eT:FnScope ["room","part"] ["room","part"] (AR Jq):='0'
abbrev Jr:Stmt:=top 7
theorem eU:FnScope ["row","spots"] ["row","spots"] (AR Jr):='0'
abbrev Js:Stmt:=top 9
theorem Jt:FnScope ["papers","counts","row","count"] ["papers"] (AR Js):='0'
abbrev Ju:Stmt:=top 10
theorem Sb:FnScope ["room","rows","part","spots"] ["room","rows","part"] (AR Ju):='0'
abbrev Mk:Stmt:=top 12
theorem Ht:FnScope ["names","pieces","at","pair","turn"] ["names"] (AR Mk):='0'
abbrev Jv:Stmt:=top 13
theorem Jw:FnScope ["many","base","rows","step"] ["many","base"] (AR Jv):='0'
abbrev Ml:Stmt:=top 14
theorem Mm:FnScope ["number","base"] ["number"] (AR Ml):='0'
abbrev Jx:Stmt:=top 15
theorem Ez:FnScope ["names","many","base","rows","pieces","at","part","rest"] ["names"] (AR Jx):='0'
abbrev Jy:Stmt:=top 16
theorem Hu:FnScope ["room","part","rows","found","row","count","answers"] ["room","part","rows"] (AR Jy):='0'
abbrev Jz:Stmt:=top 17
theorem Hv:FnScope ["room","names","pieces","part","fits","piece","rows"] ["room","names","pieces"] (AR Jz):='0'
abbrev J0:Stmt:=top 18
theorem J1:FnScope ["rooms","told","word","names","pieces"] ["rooms","told"] (AR J0):='0'
abbrev Mn:Stmt:=top 20
theorem J3:FnScope ["_law_script","_law_salt","_law_one"] ["_law_script"] (AR Mn):='0'
abbrev Mo:Stmt:=top 21
theorem GM:FnScope ["_law_bag_here","_law_many","_law_seed","_law_mixed","_law_drawn"] ["_law_bag_here","_law_many"] (AR Mo):='0'
abbrev J4:Stmt:=top 22
theorem Sc:FnScope ["_law_bag_here","_law_size","_law_letters"] ["_law_bag_here","_law_size"] (AR J4):='0'
abbrev Mp:Stmt:=top 23
theorem E1:FnScope ["_law_bag_here","_law_many","_law_letters","_law_found","_law_start","_law_k","_law_word_here","_law_step"] ["_law_bag_here","_law_many"] (AR Mp):='0'
abbrev Mq:Stmt:=top 25
theorem eV:FnScope ["_law_rooms","_law_row","_law_left","_law_place","_law_there"] ["_law_rooms","_law_row"] (AR Mq):='0'
abbrev J5:Stmt:=top 26
theorem eW:FnScope ["_law_part","_law_room"] ["_law_part","_law_room"] (AR J5):='0'
abbrev J6:Stmt:=top 27
theorem eX:FnScope ["_law_rooms","_law_names_here"] ["_law_rooms","_law_names_here"] (AR J6):='0'
abbrev Mr:Stmt:=top 28
theorem Hw:FnScope ["_law_rooms","_law_row","_law_size","_law_k","_law_i","_law_near"] ["_law_rooms","_law_row"] (AR Mr):='0'
abbrev J7:Stmt:=top 29
theorem eY:FnScope ["_law_rooms","_law_row"] ["_law_rooms","_law_row"] (AR J7):='0'
abbrev Ms:Stmt:=top 30
theorem eZ:FnScope ["_law_rooms","_law_told"] ["_law_rooms","_law_told"] (AR Ms):='0'
abbrev Mt:Stmt:=top 31
theorem ec:FnScope ["_law_found"] ["_law_found"] (AR Mt):='0'
abbrev J8:Stmt:=top 32
theorem ee:FnScope ["_law_found"] ["_law_found"] (AR J8):='0'
abbrev J9:Stmt:=top 33
theorem Mu:FnScope ["_law_room","_law_rows","_law_at","_law_one"] ["_law_room","_law_rows"] (AR J9):='0'
abbrev KA:Stmt:=top 34
theorem ef:FnScope ["_law_one","_law_other"] ["_law_one","_law_other"] (AR KA):='0'
abbrev KB:Stmt:=top 35
theorem eh:FnScope ["_law_room","_law_row","_law_part"] ["_law_room","_law_row","_law_part"] (AR KB):='0'
abbrev KC:Stmt:=top 36
theorem ei:FnScope ["_law_counts"] ["_law_counts"] (AR KC):='0'
abbrev Mv:Stmt:=top 37
theorem Hx:FnScope ["_law_room","_law_rows","_law_part","_law_counts","_law_row","_law_count","_law_here"] ["_law_room","_law_rows","_law_part"] (AR Mv):='0'
abbrev KD:Stmt:=top 38
theorem Hz:FnScope ["_law_room","_law_rows","_law_other","_law_late","_law_part","_law_one","_law_two","_law_bad"] ["_law_room","_law_rows","_law_other","_law_late"] (AR KD):='0'
abbrev Mw:Stmt:=top 39
theorem H0:FnScope ["_law_rooms","_law_tallies","_law_found","_law_k","_law_i","_law_row"] ["_law_rooms","_law_tallies"] (AR Mw):='0'
abbrev KF:Stmt:=top 40
theorem KG:FnScope ["_law_one","_law_row","_law_other","_law_late","_law_table","_law_name","_law_answer"] ["_law_one","_law_row","_law_other","_law_late"] (AR KF):='0'
abbrev Mx:Stmt:=top 41
theorem ej:FnScope ["_law_one","_law_other"] ["_law_one","_law_other"] (AR Mx):='0'
abbrev Mz:Stmt:=top 42
theorem Cu:FnScope ["_law_rooms","_law_tallies","_law_names_here","_law_found","_law_room","_law_rows","_law_part","_law_table","_law_row","_law_count","_law_longer","_law_late"] ["_law_rooms","_law_tallies"] (AR Mz):='0'
abbrev M0:Stmt:=top 43
theorem M1:FnScope ["_law_rooms","_law_tallies","_law_room","_law_rows"] ["_law_rooms","_law_tallies"] (AR M0):='0'
abbrev E2:Stmt:=top 44
theorem CI:FnScope ["_law_script","_law_bag_here","_law_names_here","_law_ring","_law_row","_law_spare","_law_k","_law_rooms","_law_at","_law_some","_law_name","_law_told","_law_turn","_law_given","_law_found"] ["_law_script"] (AR E2):='0'
section
variable{b p:Addr}
structure StepD(b a D:Addr)(H H':Hp):Prop where
 bag:Bag H' b a
 same:∀p o,p≠b->p≠D->H p\o->H' p\o
 nb:D≠b
 na:D≠a
theorem StepD.new(h:Bag H b a)(n:H D=none):StepD b a D H (AD H D o) :=
 ⟨h.new n,λp u _ _ e=>by rw[AI (Ao e n)];exact e,h.nb n,h.na n⟩
theorem StepD.step(s:StepD b a D H H1)(t:Step b a H1 H2):StepD b a D H H2:=⟨t.bag,λp u n1 n2 e=>t.same p u n1 (s.same p u n1 n2 e),s.nb,s.na⟩
theorem StepD.put(s:StepD b a D H H1):StepD b a D H (AD H1 D o):=⟨s.bag.put s.nb s.na,λp u n1 n2 e=>by rw[AI n2];exact s.same p u n1 n2 e,s.nb,s.na⟩
theorem StepD.out(s:StepD b a D H H1)(n:H D=none):Step b a H H1:=⟨s.bag,λp u n1 e=>s.same p u n1 (Ao e n) e⟩
end
def KH(K:Fg):Sp:=λvs H Q _=>∃(a:Addr) (ns:By),vs=[.ref a]/\Am K H a (ns.map V.int)/\∀(b a':Addr) (H':Hp),H b=none->H a'=none->Bag H' b a'->CY H H'->Q (.ref b) H'
def KI:Sp:=λvs H Q _=>∃(b a:Addr) (m:Int),vs=[.ref b,.int m]/\Bag H b a/\0<m/\m<2 ^ 64/\∀(r:Int) (H':Hp),0<=r->r<m->Step b a H H'->Q (.int r) H'
def Sd(x:Str):Prop:=∀c∈x.cps.toList,97<=c/\c<=122
def Se:Sp:=λvs H Q _=>∃(b a:Addr) (n:Int),vs=[.ref b,.int n]/\Bag H b a/\0<=n/\n<=1000/\∀(x:Str) (H':Hp),(x.length:Int)=n->Sd x->Step b a H H'->Q (.str x) H'
section
variable{P:Program}{K:Fg}
structure TxtB(mg:Str->Ex):Prop where
 b_len:mg "len"=none
 b_list:mg "list"=none
 b_range:mg "range"=none
 b_isinstance:mg "isinstance"=none
 b_bool:mg "bool"=none
 b_int:mg "int"=none
 b_tuple:mg "tuple"=none
 b_all:mg "all"=none
 b_any:mg "any"=none
 b_sorted:mg "sorted"=none
 b_set:mg "set"=none
 b_sum:mg "sum"=none
 b_dict:mg "dict"=none
 b_zip:mg "zip"=none
 b_min:mg "min"=none
 b_max:mg "max"=none
theorem Sf(ns:By):DF (ns.map V.int) none (some 63)=(ns.take 63).map V.int:=by
 unfold DF;rw[map_take];simp[HT.dB]
theorem ek(D:Ak K mg "_law_bag" Mn)(T:TxtB mg):Fn P w K mg base "_law_bag" 1 ["_law_script"] (KH K):=by
 refine Ft D J3 (λ_ _ _ _ _ _ G M=>EY M dE) (λvs H Q E h=>?_) (λf N A j s H vs Q E O h=>?_)
 ·obtain⟨a,ns,rfl,_⟩:=h;rfl
 ·obtain⟨a,ns,rfl,r,k⟩:=h;refine⟨_,(Br (CW (i:=1) J3.nd rfl (Or.inl rfl) (Eh Ky (by rfl) T.b_len nofun (Ag (Gh IZ (pv 0) Gf (Gg Ae)) Az)))
 (Br (GY PassesOwn.never rfl (NP (Gh IZ (pv 0) Gf (Gg Ae))) (BF (i:=2) J3.nd rfl (Or.inl rfl))
 (Cy (CW (i:=1) J3.nd rfl (Or.inl rfl) (BU Ef (BU Da (BU Ga (pv 1) Ae) (pv 2)) Ae))))
 (Cy (Ff (Gb (Ag (IW FJ (by rfl) T.b_list nofun (Ag (Gh IZ (pv 0) Gf (Gg Ae)) Az)) (Ag Ae (Ag Ae (Ag (pv 1) Az))))))))),?_⟩
  refine⟨_,rfl,63,rfl,a,ns.map V.int,rfl,r,λp L=>?_⟩;have B:CY H (AD H p (.lst (DF (ns.map V.int) none (some 63)))):=λb o e=>by rw[AI (Ao e L)];exact e
  refine⟨p,_,rfl,AX,?_⟩;refine⟨_,rfl,63,rfl,a,ns.map V.int,rfl,B.seq r,λp2 m=>?_⟩;rw[Sf]at *;have ρ:CY H (AD (AD H p (.lst ((ns.take 63).map V.int))) p2 (.lst ((ns.take 63).map V.int))):=B.trans λb o e=>by rw[AI (Ao e m)];exact e
  refine⟨p2,rfl,⟨_,.of AX⟩,Ue (K:=K) (a:=p2) (xs:=(ns.take 63).map V.int) (λi Y H2=>∃(z:Int) (v:Option V),Y=[some (.ref a),some (.int z),v]/\CY H H2/\H2 p2\(.lst ((ns.take 63).map V.int))) ⟨_,_,rfl,ρ,AX⟩ (λi Y H2 _ zz=>(by obtain⟨_,_,_,_,e⟩:=zz;exact .of e)) ?_ ?_⟩
  ·rintro i y Y H2 hi ⟨z,v,rfl,d,us⟩;obtain⟨n,U,rfl⟩:∃n,(ns.take 63)[i]?\n/\y=V.int n:=by
    rw[bO]at hi;cases e:(ns.take 63)[i]? with
    |none=>rw[e]at hi;cases hi
    |some n=>rw[e]at hi;exact⟨n,rfl,(oI hi).symm⟩
   simp[Ec,CJ,FC,rI,Cm,CV,tC,GZ];exact⟨d,by simpa[map_take]using us⟩
  ·rintro Y H2 ⟨z,v,rfl,d,us⟩;refine⟨_,rfl,63,rfl,a,ns.map V.int,rfl,d.seq r,λp3 l=>?_⟩;refine⟨p3,_,rfl,.inl AX,λp4 g=>⟨_,rfl,(by show 4<=sizeLine;decide),λb q=>?_⟩⟩;rw[Sf]at *;have x:CY H2 (AD H2 p3 (.lst ((ns.take 63).map V.int))):=λb o e=>by rw[AI (Ao e l)];exact e
   have u:=x.trans (λb o e=>by rw[AI (Ao e g)];exact e:CY _ (AD (AD H2 p3 (.lst ((ns.take 63).map V.int))) p4 (.lst ((ns.take 63).map V.int))));have I:CY _ (AD (AD (AD H2 p3 (.lst ((ns.take 63).map V.int))) p4 (.lst ((ns.take 63).map V.int))) b (.lst [.ref p4,.int 0,.int 0,.int z])):=λc o e=>by rw[AI (Ao e q)];exact e
   have C:p4≠b:=Ao (o:=.lst ((ns.take 63).map V.int)) AX q;refine k b p4 _ ((d.trans u).free q) ((d.trans x).free g) ⟨ns.take 63,0,0,z,AX,?_,Int.le_refl _,C⟩ ((d.trans u).trans I);rw[AI C,AX]
def KJ(b a:Addr)(m z:Int)(D:Ends)(H:Hp):Prop:=∀r i c,0<=i->D.rt (.int (r % m)) (AD H b (EF a i c z))
abbrev IA(b:Addr)(m:Int)(x y w:Option V):List (Option V):=[some (.ref b),some (.int m),x,y,w]
def Sg(b a:Addr)(m z:Int):TS:=λD Y H=>∃i c x y w,Y=IA b m x y w/\0<=i/\H b\(EF a i c z)/\KJ b a m z D H
def en(b a:Addr)(m z:Int)(ns:By):TS:=λD Y H=>∃i c s y w,Y=IA b m (some (.int s)) y w/\0<=i/\H b\(EF a i c z)/\H a\(.lst (ns.map V.int))/\KJ b a m z D H/\∀c,D.nx (IA b m (some (.int s)) y w) (AD H b (EF a i c z))
def et(b a:Addr)(m z:Int):TS:=λD Y H=>∃i c s y w,Y=IA b m (some (.int s)) y w/\0<=i/\H b\(EF a i c z)/\KJ b a m z D H
theorem eu(D:Ak K mg "_law_pull" Mo)(T:TxtB mg):Fn P w K mg base "_law_pull" 1 ["_law_bag_here","_law_many"] KI:=by
 refine Ft D GM (λ_ _ _ _ _ _ G hl=>Bo hl dF) (λvs H Q E h=>?_) (λf a1 A N s H vs Q E hr h=>?_)
 ·obtain⟨b,a,m,rfl,_⟩:=h;rfl
 ·obtain⟨b,a,m,rfl,⟨ns,i,c,z,g,ha,hi,I⟩,us,O,k⟩:=h;have B:∀o,AD H b o a\(HO.lst (map V.int ns)):=λo=>by rw[AI I];exact ha
  have ρ:∀r u l,0<=u->Q (V.int (r % m)) (AD H b (EF a u l z)):=λr u l U =>
   k _ _ (Int.emod_nonneg _ (Int.ne_of_gt us)) (Int.emod_lt_of_pos _ us) ⟨⟨ns,u,l,z,AX,B _,U,I⟩,λp o hp e=>by rw[AI hp];exact e⟩
  refine⟨_,(Br (GV (Fi IT (CK Cq (pv 0) Ae dF) Ae (Ap _))
 (Br (UU (pv 0) Ae Vz Ae NL Kk)
 (Br (CW (i:=2) GM.nd rfl (Or.inl rfl) (CK Cq (pv 0) Ae dF))
 (Br (GV (Fi IT (CK Cq (pv 0) Ae dF) (Eh Ky (by rfl) T.b_len nofun (Ag (CK Cq (pv 0) Ae dF) Az)) (Ap _))
 (Cy (CW (i:=2) GM.nd rfl (Or.inl rfl) (CK Cq (CK Cq (pv 0) Ae dF) (BU EB (CK Cq (pv 0) Ae dF) Ae) dF)))
 GU)
 (Be.weak (m:=(en b a m z ns)) (Br (GV (PW.pt (NH (Fi IU (CK Cq (pv 0) Ae dF) (Eh Ky (by rfl) T.b_len nofun (Ag (CK Cq (pv 0) Ae dF) Az)) (Ap _)) (NG (Fi IS (pv 2) (BU Uh Ae Ae) (Ap _)))))
 (Be.weak (m:=(et b a m z)) (Br (CW (i:=3) GM.nd rfl (Or.inl rfl) (BU Ef (BU Da (BU Da (BU Ga (pv 2) Ae) (BU Ga (CK Cq (pv 0) Ae dF) Ae)) Ae) Ae))
 (Br (CW (i:=3) GM.nd rfl (Or.inl rfl) (BU Ef (BU Ga (pv 3) (pv 3)) Ae))
 (Cy (Ff (BU Ef (BU OQ (BU Ef (BU Ga (BU Da (pv 3) (CK Cq (pv 0) Ae dF)) Ae) Ae) Ae) (pv 1)))))) ?j)
 GU)
 (Cy (Kb (pv 2) (NI (pv 0) Ae Kk)))) ?q))))
 GU)
 (Be.weak (m:=(Sg b a m z)) (Br (CW (i:=4) GM.nd rfl (Or.inl rfl) (BU Ef (CK Cq (pv 0) Ae dF) (pv 1)))
 (Br (Kb (BU OQ (CK Cq (pv 0) Ae dF) (pv 1)) (NI (pv 0) Ae Kk))
 (Cy (Ff (pv 4))))) ?L)),?C⟩
  case L =>
   rintro D Y H ⟨i,c,x,y,w,rfl,hi,g,d⟩;refine⟨_,rfl,b,2,_,rfl,rfl,g,_,rfl,_,rfl,_,_,rfl,rfl,us,?_⟩;refine⟨_,rfl,b,2,_,rfl,rfl,g,_,rfl,_,rfl,_,_,rfl,rfl,⟨us,O⟩,?_⟩;exact⟨_,rfl,b,_,2,2,rfl,rfl,g,rfl,_,rfl,d c i (c / m) hi⟩
  case q =>
   rintro D Y H ⟨i,c,s,y,w,rfl,hi,g,ha,d,n⟩;refine⟨_,rfl,b,1,_,rfl,rfl,g,_,rfl,_,rfl,b,0,_,rfl,rfl,g,_,rfl,_,_,rfl,ha,_,_,rfl,rfl,_,rfl,BP (λ_=>?_) λ_=>?_⟩
   ·exact⟨i,c,s,y,w,rfl,hi,g,d⟩
   ·refine⟨_,rfl,_,_,rfl,rfl,⟨'3','3','3'⟩,_,_,rfl,rfl,_,rfl,BP (λ_=>?_) λ_=>?_⟩
    ·exact⟨i,c,s,y,w,rfl,hi,g,d⟩
    ·exact⟨_,rfl,_,rfl,b,_,2,2,rfl,rfl,g,rfl,n s⟩
  case j =>
   rintro D Y H ⟨i,c,s,y,w,rfl,hi,g,d⟩;have M:∀{x y:Int},y<2 ^ 64->0<=y->GZ x y:=λh0 h1=>.inr ⟨⋯,h0⟩;have p1:(0:Int)<2147483647:=by decide
   have p2:(0:Int)<2147483629:=by decide
   have p3:(0:Int)<998244353:=by decide
   have p4:(0:Int)<13:=by decide
   have p5:(13:Int)<2 ^ 64:=by decide
   refine⟨_,rfl,_,_,rfl,rfl,M '3' '3',?_⟩;refine⟨_,rfl,b,1,_,rfl,rfl,g,_,rfl,_,_,rfl,rfl,M '3' '3',_,_,rfl,rfl,_,_,rfl,rfl,_,_,rfl,rfl,p1,?_⟩;have r0:=Int.emod_nonneg (s * 48271+i * 16807+11) (b:=2147483647) '3';have r1:=Int.emod_lt_of_pos (s * 48271+i * 16807+11) (b:=2147483647) '3';refine⟨_,rfl,_,rfl,_,_,rfl,rfl,M (by show _ % _<_;lia) r0,_,_,rfl,rfl,p2,?_⟩;refine⟨_,rfl,_,rfl,b,1,_,rfl,rfl,g,_,rfl,_,_,rfl,rfl,_,_,rfl,rfl,M '3' '3',_,_,rfl,rfl,p3,_,_,rfl,rfl,⟨p4,p5⟩,_,rfl,_,_,rfl,rfl,us,?_⟩;have e:AD H b (EF a i c z)=H:=funext λp=>by
    by_cases h:p=b
    ·rw[h,AX,g]
    ·rw[AI h]
   have d2:∀r,D.rt (.int (r % m)) H:=λr=>by
    have:=d r i c hi;rw[e]at this;exact this
   exact d2 _
  case C =>
   refine⟨_,rfl,b,2,_,rfl,rfl,g,_,rfl,_,_,rfl,rfl,_,rfl,BP (λ_=>?_) λ_=>?_⟩
   ·refine⟨_,rfl,b,1,_,rfl,rfl,g,_,rfl,_,_,rfl,rfl,b,_,1,1,rfl,rfl,g,rfl,?_⟩;have h1:0<=i+1:=⋯;have dd:∀o,KJ b a m z { nx:=λx H'=>Q V.non H',rt:=Q } (AD H b o):=λo r u l h=>by rw[Fe];exact ρ r u l h
    have nn:∀o i,0<=i->∀x y w l,Sg b a m z { nx:=λx H'=>Q V.non H',rt:=Q } (IA b m x y w) (AD (AD H b o) b (EF a i l z)):=λo i h x y w l=>⟨i,l,x,y,w,rfl,h,AX,by rw[Fe];exact dd _⟩;refine⟨_,rfl,b,3,_,rfl,rfl,AX,_,rfl,?_⟩;refine⟨_,rfl,b,1,_,rfl,rfl,AX,_,rfl,_,rfl,b,0,_,rfl,rfl,AX,_,rfl,_,_,rfl,B _,_,_,rfl,rfl,_,rfl,BP (λσ=>?_) λ_=>?_⟩
    ·have σ:i+1<=((ns.map V.int).length:Int):=aL σ;rw[aA]at σ;obtain⟨v,hv⟩:∃v,ns[i.toNat]?\v:=⟨_,aH ⋯⟩;have a0:atI (ns.map V.int) (i+1 - 1)\(V.int v):=by
      rw[show i+1 - 1=((i.toNat:Nat):Int) by lia];exact Co (by rw[bO,hv];rfl)
     refine⟨_,rfl,b,0,_,rfl,rfl,AX,_,rfl,_,rfl,b,1,_,rfl,rfl,AX,_,rfl,_,_,rfl,rfl,a,_,_,rfl,rfl,B _,_,a0,?_⟩;exact⟨i+1,c,v,_,_,rfl,h1,AX,B _,dd _,λl=>nn _ _ h1 _ _ _ l⟩
    ·exact⟨i+1,c,z,_,_,rfl,h1,AX,B _,dd _,λl=>nn _ _ h1 _ _ _ l⟩
   ·exact⟨i,c,_,_,_,rfl,hi,g,ρ⟩
theorem e6{i:Int}(a:0<=i)(h1:i<26):∃c:Nat,atI (Str.ofString "abcdefghijklmnopqrstuvwxyz").cps.toList i\c/\97<=c/\c<=122:=by
 obtain⟨n,rfl⟩:=Int.eq_ofNat_of_zero_le a;have h:n<26:=⋯;have e:(Str.ofString "abcdefghijklmnopqrstuvwxyz").cps.toList=[97,98,99,100,101,102,103,104,105,106,107,108,109,110,111,112,113,114,115,116,117,118,119,120,121,122]:=by decide +kernel
 rw[e];have q:∀m:_root_.Fin 26,[97,98,99,100,101,102,103,104,105,106,107,108,109,110,111,112,113,114,115,116,117,118,119,120,121,122][m.val]?\(97+m.val):=by decide +kernel
 exact⟨97+n,Co (q ⟨n,h⟩),⋯,⋯⟩
theorem Si:∀cs:Ge,(cs.map ((λx=>x.cps.toList) ∘ λc=>(⟨#[c]⟩:Str))).flatten=cs
 |[]=>rfl
 |x::r=>by simp[Si r]
theorem fA(D:Ak K mg "_law_word" J4)(T:TxtB mg)(L:Fn P w K mg base "_law_pull" 1 ["_law_bag_here","_law_many"] KI):Fn P w K mg base "_law_word" 2 ["_law_bag_here","_law_size"] Se:=by
 refine Ft D Sc (λ_ _ _ _ _ _ G o=>Bo o dF) (λvs H Q E h=>?_) (λf a0 A v s H vs Q E O h=>?_)
 ·obtain⟨b,a,m,rfl,_⟩:=h;rfl
 ·obtain⟨b,a,n,rfl,ρ,σ,U,k⟩:=h;refine⟨_,(Br (CW (i:=2) Sc.nd rfl (Or.inr rfl) IL)
 (Cy (Ff (Fm PySem.F.plainAttrs_str PySem.F.slot_str_join PySem.F.type_str_join Vx IL (Ag (OM (N:=["_law_bag_here","_law_size","_law_letters"]) (sc:=AR J4) (N':=["_law_k","_law_letters","_law_bag_here"]) (qD:=[none,some 2,some 0]) '1' rfl (GX (by rfl) T.b_range (Ag (pv 1) Az)) (OH rfl) (λp=>(BF (i:=0) (show List.Nodup (["_law_k","_law_letters","_law_bag_here"]:At) from nofun) rfl (Or.inl rfl))) (λp=>OG) (λp=>(CK Kj (pv 1) (FI L (O.mq) (by rfl) (Ag (pv 2) (Ag Ae Az))) dF))) Az))))),?_⟩
  refine⟨rfl,_,rfl,n,rfl,⋯,⋯,?_⟩;refine Vv (Pv:=λD i ys H2=>∃cs:Ge,ys=cs.map (λc=>V.str ⟨#[c]⟩)/\cs.length=i/\(∀c∈cs,97<=c/\c<=122)/\H2 D\(.lst ys)/\StepD b a D H H2)
   (λD u=>⟨[],rfl,rfl,'2',AX,StepD.new ρ u⟩) (λD i ys H2 _ _ zz=>(by obtain⟨cs,_,_,_,e,_⟩:=zz;exact e)) ?_ ?_
  ·rintro D u i ys H2 hi ⟨cs,rfl,o,us,g,st⟩;refine⟨_,rfl,_,rfl,b,a,26,rfl,st.bag,'3','3',λr H3 h0 h1 j=>?_⟩;obtain⟨c,C,B,y⟩:=e6 h0 h1;refine⟨_,r,c,rfl,rfl,nofun,C,?_⟩;have I:D≠b:=ρ.nb u;refine⟨j.same D _ I g,?_,cs++[c],'2',by simp[o],?_,AX,(st.step j).put⟩
   ·rw[aA,o];exact C0 ⋯
   ·intro d hd;rcases bA.mp hd with z|z
    ·exact us d z
    ·rw[bI.mp z];exact⟨B,y⟩
  ·rintro D ys H2 u ⟨cs,rfl,o,us,g,st⟩;refine⟨⟨#[]⟩,D,cs.map (λc=>⟨#[c]⟩),rfl,rfl,.of (by rw[bZ];exact g),?_,?_⟩
   ·have e:∀l:Ge,((l.map (λc=>(⟨#[c]⟩:Str))).map (·.length)).sum=l.length:=λl=>by
     induction l with
     |nil=>rfl
     |cons x r M=>simp only[map_cons,sum_cons,M,length_cons];show 1+r.length=_;lia
    rw[e,aA];show cs.length+cs.length * 0<=_;lia
   ·have e:(Txt.join ⟨#[]⟩ (cs.map (λc=>(⟨#[c]⟩:Str)))).cps.toList=cs:=by
     rw[V1,bZ];exact Si cs
    refine k _ H2 ?_ ?_ (st.out u)
    ·have z:(Txt.join ⟨#[]⟩ (cs.map (λc=>(⟨#[c]⟩:Str)))).cps.toList.length=cs.length:=by rw[e]
     have z2:(Txt.join ⟨#[]⟩ (cs.map (λc=>(⟨#[c]⟩:Str)))).length=cs.length:=by rw[<-z];exact bR.symm
     lia
    ·intro c q;rw[e]at q;exact us c q
end
def IB(x:Str):Prop:=1<=x.length/\x.length<=8/\Sd x
def Sj:Sp:=λvs H Q _=>∃(b a:Addr) (n:Int),vs=[.ref b,.int n]/\Bag H b a/\0<=n/\n<=9 /\
 ∀(p:Addr) (xs:At) (H':Hp),H p=none->H' p\(.lst (xs.map V.str))->(xs.length:Int)=n->(∀x∈xs,IB x)->xs.Nodup->Step b a H H'->Q (.ref p) H'
theorem fB(h:n<26):atI (Str.ofString "abcdefghijklmnopqrstuvwxyz").cps.toList (n:Int)\(97+n):=by
 have e:(Str.ofString "abcdefghijklmnopqrstuvwxyz").cps.toList=[97,98,99,100,101,102,103,104,105,106,107,108,109,110,111,112,113,114,115,116,117,118,119,120,121,122]:=by decide +kernel
 rw[e];have q:∀m:_root_.Fin 26,[97,98,99,100,101,102,103,104,105,106,107,108,109,110,111,112,113,114,115,116,117,118,119,120,121,122][m.val]?\(97+m.val):=by decide +kernel
 exact Co (q ⟨n,h⟩)
def D5(pre:Ge)(j:Nat):Str:=⟨(pre++[97+j]).toArray⟩
theorem fC{pre:Ge}(h:D5 pre i=D5 pre j):i=j:=by
 have e:pre++[97+i]=pre++[97+j]:=by
  have:=aT (λz:Str=>z.cps.toList) h;simpa[D5]using this
 have:=append_cancel_left e;simp at this;exact this
theorem fD{pre:Ge}{xs:At}(f:xs.length<26)(h:∀j,j<26->D5 pre j∈xs):False:=by
 have nd:((List.range 26).map (D5 pre)).Nodup:=by
  exact List.Pairwise.map (D5 pre) (λi j a e=>a (fC e)) nodup_range
 have sub:(List.range 26).map (D5 pre) ⊆ xs:=λx c=>by
  obtain⟨j,d,rfl⟩:=bU.mp c;exact h j (bH.mp d)
 have:=nd.length_le_of_subset sub;simp at this;lia
section
variable{P:Program}{K:Fg}
theorem fE:∀{r:Int},0<=r->r<4->∃k:Int,atI [V.int 0,V.int 0,V.int 3,V.int 7] r\(V.int k)/\0<=k/\k<=7:=by
 intro r a h1;obtain⟨n,rfl⟩:=Int.eq_ofNat_of_zero_le a;have h:n=0\/n=1\/n=2\/n=3:=⋯;rcases h with rfl|rfl|rfl|rfl
 ·exact⟨0,rfl,'3','3'⟩
 ·exact⟨0,rfl,'3','3'⟩
 ·exact⟨3,rfl,'3','3'⟩
 ·exact⟨7,rfl,'3','3'⟩
theorem KL(p q:Str):(p++q).cps.toList=p.cps.toList++q.cps.toList:=Array.toList_append
theorem IC(p q:Str):(p++q).length=p.length+q.length:=Array.size_append
theorem fF(D:Ak K mg "_law_names" Mp)(T:TxtB mg)(qM:Fn P w K mg base "_law_pull" 1 ["_law_bag_here","_law_many"] KI)(qN:Fn P w K mg base "_law_word" 2 ["_law_bag_here","_law_size"] Se):Fn P w K mg base "_law_names" 3 ["_law_bag_here","_law_many"] Sj:=by
 refine Ft D E1 (λ_ _ _ _ _ _ G hl=>Bo hl dF) (λvs H Q E h=>?_) (λf ac A a0 s H vs Q E hr h=>?_)
 ·obtain⟨b,a,m,rfl,_⟩:=h;rfl
 ·obtain⟨b,a,n,rfl,hb,ab,aa,k⟩:=h;refine⟨_,(Br (CW (i:=2) E1.nd rfl (Or.inl rfl) IL)
 (Br (CW (i:=3) E1.nd rfl (Or.inl rfl) (Gb Az))
 (Br (CW (i:=4) E1.nd rfl (Or.inl rfl) (FI qN (hr.mq) (by rfl) (Ag (pv 0) (Ag (CK Cq (Gb (Ag Ae (Ag Ae (Ag Ae (Ag Ae Az))))) (FI qM (hr.mq) (by rfl) (Ag (pv 0) (Ag Ae Az))) dF) Az))))
 (Br (GY PassesOwn.never rfl (GX (by rfl) T.b_range (Ag (pv 1) Az)) (BF (i:=5) E1.nd rfl (Or.inl rfl))
 (Br (CW (i:=6) E1.nd rfl (Or.inl rfl) (BU NZ (pv 4) (FI qN (hr.mq) (by rfl) (Ag (pv 0) (Ag (BU Da Ae (FI qM (hr.mq) (by rfl) (Ag (pv 0) (Ag (BU EB Ae (Eh Nx (by rfl) T.b_len nofun (Ag (pv 4) Az))) Az)))) Az)))))
 (Br (GY PassesOwn.never rfl (GX (by rfl) T.b_range (Ag Ae Az)) (BF (i:=7) E1.nd rfl (Or.inl rfl))
 (Cy (GV (Fi V2 (pv 6) (pv 3) (by rfl))
 (Cy (CW (i:=6) E1.nd rfl (Or.inl rfl) (BU NZ (Gh OP (pv 6) Gf (Gg (NU NW Ae))) (CK Kj (pv 2) (pv 7) dF))))
 GU)))
 (Cy (IN (Fm PySem.F.plainAttrs_list PySem.F.slot_list_append PySem.F.type_list_append Fo (pv 3) (Ag (pv 6) Az)))))))
 (Cy (Ff (pv 3))))))),?_⟩
  refine⟨cD _,λp hp=>?_⟩;have sp:=StepD.new (o:=.lst []) hb hp;refine⟨_,rfl,(by show 4<=sizeLine;decide),λq hq=>?_⟩;have a3:p≠q:=Ao (o:=.lst []) AX hq;have sq:=sp.step (Step.new (o:=.lst [V.int 0,V.int 0,V.int 3,V.int 7]) sp.bag hq);have a1:=sp.bag.nb hq;refine⟨_,rfl,b,a,4,rfl,sq.bag,'3','3',λr H1 r0 r1 l=>?_⟩;obtain⟨k0,hk,k1,k2⟩:=fE r0 r1;refine⟨q,r,_,rfl,rfl,l.same q _ a1 AX,_,hk,?_⟩;refine⟨b,a,k0,rfl,l.bag,k1,⋯,λI H2 a9 a2 M=>?_⟩;have u:=hb.nb hp;have e2:H2 p\(.lst []):=M.same p _ u (l.same p _ u (by rw[AI a3,AX]));have s2:StepD b a p H H2:=(sq.step l).step M;have a7:I.length<=7:=⋯;refine⟨_,rfl,n,rfl,⋯,⋯,NT (lo:=0) (n:=n.toNat) (λi Y U=>∃(xs:At) (v5 v6 v:Option V),Y=[some (.ref b),some (.int n),some (.str (Str.ofString "abcdefghijklmnopqrstuvwxyz")),some (.ref p),some (.str I),v5,v6,v] /\ U p\(.lst (xs.map V.str))/\xs.length=i/\(∀x∈xs,IB x)/\xs.Nodup/\StepD b a p H U) ⟨[],_,_,_,rfl,e2,rfl,'2',nodup_nil,s2⟩ ?_ ?_⟩
  ·rintro i Y U hi ⟨xs,v5,v6,v,rfl,e3,hl,hg,nd,σ⟩;refine⟨_,rfl,_,rfl,_,rfl,_,rfl,I,rfl,aY (C0 ⋯),_,_,rfl,rfl,?_⟩;refine⟨b,a,_,rfl,σ.bag,⋯,⋯,λr2 H4 a5 a4 B=>?_⟩;refine⟨_,_,rfl,rfl,b,a,_,rfl,B.bag,⋯,⋯,λw1 H5 a8 N L=>?_⟩;refine⟨_,_,rfl,rfl,aY (C0 ⋯),?_⟩;have e5:H5 p\(.lst (xs.map V.str)):=L.same p _ u (B.same p _ u e3);have s5:StepD b a p H H5:=(σ.step B).step L;have g0:IB (I++w1):=by
    refine⟨by rw[IC];lia,by rw[IC];lia,λc O=>?_⟩;rw[KL]at O;rcases bA.mp O with z|z
    ·exact a2 c z
    ·exact N c z
   generalize I++w1=d at g0;refine⟨26,rfl,'3','3',NT (lo:=0) (n:=26) (λs Y H6=>H6=H5/\∃(x:Str) (v:Option V),Y=[some (.ref b),some (.int n),some (.str (Str.ofString "abcdefghijklmnopqrstuvwxyz")),some (.ref p),some (.str I),some (.int (0+(i:Int))),some (.str x),v] /\ IB x/\x.cps.toList.take (x.length - 1)=d.cps.toList.take (d.length - 1)/\(x∉xs\/((0<s->x=D5 (d.cps.toList.take (d.length - 1)) (s - 1))/\∀j,j+1<s->D5 (d.cps.toList.take (d.length - 1)) j∈xs))) ⟨rfl,d,_,rfl,g0,rfl,.inr ⟨λz=>bS z (aX _),λj z=>bS z (Nat.not_lt_zero _)⟩⟩ ?_ ?_⟩
   ·rintro t Y H6 ht ⟨rfl,x,v,rfl,ρ,e,C⟩;refine⟨_,rfl,_,rfl,x,p,xs,rfl,rfl,.inl e5,_,rfl,?_⟩;refine BP (λg=>?_) (λg=>?_)
    ·have g:x∈xs:=aL g;obtain⟨i1,i2⟩:=C.resolve_left λz=>z g;have us:0<x.length:=ρ.1;have a6:=ρ.2.1;refine⟨_,rfl,1,rfl,-1,rfl,x,rfl,aY (C0 ⋯),?_⟩;refine⟨_,rfl,_,rfl,_,_,_,rfl,rfl,nofun,(by rw[Int.zero_add];exact fB ht),?_⟩;have es:(Txt.slice x none (some (-1))).cps.toList=d.cps.toList.take (d.length - 1):=by rw[Kz us,e]
     have el:(Txt.slice x none (some (-1))).length=x.length - 1:=by
      have z:(Txt.slice x none (some (-1))).cps.toList.length=(Txt.slice x none (some (-1))).length:=bR;have z2:x.cps.toList.length=x.length:=bR;rw[<-z,Kz us,aO];lia
     have lc:(⟨#[97+t]⟩:Str).length=1:=rfl;refine⟨_,_,rfl,rfl,aY (C0 (by rw[el,lc];lia)),rfl,_,_,rfl,⟨?_,?_,?_⟩,?_,.inr ⟨λ_=>?_,λj hj=>?_⟩⟩
     ·rw[IC,lc];lia
     ·rw[IC,lc,el];lia
     ·intro c O;rw[KL]at O;rcases bA.mp O with z|z
      ·rw[Kz us]at z;exact ρ.2.2 c (mem_of_mem_take z)
      ·have z:c=97+t:=by simpa using z
       lia
     ·rw[IC,lc,KL,es];have z3:(d.cps.toList.take (d.length - 1)).length=x.length - 1:=by rw[<-es];exact bR.trans el
      rw[el,take_append_of_le_length ⋯,aZ ⋯]
     ·refine PyProof.Rows.ext_toList ?_;rw[KL,es];simp[D5]
     ·by_cases z:j+1<t
      ·exact i2 j z
      ·have z':j=t - 1:=⋯;have z0:0<t:=⋯;rw[z',<-i1 z0];exact g
    ·have g:x∉xs:=λz=>g (aK z);exact⟨rfl,x,_,rfl,ρ,e,.inl g⟩
   ·rintro Y H6 ⟨rfl,x,v,rfl,ρ,e,C⟩;have hx:x∉xs:=by
     intro g;obtain⟨i1,i2⟩:=C.resolve_left λz=>z g;refine fD (pre:=d.cps.toList.take (d.length - 1)) (xs:=xs) ⋯ λj hj=>?_;by_cases z:j+1<26
     ·exact i2 j z
     ·have z':j=25:=⋯;rw[z',<-i1 '3'];exact g
    refine⟨_,rfl,.inl ⟨rfl,_,.of e5⟩,_,rfl,p,_,_,rfl,rfl,e5,by rw[aA];exact C0 ⋯,?_⟩;refine⟨xs++[x],_,_,_,rfl,?_,by simp[hl],?_,?_,s5.put⟩
    ·rw[AX];simp
    ·intro y hy;rcases bA.mp hy with z|z
     ·exact hg y z
     ·rw[bI.mp z];exact ρ
    ·exact OC nd hx
  ·rintro Y U ⟨xs,v5,v6,v,rfl,e3,hl,hg,nd,σ⟩;exact⟨_,rfl,k p xs U hp e3 ⋯ hg nd (σ.out hp)⟩
end
def Sk:pF:=λxs K=>∃m,xs=[.bag,.int m]/\0<m/\m<2 ^ 64/\∀r,0<=r->r<m->K (.int r)
def Sl:pF:=λxs K=>∃n,xs=[.bag,.int n]/\0<=n/\n<=9/\∀ns:At,(ns.length:Int)=n->(∀x∈ns,IB x)->ns.Nodup->K (.lst (ns.map P.str))
section
variable{K:Fg}
theorem Sm{b:Addr}{m:Int}(r:AC b (λp=>p=b) H [.bag,.int m] vs):vs=[.ref b,.int m]:=by
 obtain⟨v,t,rfl,h1,u,a,rfl,h2,c⟩:=r;rw[show v=_ from h1,show u=_ from h2,show a=_ from c]
theorem fG(us:'E' "_law_pull" 1 ["_law_bag_here","_law_many"] KI):'E' "_law_pull" 1 ["_law_bag_here","_law_many"] (AT Sk):=us.imp λvs H Q E h=>by
 obtain⟨b,a,xs,j,f,r,⟨m,rfl,i,h1,e⟩,g⟩:=h;exact⟨b,a,m,Sm r,f,i,h1,λr H' d c st=>g _ _ H' (e r d c) st rfl⟩
theorem fH(us:'E' "_law_names" 3 ["_law_bag_here","_law_many"] Sj):'E' "_law_names" 3 ["_law_bag_here","_law_many"] (AT Sl):=us.imp λvs H Q E h=>by
 obtain⟨b,a,xs,o,j,r,⟨m,rfl,n,h1,g⟩,l⟩:=h;exact⟨b,a,m,Sm r,j,n,h1,λp ns H' c e f i d st=>l _ _ H' (g ns f i d) st ⟨p,_,rfl,λz=>z c,e,AC.strs.mpr rfl⟩⟩
end
def KM(K:Fg):Sp:=λvs H Q _=>∃(a:Addr) (ns:By),vs=[.ref a]/\Am K H a (ns.map V.int)/\∀H',Q (.bl true) H'
theorem fI{b a:Addr}{v:Option V}(c:Bag H b a):Ok ⟨b,a,H,λ_=>none,λ_=>False⟩ (.emp::.sh .bag::replicate n .emp) (v::some (.ref b)::replicate n none) H where
 bag:=c
 fb:=rfl
 old:=λ_ _ _ e=>e
 frm:=λ_ _ e=>nomatch e
 oo:=λ_ z=>z.elim
 len:='2'
 slot:=λi s e=>by
  match i with
  |0=>cases e;exact⟨v,rfl,trivial⟩
  |1=>cases e;exact⟨_,rfl,_,rfl,rfl⟩
  |i+2 =>
   simp only[getElem?_cons_succ,getElem?_replicate]at e;split at e
   ·cases e;rename_i hi;exact⟨none,by simp only[getElem?_cons_succ,getElem?_replicate,aC hi],trivial⟩
   ·cases e
 uniq:=λi j x y h=>by
  exfalso
  match i with
  |0=>cases h
  |1=>cases h
  |i+2 =>
   simp only[getElem?_cons_succ,getElem?_replicate]at h;split at h
   ·cases h
   ·cases h
theorem fJ{K:Fg}{c:Stmt}{qF:Hq}{p:pS}(l:PS X c (Ec (Gc (KH K) [] E0 (Bx (CV 0) CD)) (CJ 1)))(h:An (λ_:Unit=>X) qF p)
  (i:p { nx:=λ_=>False,rt:=λx=>x=.bl true } (.emp::.sh .bag::replicate n .emp)) :
  ∃t,Be X (c::qF) t/\∀(a:Addr) (ns:By) (H:Hp) (Q:VK),Am K H a (ns.map V.int)->(∀H',Q (.bl true) H')->t { nx:=λ_ H'=>Q .non H',rt:=Q } (some (.ref a)::none::replicate n none) H:=by
 obtain⟨t,f,d⟩:=h;refine⟨_,Br l (f ()),λa ns H Q j k=>⟨_,rfl,a,ns,rfl,j,λb o H1 nb na B m=>?_⟩⟩;refine d _ _ _ H1 _ _ (fI (n:=n) B) i ⟨λ_ _ _ e=>e.elim,λx v H' e g=>?_,λ_ _ _ e=>e.elim,λ_ _ _ e=>e.elim,λ_ z=>z,λ_ _ _ e=>e.elim⟩;subst e;rw[show v=.bl true from g.2.2];exact k H'
section
variable{K:Fg}
theorem Sn{t:Tl}(nd:(t.map (·.1)).Nodup)(h:∀q∈t,q.1.length=n):(t.map (·.1)).length<2\/∃n,0<n/\∀r∈t.map (·.1),r.length=n:=by
 rcases Nat.eq_zero_or_pos n with e|e
 ·subst e;rcases t with _|⟨a,_|⟨b,t⟩⟩
  ·exact .inl '2'
  ·exact .inl '2'
  ·exfalso;rw[map_cons,map_cons,bC]at nd;exact nd.1 (by rw[cM (h a '2'),cM (h b '2')];simp)
 ·exact .inr ⟨n,e,λr c=>by obtain⟨q,d,rfl⟩:=bU.mp c;exact h q d⟩
theorem M3(a:List (By×Int))(r:By):(BE (a.map (·.1)) (a.map λq=>P.int q.2) r).getD (.int 0)=.int ((AY a r).getD 0):=by
 rw[JY];cases AY a r<;>rfl
theorem KN(t:List (By×Int)):P.imms (t.map λq=>P.int q.2)=true:=by
 have:=Ip (t.map (·.2));simpa[bZ,Function.comp_def]using this
def Sq:pF:=λxs K=>∃t,xs=[DM t]/\t.length<=63/\(t.map (·.1)).Nodup/\(∃n,∀q∈t,q.1.length=n)/\K (Aa (BA t))
theorem fK(D:Ak K mg "_law_settled" KC)(T:TxtB mg):'E' "_law_settled" 1 ["_law_counts"] (AT Sq):=by
 refine A9 D ei (λ_ _ _ _ _ _ G m=>EY m dE) (λxs K h=>?_) '3' (λC B A g s H E d=>?_)
 ·obtain⟨_,rfl,_⟩:=h;rfl
 ·have j:=FH d;refine⟨_,(AV (Ah (B5 (N:=["_law_counts"]) (sc:=AR KC) (N':=["_law_row","_law_counts"]) (qD:=[none,some 0]) '1' '3' dE (Bj dE (A4 (λ_=>(P5 rfl)) QR (λ_=>T.b_sorted) nofun (AA (BW (λ_=>(Lk rfl)) Ln (λ_=>T.b_list) nofun (AA (qv 0) AE)) AE))) (Bp (k:=0) rfl (λ_=>show List.Nodup (["_law_row","_law_counts"]:At) from nofun)) (EM (A8 (λ_=>(Dj d)) Dk (HW (λ_=>j) (qv 1) (qv 0) dF) AW (Ap _))) (Bu (AA (qv 0) (AA (HW (λ_=>j) (qv 1) (qv 0) dF) AE)))))),λxs K h=>?_⟩;obtain⟨t,rfl,m,v,⟨n,p⟩,h⟩:=h;refine⟨t.map (·.1),rfl,by rw[aA];lia,Sn v p,λf i o=>?_⟩;have l:f.length=t.length:=by rw[i.length_eq,aA]
  have e:=Lv i o;refine⟨_,rfl,'5',by rw[aA];lia,?_⟩;have get:∀r∈f,BE (t.map (·.1)) (t.map λq=>P.int q.2) r\(.int ((AY t r).getD 0)):=λr d=>by
   rw[JY];have u:r∈t.map (·.1):=i.mem_iff.mp d;obtain⟨c,x⟩:=Ql u;rw[x];rfl
  refine A5.filter (λr=>decide ((AY t r).getD 0≠0)) (λr=>BH (r,(AY t r).getD 0)) (λr _ _=>'2') (λr d M a=>?_) ?_
  ·refine Au (C6 _) ⟨_,_,Cg r,get r d,⟨rfl,rfl⟩,_,rfl,BP (λz=>⟨_,_,Cg r,get r d,rfl,?_⟩) (λz=>?_)⟩<;>rw[Cs]at z
   ·have a:=a (CL [(AM r,.cl),(.int ((AY t r).getD 0),Fl.bo.el)]);rw[aC (~~~z)]at a;exact a
   ·have a:=a .nw;rw[aB (~~~z)]at a;exact a
  ·rw[e];have y:((DN (t.map (·.1))).filter λr=>decide ((AY t r).getD 0≠0)).map (λr=>BH (r,(AY t r).getD 0))=(BA t).map BH:=by
    unfold BA;rw[bZ];rfl
   rw[y];exact⟨rfl,h⟩
def KO:pF:=λxs K=>∃qC qI,xs=[AO qC,AO qI]/\qC.length<=100/\K (.bl (qC.all λn=>decide (n∈qI)))
theorem fL(D:Ak K mg "within" Jo)(T:TxtB mg):'E' "within" 1 ["part","room"] (AT KO):=by
 refine A9 D eR (λ_ _ _ _ _ _ G c=>Bo c dF) (λxs K h=>?_) '3' (λg f A a s H E d=>⟨_,(AV (Ah (A4 (λ_=>(Gv rfl)) HN (λ_=>T.b_all) nofun (AA (B5 (N:=["part","room"]) (sc:=AR Jo) (N':=["name","room"]) (qD:=[none,some 1]) '1' '3' dE (Er dE (qv 0)) (Bp (k:=0) rfl (λ_=>show List.Nodup (["name","room"]:At) from nofun)) C4 (Eo (λ_=>(HR d)) HS (qv 0) (qv 1) (by rfl))) AE)))),λxs K h=>?_⟩)
 ·obtain⟨_,_,rfl,_⟩:=h;rfl
 ·obtain⟨qC,qI,rfl,c,h⟩:=h;simp![BM];refine⟨⋯,A5.map (λn=>.bl (decide (n∈qI))) dF (λn _ M e=>?_) ?_⟩
  ·simp![JN];exact e _
  ·refine⟨qC.map λn=>decide (n∈qI),by rw[bZ];rfl,?_⟩;rw[all_map];exact h
def ID:pF:=λxs K=>∃one qE,xs=[AO one,AO qE]/\one.length<=100/\K (AO (AN one qE))
theorem fM(D:Ak K mg "common" Jp)(T:TxtB mg):'E' "common" 1 ["one","other"] (AT ID):=by
 refine A9 D eS (λ_ _ _ _ _ _ G d=>Bo d dF) (λxs K h=>?_) '3' (λi g A c s H E f=>⟨_,(AV (Ah (BW (λ_=>DG) DK 'K' nofun (AA (B5 (N:=["one","other"]) (sc:=AR Jp) (N':=["name","other"]) (qD:=[none,some 1]) '1' '3' dE (Er dE (qv 0)) (Bp (k:=0) rfl (λ_=>show List.Nodup (["name","other"]:At) from nofun)) (EM (A8 (λ_=>(HR f)) HS (qv 0) (qv 1) (by rfl))) (qv 0)) AE)))),λxs K h=>?_⟩)
 ·obtain⟨_,_,rfl,_⟩:=h;rfl
 ·obtain⟨one,e,rfl,d,h⟩:=h;simp![BM];refine⟨⋯,A5.filter (λn=>decide (n∈e)) P.str '8' (λn _ M a=>?_) ?_⟩
  ·simp![JN];have a:=a .cl;refine BP (λz=>?_) (λz=>?_)
   ·rw[aC (~~~z)]at a;exact a
   ·rw[aB (~~~z)]at a;exact a
  ·simp![BM];exact h
theorem fN(D:Ak K mg "_law_both" KA)(T:TxtB mg):'E' "_law_both" 1 ["_law_one","_law_other"] (AT ID):=by
 refine A9 D ef (λ_ _ _ _ _ _ G d=>Bo d dF) (λxs K h=>?_) '3' (λi g A c s H E f=>⟨_,(AV (Ah (BW (λ_=>DG) DK 'K' nofun (AA (B5 (N:=["_law_one","_law_other"]) (sc:=AR KA) (N':=["_law_name","_law_other"]) (qD:=[none,some 1]) '1' '3' dE (Er dE (qv 0)) (Bp (k:=0) rfl (λ_=>show List.Nodup (["_law_name","_law_other"]:At) from nofun)) (EM (A8 (λ_=>(HR f)) HS (qv 0) (qv 1) (by rfl))) (qv 0)) AE)))),λxs K h=>?_⟩)
 ·obtain⟨_,_,rfl,_⟩:=h;rfl
 ·obtain⟨one,e,rfl,d,h⟩:=h;simp![BM];refine⟨⋯,A5.filter (λn=>decide (n∈e)) P.str '8' (λn _ M a=>?_) ?_⟩
  ·simp![JN];have a:=a .cl;refine BP (λz=>?_) (λz=>?_)
   ·rw[aC (~~~z)]at a;exact a
   ·rw[aB (~~~z)]at a;exact a
  ·simp![BM];exact h
def M4:pF:=λxs K=>∃qI r qC,xs=[AO qI,AM r,AO qC]/\qC.length<=100/\r.length=qI.length/\(∀n∈qC,n∈qI)/\K (AM (AU qI r qC))
theorem fO(D:Ak K mg "_law_row_of" KB)(T:TxtB mg):'E' "_law_row_of" 1 ["_law_room","_law_row","_law_part"] (AT M4):=by
 refine A9 D eh (λ_ _ _ _ _ _ G f=>GR f '8') (λxs K h=>?_) '3' (λm j A a s H E l=>⟨_,(AV (Ah (BW (λ_=>DG) DK 'K' nofun (AA (B5 (N:=["_law_room","_law_row","_law_part"]) (sc:=AR KB) (N':=["_law_name","_law_row","_law_room"]) (qD:=[none,some 1,some 0]) '1' '3' dE (Er dE (qv 2)) (Bp (k:=0) rfl (λ_=>show List.Nodup (["_law_name","_law_row","_law_room"]:At) from nofun)) C4 (Av 'J' Ax (qv 1) (Qr (qv 2) (qv 0)) dF)) AE)))),λxs K h=>?_⟩)
 ·obtain⟨_,_,_,rfl,_⟩:=h;rfl
 ·obtain⟨qI,r,qC,rfl,f,g,c,h⟩:=h;simp![BM];refine⟨⋯,A5.map (λn=>.int (r.getD (dD qI n) 0)) dF (λn d M i=>?_) ?_⟩
  ·simp![BM];have hi:=EQ (c n d);refine⟨dD qI n,(C7 (c n d)).1,(C7 (c n d)).2,.int (r.getD (dD qI n) 0),Co ?_,i _⟩;rw[bO,bW,aH ⋯];rfl
  ·simp![BM];have e:AM (AU qI r qC)=.tup (qC.map λn=>P.int (r.getD (dD qI n) 0)):=by
    show P.tup ((qC.map _).map _)=_;rw[bZ];rfl
   rw[e]at h;exact h
def Sr:pF:=λxs K=>∃qI qC,xs=[AO qI,AO qC]/\qC.length<=100/\(∀n∈qC,n∈qI)/\K (.lst ((qC.map (dD qI)).map λ(j:Nat)=>.int (j:Int)))
theorem fP(D:Ak K mg "places" Jq)(T:TxtB mg)(f:'E' "within" 1 ["part","room"] (AT KO)):'E' "places" 2 ["room","part"] (AT Sr):=by
 refine A9 D eT (λ_ _ _ _ _ _ G e=>Bo e dF) (λxs K h=>?_) '3' (λm l A c s H E g=>⟨_,(AS (B3 (EH (C2 (Ad (λ_=>f) (λ_=>g.mq) (AA (qv 1) (AA (qv 0) AE))))) (AV Wf) B2) (AV (Ah (B5 (N:=["room","part"]) (sc:=AR Jq) (N':=["name","room"]) (qD:=[none,some 0]) '1' '3' dE (Er dE (qv 1)) (Bp (k:=0) rfl (λ_=>show List.Nodup (["name","room"]:At) from nofun)) C4 (Qr (qv 1) (qv 0)))))),λxs K h=>?_⟩)
 ·obtain⟨_,_,rfl,_⟩:=h;rfl
 ·obtain⟨qI,qC,rfl,e,d,h⟩:=h;have i:(qC.all λn=>decide (n∈qI))=true:=all_eq_true.mpr λn a=>aK (d n a);simp![KO,i];refine⟨⋯,⋯,A5.map (λn=>.int (dD qI n:Int)) dF (λn a M j=>?_) ?_⟩
  ·simp![BM];exact⟨dD qI n,(C7 (d n a)).1,(C7 (d n a)).2,j _⟩
  ·simp![BM];rw[bZ]at h;exact h
def Ss:pF:=λxs K=>∃(r:By) (js:Ge),xs=[AM r,.lst (js.map λ(j:Nat)=>.int (j:Int))]/\js.length<=100/\(∀j∈js,j<r.length)/\K (AM (js.map λ(j:Nat)=>r.getD j 0))
theorem fQ(D:Ak K mg "picked" Jr)(T:TxtB mg):'E' "picked" 1 ["row","spots"] (AT Ss):=by
 refine A9 D eU (λ_ _ _ _ _ _ G d=>Bo d dF) (λxs K h=>?_) '3' (λn l A a s H E m=>⟨_,(AV (Ah (BW (λ_=>DG) DK 'K' nofun (AA (B5 (N:=["row","spots"]) (sc:=AR Jr) (N':=["spot","row"]) (qD:=[none,some 0]) '1' '3' dE (Bj dE (qv 1)) (Bp (k:=0) rfl (λ_=>show List.Nodup (["spot","row"]:At) from nofun)) C4 (Av 'J' Ax (qv 1) (qv 0) dF)) AE)))),λxs K h=>?_⟩)
 ·obtain⟨_,_,rfl,_⟩:=h;rfl
 ·obtain⟨r,c,rfl,d,g,h⟩:=h;simp![BM];refine⟨⋯,A5.map (λ(j:Nat)=>.int (r.getD j 0)) dF (λj f M i=>?_) ?_⟩
  ·simp![BM];refine⟨.int (r.getD j 0),Co ?_,i _⟩;rw[bO,bW,aH (g j f)];rfl
  ·simp![BM];have e:AM (c.map λ(j:Nat)=>r.getD j 0)=.tup (c.map λ(j:Nat)=>P.int (r.getD j 0)):=by
    show P.tup ((c.map _).map _)=_;rw[bZ];rfl
   rw[e]at h;exact h
def Su:pF:=λxs K=>∃t,xs=[Aa t]/\t.length<=63/\(∃n,∀q∈t,q.1.length=n)/\K (Aa (FZ (Bk t)))
def fR:pS:=λE J=>∃x a r c,J=[x,.own (DM a),.sh (AM r),.sh (.int c)]/\a.length<=100000/\E.nx [x,.own (DM (Ch a (r,c))),.sh (AM r),.sh (.int c)]
def fS:pS:=λE J=>∃t,J=[.sh (Aa t),.own (.dT [] []),.emp,.emp]/\t.length<=100000/\∀v1 v2,E.nx [.sh (Aa t),.own (DM (Bk t)),v1,v2]
theorem fU(D:Ak K mg "summed" Js)(T:TxtB mg):'E' "summed" 1 ["papers"] (AT Su):=by
 refine A9 D Jt (λ_ _ _ _ _ _ G B=>EY B dE) (λxs K h=>?_) '3' (λfa a1 A C s H E j=>?_)
 ·obtain⟨_,rfl,_⟩:=h;rfl
 ·have y:=FH j;refine⟨_,(AS (Ac (k:=1) (λ_=>Jt.nd) Lg)
 (AS (QS.weak (m:=fS) (FW 0 (B4 '7' dE (Bj dE (qv 0)) (Ep (ks:=[2,3]) dE dE (λ_=>(Bs (BF (i:=2) Jt.nd rfl (Or.inl rfl)) (Bs (BF (i:=3) Jt.nd rfl (Or.inl rfl)) Dt))) rfl)
 (An.weak (m:=fR) (AV (Lh (k:=1) (λ_=>y) (qv 2) (B0 (λ_=>Da) F4 (HX (λ_=>y) (qv 1) (qv 2) AW) (qv 3)))) ?g))) ?f)
 (AV (Ah (B5 (N:=["papers","counts","row","count"]) (sc:=AR Js) (N':=["row","counts"]) (qD:=[none,some 1]) '1' '3' dE (Bj dE (A4 (λ_=>(YE rfl)) YF (λ_=>T.b_sorted) nofun (AA (qv 1) AE))) (Bp (k:=0) rfl (λ_=>show List.Nodup (["row","counts"]:At) from nofun)) (EM (A8 (λ_=>IU) LO (HW (λ_=>y) (qv 1) (qv 0) dF) AW (Ap _))) (Bu (AA (qv 0) (AA (HW (λ_=>y) (qv 1) (qv 0) dF) AE)))))))),λxs K h=>?_⟩
  case g =>
   rintro E J ⟨x,a,r,c,rfl,B,h⟩;refine⟨⟨rfl,λ_ h=>nomatch h⟩,_,Cg r,KN _,rfl,?_⟩;rw[M3];refine⟨trivial,_,Cg r,ET rfl,by rw[aA];lia,?_⟩;rw[Qi];exact h
  case f =>
   rintro E J ⟨t,rfl,B,h⟩;refine⟨_,rfl,rfl,λi J=>∃o l,J=[.sh (Aa t),.own (DM ((t.take i).foldl Ch [])),o,l],⟨_,_,rfl⟩,λi ρ' x L ρ=>?_,λρ' ρ=>?_⟩
   ·obtain⟨o,l,rfl⟩:=ρ;rw[bO]at L;obtain⟨q,U,rfl⟩:=aJ.mp L;have v:=Jc (t.take i) [];have a0:(t.take i).length<=t.length:=by rw[aO];lia
    refine Hl ⟨_,_,q.1,q.2,rfl,by simp at v;lia,.sh (AM q.1),.sh (.int q.2),?_⟩;rw[bJ,U,foldl_append];rfl
   ·obtain⟨o,l,rfl⟩:=ρ;have:=h o l;rw[aZ (by rw[aA];exact aQ _)];exact this
  ·obtain⟨t,rfl,B,I,h⟩:=h;refine⟨t,rfl,⋯,λo l=>?_⟩;obtain⟨n,I⟩:=I;have v:(Bk t).length<=t.length:=by have:=Jc t [];simp only[length_nil,Nat.zero_add]at this;exact this
   refine⟨(Bk t).map (·.1),_,rfl,by rw[aA];lia,Sn (Ew t) (L4 I),λp us Q=>?_⟩
   ·have O:p.length=(Bk t).length:=by rw[us.length_eq,aA]
    have e:=Lv us Q;generalize Bk t=u at *;refine⟨_,rfl,'5',by rw[aA];lia,?_⟩;have get:∀r∈p,BE (u.map (·.1)) (u.map λq=>P.int q.2) r\(.int ((AY u r).getD 0)):=λr j=>by
     rw[JY];have σ:r∈u.map (·.1):=us.mem_iff.mp j;obtain⟨c,hc⟩:=Ql σ;rw[hc];rfl
    refine A5.filter (λr=>decide (0<(AY u r).getD 0)) (λr=>BH (r,(AY u r).getD 0)) (λr _ _=>'2') (λr j M d=>?_) ?_
    ·refine Au (C6 _) ⟨_,_,Cg r,get r j,trivial,_,rfl,BP (λz=>⟨_,_,Cg r,get r j,rfl,?_⟩) (λz=>?_)⟩
     ·have d:=d (CL [(AM r,.cl),(.int ((AY u r).getD 0),Fl.bo.el)]);rw[aC (~~~z)]at d;exact d
     ·have d:=d .nw;rw[aB (~~~z)]at d;exact d
    ·rw[e];have e2:((DN (u.map (·.1))).filter λr=>decide (0<(AY u r).getD 0)).map (λr=>BH (r,(AY u r).getD 0))=(FZ u).map BH:=by
      unfold FZ;rw[bZ];rfl
     rw[e2];exact⟨rfl,h⟩
def Sv:pF:=λxs K=>∃qI t qC,xs=[AO qI,Aa t,AO qC]/\Sh qI t qC/\t.length<=63/\K (Aa (FZ (Bk (A6 qI t qC))))
theorem fV(D:Ak K mg "shared" Ju)(T:TxtB mg)(o:'E' "places" 2 ["room","part"] (AT Sr))(m:'E' "picked" 1 ["row","spots"] (AT Ss))(l:'E' "summed" 1 ["papers"] (AT Su)):'E' "shared" 3 ["room","rows","part"] (AT Sv):=by
 refine A9 D Sb (λ_ _ _ _ _ _ G v=>GR v '8') (λxs K h=>?_) '3' (λC y A c s H E d=>⟨_,(AS (Ac (k:=3) (λ_=>Sb.nd) (Ad (λ_=>o) (λ_=>d.mq) (AA (qv 0) (AA (qv 2) AE)))) (AV (Ah (Ad (λ_=>l) (λ_=>d.mq) (AA (B5 (N:=["room","rows","part","spots"]) (sc:=AR Ju) (N':=["row","count","spots"]) (qD:=[none,none,some 3]) '1' '3' dE (Bj dE (qv 1)) (Ws (i:=0) (j:=1) rfl rfl dE dE (λ_=>(Bs (BF (i:=0) (show List.Nodup (["row","count","spots"]:At) from nofun) rfl (Or.inl rfl)) (Bs (BF (i:=1) (show List.Nodup (["row","count","spots"]:At) from nofun) rfl (Or.inl rfl)) Dt)))) C4 (Bu (AA (Ad (λ_=>m) (λ_=>d.mq) (AA (qv 0) (AA (qv 2) AE))) (AA (qv 1) AE)))) AE))))),λxs K h=>?_⟩)
 ·obtain⟨_,_,_,rfl,_⟩:=h;rfl
 ·obtain⟨qI,t,qC,rfl,a,u,h⟩:=h;have h1:=a.len;refine⟨qI,qC,rfl,⋯,a.sub,_,rfl,'5',by rw[aA];lia,A5.map (λq=>BH (AU qI q.1 qC,q.2)) (λ_ _=>HZ _) (λq f M g=>Hl ?_) ?_⟩
  ·have e:AU qI q.1 qC=(qC.map (dD qI)).map λ(j:Nat)=>q.1.getD j 0:=by unfold AU;rw[bZ];rfl
   have g:=g (CL [(AM (AU qI q.1 qC),.nw),(.int q.2,.cl)]);refine⟨q.1,qC.map (dD qI),rfl,by rw[aA];lia,λj x=>?_,rfl,?_⟩
   ·obtain⟨n,r,rfl⟩:=bU.mp x;rw[a.rows q f];exact EQ (a.sub n r)
   ·rw[<-e];exact g
  ·refine⟨A6 qI t qC,by unfold A6;rw[Aa,bZ];rfl,by rw[Je];exact u,⟨qC.length,λq f=>?_⟩,MW,h⟩;obtain⟨p,B,rfl⟩:=bU.mp f;exact Jd _ _ _
def Sw:pF:=λxs K=>∃qI t qC,xs=[AO qI,Aa t,AO qC]/\Sh qI t qC/\t.length<=63/\K (Aa (BX qI t qC))
def fW:pS:=λE J=>∃qI t qC a r c x,J=[.sh (AO qI),.sh (Aa t),.sh (AO qC),.own (DM a),.sh (AM r),.sh (.int c),x]/\a.length<=100000/\qC.length<=100/\r.length=qI.length/\(∀n∈qC,n∈qI)/\∀y,E.nx [.sh (AO qI),.sh (Aa t),.sh (AO qC),.own (DM (Ch a (AU qI r qC,c))),.sh (AM r),.sh (.int c),y]
def fX:pS:=λE J=>∃qI t qC,J=[.sh (AO qI),.sh (Aa t),.sh (AO qC),.own (.dT [] []),.emp,.emp,.emp]/\Sh qI t qC/\∀x y z,E.nx [.sh (AO qI),.sh (Aa t),.sh (AO qC),.own (DM (Bk (A6 qI t qC))),x,y,z]
theorem fY(D:Ak K mg "_law_portion" Mv)(T:TxtB mg)(N:'E' "_law_row_of" 1 ["_law_room","_law_row","_law_part"] (AT M4))(M:'E' "_law_settled" 1 ["_law_counts"] (AT Sq)):'E' "_law_portion" 2 ["_law_room","_law_rows","_law_part"] (AT Sw):=by
 refine A9 D Hx (λ_ _ _ _ _ _ G L=>GR L '8') (λxs K h=>?_) '3' (λfa σ A l s H E o=>?_)
 ·obtain⟨_,_,_,rfl,_⟩:=h;rfl
 ·have I:=FH o;refine⟨_,(AS (Ac (k:=3) (λ_=>Hx.nd) Lg)
 (AS (QS.weak (m:=fX) (FW 1 (B4 '7' dE (Bj dE (qv 1)) (Ep (ks:=[4,5]) dE dE (λ_=>(Bs (BF (i:=4) Hx.nd rfl (Or.inl rfl)) (Bs (BF (i:=5) Hx.nd rfl (Or.inl rfl)) Dt))) rfl)
 (An.weak (m:=fW) (AS (Ac (k:=6) (λ_=>Hx.nd) (Ad (λ_=>N) (λ_=>o.mq) (AA (qv 0) (AA (qv 4) (AA (qv 2) AE)))))
 (AV (Lh (k:=3) (λ_=>I) (qv 6) (B0 (λ_=>Da) F4 (HX (λ_=>I) (qv 3) (qv 6) AW) (qv 5))))) ?f))) ?d)
 (AV (Ah (Ad (λ_=>M) (λ_=>o.mq) (AA (qv 3) AE)))))),λxs K h=>?_⟩
  case f =>
   rintro E J ⟨qI,t,qC,a,r,c,x,rfl,L,O,n,j,h⟩;refine⟨qI,r,qC,rfl,O,n,j,Au (C6 _) ⟨⟨rfl,λ_ h=>nomatch h⟩,_,Cg _,KN _,rfl,?_⟩⟩;rw[M3];refine⟨trivial,_,Cg _,ET (x:=.int _) rfl,by rw[aA];lia,?_⟩;rw[Qi];exact h _
  case d =>
   rintro E J ⟨qI,t,qC,rfl,g,h⟩;refine⟨_,rfl,rfl,λi J=>∃x y z,J=[.sh (AO qI),.sh (Aa t),.sh (AO qC),.own (DM ((A6 qI (t.take i) qC).foldl Ch [])),x,y,z],⟨_,_,_,rfl⟩,λi ρ' x us u=>?_,λρ' u=>?_⟩
   ·obtain⟨C,B,v,rfl⟩:=u;rw[bO]at us;obtain⟨q,ρ,rfl⟩:=aJ.mp us;have p:=Jc (A6 qI (t.take i) qC) [];have U:(A6 qI (t.take i) qC).length<=t.length:=by unfold A6;rw[aA,aO];lia
    have hf:=g.few;refine Hl ⟨qI,t,qC,_,q.1,q.2,_,rfl,by simp at p;lia,g.len,g.rows q (aM ρ),g.sub,λy=>⟨.sh (AM q.1),.sh (.int q.2),y,?_⟩⟩;have e:A6 qI (t.take (i+1)) qC=A6 qI (t.take i) qC++[(AU qI q.1 qC,q.2)]:=by
     unfold A6;rw[bJ,ρ,cN];rfl
    rw[e,foldl_append];rfl
   ·obtain⟨C,B,v,rfl⟩:=u;have:=h C B v;rw[aZ (by rw[aA];exact aQ _)];exact this
  ·obtain⟨qI,t,qC,rfl,g,Q,h⟩:=h;exact⟨qI,t,qC,rfl,g,λx y z=>⟨_,rfl,aR (L3 _) (by rw[Je];exact Q),Ew _,⟨_,L4 (RB qI t qC)⟩,MW,h⟩⟩
end
section
variable{K:Fg}
abbrev Bw(T:At):P:=.lst (T.map P.str)
abbrev EW(p:At)(t:Tl):P:=.tup [AO p,Aa t]
abbrev E3(ps:List At)(k b:Nat):P:=.lst ((List.range ps.length).map λi=>EW (ps.getD i []) (Aj k b (Ar i)))
theorem KQ(h:i<row.length):atI (row.map P.str) (i:Int)\(.str (gt row i)):=Co (j:=i) (by rw[bO,aH h,Ba h];rfl)
theorem Sx(h:i<row.length):atI (row.map P.str) ((i:Int) - 1)\(.str (gt row (Af row.length i))):=by
 unfold Af;by_cases z:i=0
 ·rw[aC z,z];unfold atI EC;rw[aA,aB ⋯,aC ⋯,show((((0:Nat):Int) - 1+(row.length:Int)).toNat)=row.length - 1 by lia];show(row.map P.str)[row.length - 1]?=_;rw[bO,aH ⋯,Ba ⋯];rfl
 ·rw[aB z,show(i:Int) - 1=((i - 1:Nat):Int) by lia];exact KQ ⋯
theorem fZ(p:At)(t:Tl):As (EW p t) (CL [(AO p,f),(Aa t,.nw)])=.nw:=by
 show As _ ((As (AO p) f).join ((As (Aa t) .nw).join .nw))=.nw;rw[ET (Cj p)];rfl
theorem Sy{α:Type}(f:Nat->α)(d:α)(h:i<n):((List.range n).map f).getD i d=f i:=by
 rw[bW,bO,getElem?_range h];rfl
def Sz:pF:=λxs K=>∃l:At,xs=[Bw l]/\l.length<=60/\K (E3 (DS l) 2 2)
abbrev GN(l:At)(n:Nat)(a b c:S):dI:=[.sh (Bw l),.own (.lst ((List.range n).map λi=>EW (Bi (gt l (Af l.length i)) (gt l i)) (Aj 2 2 (Ar i)))),a,b,c]
def fc:pS:=λE J=>∃(l:At) (n:Nat) (b c:S),l.length<=60/\n<l.length/\J=GN l n (.sh (.int (n:Int))) b c/\∀b c,E.nx (GN l (n+1) (.sh (.int (n:Int))) b c)
def fe:pS:=λE J=>∃l:At,l.length<=60/\J=GN l 0 .emp .emp .emp/\∀a b c,E.nx (GN l l.length a b c)
theorem ff:Aj 2 2 1=[([0,1],1),([1,0],1)]:=by decide
theorem fg:Aj 2 2 0=[([0,0],1),([1,1],1)]:=by decide
theorem fh(D:Ak K mg "ring_pieces" Mk)(T:TxtB mg):'E' "ring_pieces" 1 ["names"] (AT Sz):=by
 refine A9 D Ht (λ_ _ _ _ _ _ G g=>EY g dE) (λxs K h=>?_) '3' (λI us A o s H E B=>⟨_,(AS (Ac (k:=1) (λ_=>Ht.nd) (B1 AE)) (AS (QS.weak (m:=fe) (B4 '7' dE (EL (λ_=>T.b_range) (AA (A4 (λ_=>CM) CN 'I' nofun (AA (qv 0) AE)) AE)) (C3 (k:=2) (λ_=>Ht.nd)) (An.weak (m:=fc) (AS (Ac (k:=3) (λ_=>Ht.nd) (BW (λ_=>DG) DK 'K' nofun (AA (A4 (λ_=>(Gw trivial)) HP (λ_=>T.b_sorted) nofun (AA (B1 (AA (Av 'J' Ax (qv 0) (B0 (λ_=>EB) FR (qv 2) AW) dF) (AA (Av 'J' Ax (qv 0) (qv 2) dF) AE))) AE)) AE))) (AS (Ac (k:=4) (λ_=>Ht.nd) (LI (A8 (λ_=>(Cd B)) Ce (qv 2) AW (Ap _)) AW AW)) (AV (FV (k:=1) dE (Bu (AA (qv 3) (AA (B1 (AA (Bu (AA (Bu (AA AW (AA (qv 4) AE))) (AA AW AE))) (AA (Bu (AA (Bu (AA AW (AA (B0 (λ_=>EB) FR AW (qv 4)) AE))) (AA AW AE))) AE))) AE))))))) ?f)) ?d) (AV (Ah (qv 1))))),λxs K h=>?_⟩)
 case f =>
  rintro E J ⟨l,n,b,c,g,j,rfl,h⟩;refine⟨trivial,_,Sx j,_,KQ j,rfl,[gt l (Af l.length n),gt l n],rfl,'2',λss C y=>?_⟩;obtain rfl:ss=Bi (gt l (Af l.length n)) (gt l n):=Hd (C.trans (Mh _ _).symm) (GG y) (SY _ _);have r:∀(u:Tl) (c:S),Aj 2 2 (Ar n)=u->E.nx [.sh (Bw l),.own (.lst (((List.range n).map λi=>EW (Bi (gt l (Af l.length i)) (gt l i)) (Aj 2 2 (Ar i)))++[EW (Bi (gt l (Af l.length n)) (gt l n)) u])),.sh (.int (n:Int)),.sh (AO (Bi (gt l (Af l.length n)) (gt l n))),c]:=λu c e=>by
   have:=h (.sh (AO (Bi (gt l (Af l.length n)) (gt l n)))) c;rw[GN,range_succ,cN,map_cons,map_nil,e]at this;exact this
  have it:∀(t:Tl),As (EW (Bi (gt l (Af l.length n)) (gt l n)) t) ((As (AO (Bi (gt l (Af l.length n)) (gt l n))) .cl).join .nw)=.nw:=λt=>by rw[ET (Cj _)];rfl
  refine Au (Cj _) ⟨⟨rfl,rfl⟩,_,rfl,BP (λz=>?_) λz=>?_⟩
  ·rw[Cs]at z;have z:n=0:=by have:=aL z;lia
   exact⟨rfl,rfl,trivial,rfl,rfl,rfl,rfl,it [([0,1],1),([1,0],1)],by rw[aA,bG];lia,r [([0,1],1),([1,0],1)] (.sh (.int 1)) (by rw[z];exact ff)⟩
  ·rw[Cs]at z;have z:n≠0:=λe=>z (aK ⋯);exact⟨rfl,rfl,trivial,rfl,rfl,rfl,rfl,it [([0,0],1),([1,1],1)],by rw[aA,bG];lia,r [([0,0],1),([1,1],1)] (.sh (.int 0)) (by rw[show Ar n=0 from aB z];exact fg)⟩
 case d =>
  rintro E J ⟨l,g,rfl,h⟩;refine⟨_,_,rfl,⋯,by rw[aA];lia,rfl,λn J=>n<=l.length/\∃a b c,J=GN l n a b c,⟨cD _,_,_,_,rfl⟩,λn ρ' x v q=>?_,λρ' q=>?_⟩
  ·obtain⟨j,a,b,c,rfl⟩:=q;obtain⟨p,rfl⟩:=Dg v;rw[Int.toNat_natCast,aA]at p;rw[Int.zero_add];exact Au rfl ⟨l,n,b,c,g,p,rfl,λb c=>⟨p,_,b,c,rfl⟩⟩
  ·obtain⟨j,a,b,c,rfl⟩:=q;rw[Df,Int.toNat_natCast,aA];exact h a b c
 ·obtain⟨_,rfl,_⟩:=h;rfl
 ·obtain⟨l,rfl,g,h⟩:=h;refine⟨rfl,l,g,rfl,λa b c=>⟨rfl,?_⟩⟩;have e:E3 (DS l) 2 2=.lst ((List.range l.length).map λi=>EW (Bi (gt l (Af l.length i)) (gt l i)) (Aj 2 2 (Ar i))):=by
   unfold DS E3;rw[aA,bG];exact aT P.lst (cF λi hi=>by rw[Sy _ _ (bH.mp hi)])
  rw[e]at h;exact h
def S0:pF:=λxs K=>∃k b:Nat,xs=[.int (k:Int),.int (b:Int)]/\k<=10/\b<=10/\b ^ k<=10000/\K (.lst ((A1 k b).map AM))
def fj:pS:=λE J=>∃(k b i:Nat) (x:S),i<k/\k<=10/\b<=10/\b ^ i<=10000/\J=[.sh (.int (k:Int)),.sh (.int (b:Int)),.own (.lst ((A1 i b).map AM)),x]/\E.nx [.sh (.int (k:Int)),.sh (.int (b:Int)),.own (.lst ((A1 (i+1) b).map AM)),x]
def fk:pS:=λE J=>∃(k b:Nat),k<=10/\b<=10/\b ^ k<=10000/\J=[.sh (.int (k:Int)),.sh (.int (b:Int)),.own (.lst [.tup []]),.emp]/\∀x,E.nx [.sh (.int (k:Int)),.sh (.int (b:Int)),.own (.lst ((A1 k b).map AM)),x]
theorem fm{b k:Nat}(h:i<=k)(a:b ^ k<=n)(c:1<=n):b ^ i<=n:=by
 rcases Nat.eq_zero_or_pos b with z|z
 ·subst z;rcases Nat.eq_zero_or_pos i with y|y
  ·subst y;exact c
  ·rw[Nat.zero_pow y];lia
 ·exact aR (Nat.pow_le_pow_right z h) a
theorem fq(D:Ak K mg "answer_rows" Jv)(T:TxtB mg):'E' "answer_rows" 1 ["many","base"] (AT S0):=by
 refine A9 D Jw (λ_ _ _ _ _ _ G q=>Bo q dF) (λxs K h=>?_) '3' (λv u A g s H E n=>⟨_,(AS (Ac (k:=2) (λ_=>Jw.nd) (B1 (AA (Bu AE) AE))) (AS (QS.weak (m:=fk) (B4 '7' dE (EL (λ_=>T.b_range) (AA (qv 0) AE)) (C3 (k:=3) (λ_=>Jw.nd)) (An.weak (m:=fj) (AV (cY (k:=2) (i1:=0) (i2:=1) (i3:=2) (j:=1) (N:=["many","base","rows","step"]) (sc:=AR Jv) (N':=["row","answer","base"]) (qD:=[none,none,some 1]) (λ_=>Jw.nd) '1' dE (λ_=>T.b_range) rfl rfl '3' rfl (Bj dE (qv 2)) nofun rfl rfl rfl)) ?c)) ?a) (AV (Ah (qv 2))))),λxs K h=>?_⟩)
 case c =>
  rintro E J ⟨k,b,i,x,hi,e,f,d,rfl,h⟩;refine⟨_,rfl,nofun,A1 i b,b,rfl,rfl,⋯,by rw[MZ];exact d,λr n=>by rw[(DO n).1];lia,?_⟩;exact h
 case a =>
  rintro E J ⟨k,b,e,f,d,rfl,h⟩;refine⟨_,_,rfl,⋯,⋯,rfl,λi J=>∃x,J=[.sh (.int (k:Int)),.sh (.int (b:Int)),.own (.lst ((A1 i b).map AM)),x],⟨_,rfl⟩,λi ρ' x p l=>?_,λρ' l=>?_⟩
  ·obtain⟨x,rfl⟩:=l;obtain⟨o,rfl⟩:=Dg p;rw[Int.toNat_natCast]at o;exact Au rfl ⟨k,b,i,_,o,e,f,fm ⋯ d '3',rfl,_,rfl⟩
  ·obtain⟨x,rfl⟩:=l;rw[Df,Int.toNat_natCast];exact h x
 ·obtain⟨_,_,rfl,_⟩:=h;rfl
 ·obtain⟨k,b,rfl,e,f,d,h⟩:=h;exact⟨rfl,rfl,k,b,e,f,d,rfl,λx=>⟨rfl,h⟩⟩
def S1:pF:=λxs K=>∃k:Nat,xs=[.int (k:Int)]/\2<=k/\k<=5/\K (.int (dM k:Int))
theorem ft(D:Ak K mg "least_divisor" Ml)(T:TxtB mg):'E' "least_divisor" 1 ["number"] (AT S1):=by
 refine A9 D Mm (λ_ _ _ _ _ _ G g=>EY g dE) (λxs K h=>?_) '3' (λn i A a s H E f=>⟨_,(AS (Ac (k:=1) (λ_=>Mm.nd) AW) (AS (Wn '7' (A8 (λ_=>(Dj f)) Dk (B0 (λ_=>Ef) PY (qv 0) (qv 1)) AW (Ap _)) (AV (Xa (k:=1) (λ_=>NL) (λ_=>Mm.nd) AW))) (AV (Ah (qv 1))))),λxs K h=>?_⟩)
 ·obtain⟨_,rfl,_⟩:=h;rfl
 ·obtain⟨k,rfl,h2,l,h⟩:=h;refine⟨λm J=>∃b:Nat,m=10 - b/\2<=b/\b<=dM k/\J=[.sh (.int (k:Int)),.sh (.int (b:Int))],⟨8,2,rfl,'3',?_,rfl⟩,?_⟩
  ·unfold dM;split<;>lia
  ·rintro m ρ' ⟨b,rfl,p,bk,rfl⟩;have c:k=2\/k=3\/k=4\/k=5:=⋯;have j:dM k<=5:=by unfold dM;split<;>lia
   refine⟨by show(0:Int)<b;lia,⟨rfl,rfl⟩,_,rfl,BP (λz=>?_) λz=>?_⟩
   ·rw[Cs]at z;have z:¬(k:Int) % (b:Int)=0:=by simpa using z
    have o:b<dM k:=by
     refine Nat.lt_of_le_of_ne bk λe=>z ?_;rw[e];rcases c with rfl|rfl|rfl|rfl<;>decide
    exact⟨λJ=>J=[.sh (.int (k:Int)),.sh (.int ((b:Int)+1))],λd e=>⟨10 - (b+1),⋯,b+1,rfl,⋯,⋯,by rw[e];rfl⟩,⟨1,rfl,rfl⟩⟩
   ·rw[Cs]at z;have z:(k:Int) % (b:Int)=0:=by simpa using z
    have e:b=dM k:=by
     rcases c with rfl|rfl|rfl|rfl
     ·have:=bk;unfold dM at *;simp at *;lia
     ·have:b=2\/b=3:=by simp[dM]at bk;lia
      rcases this with rfl|rfl
      ·exact bS z '3'
      ·rfl
     ·have:=bk;unfold dM at *;simp at *;lia
     ·have:b=2\/b=3\/b=4\/b=5:=by simp[dM]at bk;lia
      rcases this with rfl|rfl|rfl|rfl
      ·exact bS z '3'
      ·exact bS z '3'
      ·exact bS z '3'
      ·rfl
    rw[<-e]at h;exact⟨rfl,h⟩
end
section
variable{K:Fg}
theorem GO{α a:Type}(f:α->a)(l:List α)(lo hi:Option Int):cut (l.map f) lo hi=(cut l lo hi).map f:=by
 unfold cut;rw[aA,map_take,map_drop]
theorem S2{α:Type}(l:List α)(n:Nat):cut l (some (n:Int)) none=l.drop n:=by
 unfold cut;rw[show HT.dB l.length l.length none=l.length by simp[HT.dB],show HT.dB l.length 0 (some (n:Int))=min n l.length by simp only[HT.dB];rw[aB ⋯];lia];rw[aZ (by rw[length_drop];lia)];rcases cE n l.length with q|q
 ·rw[Nat.min_eq_left ⋯]
 ·rw[Nat.min_eq_right q,drop_length,drop_of_length_le q]
theorem S3{α:Type}(l:List α)(n:Nat):cut l none (some (n:Int))=l.take n:=by
 unfold cut;rw[show HT.dB l.length 0 none=0 by simp[HT.dB],show HT.dB l.length l.length (some (n:Int))=min n l.length by simp only[HT.dB];rw[aB ⋯];lia];rw[drop_zero,Nat.sub_zero];rcases cE n l.length with q|q
 ·rw[Nat.min_eq_left ⋯]
 ·rw[Nat.min_eq_right q,take_length,aZ q]
theorem M5(f:Fl)(l:At):BC f (l.map P.str)=.nw:=by unfold BC;rw[aC (Iq l)]
def S4:pF:=λxs K=>∃l:At,xs=[Bw l]/\3<=l.length/\l.length<=6/\K (E3 (DT l) (l.length - 1) (dM (l.length - 1)))
abbrev E4(l:At)(k b n:Nat)(x y z:S):dI:=[.sh (Bw l),.sh (.int (k:Int)),.sh (.int (b:Int)),.own (.lst ((A1 k b).map AM)),.own (.lst ((List.range n).map λi=>EW (l.eraseIdx i) (Aj k b (Ar i)))),x,y,z]
structure ApOk(l:At)(k b:Nat):Prop where
 l6:l.length<=6
 b2:2<=b
 p:b ^ k<=10000
def fu:pS:=λE J=>∃(l:At) (k b n:Nat) (y z:S),ApOk l k b/\n<l.length/\J=E4 l k b n (.sh (.int (n:Int))) y z/\∀y z,E.nx (E4 l k b (n+1) (.sh (.int (n:Int))) y z)
def fw:pS:=λE J=>∃(l:At) (k b n:Nat),ApOk l k b/\n<l.length/\J=E4 l k b n (.sh (.int (n:Int))) (.sh (AO (l.eraseIdx n))) (.sh (.int (Ar n)))/\∀y z,E.nx (E4 l k b (n+1) (.sh (.int (n:Int))) y z)
def fx:pS:=λE J=>∃(l:At) (k b:Nat),ApOk l k b/\J=E4 l k b 0 .emp .emp .emp/\∀x y z,E.nx (E4 l k b l.length x y z)
theorem fy(D:Ak K mg "allbut_pieces" Jx)(T:TxtB mg)(L:'E' "least_divisor" 1 ["number"] (AT S1))(ρ:'E' "answer_rows" 1 ["many","base"] (AT S0)):'E' "allbut_pieces" 2 ["names"] (AT S4):=by
 refine A9 D Ez (λ_ _ _ _ _ _ G U=>EY U dE) (λxs K h=>?_) '3' (λfa σ A q s H E j=>⟨_,(AS (Ac (k:=1) (λ_=>Ez.nd) (B0 (λ_=>EB) FR (A4 (λ_=>CM) CN 'I' nofun (AA (qv 0) AE)) AW)) (AS (Ac (k:=2) (λ_=>Ez.nd) (Ad (λ_=>L) (λ_=>j.mq) (AA (qv 1) AE))) (AS (Ac (k:=3) (λ_=>Ez.nd) (Ad (λ_=>ρ) (λ_=>j.mq) (AA (qv 1) (AA (qv 2) AE)))) (AS (Ac (k:=4) (λ_=>Ez.nd) (B1 AE)) (AS (QS.weak (m:=fx) (B4 '7' dE (EL (λ_=>T.b_range) (AA (A4 (λ_=>CM) CN 'I' nofun (AA (qv 0) AE)) AE)) (C3 (k:=5) (λ_=>Ez.nd)) (An.weak (m:=fu) (AS (Ac (k:=6) (λ_=>Ez.nd) (BW (λ_=>DG) DK 'K' nofun (AA (B0 (λ_=>HM) JI (JQ dE (qv 0) JO (JP (qv 5))) (JQ dE (qv 0) (JP (B0 (λ_=>Da) F4 (qv 5) AW)) JO)) AE))) (AS (Ac (k:=7) (λ_=>Ez.nd) (LI (A8 (λ_=>(Cd j)) Ce (qv 5) AW (Ap _)) AW AW)) (An.weak (m:=fw) (AV (FV (k:=4) dE (Bu (by exact(AA (qv 6) (AA (B5 (N:=["names","many","base","rows","pieces","at","part","rest"]) (sc:=AR Jx) (N':=["row","rest","base"]) (qD:=[none,some 7,some 2]) '1' '3' dE (Bj dE (qv 3)) (Bp (k:=0) rfl (λ_=>show List.Nodup (["row","rest","base"]:At) from nofun)) (EM (A8 (λ_=>(Cd j)) Ce (B0 (λ_=>Ef) PY (A4 (λ_=>(cZ rfl)) ci (λ_=>T.b_sum) nofun (AA (qv 0) AE)) (qv 2)) (qv 1) (Ap _))) (Bu (AA (qv 0) (AA AW AE)))) AE)))))) ?a))) ?f)) ?d) (AV (Ah (qv 4)))))))),λxs K h=>?_⟩)
 case a =>
  rintro E J ⟨l,k,b,n,ok,o,rfl,h⟩;have I:=ok.b2;have l6:=ok.l6;have e:((A1 k b).filter λr=>decide (r.sum % (b:Int)=Ar n)).map (λr=>BH (r,1))=(Aj k b (Ar n)).map BH:=by unfold Aj;rw[bZ];rfl
  refine⟨_,rfl,nofun,by rw[aA,MZ];have:=ok.p;lia,A5.filter (λr=>decide (r.sum % (b:Int)=Ar n)) (λr=>BH (r,1)) (λr _ _=>'2') (λr j M g=>?_) ?_⟩
  ·have g:=g (CL [(AM r,.cl),(.int 1,.fr)]);refine Au (C6 _) ⟨r,rfl,by show(0:Int)<b;lia,⟨rfl,rfl⟩,_,rfl,BP (λz=>?_) λz=>?_⟩
   ·rw[Cs]at z;rw[aC (~~~z)]at g;exact⟨rfl,g⟩
   ·rw[Cs]at z;rw[aB (~~~z)]at g;exact g
  ·rw[e];refine⟨rfl,fZ (l.eraseIdx n) (Aj k b (Ar n)),by rw[aA,bG];lia,?_⟩;have:=h (.sh (AO (l.eraseIdx n))) (.sh (.int (Ar n)));rw[E4,range_succ,cN,map_cons,map_nil]at this;exact this
 case f =>
  rintro E J ⟨l,k,b,n,y,z,ok,o,rfl,h⟩;have l6:=ok.l6;have us:cut (l.map P.str) none (some (n:Int))++cut (l.map P.str) (some ((n:Int)+1)) none=(l.eraseIdx n).map P.str:=by
   rw[GO,GO,S3,show((n:Int)+1)=((n+1:Nat):Int) by lia,S2,<-cN,<-eraseIdx_eq_take_drop_succ]
  have l1:=aT length us;rw[aG,aA]at l1;have l2:=length_eraseIdx_le l n;refine⟨trivial,⋯,?_⟩;rw[us];refine Au (Cj _) ⟨⟨rfl,rfl⟩,_,rfl,BP (λz=>?_) λz=>?_⟩
  ·rw[Cs]at z;have z:n=0:=by have:=aL z;lia
   exact⟨l,k,b,n,ok,o,by rw[z];rfl,h⟩
  ·rw[Cs]at z;have z:n≠0:=λe=>z (aK ⋯);exact⟨l,k,b,n,ok,o,by rw[show Ar n=0 from aB z];rfl,h⟩
 case d =>
  rintro E J ⟨l,k,b,ok,rfl,h⟩;have l6:=ok.l6;refine⟨_,_,rfl,⋯,by rw[aA];lia,rfl,λn J=>n<=l.length/\∃x y z,J=E4 l k b n x y z,⟨cD _,_,_,_,rfl⟩,λn ρ' x Q v=>?_,λρ' v=>?_⟩
  ·obtain⟨o,x,y,z,rfl⟩:=v;obtain⟨u,rfl⟩:=Dg Q;rw[Int.toNat_natCast,aA]at u;rw[Int.zero_add];exact Au rfl ⟨l,k,b,n,y,z,ok,u,rfl,λb c=>⟨u,_,b,c,rfl⟩⟩
  ·obtain⟨o,x,y,z,rfl⟩:=v;rw[Df,Int.toNat_natCast,aA];exact h x y z
 ·obtain⟨_,rfl,_⟩:=h;rfl
 ·obtain⟨l,rfl,l3,l6,h⟩:=h;have O:((l.map P.str).length:Int) - 1=((l.length - 1:Nat):Int):=by rw[aA];lia
  refine⟨trivial,?_⟩;show A0 1 (.int (((l.map P.str).length:Int) - 1)) .fr _ _;rw[O];have B:∀{M:Nat->Prop},M 2->M 3->M 4->M 5->M (l.length - 1):=λ{M} h2 h3 h4 h5=>by
   have:l.length - 1=2\/l.length - 1=3\/l.length - 1=4\/l.length - 1=5:=⋯;rcases this with e|e|e|e<;>rw[e]<;>assumption
  have b9:dM (l.length - 1)<=10:=B (M:=λk=>dM k<=10) '3' '3' '3' '3';have I:2<=dM (l.length - 1):=B (M:=λk=>2<=dM k) '3' '3' '3' '3';have C:dM (l.length - 1) ^ (l.length - 1)<=10000:=B (M:=λk=>dM k ^ k<=10000) '3' '3' '3' '3';refine Au rfl ⟨l.length - 1,rfl,⋯,⋯,l.length - 1,dM (l.length - 1),rfl,⋯,b9,C,rfl,l,_,_,⟨l6,I,C⟩,rfl,λx y z=>⟨rfl,?_⟩⟩;have e:E3 (DT l) (l.length - 1) (dM (l.length - 1))=.lst ((List.range l.length).map λi=>EW (l.eraseIdx i) (Aj (l.length - 1) (dM (l.length - 1)) (Ar i))):=by
   unfold DT E3;rw[aA,bG];exact aT P.lst (cF λi hi=>by rw[Sy _ _ (bH.mp hi)])
  rw[e]at h;exact h
end
section
variable{K:Fg}
def S5:pF:=λxs K=>∃(qI qC:At) (t:Tl),xs=[AO qI,AO qC,Aa t]/\qI.length<=20/\qC.length<=20/\qC.Nodup/\t.length<=1000/\(∀q∈t,q.1.length=qC.length)/\K (Aa (Ck qI qC t))
abbrev GP(qI qC:At)(t u:Tl)(x y z:S):dI:=[.sh (AO qI),.sh (AO qC),.sh (Aa t),.own (Aa u),x,y,z]
def f4:pS:=λE J=>∃(qI qC:At) (t u:Tl) (r:By) (c:Int) (z:S),qI.length<=20/\qC.length<=20/\qC.Nodup/\u.length<=1000/\r.length=qC.length/\J=GP qI qC t u (.sh (AM r)) (.sh (.int c)) z/\∀z,E.nx (GP qI qC t (u++[(BZ qI qC r,c)]) (.sh (AM r)) (.sh (.int c)) z)
def f5:pS:=λE J=>∃(qI qC:At) (t:Tl),qI.length<=20/\qC.length<=20/\qC.Nodup/\t.length<=1000/\(∀q∈t,q.1.length=qC.length)/\J=GP qI qC t [] .emp .emp .emp/\∀x y z,E.nx (GP qI qC t (Ck qI qC t) x y z)
theorem f6{κ:Type}[DecidableEq κ]{ks:List κ}{k:κ}(h:k∉ks):BE ks xs k=none:=by
 induction ks generalizing xs with
 |nil=>rfl
 |cons a ks c =>
  cases xs with
  |nil=>rfl
  |cons x xs =>
   simp only[BE];rw[aB (λe=>h (by rw[e];exact cA)),c λz=>h (bT _ z)]
theorem f7(nd:qC.Nodup)(a:r.length=qC.length)(n:Str):(BE qC (r.map P.int) n).getD (.int 0)=.int (if n∈qC then r.getD (dD qC n) 0 else 0):=by
 have e:r.map P.int=qC.map λn=>P.int (r.getD (dD qC n) 0):=by
  conv=>lhs;rw[<-GH nd a]
  unfold AU;rw[bZ];rfl
 rw[e];by_cases h:n∈qC
 ·rw[Jl (λn=>P.int (r.getD (dD qC n) 0)) h,aC h];rfl
 ·rw[f6 h,aB h];rfl
theorem f8(D:Ak K mg "stretched" Jy)(T:TxtB mg):'E' "stretched" 1 ["room","part","rows"] (AT S5):=by
 refine A9 D Hu (λ_ _ _ _ _ _ G a=>GR a '8') (λxs K h=>?_) '3' (λρ us A g s H E B=>?_)
 ·obtain⟨_,_,_,rfl,_⟩:=h;rfl
 have v:=FH B;refine⟨_,(AS (Ac (k:=3) (λ_=>Hu.nd) (B1 AE)) (AS (QS.weak (m:=f5) (FW 2 (B4 '7' dE (Bj dE (qv 2)) (Ep (ks:=[4,5]) dE dE (λ_=>(Bs (BF (i:=4) Hu.nd rfl (Or.inl rfl)) (Bs (BF (i:=5) Hu.nd rfl (Or.inl rfl)) Dt))) rfl) (An.weak (m:=f4) (AS (Ac (k:=6) (λ_=>Hu.nd) (Q3 dE (λ_=>T.b_dict) (λ_=>T.b_zip) (AA (qv 1) (AA (qv 4) AE)))) (AV (FV (k:=3) dE (Bu (by exact(AA (BW (λ_=>DG) DK 'K' nofun (AA (B5 (N:=["room","part","rows","found","row","count","answers"]) (sc:=AR Jy) (N':=["name","answers"]) (qD:=[none,some 6]) '1' '3' dE (Er dE (qv 0)) (Bp (k:=0) rfl (λ_=>show List.Nodup (["name","answers"]:At) from nofun)) C4 (HX (λ_=>v) (qv 1) (qv 0) AW)) AE)) (AA (qv 5) AE))))))) ?f))) ?d) (AV (Ah (qv 3))))),λxs K h=>?_⟩
 case f =>
  rintro E J ⟨qI,qC,t,u,r,c,z,l1,l2,nd,l3,a,rfl,h⟩;refine⟨qC,r,rfl,rfl,nd,a.symm,⋯,_,rfl,nofun,by rw[aA];lia,A5.map (λn=>.int (if n∈qC then r.getD (dD qC n) 0 else 0)) dF (λn I M C=>Au rfl ⟨⟨rfl,λ_ h=>nomatch h⟩,Ip r,rfl,?_⟩) ?_⟩
  ·rw[f7 nd a];exact C _
  ·have e:qI.map (λn=>P.int (if n∈qC then r.getD (dD qC n) 0 else 0))=(BZ qI qC r).map P.int:=by unfold BZ;rw[bZ];rfl
   rw[e];refine⟨rfl,ET (HZ (BZ qI qC r,c)),by rw[aA];lia,?_⟩;have:=h (.own (.dK qC (r.map P.int)));rw[GP,show Aa (u++[(BZ qI qC r,c)])=.lst (u.map BH++[BH (BZ qI qC r,c)])from aT P.lst cN]at this;exact this
 case d =>
  rintro E J ⟨qI,qC,t,l1,l2,nd,l3,a,rfl,h⟩;refine⟨_,rfl,rfl,λi J=>∃x y z,J=GP qI qC t (Ck qI qC (t.take i)) x y z,⟨_,_,_,rfl⟩,λi ρ' x o j=>?_,λρ' j=>?_⟩
  ·obtain⟨x,y,z,rfl⟩:=j;rw[bO]at o;obtain⟨q,p,rfl⟩:=aJ.mp o;refine Hl ⟨qI,qC,t,Ck qI qC (t.take i),q.1,q.2,z,l1,l2,nd,by unfold Ck;rw[aA,aO];lia,a q (aM p),rfl,λz=>⟨.sh (AM q.1),.sh (.int q.2),z,?_⟩⟩;unfold Ck;rw[bJ,p,cN (l₂:=(some q).toList)];rfl
  ·obtain⟨x,y,z,rfl⟩:=j;rw[aA,take_length];exact h x y z
 ·obtain⟨qI,qC,t,rfl,l1,l2,nd,l3,a,h⟩:=h;exact⟨rfl,qI,qC,t,l1,l2,nd,l3,a,rfl,λx y z=>⟨rfl,h⟩⟩
theorem f9{k:Nat}{x:P}{K:dI->Prop}(q:K (J.set k (.sh x))):A0 k x .cl J K:=by unfold A0;split<;>exact q
def S6:pF:=λxs K=>∃(qI names:At) (ps:List At) (k b i:Nat) (p:At),xs=[AO qI,AO names,E3 ps k b]/\qI.length<=20/\qI.Nodup/\ps.length<=100/\(Aj k b (Ar i)).length<=63/\p.length=k/\BrnAt ps names k b qI i p/\K (Aa (DQ ps names k b qI))
theorem gA(D:Ak K mg "room_tally" Jz)(T:TxtB mg)(g:'E' "common" 1 ["one","other"] (AT ID))(l:'E' "within" 1 ["part","room"] (AT KO))(f:'E' "shared" 3 ["room","rows","part"] (AT Sv))(e:'E' "stretched" 1 ["room","part","rows"] (AT S5)):'E' "room_tally" 4 ["room","names","pieces"] (AT S6):=by
 refine A9 D Hv (λ_ _ _ _ _ _ G o=>GR o '8') (λxs K h=>?_) '3' (λB v A d s H E a=>⟨_,(AS (Ac (k:=3) (λ_=>Hv.nd) (Ad (λ_=>g) (λ_=>a.mq) (AA (qv 0) (AA (qv 1) AE)))) (AS (PV (k:=4) (λ_=>Hv.nd) (N:=["room","names","pieces","part","fits","piece","rows"]) (sc:=AR Jz) (N':=["pair","part"]) (qD:=[none,some 3]) '1' '3' dE (Bj dE (qv 2)) (Bp (k:=0) rfl (λ_=>show List.Nodup (["pair","part"]:At) from nofun)) (EM (C2 (Ad (λ_=>l) (λ_=>a.mq) (AA (qv 1) (AA (Av 'J' Ax (qv 0) AW dF) AE))))) (qv 0)) (AS (PD (Av 'J' Ax (qv 4) AW dF) (Ep (ks:=[5,6]) dE dE (λ_=>(Bs (BF (i:=5) Hv.nd rfl (Or.inl rfl)) (Bs (BF (i:=6) Hv.nd rfl (Or.inl rfl)) Dt))) rfl)) (AV (Ah (Ad (λ_=>e) (λ_=>a.mq) (AA (qv 0) (AA (qv 3) (AA (Ad (λ_=>f) (λ_=>a.mq) (AA (qv 5) (AA (qv 6) (AA (qv 3) AE)))) AE))))))))),λxs K h=>?_⟩)
 ·obtain⟨_,_,_,_,_,_,_,rfl,_⟩:=h;rfl
 ·obtain⟨qI,names,ps,k,b,i,p,rfl,l1,nd,l2,l3,u,A,h⟩:=h;have x:=Jf qI names;refine⟨qI,names,rfl,⋯,Au (Cj _) ⟨_,rfl,nofun,by rw[aA,bG];lia,A5.keep (λi=>(AN qI names).all λn=>decide (n∈ps.getD i [])) (λj y M c=>?_) ?_⟩⟩
  ·refine f9 ⟨_,CH _ _,AN qI names,ps.getD j [],rfl,⋯,_,rfl,BP (λz=>?_) λz=>?_⟩
   ·rw[aC z]at c;exact c
   ·rw[aB z]at c;exact c
  ·obtain⟨r,a⟩:=A.fit;have a:(List.range ps.length).filter (λi=>(AN qI names).all λn=>decide (n∈ps.getD i []))=i::r:=a;have ep:ps.getD i []=p:=by rw[bW,A.at_];rfl
   rw[a];have few:=L6 p (Aj k b (Ar i)) (AN qI names);refine⟨_,CH _ _,_,rfl,rfl,Au (Cj _) ⟨p,Aj k b (Ar i),AN qI names,by rw[ep];rfl,⟨⋯,A.sub,⋯,λq m=>by rw[(DO (Ey m).1).1,u]⟩,l3,?_⟩⟩;rw[Yp Mg];refine⟨qI,AN qI names,_,rfl,l1,⋯,nd.sublist filter_sublist,⋯,(L5 Mg ⋯).rows,MW,?_⟩;rw[A.eq]at h;exact h
def S7:pF:=λxs K=>∃(rs:List At) (wd:Str) (l:At) (ps:List At) (k b:Nat),xs=[.lst (rs.map AO),.tup [.str wd,Bw l]]/\rs.length<=100/\RmsOk rs/\l.length<=6/\Kno rs l ps k b/\b ^ (k - 1)<=63/\((wd=Str.ofString "ring"/\ps=DS l/\k=2/\b=2)\/(wd=Str.ofString "allbut"/\ps=DT l/\k=l.length - 1/\b=dM (l.length - 1)/\3<=l.length))/\K (.lst ((rs.map (DQ ps l k b)).map Aa))
def gB:pS:=λE J=>∃(rs:List At) (wd:Str) (l:At) (ps:List At) (k b:Nat),rs.length<=100/\RmsOk rs/\l.length<=6/\ps.length<=6/\Kno rs l ps k b/\b ^ (k - 1)<=63/\J=[.sh (.lst (rs.map AO)),.sh (.tup [.str wd,Bw l]),.sh (.str wd),.sh (Bw l),.own (E3 ps k b)]/\E.rt (.lst ((rs.map (DQ ps l k b)).map Aa))
theorem gC(D:Ak K mg "borne" J0)(T:TxtB mg)(j:'E' "ring_pieces" 1 ["names"] (AT Sz))(f:'E' "allbut_pieces" 2 ["names"] (AT S4))(e:'E' "room_tally" 4 ["room","names","pieces"] (AT S6)):'E' "borne" 5 ["rooms","told"] (AT S7):=by
 refine A9 D J1 (λ_ _ _ _ _ _ G n=>Bo n dF) (λxs K h=>?_) '3' (λx u A d s H E a=>⟨_,(AS (PD (qv 1) (Ep (ks:=[2,3]) dE dE (λ_=>(Bs (BF (i:=2) J1.nd rfl (Or.inl rfl)) (Bs (BF (i:=3) J1.nd rfl (Or.inr rfl)) Dt))) rfl)) (AS (Ac (k:=4) (λ_=>J1.nd) (LI (A8 (λ_=>(Cd a)) Ce (qv 2) FM (Ap _)) (Ad (λ_=>j) (λ_=>a.mq) (AA (qv 3) AE)) (Ad (λ_=>f) (λ_=>a.mq) (AA (qv 3) AE)))) (An.weak (m:=gB) (AV (Ah (B5 (N:=["rooms","told","word","names","pieces"]) (sc:=AR J0) (N':=["room","pieces","names"]) (qD:=[none,some 4,some 3]) '1' '3' dE (Bj dE (qv 0)) (Bp (k:=0) rfl (λ_=>show List.Nodup (["room","pieces","names"]:At) from nofun)) C4 (Ad (λ_=>e) (λ_=>a.mq) (AA (qv 0) (AA (BW (λ_=>DG) DK 'K' nofun (AA (qv 2) AE)) (AA (qv 1) AE))))))) ?c))),λxs K h=>?_⟩)
 case c =>
  rintro E J ⟨rs,g,l,ps,k,b,l1,R,l6,v,Kn,bm,rfl,h⟩;refine⟨_,rfl,nofun,by rw[aA];lia,A5.new (λr=>Aa (DQ ps l k b r)) (λr a M q=>?_) ⟨rfl,?_⟩⟩
  ·obtain⟨i,p,A⟩:=Kn.at a;exact Au (Cj _) ⟨r,l,ps,k,b,i,p,rfl,R.len r a,R.nd r a,⋯,by rw[Jn (by have:=Kn.b2;lia) (DR Kn.b2 i).1 (DR Kn.b2 i).2 Kn.k1];exact bm,Kn.len p (aM A.at_),A,q⟩
  ·rw[bZ]at h;exact h
 ·obtain⟨_,_,_,_,_,_,rfl,_⟩:=h;rfl
 ·obtain⟨rs,g,l,ps,k,b,rfl,l1,R,l6,Kn,bm,o,h⟩:=h;refine⟨_,rfl,rfl,Au rfl ⟨⟨rfl,rfl⟩,_,rfl,?_⟩⟩;rcases o with⟨rfl,rfl,rfl,rfl⟩|⟨rfl,rfl,rfl,rfl,l3⟩
  ·refine BP (λz=>⟨l,rfl,⋯,rs,_,l,_,_,_,l1,R,l6,by unfold DS;rw[aA,bG];exact l6,Kn,bm,rfl,h⟩) λz=>bS (by rw[JW];rfl) z
  ·refine BP (λz=>?_) λz=>⟨l,rfl,l3,l6,rs,_,l,_,_,_,l1,R,l6,by unfold DT;rw[aA,bG];exact l6,Kn,bm,rfl,h⟩;rw[JW]at z;exact bS (aL z) '3'
end
section
variable{K:Fg}
structure Bn(rs:List At)(ts:List Tl):Prop where
 len:ts.length=rs.length
 l8:rs.length<=8
 nd:∀r∈rs,r.Nodup
 sub:∃ns:At,ns.length<=6/\∀r∈rs,∀n∈r,n∈ns
 ok:∀(i:Nat) (r:At) (t:Tl),rs[i]?\r->ts[i]?\t->GoodT r.length t
 few:∀t∈ts,t.length<=63
 ag:∀(i j:Nat) (r s:At) (t u:Tl),rs[i]?\r->rs[j]?\s->ts[i]?\t->ts[j]?\u->BX r t (AN r s)=BX s u (AN r s)
 no:∀(U:At) (g:By),(∀r∈rs,∀n∈r,n∈U)->(∀(j:Nat) (r:At) (t:Tl),rs[j]?\r->ts[j]?\t->AU U g r∈t.map (·.1))->False
theorem Bn.l6(h:Bn rs ts){r:At}(a:r∈rs):r.length<=6:=by
 obtain⟨ns,l,s⟩:=h.sub;have:=(h.nd r a).length_le_of_subset (s r a);lia
abbrev Bm(rs:List At):P:=.lst (rs.map AO)
abbrev D6(ts:List Tl):P:=.lst (ts.map Aa)
def S8:pF:=λxs K=>∃qI t qB u,xs=[AO qI,Aa t,AO qB,Aa u]/\qI.length<=100/\qB.length<=100/\Tal qI.length t/\Tal qB.length u/\t.length<=63/\u.length<=63/\BX qI t (AN qI qB)=BX qB u (AN qI qB)/\K .non
theorem gD(D:Ak K mg "_law_bar" KD)(T:TxtB mg)(n:'E' "_law_both" 1 ["_law_one","_law_other"] (AT ID))(j:'E' "_law_portion" 2 ["_law_room","_law_rows","_law_part"] (AT Sw)):'E' "_law_bar" 3 ["_law_room","_law_rows","_law_other","_law_late"] (AT S8):=by
 refine A9 D Hz (λ_ _ _ _ _ _ G x=>ND x (λ_ _ _ _=>rfl)) (λxs K h=>?_) '3' (λC y A e s H E c=>?_)
 ·obtain⟨_,_,_,_,rfl,_⟩:=h;rfl
 ·have l:=FH c;refine⟨_,(AS (Ac (k:=4) (λ_=>Hz.nd) (Ad (λ_=>n) (λ_=>c.mq) (AA (qv 0) (AA (qv 2) AE))))
 (AS (Ac (k:=5) (λ_=>Hz.nd) (BW (λ_=>(Qv rfl c)) Qy (λ_=>T.b_dict) nofun (AA (Ad (λ_=>j) (λ_=>c.mq) (AA (qv 0) (AA (qv 1) (AA (qv 4) AE)))) AE)))
 (AS (Ac (k:=6) (λ_=>Hz.nd) (BW (λ_=>(Qv rfl c)) Qy (λ_=>T.b_dict) nofun (AA (Ad (λ_=>j) (λ_=>c.mq) (AA (qv 2) (AA (qv 3) (AA (qv 4) AE)))) AE)))
 (AS (Ac (k:=7) (λ_=>Hz.nd) (A4 (λ_=>(P5 rfl)) QR (λ_=>T.b_sorted) nofun (AA (B5 (N:=["_law_room","_law_rows","_law_other","_law_late","_law_part","_law_one","_law_two","_law_bad"]) (sc:=AR KD) (N':=["_law_row","_law_one","_law_two"]) (qD:=[none,some 5,some 6]) '1' '3' dE (Bj dE (B0 (λ_=>HM) JI (BW (λ_=>(Lk rfl)) Ln (λ_=>T.b_list) nofun (AA (qv 5) AE)) (BW (λ_=>(Lk rfl)) Ln (λ_=>T.b_list) nofun (AA (qv 6) AE)))) (Bp (k:=0) rfl (λ_=>show List.Nodup (["_law_row","_law_one","_law_two"]:At) from nofun)) (EM (A8 (λ_=>(Dj c)) Dk (HX (λ_=>l) (qv 1) (qv 0) AW) (HX (λ_=>l) (qv 2) (qv 0) AW) (Ap _))) (qv 0)) AE)))
 (AS (B3 (A8 (λ_=>(Cd c)) Ce (qv 7) (B1 AE) (Ap _))
 (AV (Ah Oo))
 B2)
 (AV (Ah (Av 'J' Ax (qv 7) AW dF)))))))),λxs K h=>?_⟩
  obtain⟨qI,t,qB,u,rfl,l1,l2,g,f,q,p,m,h⟩:=h;have B:=Jf qI qB;have i:Tal (AN qI qB).length (BX qI t (AN qI qB)):=L5 (Yr g) g.few;have us:=i.few;refine⟨qI,qB,rfl,⋯,Au (Cj _) ⟨qI,t,_,rfl,RD g ⋯ (CG _ _).1,q,_,rfl,⋯,?_⟩⟩;rw[RA i.nd];refine⟨qB,u,_,rfl,RD f ⋯ (CG _ _).2,p,_,rfl,by rw[<-m];lia,?_⟩;rw[<-m,RA i.nd];generalize BX qI t (AN qI qB)=a at *;refine⟨by rw[aA,aA];lia,_,rfl,by rw[cI];nofun,by rw[aG,aA,aA];lia,?_⟩;rw[<-cN];refine A5.filter (λr=>decide ((AY a r).getD 0≠(AY a r).getD 0)) AM (λ_ _ _=>C6 _) (λr _ M d=>Au (C6 _) ⟨⟨rfl,λ_ h=>nomatch h⟩,_,Cg r,KN _,rfl,⟨rfl,λ_ h=>nomatch h⟩,_,Cg r,KN _,rfl,?_⟩) ?_
  ·have d:=d .cl;rw[M3];refine⟨⟨rfl,rfl⟩,_,rfl,BP (λz=>?_) (λz=>?_)⟩<;>rw[Cs]at z
   ·rw[aC (~~~z)]at d;exact d
   ·rw[aB (~~~z)]at d;exact d
  ·rw[filter_eq_nil_iff.mpr λr _=>'2'];refine⟨[],rfl,'3',.inl '3',λo v _=>?_⟩;rw[perm_nil.mp v];exact⟨rfl,⟨rfl,rfl⟩,_,rfl,Jm rfl,h⟩
abbrev E5(rs:List At)(ts:List Tl)(k x y:S):dI:=[.sh (Bm rs),.sh (D6 ts),.own (.lst []),k,x,y]
def S9:pF:=λxs K=>∃rs ts,xs=[Bm rs,D6 ts]/\Bn rs ts/\K (.lst [])
def gE:pS:=λE J=>∃rs ts k i x,Bn rs ts/\k<rs.length/\i<rs.length/\J=E5 rs ts (.sh (.int (k:Nat))) (.sh (.int (i:Nat))) x/\∀x,E.nx (E5 rs ts (.sh (.int k)) (.sh (.int i)) x)
def TB:pS:=λE J=>∃rs ts k x y,Bn rs ts/\k<rs.length/\J=E5 rs ts (.sh (.int (k:Nat))) x y/\∀x y,E.nx (E5 rs ts (.sh (.int k)) x y)
def gG:pS:=λE J=>∃rs ts,Bn rs ts/\J=E5 rs ts .emp .emp .emp/\∀z x y,E.nx (E5 rs ts z x y)
theorem gH(D:Ak K mg "_law_bars" Mw)(T:TxtB mg)(us:'E' "_law_bar" 3 ["_law_room","_law_rows","_law_other","_law_late"] (AT S8)):'E' "_law_bars" 4 ["_law_rooms","_law_tallies"] (AT S9):=by
 refine A9 D H0 (λ_ _ _ _ _ _ G v=>Bo v dF) (λxs K h=>?_) '3' (λO L A r s H E ρ=>⟨_,(AS (Ac (k:=2) (λ_=>H0.nd) (B1 AE)) (AS (QS.weak (m:=gG) (B4 '7' dE (EL (λ_=>T.b_range) (AA (A4 (λ_=>CM) CN 'I' nofun (AA (qv 0) AE)) AE)) (C3 (k:=3) (λ_=>H0.nd)) (An.weak (m:=TB) (AV (QS.weak (m:=TB) (B4 '7' dE (Wm (λ_=>T.b_range) (AA (B0 (λ_=>Da) F4 (qv 3) AW) (AA (A4 (λ_=>CM) CN 'I' nofun (AA (qv 0) AE)) AE))) (C3 (k:=4) (λ_=>H0.nd)) (An.weak (m:=gE) (AS (Ac (k:=5) (λ_=>H0.nd) (Ad (λ_=>us) (λ_=>ρ.mq) (AA (Av 'J' Ax (qv 0) (qv 3) dF) (AA (Av 'J' Ax (qv 1) (qv 3) dF) (AA (Av 'J' Ax (qv 0) (qv 4) dF) (AA (Av 'J' Ax (qv 1) (qv 4) dF) AE)))))) (AV (B3 (A8 (λ_=>Uk) W4 (qv 5) Oo (Ap _)) (AV (FV (k:=2) dE (Bu (AA (qv 3) (AA (qv 4) (AA (qv 5) AE)))))) B2))) ?n)) ?g)) ?o)) ?l) (AV (Ah (qv 2))))),λxs K h=>?_⟩)
 case n =>
  rintro E J ⟨rs,ts,k,i,x,c,d,hi,rfl,h⟩;have Q:=c.len;have C:∀{j},(a:j<rs.length)->atI (rs.map AO) (j:Int)\(AO rs[j]):=λa=>Co (by rw[bO,aH a];rfl);have B:∀{j},(a:j<ts.length)->atI (ts.map Aa) (j:Int)\(Aa ts[j]):=λa=>Co (by rw[bO,aH a];rfl);have q:∀{j},(a:j<rs.length)->rs[j]?\rs[j]:=λa=>aH a;have p:∀{j},(a:j<rs.length)->ts[j]?\(ts[j]'⋯):=λa=>aH ⋯;have M:=c.l6 (getElem_mem d);have N:=c.l6 (getElem_mem hi);exact⟨_,C d,_,B ⋯,_,C hi,_,B ⋯,_,_,_,_,rfl,⋯,⋯,(c.ok k _ _ (q d) (p d)).tal,(c.ok i _ _ (q hi) (p hi)).tal,c.few _ (getElem_mem _),c.few _ (getElem_mem _),c.ag k i _ _ _ _ (q d) (q hi) (p d) (p hi),rfl,_,rfl,h _⟩
 case g =>
  rintro E J ⟨rs,ts,k,x,y,c,d,rfl,h⟩;have I:=c.l8;have v:(rs.map AO).length=rs.length:=aA ..;refine⟨trivial,_,_,_,_,rfl,⟨⋯,⋯,⋯,⋯⟩,rfl,λ_ J=>∃x y,J=E5 rs ts (.sh (.int k)) x y,⟨x,y,rfl⟩,λj ρ' x u ⟨x1,f,e⟩=>?_,λρ' ⟨x1,f,e⟩=>?_⟩
  ·obtain⟨a,rfl⟩:=Dg u;subst e;exact Au rfl ⟨rs,ts,k,k+1+j,f,c,d,⋯,by push_cast;rfl,λx=>⟨_,x,rfl⟩⟩
  ·rw[e];exact h x1 f
 case o=>exactλ_ _ h=>h
 case l =>
  rintro E J ⟨rs,ts,c,rfl,h⟩;have I:=c.l8;have v:(rs.map AO).length=rs.length:=aA ..;refine⟨_,_,rfl,⋯,⋯,rfl,λ_ J=>∃z x y,J=E5 rs ts z x y,⟨_,_,_,rfl⟩,λj ρ' x u ⟨z,x1,f,e⟩=>?_,λρ' ⟨z,x1,f,e⟩=>?_⟩
  ·obtain⟨a,rfl⟩:=Dg u;subst e;exact Au rfl ⟨rs,ts,j,x1,f,c,⋯,by rw[Int.zero_add];rfl,λx y=>⟨_,x,y,rfl⟩⟩
  ·rw[e];exact h z x1 f
 ·obtain⟨_,_,rfl,_⟩:=h;rfl
 ·obtain⟨rs,ts,rfl,c,h⟩:=h;exact⟨rfl,rs,ts,c,rfl,λz x y=>⟨rfl,h⟩⟩
end
section
variable{K:Fg}
def TC:pF:=λxs K=>∃one qE,xs=[AO one,AO qE]/\one.length<=20/\qE.length<=20/\∀ss:At,ss.Nodup->(∀z,z∈ss↔z∈one\/z∈qE)->Bg ss->K (AO ss)
theorem gI(D:Ak K mg "_law_all" Mx)(T:TxtB mg):'E' "_law_all" 1 ["_law_one","_law_other"] (AT TC):=by
 refine A9 D ej (λ_ _ _ _ _ _ G f=>Bo f dF) (λxs K h=>?_) '3' (λj g A a s H E i=>⟨_,(AV (Ah (BW (λ_=>DG) DK 'K' nofun (AA (Rs (λ_=>⟨rfl,rfl⟩) dE (λ_=>T.b_sorted) (λ_=>T.b_set) (AA (B0 (λ_=>HM) JI (BW (λ_=>FJ) F5 (λ_=>T.b_list) nofun (AA (qv 0) AE)) (BW (λ_=>FJ) F5 (λ_=>T.b_list) nofun (AA (qv 1) AE))) AE)) AE)))),λxs K h=>?_⟩)
 ·obtain⟨_,_,rfl,_⟩:=h;rfl
 ·obtain⟨one,c,rfl,l1,l2,h⟩:=h;simp![BM];exact⟨⋯,one++c,.inl (by rw[cN]),by rw[aG];lia,λss nd e d=>h ss nd (λz=>(e z).trans bA) d⟩
theorem gJ(f:Str->P)(ks:At)(k:Str)(x:P):Dl ks (ks.map f) k x=(Ai ks k).map λn=>if n=k then x else f n:=by
 unfold Dl Ai;by_cases h:k∈ks
 ·rw[aC h,aC h,zipWith_map_right,zipWith_self]
 ·rw[aB h,aB h,cN]
  congr 1
  ·exact cF λn a=>(aB (c:=n=k) λz=>h (z▸a)).symm
  ·simp
theorem gK{k n:Str}:n∈Ai ks k↔n∈ks\/n=k:=by
 unfold Ai;by_cases h:k∈ks
 ·rw[aC h];exact⟨.inl,λz=>z.elim id λe=>e▸h⟩
 ·rw[aB h,bA,bI]
theorem dKeys_nd{k:Str}(nd:ks.Nodup):(Ai ks k).Nodup:=by
 unfold Ai;by_cases h:k∈ks
 ·rw[aC h];exact nd
 ·rw[aB h];exact nodup_append.mpr ⟨nd,'2',λa d b c e=>h (by rw[bI]at c;rw[<-c,<-e];exact d)⟩
theorem dKeys_le{k:Str}:(Ai ks k).length<=ks.length+1:=by unfold Ai;split<;>simp
theorem gL(nd:ss.Nodup){n:Str}(h:ss[i]?\n):dD ss n=i:=by
 have m:=aM h;obtain⟨a,_⟩:=C7 m;exact(getElem?_inj (EQ m) nd).mp (a.trans h.symm)
abbrev gM(ks:At)(φ:Str->Int):P:=.dK ks (ks.map λn=>.int (φ n))
abbrev IE(one:At)(r:By)(qE:At)(s:By)(ks:At)(φ:Str->Int)(x y:S):dI:=[.sh (AO one),.sh (AM r),.sh (AO qE),.sh (AM s),.own (gM ks φ),x,y]
structure WvOk(one:At)(r:By)(qE:At)(s:By):Prop where
 n1:one.Nodup
 n2:qE.Nodup
 l1:r.length=one.length
 l2:s.length=qE.length
 b1:one.length<=20
 b2:qE.length<=20
 ag:∀n∈one,n∈qE->r.getD (dD one n) 0=s.getD (dD qE n) 0
structure WvI(one:At)(r:By)(qE:At)(s:By)(i:Nat)(ks:At)(φ:Str->Int):Prop where
 nd:ks.Nodup
 mem:∀n,n∈ks↔n∈one\/n∈qE.take i
 len:ks.length<=20+i
 old:∀n∈one,φ n=r.getD (dD one n) 0
 new:∀n∈qE.take i,φ n=s.getD (dD qE n) 0
def TD:pF:=λxs K=>∃one r qE s,xs=[AO one,AM r,AO qE,AM s]/\WvOk one r qE s/\∀uni,Uni one qE uni->Bg uni->K (AM (Dp one qE uni r s))
def gN:pS:=λE J=>∃one r qE s,WvOk one r qE s/\J=IE one r qE s one (λn=>r.getD (dD one n) 0) .emp .emp/\∀ks φ x y,WvI one r qE s qE.length ks φ->E.nx (IE one r qE s ks φ x y)
def gO:pS:=λE J=>∃one r qE s ks φ n a,ks.length<=1000/\J=IE one r qE s ks φ (.sh (.str n)) (.sh (.int a))/\E.nx (IE one r qE s (Ai ks n) (λm=>if m=n then a else φ m) (.sh (.str n)) (.sh (.int a)))
theorem gP(D:Ak K mg "_law_woven" KF)(T:TxtB mg):'E' "_law_woven" 1 ["_law_one","_law_row","_law_other","_law_late"] (AT TD):=by
 refine A9 D KG (λ_ _ _ _ _ _ G v=>ND v (λ_ _ _ _=>rfl)) (λxs K h=>?_) '3' (λfa σ A B s H E Q=>?_)
 ·obtain⟨_,_,_,_,rfl,_⟩:=h;rfl
 have us:=FH Q;refine⟨_,(AS (Ac (k:=4) (λ_=>KG.nd) (Q3 dE (λ_=>T.b_dict) (λ_=>T.b_zip) (AA (qv 0) (AA (qv 1) AE)))) (AS (QS.weak (m:=gN) (B4 '7' dE (dj dE (λ_=>T.b_zip) (qv 2) (qv 3)) (Ep (ks:=[5,6]) dE dE (λ_=>(Bs (BF (i:=5) KG.nd rfl (Or.inl rfl)) (Bs (BF (i:=6) KG.nd rfl (Or.inl rfl)) Dt))) rfl) (An.weak (m:=gO) (AV (Lh (k:=4) (λ_=>us) (qv 5) (qv 6))) ?p)) ?g) (AV (Ah (BW (λ_=>DG) DK 'K' nofun (AA (B5 (N:=["_law_one","_law_row","_law_other","_law_late","_law_table","_law_name","_law_answer"]) (sc:=AR KF) (N':=["_law_name","_law_table"]) (qD:=[none,some 4]) '1' '3' dE (Bj dE (A4 (λ_=>(Gw trivial)) HP (λ_=>T.b_sorted) nofun (AA (BW (λ_=>(Yd rfl)) Ye (λ_=>T.b_list) nofun (AA (qv 4) AE)) AE))) (Bp (k:=0) rfl (λ_=>show List.Nodup (["_law_name","_law_table"]:At) from nofun)) C4 (HW (λ_=>us) (qv 1) (qv 0) dF)) AE)))))),λxs K h=>?_⟩
 case p =>
  rintro E J ⟨one,r,qE,s,ks,c,n,a,v,rfl,h⟩;have e:Dl ks (ks.map λn=>P.int (c n)) n (.int a)=(Ai ks n).map λm=>.int (if m=n then a else c m):=by
   rw[gJ];exact cF λm _=>by split<;>rfl
  refine⟨n,rfl,ET rfl,⋯,?_⟩;rw[e];exact h
 case g =>
  rintro E J ⟨one,r,qE,s,ok,rfl,h⟩;refine⟨_,_,rfl,rfl,⟨Iq _,Ip _⟩,rfl,λi J=>∃ks c x y,WvI one r qE s i ks c/\J=IE one r qE s ks c x y,⟨_,_,_,_,⟨ok.n1,'2',by have:=ok.b1;lia,λ_ _=>rfl,'2'⟩,rfl⟩,λi ρ' z j C=>?_,λρ' C=>?_⟩
  ·obtain⟨ks,c,x,y,I,rfl⟩:=C;rw[getElem?_zipWith,bO,bO]at j;rcases o:qE[i]? with _|n
   ·rw[o]at j;cases j
   rcases q:s[i]? with _|a
   ·rw[o,q]at j;cases j
   rw[o,q]at j;cases j;have hi:=gL ok.n2 o;have L:s.getD (dD qE n) 0=a:=by rw[hi,bW,q];rfl
   have ρ:qE.take (i+1)=qE.take i++[n]:=by rw[bJ,o];rfl
   have v:=I.len;have b2:=ok.b2;have il:=(aI.mp o).1;refine⟨_,rfl,rfl,Au rfl (Au rfl ⟨one,r,qE,s,ks,c,n,a,⋯,rfl,_,_,_,_,⟨dKeys_nd I.nd,λm=>?_,?_,λm d=>?_,λm d=>?_⟩,rfl⟩)⟩
   ·rw[gK,I.mem,ρ,bA,bI,or_assoc]
   ·have:=dKeys_le (ks:=ks) (k:=n);lia
   ·by_cases z:m=n
    ·rw[aC z,z,ok.ag n (z▸d) (aM o),L]
    ·rw[aB z];exact I.old m d
   ·by_cases z:m=n
    ·rw[aC z,z,L]
    ·rw[aB z];rw[ρ,bA,bI]at d;exact I.new m (d.resolve_right z)
  ·obtain⟨ks,c,x,y,I,rfl⟩:=C;rw[length_zipWith,aA,aA,ok.l2,Nat.min_self]at I;exact h ks c x y I
 ·obtain⟨one,r,qE,s,rfl,ok,h⟩:=h;refine⟨one,r,rfl,rfl,ok.n1,ok.l1.symm,by have:=ok.b1;lia,one,r,qE,s,ok,?_,λks c x y I=>?_⟩
  ·have e:=GH ok.n1 ok.l1;have q:r.map P.int=one.map λn=>P.int (r.getD (dD one n) 0):=by
    conv=>lhs;rw[<-e]
    unfold AU;rw[bZ];rfl
   rw[q];rfl
  ·have l:=I.len;have b2:=ok.b2;refine⟨ks,rfl,⋯,λss u O=>?_⟩;have d:∀n,n∈ss↔n∈one\/n∈qE:=λn=>by rw[u.mem_iff,I.mem,take_length]
   have v:ss.length<=40:=by rw[u.length_eq];lia
   refine⟨_,rfl,'5',by rw[aA];lia,A5.map (λn=>.int (c n)) dF (λn f M U=>Au rfl ⟨_,Jl (λn=>P.int (c n)) (u.mem_iff.mp f),U _⟩) ?_⟩;have e:AM (Dp one qE ss r s)=.tup (ss.map λn=>P.int (c n)):=by
    show P.tup ((ss.map _).map _)=_;rw[bZ];refine aT P.tup (cF λn f=>aT P.int ?_);show(r++s).getD (dD (one++qE) n) 0=c n;by_cases z:n∈one
    ·rw[MV z,I.old n z,bW,getElem?_append_left (by rw[ok.l1];exact EQ z),<-bW]
    ·have y:=((d n).mp f).resolve_left z;rw[R8 z,I.new n (by rw[take_length];exact y),bW,getElem?_append_right (by rw[ok.l1];exact Nat.le_add_left _ _),ok.l1,Nat.add_sub_cancel,<-bW]
   have h:=h ss ⟨u.nodup_iff.mpr I.nd,λn f=>(d n).mpr (.inl f),λn f=>(d n).mpr (.inr f),λn f=>(d n).mp f⟩ (GG O);rw[e]at h;simp![BM];exact h
end
section
variable{K:Fg}
abbrev DU(rs:List At)(ts:List Tl)(U:At)(fo:S)(a b c d e f g h:S):dI:=[.sh (Bm rs),.sh (D6 ts),.sh (AO U),fo,a,b,c,d,e,f,g,h]
abbrev D7(L:List By):S:=.fr (.lst (L.map AM))
def IF(fo:S)(L:List By):Prop:=fo=.own (.lst (L.map AM))\/fo=D7 L
abbrev TF(U qI:At)(t:Tl):P:=.dT (BS (CB U qI) t) ((BS (CB U qI) t).map λr=>.lst ((Bv (CB U qI) t r).map λq=>AM q.1))
structure TgAt(rs:List At)(ts:List Tl)(i:Nat)(U:At)(L:List By)(qI:At)(t:Tl):Prop where
 B:Bn rs ts
 g:Tg rs ts i U L
 r:rs[i]?\qI
 t:ts[i]?\t
theorem TgAt.good{t:Tl}(A:TgAt rs ts i U L qI t):GoodT qI.length t:=A.B.ok i qI t A.r A.t
theorem TgAt.nd{t:Tl}(A:TgAt rs ts i U L qI t):qI.Nodup:=A.B.nd qI (aM A.r)
theorem TgAt.l6{t:Tl}(A:TgAt rs ts i U L qI t):qI.length<=6:=A.B.l6 (aM A.r)
theorem TgAt.uni{t:Tl}(A:TgAt rs ts i U L qI t)(nd:ss.Nodup)(hm:∀z,z∈ss↔z∈U\/z∈qI):Uni U qI ss/\ss.length<=6:=by
 refine⟨⟨nd,λn hn=>(hm n).mpr (.inl hn),λn hn=>(hm n).mpr (.inr hn),λn hn=>(hm n).mp hn⟩,?_⟩;obtain⟨ns,l,s⟩:=A.B.sub;have:=nd.length_le_of_subset (l₂:=ns) λn hn=>by
  rcases(hm n).mp hn with z|z
  ·obtain⟨r,a,hn⟩:=(A.g.mem n).mp z;exact s r (mem_of_mem_take a) n hn
  ·exact s qI (aM A.r) n z
 lia
theorem TgAt.wv{t:Tl}(A:TgAt rs ts i U L qI t){g:By}(d:g∈L)(a:q∈CQ U qI t g):WvOk U g qI q.1:=by
 have h1:=Hr a;have lu:=A.g.lu;have lr:=A.l6;refine⟨A.g.nd,A.nd,A.g.len g d,A.good.rows q h1.1,⋯,⋯,λn hn c=>R9 (r:=[]) h1.2 (cW.mpr ⟨hn,aK c⟩)⟩
def DB(U qI:At)(t:Tl)(L:List By)(uni:At)(m j:Nat):List By:=DA U qI uni t (L.take m)++(((L[m]?).map λg=>((CQ U qI t g).take j).map λq=>Dp U qI uni g q.1).getD [])
theorem gQ{t:Tl}{uni:At}(m:Nat):DB U qI t L uni m 0=DA U qI uni t (L.take m):=by
 unfold DB;cases L[m]?<;>simp
theorem gR{t:Tl}{uni:At}{m:Nat}{g:By}(h:L[m]?\g):DB U qI t L uni m (CQ U qI t g).length=DA U qI uni t (L.take (m+1)):=by
 unfold DB DA;rw[h,bJ,h,flatMap_append];simp only[Option.map_some,Option.getD_some,Option.toList_some,flatMap_cons,flatMap_nil,append_nil];rw[take_length]
theorem gS{t:Tl}{uni:At}{m:Nat}{g:By}(h:L[m]?\g)(a:(CQ U qI t g)[j]?\q):DB U qI t L uni m (j+1)=DB U qI t L uni m j++[Dp U qI uni g q.1]:=by
 unfold DB;rw[h];simp only[Option.map_some,Option.getD_some];rw[bJ,a,cN,<-bK];rfl
theorem gT{uni:At}{t:Tl}(m:Nat):(DA U qI uni t (L.take m)).length<=(DA U qI uni t L).length:=by
 conv=>rhs;rw[<-take_append_drop m L]
 unfold DA;rw[flatMap_append,aG];lia
theorem TgAt.few{t:Tl}(A:TgAt rs ts i U L qI t){uni:At}(un:Uni U qI uni)(srt:Bg uni)(l6:uni.length<=6)(m j:Nat):(DB U qI t L uni m j).length<=1001000:=by
 have h1:=(A.g.step A.r A.t A.nd A.good.tal A.good.rng un srt l6).few;have h2:=gT (U:=U) (qI:=qI) (uni:=uni) (t:=t) (L:=L) m;unfold DB;rw[aG];have a:((((L[m]?).map λg=>((CQ U qI t g).take j).map λq=>Dp U qI uni g q.1).getD [])).length<=1000:=by
  cases L[m]? with
  |none=>simp
  |some g =>
   simp only[Option.map_some,Option.getD_some,aA,aO];have:=(SA (f:=CB U qI) t (AU U g (AN U qI))).length_le;have:=A.good.few;unfold CQ;lia
 lia
def TH:pF:=λxs K=>∃rs ts,xs=[Bm rs,D6 ts]/\Bn rs ts/\K (.lst [])
def gU:pS:=λE J=>∃rs ts,Bn rs ts/\J=DU rs ts [] (.own (.lst [AM []])) .emp .emp .emp .emp .emp .emp .emp .emp/\∀U L fo a b c d e f g h,Tg rs ts rs.length U L->IF fo L->E.nx (DU rs ts U fo a b c d e f g h)
def gW:pS:=λE J=>∃rs ts i U L fo qI t c d e f g h,TgAt rs ts i U L qI t/\IF fo L/\J=DU rs ts U fo (.sh (AO qI)) (.sh (Aa t)) c d e f g h/\∀U' L' fo c d e f g h,Tg rs ts (i+1) U' L'->IF fo L'->E.nx (DU rs ts U' fo (.sh (AO qI)) (.sh (Aa t)) c d e f g h)
def gX:pS:=λE J=>∃rs ts i U L fo qI t e f g h,TgAt rs ts i U L qI t/\J=DU rs ts U fo (.sh (AO qI)) (.sh (Aa t)) (.sh (AO (AN U qI))) (.own (.dT [] [])) e f g h/\∀e f,E.nx (DU rs ts U fo (.sh (AO qI)) (.sh (Aa t)) (.sh (AO (AN U qI))) (.own (TF U qI t)) e f g h)
def gY:pE:=λJ K=>∃rs ts U fo qI b r d f g h,qI.length<=6/\r.length=qI.length/\U.length<=6/\J=DU rs ts U fo (.sh (AO qI)) b (.sh (AO (AN U qI))) d (.sh (AM r)) f g h/\K (AM (AU qI r (AN U qI))) .nw
def gZ:pE:=λJ K=>∃rs ts U fo a b c r d f g h,J=DU rs ts U fo a b c d (.sh (AM r)) f g h/\K (AM r) .cl
abbrev DV(rs:List At)(ts:List Tl)(U:At)(fo:S)(qI:At)(t:Tl)(M:List By)(e f h:S):dI:=DU rs ts U fo (.sh (AO qI)) (.sh (Aa t)) (.sh (AO (AN U qI))) (.own (TF U qI t)) e f (.own (.lst (M.map AM))) h
def gc:pS:=λE J=>∃rs ts i U L fo qI t uni e f h,TgAt rs ts i U L qI t/\IF fo L/\Uni U qI uni/\Bg uni/\uni.length<=6/\J=DV rs ts U fo qI t [] e f h/\∀e f h,E.nx (DV rs ts U (D7 L) qI t (DA U qI uni t L) e f h)
def TJ:pS:=λE J=>∃rs ts i U L qI t uni m g f h,TgAt rs ts i U L qI t/\Uni U qI uni/\Bg uni/\uni.length<=6/\L[m]?\g/\J=DV rs ts U (D7 L) qI t (DB U qI t L uni m 0) (.sh (AM g)) f h/\∀h,E.nx (DV rs ts U (D7 L) qI t (DA U qI uni t (L.take (m+1))) (.sh (AM g)) f h)
def gd:pS:=λE J=>∃rs ts i U L qI t uni m j g q f,TgAt rs ts i U L qI t/\Uni U qI uni/\Bg uni/\uni.length<=6/\L[m]?\g/\(CQ U qI t g)[j]?\q/\J=DV rs ts U (D7 L) qI t (DB U qI t L uni m j) (.sh (AM g)) f (.sh (AM q.1))/\E.nx (DV rs ts U (D7 L) qI t (DB U qI t L uni m (j+1)) (.sh (AM g)) f (.sh (AM q.1)))
theorem M6(rs:List At):P.imms (rs.map AO)=true:=FL Cj rs
theorem gf(U qI:At):∃uni,uni.Nodup/\(∀z,z∈uni↔z∈U\/z∈qI)/\Bg uni:=by
 have d:∀{l:At},∃m:At,m.Nodup/\∀z,z∈m↔z∈l:=λ{l}=>⟨Bl l,Ri l,λ_=>Rh⟩;obtain⟨m,i,f⟩:=d (l:=U++qI);have e:=mergeSort_perm m (λa b=>decide (Dm a b));refine⟨m.mergeSort (λa b=>decide (Dm a b)),e.nodup_iff.mpr i,λz=>by rw[e.mem_iff,f,bA],?_⟩;refine(pairwise_mergeSort (le:=λa b=>decide (Dm a b)) (λa b c h g=>aK (RE (aL h) (aL g))) (λa b=>?_) m).imp λh=>aL h;rw[Bool.or_eq_true,aW,aW];by_cases z:b.cps.toList<a.cps.toList
 ·exact .inr λy=>List.lt_irrefl _ (List.lt_trans z y)
 ·exact .inl z
theorem gg(D:Ak K mg "_law_together" Mz)(T:TxtB mg)(z8:'E' "_law_both" 1 ["_law_one","_law_other"] (AT ID))(qS:'E' "_law_row_of" 1 ["_law_room","_law_row","_law_part"] (AT M4))(zB:'E' "_law_woven" 1 ["_law_one","_law_row","_law_other","_law_late"] (AT TD))(zC:'E' "_law_all" 1 ["_law_one","_law_other"] (AT TC)):'E' "_law_together" 2 ["_law_rooms","_law_tallies"] (AT TH):=by
 refine A9 D Cu (λ_ _ _ _ _ _ G hl=>Bo hl dF) (λxs K h=>?_) '3' (λfa aa A a6 s H E z=>?_)
 ·obtain⟨_,_,rfl,_⟩:=h;rfl
 have hu:=FH z;refine⟨_,(AS (Ac (k:=2) (λ_=>Cu.nd) (Bu AE)) (AS (Ac (k:=3) (λ_=>Cu.nd) (B1 (AA (Bu AE) AE))) (AS (QS.weak (m:=gU) (B4 '7' dE (Rv dE (λ_=>T.b_zip) (qv 0) (qv 1)) (Ep (ks:=[4,5]) dE dE (λ_=>(Bs (BF (i:=4) Cu.nd rfl (Or.inl rfl)) (Bs (BF (i:=5) Cu.nd rfl (Or.inl rfl)) Dt))) rfl) (An.weak (m:=gW) (AS (Ac (k:=6) (λ_=>Cu.nd) (Ad (λ_=>z8) (λ_=>z.mq) (AA (qv 2) (AA (qv 4) AE)))) (AS (Ac (k:=7) (λ_=>Cu.nd) Lg) (AS (QS.weak (m:=gX) (FW 5 (dh (Kf:=K) (k:=7) dE (λ_=>hu) '7' dE (Bj dE (qv 5)) (db 7 (ks:=[8,9]) dE dE (λ_=>(Bs (BF (i:=8) Cu.nd rfl (Or.inl rfl)) (Bs (BF (i:=9) Cu.nd rfl (Or.inl rfl)) Dt))) rfl) (QE.weak (m:=gY) (Ad (λ_=>qS) (λ_=>z.mq) (AA (qv 4) (AA (qv 8) (AA (qv 6) AE)))) ?a5) (QE.weak (m:=gZ) (qv 8) ?a2))) ?N) (AS (Ac (k:=10) (λ_=>Cu.nd) (B1 AE)) (AS (QS.weak (m:=gc) (FW 3 (B4 '7' dE (Bj dE (qv 3)) (C3 (k:=8) (λ_=>Cu.nd)) (An.weak (m:=TJ) (AV (QS.weak (m:=TJ) (B4 '7' dE (Bj dE (cn (λ_=>hu) (qv 7) (Ad (λ_=>qS) (λ_=>z.mq) (AA (qv 2) (AA (qv 8) (AA (qv 6) AE)))) (B1 AE))) (C3 (k:=11) (λ_=>Cu.nd)) (An.weak (m:=gd) (AV (FV (k:=10) dE (Ad (λ_=>zB) (λ_=>z.mq) (AA (qv 2) (AA (qv 8) (AA (qv 4) (AA (qv 11) AE))))))) ?σ)) ?ρ)) ?a0))) ?M) (AS (Ac (k:=2) (λ_=>Cu.nd) (Ad (λ_=>zC) (λ_=>z.mq) (AA (qv 2) (AA (qv 4) AE)))) (AV (FW 10 (Ac (k:=3) (λ_=>Cu.nd) (qv 10)))))))))) ?a1)) ?O) (AV (Ah (qv 3)))))),λxs K h=>?_⟩
 case a5 =>
  rintro J K ⟨rs,ts,U,o,qI,b,r,d,f,g,h,lr,hl,lu,rfl,k⟩;have:=Jf U qI;exact⟨qI,r,AN U qI,rfl,⋯,hl,(CG _ _).2,k⟩
 case a2 =>
  rintro J K ⟨rs,ts,U,o,a,b,c,r,d,f,g,h,rfl,k⟩;exact k
 case N =>
  rintro E J ⟨rs,ts,i,U,L,o,qI,t,e,f,g,h,A,rfl,k⟩;have few:=A.good.few;refine⟨rfl,_,rfl,rfl,QZ t,by rw[aA];lia,λi J ks xss=>∃e f,J=DU rs ts U o (.sh (AO qI)) (.sh (Aa t)) (.sh (AO (AN U qI))) .emp e f g h/\ks=BS (CB U qI) (t.take i)/\xss=ks.map λr=>(Bv (CB U qI) (t.take i) r).map λq=>AM q.1,⟨_,_,rfl,rfl,rfl⟩,λi ρ' ks xss x p v=>?_,λρ' ks xss v=>?_⟩
  ·obtain⟨e,f,rfl,rfl,rfl⟩:=v;rw[bO]at p;obtain⟨q,Q,rfl⟩:=aJ.mp p;refine Hl ⟨rs,ts,U,o,qI,_,q.1,_,_,g,h,A.l6,A.good.rows q (aM Q),A.g.lu,rfl,_,Cg _,rs,ts,U,o,_,_,_,q.1,_,_,_,_,rfl,C6 _,_,_,rfl,?_⟩;rw[bJ,Q];have g1:=R5 (f:=CB U qI) (t.take i) q;have g2:=dn (f:=CB U qI) (g:=λq=>AM q.1) (t.take i) q;exact⟨g1.symm,by rw[g2];show _=map _ (Ai _ _);rw[<-g1];rfl⟩
  ·obtain⟨e,f,rfl,rfl,rfl⟩:=v;have e:((BS (CB U qI) t).map λr=>(Bv (CB U qI) t r).map λq=>AM q.1).map P.lst=(BS (CB U qI) t).map λr=>.lst ((Bv (CB U qI) t r).map λq=>AM q.1):=by rw[bZ];rfl
   rw[aZ (by rw[aA];exact aQ _),e];exact k _ _
 case σ =>
  rintro E J ⟨rs,ts,i,U,L,qI,t,uni,m,j,g,q,f,A,un,l,l6,I,Q,rfl,k⟩;refine⟨U,g,qI,q.1,rfl,A.wv (aM I) (aM Q),λa3 a4 y=>?_⟩;obtain rfl:a3=uni:=SC a4.nd un.nd a4.mem un.mem y l;refine⟨ET (C6 _),by rw[aA];have:=A.few un l l6 m j;lia,?_⟩;rw[gS I Q]at k;unfold DV DU at k;rw[cN]at k;exact k
 case ρ =>
  rintro E J ⟨rs,ts,i,U,L,qI,t,uni,m,g,f,h,A,un,l,l6,I,rfl,k⟩;have gm:=aM I;have:=Jf U qI;have lu:=A.g.lu;refine⟨_,_,rfl,rfl,U,g,AN U qI,rfl,⋯,A.g.len g gm,(CG _ _).1,rfl,_,Cg _,rfl,(CQ U qI t g).map (λq=>AM q.1),eQ (λu=>.lst (u.map λq=>AM q.1)) rfl,rfl,λj J=>∃h,J=DV rs ts U (D7 L) qI t (DB U qI t L uni m j) (.sh (AM g)) f h,⟨_,rfl⟩,λj ρ' x p v=>?_,λρ' v=>?_⟩
  ·obtain⟨h,rfl⟩:=v;rw[bO]at p;obtain⟨q,Q,rfl⟩:=aJ.mp p;exact Au (C6 _) ⟨rs,ts,i,U,L,qI,t,uni,m,j,g,q,f,A,un,l,l6,I,Q,rfl,_,rfl⟩
  ·obtain⟨h,rfl⟩:=v;rw[aA,gR I];exact k h
 case a0=>exactλ_ _ h=>h
 case M =>
  rintro E J ⟨rs,ts,i,U,L,o,qI,t,uni,e,f,h,A,C,un,l,l6,rfl,k⟩;have ez:frzS 3 (DV rs ts U o qI t [] e f h)=DV rs ts U (D7 L) qI t [] e f h:=by rcases C with rfl|rfl<;>rfl
  show JG _ _ _ _ (frzS 3 (DV rs ts U o qI t [] e f h));rw[ez];refine⟨_,rfl,rfl,λm J=>∃e h,J=DV rs ts U (D7 L) qI t (DA U qI uni t (L.take m)) e f h,⟨_,_,rfl⟩,λm ρ' x p v=>?_,λρ' v=>?_⟩
  ·obtain⟨e,h,rfl⟩:=v;rw[bO]at p;obtain⟨g,I,rfl⟩:=aJ.mp p;exact Au (C6 _) ⟨rs,ts,i,U,L,qI,t,uni,m,g,f,h,A,un,l,l6,I,by rw[gQ];rfl,λh=>⟨_,h,rfl⟩⟩
  ·obtain⟨e,h,rfl⟩:=v;rw[aA,take_length];exact k e f h
 case a1 =>
  rintro E J ⟨rs,ts,i,U,L,o,qI,t,c,d,e,f,g,h,A,C,rfl,k⟩;have lu:=A.g.lu;have lr:=A.l6;obtain⟨uni,nd,hm,l⟩:=gf U qI;obtain⟨un,l6⟩:=A.uni nd hm;refine⟨U,qI,rfl,⋯,Au (Cj _) ⟨rs,ts,i,U,L,o,qI,t,_,_,_,_,A,rfl,λe f=>⟨rfl,rs,ts,i,U,L,o,qI,t,uni,_,_,_,A,C,un,l,l6,rfl,λe f h=>⟨U,qI,rfl,⋯,⋯,λss a7 a8 y=>?_⟩⟩⟩⟩;obtain rfl:ss=uni:=SC a7 nd a8 hm y l;exact Au (Cj _) (k ss _ (D7 (DA U qI ss t L)) _ _ _ _ _ _ (A.g.step A.r A.t A.nd A.good.tal A.good.rng un l l6) (.inr rfl))
 case O =>
  rintro E J ⟨rs,ts,B,rfl,k⟩;refine⟨_,_,rfl,rfl,M6 rs,rfl,λi J=>∃U L o a b c d e f g h,Tg rs ts i U L/\IF o L/\J=DU rs ts U o a b c d e f g h,⟨_,[[]],_,_,_,_,_,_,_,_,_,Tg.nil,.inl rfl,rfl⟩,λi ρ' x p v=>?_,λρ' v=>?_⟩
  ·obtain⟨U,L,o,a,b,c,d,e,f,g,h,us,C,rfl⟩:=v;rw[getElem?_zipWith,bO,bO]at p;rcases e1:rs[i]? with _|qI
   ·rw[e1]at p;cases p
   rcases e2:ts[i]? with _|t
   ·rw[e1,e2]at p;cases p
   rw[e1,e2]at p;cases p;exact⟨_,rfl,rfl,Au (Cj _) ⟨rs,ts,i,U,L,o,qI,t,c,d,e,f,g,h,⟨B,us,e1,e2⟩,C,rfl,λU' L' o c d e f g h G' a9=>⟨U',L',o,_,_,c,d,e,f,g,h,G',a9,rfl⟩⟩⟩
  ·obtain⟨U,L,o,a,b,c,d,e,f,g,h,us,C,rfl⟩:=v;rw[length_zipWith,aA,aA,B.len,Nat.min_self]at us;exact k U L o a b c d e f g h us C
 ·obtain⟨rs,ts,rfl,B,h⟩:=h;refine⟨rfl,rfl,rfl,rs,ts,B,rfl,λU L o a b c d e f g hh us C=>?_⟩;have hL:L=[]:=by
   cases L with
   |nil=>rfl
   |cons x L=>exact(B.no U x (λr z n hn=>(us.mem n).mpr ⟨r,by rw[take_length];exact z,hn⟩) λj r t z ht=>us.sh x cA j r t (aI.mp z).1 z ht).elim
  subst hL;rcases C with rfl|rfl
  ·exact⟨rfl,h⟩
  ·exact⟨rfl,h⟩
end
section
variable{K:Fg}
def KR:pF:=λxs K=>∃i,xs=[.int i]/\K (.bl true)
theorem gh(D:Ak K mg "_law_whole" Mt)(T:TxtB mg):'E' "_law_whole" 1 ["_law_found"] (AT KR):=by
 refine A9 D ec (λ_ _ _ _ _ _ G c=>EY c dE) (λxs K h=>?_) '3' (λf d A a s H E e=>⟨_,(AV (Ah (HB (F7 (n:="int") '2' dE (λ_=>T.b_isinstance) (λ_=>T.b_int) nofun (qv 0)) (Iz (WZ (F7 (n:="bool") '2' dE (λ_=>T.b_isinstance) (λ_=>T.b_bool) nofun (qv 0))))))),λxs K h=>?_⟩)
 ·obtain⟨_,rfl,_⟩:=h;rfl
 ·obtain⟨i,rfl,h⟩:=h;simp![BM];exact h
def TK:pF:=λxs K=>∃r,xs=[AM r]/\r.length<=100/\K (.bl true)
theorem gi(D:Ak K mg "_law_tuple" J8)(T:TxtB mg)(d:'E' "_law_whole" 1 ["_law_found"] (AT KR)):'E' "_law_tuple" 2 ["_law_found"] (AT TK):=by
 refine A9 D ee (λ_ _ _ _ _ _ G c=>EY c dE) (λxs K h=>?_) '3' (λi g A a s H E e=>⟨_,(AS (B3 (EH (C2 (F7 (n:="tuple") '2' dE (λ_=>T.b_isinstance) 'K' nofun (qv 0)))) (AV (Ah DI)) B2) (AV (Ah (A4 (λ_=>(Gv rfl)) HN (λ_=>T.b_all) nofun (AA (B5 (N:=["_law_found"]) (sc:=AR J8) (N':=["_law_one"]) (qD:=[none]) '1' '3' dE (Er dE (qv 0)) (Bp (k:=0) rfl (λ_=>show List.Nodup (["_law_one"]:At) from nofun)) C4 (Ad (λ_=>d) (λ_=>e.mq) (AA (qv 0) AE))) AE))))),λxs K h=>?_⟩)
 ·obtain⟨_,rfl,_⟩:=h;rfl
 ·obtain⟨r,rfl,c,h⟩:=h;simp![KR];refine⟨⋯,A5.map (λ_=>.bl true) dF (λx _ M f=>?_) ?_⟩
  ·simp![BM];exact f _
  ·refine⟨r.map λ_=>true,by rw[bZ];rfl,?_⟩;rw[all_map,show r.all (id ∘ λ_=>true)=true by simp];exact h
theorem TL{t:Tl}(h:n<t.length):atI (t.map BH) (n:Int)\(BH t[n]):=Co (by rw[bO,aH h];rfl)
theorem IG{α:Type}(x:α)(r:List α):atI (x::r) 0\x:=Co (j:=0) rfl
theorem TM{α:Type}(x y:α)(r:List α):atI (x::y::r) 1\y:=Co (j:=1) rfl
def TN:pF:=λxs K=>∃qI t,xs=[AO qI,Aa t]/\t.length<=1000/\qI.length<=100/\(∀q∈t,q.1.length=qI.length)/\(∀q∈t,0<q.2)/\(∀q∈t,∀x∈q.1,0<=x/\x<=9)/\B6 (t.map (·.1))/\(t.map (·.1)).Nodup/\K (.bl true)
structure GdOk(qI:At)(t:Tl):Prop where
 lt:t.length<=1000
 lr:qI.length<=100
 ln:∀q∈t,q.1.length=qI.length
 ps:∀q∈t,0<q.2
 rg:∀q∈t,∀x∈q.1,0<=x/\x<=9
 sr:B6 (t.map (·.1))
 nd:(t.map (·.1)).Nodup
def gj:pS:=λE J=>∃qI t,∃k:Nat,∃x,GdOk qI t/\k<t.length/\J=[.sh (AO qI),.sh (Aa t),.sh (.int k),x]/\∀x,E.nx [.sh (AO qI),.sh (Aa t),.sh (.int k),x]
def gk:pS:=λE J=>∃qI t,GdOk qI t/\J=[.sh (AO qI),.sh (Aa t),.emp,.emp]/\∀x y,E.nx [.sh (AO qI),.sh (Aa t),x,y]
theorem gl(D:Ak K mg "_law_is_good" J9)(T:TxtB mg)(B:'E' "_law_tuple" 2 ["_law_found"] (AT TK))(C:'E' "_law_whole" 1 ["_law_found"] (AT KR)):'E' "_law_is_good" 3 ["_law_room","_law_rows"] (AT TN):=by
 refine A9 D Mu (λ_ _ _ _ _ _ G L=>Bo L dF) (λxs K h=>?_) '3' (λfa a0 A f s H E d=>⟨_,(AS (B3 (EH (C2 (F7 (n:="list") '2' dE (λ_=>T.b_isinstance) (λ_=>T.b_list) nofun (qv 1)))) (AV (Ah DI)) B2) (AS (QS.weak (m:=gk) (B4 '7' dE (EL (λ_=>T.b_range) (AA (A4 (λ_=>CM) CN 'I' nofun (AA (qv 1) AE)) AE)) (C3 (k:=2) (λ_=>Mu.nd)) (An.weak (m:=gj) (AS (Ac (k:=3) (λ_=>Mu.nd) (Av 'J' Ax (qv 1) (qv 2) dF)) (AS (B3 (QW.pt (Db (EH (C2 (F7 (n:="tuple") '2' dE (λ_=>T.b_isinstance) 'K' nofun (qv 3)))) (Db (A8 (λ_=>(Dj d)) Dk (A4 (λ_=>CM) CN 'I' nofun (AA (qv 3) AE)) AW (Ap _)) (Db (EH (C2 (Ad (λ_=>B) (λ_=>d.mq) (AA (Av 'J' Ax (qv 3) AW dF) AE)))) (F1 (EH (C2 (Ad (λ_=>C) (λ_=>d.mq) (AA (Av 'J' Ax (qv 3) AW dF) AE))))))))) (AV (Ah DI)) B2) (AS (B3 (QW.pt (Db (A8 (λ_=>(Dj d)) Dk (A4 (λ_=>CM) CN 'I' nofun (AA (Av 'J' Ax (qv 3) AW dF) AE)) (A4 (λ_=>CM) CN 'I' nofun (AA (qv 0) AE)) (Ap _)) (Db (A8 (λ_=>IS) LN (Av 'J' Ax (qv 3) AW dF) AW (Ap _)) (F1 (EH (C2 (A4 (λ_=>(Gv rfl)) HN (λ_=>T.b_all) nofun (AA (B5 (N:=["_law_room","_law_rows","_law_at","_law_one"]) (sc:=AR J9) (N':=["_law_answer"]) (qD:=[none]) '1' '3' dE (Er dE (Av 'J' Ax (qv 3) AW dF)) (Bp (k:=0) rfl (λ_=>show List.Nodup (["_law_answer"]:At) from nofun)) C4 (Wc (λ_=>IT) PZ (λ_=>IT) PZ AW (qv 0) AW)) AE)))))))) (AV (Ah DI)) B2) (AV (B3 (QW.pt (WY (A8 (λ_=>IU) LO (qv 2) AW (Ap _)) (WX (A8 (λ_=>(Xt d)) Xv (Av 'J' Ax (Av 'J' Ax (qv 1) (B0 (λ_=>EB) FR (qv 2) AW) dF) AW dF) (Av 'J' Ax (qv 3) AW dF) (Ap _))))) (AV (Ah DI)) B2))))) ?c)) ?a) (AV (Ah DI)))),λxs K h=>?_⟩)
 case c =>
  rintro E J ⟨qI,t,k,x,ok,u,rfl,h⟩;have i:=getElem_mem u;have σ:=ok.ln _ i;have l1:=ok.lr;refine⟨_,TL u,Au (HZ _) ⟨_,rfl,⟨rfl,rfl⟩,_,rfl,⟨_,IG _ _,_,rfl,⋯,_,rfl,_,TM _ _ _,_,rfl,_,rfl,?_⟩⟩⟩;have O:(!AL (.int ((t[k].1.map P.int).length:Int)) (.int ((qI.map P.str).length:Int)))=false:=by rw[Cs,aA,aA,σ,aK rfl];rfl
  have U:decide (t[k].2<1)=false:=cJ (by have:=ok.ps _ i;lia);refine⟨_,IG _ _,⟨rfl,rfl⟩,false,aT P.bl O,_,TM _ _ _,trivial,false,aT P.bl U,_,IG _ _,_,rfl,nofun,by rw[aA];lia,A5.map (λ_:Int=>P.bl true) dF (λx g M e=>?_) ?_⟩
  ·obtain⟨I,us⟩:=ok.rg _ i x g;have e:=e .fr;rw[<-aK us]at e;exact⟨trivial,true,aT P.bl (aK I),trivial,e⟩
  ·refine⟨(t[k].1).map λ_=>true,by rw[bZ];rfl,?_⟩;refine⟨true,aT P.bl '2',trivial,_,rfl,BP (λz=>?_) λz=>h _⟩;have z:=aL z;have Q:(k:Int) - 1=((k - 1:Nat):Int):=⋯;have ρ:HT.lexLt t[k - 1].1 t[k].1=true:=by
    have p:=pairwise_iff_getElem.mp ok.sr (k - 1) k (by rw[aA];lia) (by rw[aA];lia) ⋯;have q:=pairwise_iff_getElem.mp ok.nd (k - 1) k (by rw[aA];lia) (by rw[aA];lia) ⋯;rw[getElem_map,getElem_map]at p q;exact SD p q
   have l:atI (t.map BH) ((k:Int) - 1)\(BH t[k - 1]):=by rw[Q];exact TL ⋯
   exact⟨trivial,_,l,_,IG _ _,_,IG _ _,_,_,Cg _,Cg _,false,aT P.bl (aT (!·) ρ),h _⟩
 case a =>
  rintro E J ⟨qI,t,ok,rfl,h⟩;have:=ok.lt;refine⟨_,_,rfl,⋯,by rw[aA];lia,rfl,λj J=>∃(x y:S),J=[.sh (AO qI),.sh (Aa t),x,y],⟨_,_,rfl⟩,λj ρ' x g o=>?_,λρ' o=>?_⟩
  ·obtain⟨x1,r,rfl⟩:=o;obtain⟨v,rfl⟩:=Dg g;rw[Int.toNat_natCast,aA]at v;rw[Int.zero_add];exact⟨qI,t,j,_,ok,v,rfl,λx=>⟨_,_,rfl⟩⟩
  ·obtain⟨x1,r,rfl⟩:=o;exact h x1 r
 ·obtain⟨_,_,rfl,_⟩:=h;rfl
 ·obtain⟨qI,t,rfl,a1,a2,a3,a4,a5,a6,a7,h⟩:=h;exact⟨_,rfl,qI,t,⟨a1,a2,a3,a4,a5,a6,a7⟩,rfl,λx y=>⟨rfl,h⟩⟩
def TQ:pF:=λxs K=>∃rs ts,xs=[Bm rs,D6 ts]/\Bn rs ts/\K (.bl true)
def gq:pS:=λE J=>∃rs ts qI t,GoodT qI.length t/\qI.length<=6/\J=[.sh (Bm rs),.sh (D6 ts),.sh (AO qI),.sh (Aa t)]/\E.nx [.sh (Bm rs),.sh (D6 ts),.sh (AO qI),.sh (Aa t)]
def gr:pS:=λE J=>∃rs ts,Bn rs ts/\J=[.sh (Bm rs),.sh (D6 ts),.emp,.emp]/\∀a b,E.nx [.sh (Bm rs),.sh (D6 ts),a,b]
theorem gu(D:Ak K mg "_law_is_borne" M0)(T:TxtB mg)(v:'E' "_law_is_good" 3 ["_law_room","_law_rows"] (AT TN))(u:'E' "_law_bars" 4 ["_law_rooms","_law_tallies"] (AT S9))(r:'E' "_law_together" 2 ["_law_rooms","_law_tallies"] (AT TH)):'E' "_law_is_borne" 5 ["_law_rooms","_law_tallies"] (AT TQ):=by
 refine A9 D M1 (λ_ _ _ _ _ _ G y=>Bo y dF) (λxs K h=>?_) '3' (λC z A l s H E e=>⟨_,(AS (B3 (QW.pt (Db (EH (C2 (F7 (n:="list") '2' dE (λ_=>T.b_isinstance) (λ_=>T.b_list) nofun (qv 1)))) (F1 (A8 (λ_=>(Dj e)) Dk (A4 (λ_=>CM) CN 'I' nofun (AA (qv 1) AE)) (A4 (λ_=>CM) CN 'I' nofun (AA (qv 0) AE)) (Ap _))))) (AV (Ah DI)) B2) (AS (QS.weak (m:=gr) (B4 '7' dE (Rv dE (λ_=>T.b_zip) (qv 0) (qv 1)) (Ep (ks:=[2,3]) dE dE (λ_=>(Bs (BF (i:=2) M1.nd rfl (Or.inl rfl)) (Bs (BF (i:=3) M1.nd rfl (Or.inl rfl)) Dt))) rfl) (An.weak (m:=gq) (AV (B3 (QW.pt (Db (EH (C2 (Ad (λ_=>v) (λ_=>e.mq) (AA (qv 2) (AA (qv 3) AE))))) (Db (A8 (λ_=>IU) LO (A4 (λ_=>CM) CN 'I' nofun (AA (qv 3) AE)) AW (Ap _)) (F1 (A8 (λ_=>(Cd e)) Ce (qv 3) (B1 AE) (Ap _)))))) (AV (Ah DI)) B2)) ?f)) ?c) (AV (Ah (HB (Eo (λ_=>(Cd e)) Ce (Ad (λ_=>u) (λ_=>e.mq) (AA (qv 0) (AA (qv 1) AE))) (B1 AE) (Ap _)) (Iz (Eo (λ_=>(Cd e)) Ce (Ad (λ_=>r) (λ_=>e.mq) (AA (qv 0) (AA (qv 1) AE))) (B1 AE) (Ap _)))))))),λxs K h=>?_⟩)
 case f =>
  rintro E J ⟨rs,ts,qI,t,g,l6,rfl,h⟩;have few:=g.few;refine⟨qI,t,rfl,⋯,⋯,g.rows,g.pos,g.rng,SJ g.ris,Ma g.ris,_,rfl,trivial,false,aT P.bl (cJ (by rw[aA];lia)),rfl,⟨Qc 6 t,rfl⟩,false,aT P.bl ?_,h⟩;cases t with
  |nil=>exact bS rfl g.ne
  |cons q t=>rfl
 case c =>
  rintro E J ⟨rs,ts,B,rfl,h⟩;refine⟨_,_,rfl,rfl,M6 rs,rfl,λi J=>∃a b,J=[.sh (Bm rs),.sh (D6 ts),a,b],⟨_,_,rfl⟩,λi ρ' x d o=>?_,λρ' o=>?_⟩
  ·obtain⟨a,b,rfl⟩:=o;rw[getElem?_zipWith,bO,bO]at d;rcases j:rs[i]? with _|qI
   ·rw[j]at d;cases d
   rcases p:ts[i]? with _|t
   ·rw[j,p]at d;cases d
   rw[j,p]at d;cases d;exact⟨_,rfl,rfl,Au (Cj _) ⟨rs,ts,qI,t,B.ok i qI t j p,B.l6 (aM j),rfl,_,_,rfl⟩⟩
  ·obtain⟨a,b,rfl⟩:=o;exact h a b
 ·obtain⟨_,_,rfl,_⟩:=h;rfl
 ·obtain⟨rs,ts,rfl,B,h⟩:=h;refine⟨_,rfl,⟨rfl,rfl⟩,false,aT P.bl ?_,rs,ts,B,rfl,λa b=>⟨rs,ts,rfl,B,rfl,⟨rfl,rfl⟩,true,rfl,rs,ts,rfl,B,rfl,⟨rfl,rfl⟩,rfl,h⟩⟩;rw[Cs,aA,aA,B.len,aK rfl];rfl
end
section
variable{K:Fg}
abbrev IH(rs:List At):P:=.lst (rs.map AO)
abbrev E6(T:At):P:=.lst (T.map P.str)
def II:pF:=λxs K=>∃(rs:List At) (T:At),xs=[IH rs,E6 T]/\T.length<=100/\rs.length<=100/\K (.bl (CP rs T))
def M7(row:At)(j i:Nat):Bool:=decide (j - i=1\/j - i=row.length - 1)
def DW(rs:List At)(row:At)(j i:Nat):Bool:=CP rs [row.getD i ⟨#[]⟩,row.getD j ⟨#[]⟩]==M7 row j i
def TR:pF:=λxs K=>∃(rs:List At) (row:At),xs=[IH rs,E6 row]/\row.length<=100/\rs.length<=100/\K (.bl (Hj rs row))
abbrev E7(rs:List At)(row:At)(a b c:S):dI:=[.sh (IH rs),.sh (E6 row),.sh (.int (row.length:Int)),a,b,c]
def gw:pS:=λE J=>∃(rs:List At) (row:At) (j i:Nat) (c:S),J=E7 rs row (.sh (.int j)) (.sh (.int i)) c/\rs.length<=100/\i<j/\j<row.length/\row.length<=100/\(DW rs row j i=false->E.rt (.bl false))/\(DW rs row j i=true->∀w,E.nx (E7 rs row (.sh (.int j)) (.sh (.int i)) w))
def TU:pS:=λE J=>∃(rs:List At) (row:At) (j:Nat) (b c:S),J=E7 rs row (.sh (.int j)) b c/\rs.length<=100/\j<row.length/\row.length<=100/\((List.range j).all (DW rs row j)=false->E.rt (.bl false))/\((List.range j).all (DW rs row j)=true->∀b c,E.nx (E7 rs row (.sh (.int j)) b c))
def gx:pS:=λE J=>∃(rs:List At) (row:At),J=E7 rs row .emp .emp .emp/\rs.length<=100/\row.length<=100/\(((List.range row.length).all λj=>(List.range j).all (DW rs row j))=false->E.rt (.bl false))/\(((List.range row.length).all λj=>(List.range j).all (DW rs row j))=true->∀a b c,E.nx (E7 rs row a b c))
theorem TV(p:Nat->Bool)(h:∀j,j<i->p j=true)(hi:i<n)(a:p i=false):(List.range n).all p=false:=by
 rw[Bool.eq_false_iff];intro z;rw[all_eq_true.mp z i (bH.mpr hi)]at a;cases a
theorem TW(p:Nat->Bool)(h:∀j,j<n->p j=true):(List.range n).all p=true:=all_eq_true.mpr λj a=>h j (bH.mp a)
theorem TX(h:i<row.length):atI (row.map P.str) (i:Int)\(.str (row.getD i ⟨#[]⟩)):=Co (j:=i) (by rw[bO,aH h,bW,aH h];rfl)
theorem gy(a:i<j)(c:j<row.length):([P.int 1,P.int ((row.length:Int) - 1)].any λy=>AL y (.int ((j:Int) - (i:Int))))=M7 row j i:=by
 rw[Bool.eq_iff_iff];simp only[any_cons,any_nil,Cs,M7,Bool.or_eq_true,decide_eq_true_eq,Bool.or_false];lia
def M8:pF:=λxs K=>∃qC qI:At,(xs=[.lst (qC.map P.str),AO qI])/\qC.length<=100/\K (.bl (qC.all λn=>decide (n∈qI)))
theorem g4(D:Ak K mg "_law_in" J5)(T:TxtB mg):'E' "_law_in" 1 ["_law_part","_law_room"] (AT M8):=by
 refine A9 D eW (λ_ _ _ _ _ _ G c=>Bo c dF) (λxs K h=>?_) '3' (λg f A a s H E d=>⟨_,(AV (Ah (A4 (λ_=>(Gv rfl)) HN (λ_=>T.b_all) nofun (AA (B5 (N:=["_law_part","_law_room"]) (sc:=AR J5) (N':=["_law_name","_law_room"]) (qD:=[none,some 1]) '1' '3' dE (Bj dE (qv 0)) (Bp (k:=0) rfl (λ_=>show List.Nodup (["_law_name","_law_room"]:At) from nofun)) C4 (Eo (λ_=>(HR d)) HS (qv 0) (qv 1) (by rfl))) AE)))),λxs K h=>?_⟩)
 ·obtain⟨_,_,rfl,_⟩:=h;rfl
 ·obtain⟨qC,qI,rfl,c,h⟩:=h;simp![BM];refine⟨⋯,A5.map (λn=>.bl (decide (n∈qI))) dF (λn _ M e=>?_) ?_⟩
  ·simp![JN];exact e _
  ·refine⟨qC.map λn=>decide (n∈qI),by rw[bZ];rfl,?_⟩;rw[all_map];exact h
theorem g5(D:Ak K mg "_law_stand" J6)(T:TxtB mg)(c:'E' "_law_in" 1 ["_law_part","_law_room"] (AT M8)):'E' "_law_stand" 2 ["_law_rooms","_law_names_here"] (AT II):=by
 refine A9 D eX (λ_ _ _ _ _ _ G e=>Bo e dF) (λxs K h=>?_) '3' (λj g A a s H E d=>⟨_,(AV (Ah (A4 (λ_=>(Zj rfl)) Zk (λ_=>T.b_any) nofun (AA (B5 (N:=["_law_rooms","_law_names_here"]) (sc:=AR J6) (N':=["_law_room","_law_names_here"]) (qD:=[none,some 1]) '1' '3' dE (Bj dE (qv 0)) (Bp (k:=0) rfl (λ_=>show List.Nodup (["_law_room","_law_names_here"]:At) from nofun)) C4 (Ad (λ_=>c) (λ_=>d.mq) (AA (qv 1) (AA (qv 0) AE)))) AE)))),λxs K h=>?_⟩)
 ·obtain⟨_,_,rfl,_⟩:=h;rfl
 ·obtain⟨rs,T,rfl,l1,l2,h⟩:=h;simp![M8];refine⟨⋯,A5.map (λqI=>.bl (T.all λn=>decide (n∈qI))) dF (λqI i M f=>?_) ?_⟩
  ·simp![BM];exact⟨l1,f _⟩
  ·refine⟨rs.map λqI=>T.all λn=>decide (n∈qI),by rw[bZ];rfl,?_⟩;rw[any_map];exact h
def IJ(rs:List At)(row:At):Bool:=decide (3<=row.length)&&(!CP rs row&&row.all λn=>CP rs (row.filter λo=>decide (¬o=n)))
theorem TY(nd:row.Nodup):IJ rs row=true↔AB (Ci rs) (Fb rs) row:=by
 unfold IJ;simp only[cB,decide_eq_true_eq,all_eq_true,Bool.not_eq_true'];constructor
 ·rintro⟨h1,h2,g⟩;refine⟨nd,h1,(λz=>by rw[Hi.mpr z]at h2;cases h2),λx c=>?_⟩;obtain⟨k,d,q⟩:=Hi.mp (g x c);exact⟨k,d,λy a f=>q y (cW.mpr ⟨a,aK f⟩)⟩
 ·intro h;refine⟨h.len,?_,λx c=>?_⟩
  ·cases e:CP rs row with
   |false=>rfl
   |true=>exact bS (Hi.mp e) h.no
  ·obtain⟨k,d,q⟩:=h.but x c;exact Hi.mpr ⟨k,d,λy a=>by
    obtain⟨h1,h2⟩:=cW.mp a;exact q y h1 (aL h2)⟩
def TZ:pF:=λxs K=>∃(rs:List At) (row:At),xs=[IH rs,E6 row]/\GK row/\row.length<=60/\rs.length<=100/\K (.bl (IJ rs row))
theorem Ta{l:At}(h:GK l):Bg l:=h.imp λa z=>List.lt_irrefl _ (List.lt_trans a z)
theorem g6(l:At):AL (E6 l) (E6 l)=true:=by
 have a:(E6 l).nb=true:=by rw[P.nb];exact F9 dE l
 exact(FT a a).mpr rfl
theorem GQ(a b:Str):AL (.str a) (.str b)=decide (a=b):=by
 rw[Bool.eq_iff_iff,FT rfl rfl,aW];exact⟨λh=>P.str.inj h,λh=>by rw[h]⟩
theorem g7(D:Ak K mg "_law_is_allbut" J7)(T:TxtB mg)(l:'E' "_law_stand" 2 ["_law_rooms","_law_names_here"] (AT II)):'E' "_law_is_allbut" 3 ["_law_rooms","_law_row"] (AT TZ):=by
 refine A9 D eY (λ_ _ _ _ _ _ G m=>Bo m dF) (λxs K h=>?_) '3' (λu r A j s H E g=>⟨_,(AS (B3 (QW.pt (Db (A8 (λ_=>IS) LN (A4 (λ_=>CM) CN 'I' nofun (AA (qv 1) AE)) AW (Ap _)) (Db (A8 (λ_=>(Dj g)) Dk (Rs (λ_=>⟨rfl,rfl⟩) dE (λ_=>T.b_sorted) (λ_=>T.b_set) (AA (qv 1) AE)) (BW (λ_=>FJ) F5 (λ_=>T.b_list) nofun (AA (qv 1) AE)) (Ap _)) (F1 (C2 (Ad (λ_=>l) (λ_=>g.mq) (AA (qv 0) (AA (qv 1) AE)))))))) (AV (Ah DI)) B2) (AV (Ah (A4 (λ_=>(Gv rfl)) HN (λ_=>T.b_all) nofun (AA (Zu (N:=["_law_rooms","_law_row"]) (sc:=AR J7) (N':=["_law_name","_law_rooms","_law_row"]) (qD:=[none,some 0,some 1]) '1' '3' dE (Bj dE (qv 1)) (Bp (k:=0) rfl (λ_=>show List.Nodup (["_law_name","_law_rooms","_law_row"]:At) from nofun)) C4 (Ad (λ_=>l) (λ_=>g.mq) (AA (qv 1) (AA (B5 (N:=["_law_name","_law_rooms","_law_row"]) (sc:=⟨.function,[(Str.ofString ".0",.local),(Str.ofString "_law_name",.cell),(Str.ofString "_law_stand",.globalImplicit),(Str.ofString "_law_rooms",.cell),(Str.ofString "_law_row",.cell)],false,false,[]⟩) (N':=["_law_other","_law_name"]) (qD:=[none,some 0]) '1' '3' dE (Bj dE (qv 2)) (Bp (k:=0) rfl (λ_=>show List.Nodup (["_law_other","_law_name"]:At) from nofun)) (EM (A8 (λ_=>(Dj g)) Dk (qv 0) (qv 1) (Ap _))) (qv 0)) AE)))) AE))))),λxs K h=>?_⟩)
 ·obtain⟨_,_,rfl,_⟩:=h;rfl
 ·obtain⟨rs,row,rfl,g,l1,l2,h⟩:=h;have e:IJ rs row=(decide (3<=row.length)&&(!CP rs row&&row.all λn=>CP rs (row.filter λo=>decide (¬o=n)))):=rfl;simp![II];refine BP (λz=>?_) (λz=>⟨row,.inl rfl,⋯,λd a b c=>?_⟩)
  ·rw[e,cJ ⋯]at h;exact h
  ·obtain rfl:d=row:=Hd ((bD a g.nd).mpr b) c (Ta g);rw[show AL (P.lst (d.map P.str)) (P.lst (d.map P.str))=true from g6 d,aB '2'];refine⟨rs,rfl,⋯,l2,BP (λi=>?_) (λi=>⟨⋯,?_⟩)⟩
   ·rw[e,i,Bool.not_true,Bool.false_and,Bool.and_false]at h;exact h
   ·rw[aK ⋯,Bool.true_and,Bool.eq_false_iff.mpr i,Bool.not_false,Bool.true_and]at e;rw[e]at h;refine A5.map (λn=>.bl (CP rs (d.filter λo=>decide (¬o=n)))) dF (λn _ M p=>⟨⋯,?_⟩) ?_
    ·refine A5.filter (λo=>decide (¬o=n)) P.str '8' (λo _ M2 f=>?_) ?_
     ·have f:=f .cl;refine⟨rfl,rfl,?_⟩;rw[GQ];by_cases q:o=n
      ·rw[aK q,aB '2'];rw[cJ (λz=>z q),aB '2']at f;exact f
      ·rw[cJ q,aC rfl];rw[aK q,aC rfl]at f;exact f
     ·refine⟨rs,rfl,_,rfl,?_,l2,p _⟩;have:=length_filter_le (λo=>decide (¬o=n)) d;lia
    ·refine⟨d.map λn=>CP rs (d.filter λo=>decide (¬o=n)),by rw[bZ];rfl,?_⟩;rw[all_map];exact h
theorem g8(D:Ak K mg "_law_is_ring" Mr)(T:TxtB mg)(ρ:'E' "_law_stand" 2 ["_law_rooms","_law_names_here"] (AT II)):'E' "_law_is_ring" 3 ["_law_rooms","_law_row"] (AT TR):=by
 refine A9 D Hw (λ_ _ _ _ _ _ G r=>Bo r dF) (λxs K h=>?_) '3' (λM L A C s H E B=>⟨_,(AS (Ac (k:=2) (λ_=>Hw.nd) (A4 (λ_=>CM) CN 'I' nofun (AA (qv 1) AE))) (AS (B3 (QW.pt (Db (A8 (λ_=>IS) LN (qv 2) AW (Ap _)) (F1 (A8 (λ_=>(Dj B)) Dk (Zh (λ_=>⟨rfl,rfl⟩) dE 'I' (λ_=>T.b_set) (AA (qv 1) AE)) (qv 2) (Ap _))))) (AV (Ah DI)) B2) (AS (QS.weak (m:=gx) (B4 '7' dE (EL (λ_=>T.b_range) (AA (qv 2) AE)) (C3 (k:=3) (λ_=>Hw.nd)) (An.weak (m:=TU) (AV (QS.weak (m:=TU) (B4 '7' dE (EL (λ_=>T.b_range) (AA (qv 3) AE)) (C3 (k:=4) (λ_=>Hw.nd)) (An.weak (m:=gw) (AS (Ac (k:=5) (λ_=>Hw.nd) (Eo (λ_=>(HR B)) HS (B0 (λ_=>EB) FR (qv 3) (qv 4)) (Bu (AA AW (AA (B0 (λ_=>EB) FR (qv 2) AW) AE))) (by rfl))) (AV (B3 (A8 (λ_=>(Dj B)) Dk (Ad (λ_=>ρ) (λ_=>B.mq) (AA (qv 0) (AA (B1 (AA (Av 'J' Ax (qv 1) (qv 3) dF) (AA (Av 'J' Ax (qv 1) (qv 4) dF) AE))) AE))) (qv 5) (Ap _)) (AV (Ah DI)) B2))) ?o)) ?g)) ?p)) ?l) (AV (Ah DI))))),λxs K h=>?_⟩)
 case o =>
  rintro E J ⟨rs,row,j,i,c,rfl,l2,y,v,r,h1,h2⟩;simp![II,TX v,TX (Nat.lt_trans y v)];refine⟨rs,rfl,[row.getD j ⟨#[]⟩,row.getD i ⟨#[]⟩],rfl,'2',l2,?_⟩;rw[gy y v,Zx];unfold DW at h1 h2;refine BP (λz=>h1 ?_) (λz=>h2 ?_ _)
  ·simpa using z
  ·simpa using z
 case g =>
  rintro E J ⟨rs,row,j,b,c,rfl,l2,v,r,h1,h2⟩;simp![BM];refine⟨⋯,⋯,λi J=>i<=j/\(∀k,k<i->DW rs row j k=true)/\∃b c,J=E7 rs row (.sh (.int j)) b c,⟨cD _,λk u=>bS u (Nat.not_lt_zero k),_,_,rfl⟩,λi ρ' x us n=>?_,λρ' n=>?_⟩
  ·obtain⟨hi,f,b,c,rfl⟩:=n;obtain⟨d,rfl⟩:=Dg us;rw[Int.toNat_natCast]at d;simp![BM];refine⟨rs,row,j,i,c,'2',l2,d,v,r,λz=>h1 (TV _ f d z),λz w=>⟨⋯,λk u=>?_,?_⟩⟩
   ·rcases cE k i with q|q
    ·exact f k q
    ·rw[show k=i by lia];exact z
   ·exact⟨_,_,rfl⟩
  ·obtain⟨hi,f,b,c,rfl⟩:=n;rw[Df,Int.toNat_natCast]at f;exact h2 (TW _ f) b c
 case l =>
  rintro E J ⟨rs,row,rfl,l2,r,h1,h2⟩;simp![BM];refine⟨⋯,⋯,λi J=>i<=row.length/\(∀k,k<i->((List.range k).all (DW rs row k))=true)/\∃a b c,J=E7 rs row a b c,⟨cD _,λk u=>bS u (Nat.not_lt_zero k),_,_,_,rfl⟩,λi ρ' x us n=>?_,λρ' n=>?_⟩
  ·obtain⟨hi,f,a,b,c,rfl⟩:=n;obtain⟨d,rfl⟩:=Dg us;rw[Int.toNat_natCast]at d;simp![BM];refine⟨rs,row,i,b,c,'2',l2,d,r,λz=>h1 (TV (λk=>(List.range k).all (DW rs row k)) f d z),λz b c=>⟨⋯,λk u=>?_,?_⟩⟩
   ·rcases cE k i with q|q
    ·exact f k q
    ·rw[show k=i by lia];exact z
   ·exact⟨_,_,_,rfl⟩
  ·obtain⟨hi,f,a,b,c,rfl⟩:=n;rw[Df,Int.toNat_natCast]at f;exact h2 (TW (λk=>(List.range k).all (DW rs row k)) f) a b c
 case p=>exactλ_ _ h=>h
 ·obtain⟨_,_,rfl,_⟩:=h;rfl
 ·obtain⟨rs,row,rfl,l1,l2,h⟩:=h;have e:Hj rs row=(decide (4<=row.length)&&decide (row.Nodup)&&(List.range row.length).all λj=>(List.range j).all (DW rs row j)):=rfl;simp![BM];refine BP (λz=>?_) (λz=>⟨row,.inl rfl,⋯,?_⟩)
  ·rw[e,cJ ⋯]at h;exact h
  ·rw[aK ⋯,Bool.true_and]at e;refine BP (λI=>?_) (λI=>?_)
   ·rw[e,cJ (λnd=>I (by rw[Rn.mpr nd])),Bool.false_and]at h;exact h
   ·rw[aK (Rn.mp ⋯),Bool.true_and]at e;refine⟨rs,row,rfl,l2,l1,λz=>?_,λz a b c=>?_⟩
    ·rw[e,z]at h;exact h
    ·rw[e,z]at h;simp![BM];exact h
def M9:pF:=λ_ _=>False
theorem g9{k:Nat}(D:Ak K mg x st)(S:FnScope N ps (AR st))
  (e:∀(kV doc d:Value) (g:Go) (a ct:Value) (G:Do),G.length=ps.length->bindArgs (PySem.W.fnOf x x (Dv st) (Cz st) (AR st) .none kV doc d g a ct) ⟨G,[]⟩=pure (ps.zip G)):'E' x (k+1) ps (AT M9) :=
 Ft D S e (λvs H Q E h=>by obtain⟨_,_,_,_,_,_,z,_⟩:=h;exact z.elim) (λf a A c s H vs Q E i h=>by obtain⟨_,_,_,_,_,_,z,_⟩:=h;exact z.elim)
theorem hA(D:Ak K mg "_law_is_order" Mq):'E' "_law_is_order" 1 ["_law_rooms","_law_row"] (AT M9):=g9 D eV (λ_ _ _ _ _ _ G a=>Bo a dF)
def Kt(rs:List At)(wd:Str)(l:At):Prop:=(wd=Str.ofString "ring"/\Hj rs l=true)\/(wd=Str.ofString "allbut"/\GK l/\IJ rs l=true)
def Tb:pF:=λxs K=>∃(rs:List At) (wd:Str) (l:At),xs=[IH rs,.tup [.str wd,E6 l]]/\l.length<=60/\rs.length<=100/\Kt rs wd l/\K (.bl true)
theorem hB(D:Ak K mg "_law_is_paper" Ms)(T:TxtB mg)(g:'E' "_law_is_order" 1 ["_law_rooms","_law_row"] (AT M9))(f:'E' "_law_is_ring" 3 ["_law_rooms","_law_row"] (AT TR))(e:'E' "_law_is_allbut" 3 ["_law_rooms","_law_row"] (AT TZ)):'E' "_law_is_paper" 4 ["_law_rooms","_law_told"] (AT Tb):=by
 refine A9 D eZ (λ_ _ _ _ _ _ G i=>Bo i dF) (λxs K h=>?_) '3' (λn j A d s H E a=>⟨_,(AS (B3 (A8 (λ_=>(Cd a)) Ce (Av 'J' Ax (qv 1) AW dF) FM (Ap _)) (AV (Ah (Ad (λ_=>g) (λ_=>a.mq) (AA (qv 0) (AA (Av 'J' Ax (qv 1) AW dF) AE))))) B2) (AS (B3 (A8 (λ_=>(Cd a)) Ce (Av 'J' Ax (qv 1) AW dF) FM (Ap _)) (AV (Ah (Ad (λ_=>f) (λ_=>a.mq) (AA (qv 0) (AA (Av 'J' Ax (qv 1) AW dF) AE))))) B2) (AV (Ah (HB (Eo (λ_=>(Cd a)) Ce (Av 'J' Ax (qv 1) AW dF) FM (Ap _)) (Iz (Ad (λ_=>e) (λ_=>a.mq) (AA (qv 0) (AA (Av 'J' Ax (qv 1) AW dF) AE))))))))),λxs K h=>?_⟩)
 ·obtain⟨_,_,_,rfl,_⟩:=h;rfl
 ·obtain⟨rs,m,l,rfl,l1,l2,t,h⟩:=h;rcases t with⟨rfl,t⟩|⟨rfl,c,t⟩
  ·rw[<-t]at h;exact⟨_,CH _ _,⟨rfl,rfl⟩,false,aT P.bl ((GQ _ _).trans (cJ '3')),_,CH _ _,⟨rfl,rfl⟩,true,aT P.bl ((GQ _ _).trans (aK rfl)),_,Hk _ _ _,rs,l,rfl,⋯,l2,Jm rfl,h⟩
  ·rw[<-t]at h;exact⟨_,CH _ _,⟨rfl,rfl⟩,false,aT P.bl ((GQ _ _).trans (cJ '3')),_,CH _ _,⟨rfl,rfl⟩,false,aT P.bl ((GQ _ _).trans (cJ '3')),_,CH _ _,⟨rfl,rfl⟩,true,aT P.bl ((GQ _ _).trans (aK rfl)),_,Hk _ _ _,rs,l,rfl,c,l1,l2,Jm rfl,h⟩
end
section
variable{K:Fg}
theorem hE{c:Stmt}{qF:Hq}{p:pS}{Q:VK}(g:PS X c (Ec (Gc (KH K) [] E0 (Bx (CV 0) CD)) (CJ 1)))(d:An (λ_:Unit=>X) qF p)
  (e:p { nx:=λ_=>False,rt:=λx=>x=.bl true } (.emp::.sh .bag::replicate n .emp)) (f:Am K H a (ns.map V.int)) (k:∀H',Q (.bl true) H') :
  ∃t,Be X (c::qF) t/\t { nx:=λ_ H'=>Q .non H',rt:=Q } (some (.ref a)::none::replicate n none) H:=by
 obtain⟨t,h1,h2⟩:=fJ (n:=n) g d e;exact⟨t,h1,h2 a ns H Q f k⟩
def NA(rg:Bool)(row:At)(j:Nat)(n:Str):Prop:=if rg=true then n=gt row (Af row.length j)\/n=gt row j else n≠gt row j
structure Rw(ns row sp:At)(rg:Bool):Prop where
 p:(row++sp).Perm ns
 nd:ns.Nodup
 l6:ns.length<=6
 l3:3<=row.length
 l4:rg=true->4<=row.length
 l5:rg=false->row.length<=5
structure PlR(ns row:At)(rg:Bool)(j:Nat)(r:At):Prop where
 rm:Rm ns r
 iff:∀n∈row,n∈r↔NA rg row j n
abbrev Bb(ns:At)(rg:Bool)(row sp k rooms at_ some_ name told turn given:S):dI:=[.emp,.sh .bag,.sh (AO ns),.sh (.bl rg),row,sp,k,rooms,at_,some_,name,told,turn,given,.emp]
abbrev A2(l:At):S:=.own (Bw l)
def KS(s:S)(sp:At):Prop:=s=A2 sp\/s=.fr (Bw sp)
def hG:pS:=λE J=>E.rt (.bl true)/\∃ns rg,ns.Nodup/\ns.length=6/\Bg ns/\J=Bb ns rg (A2 []) (A2 ns) .emp .emp .emp .emp .emp .emp .emp .emp
def Tc:pS:=λE J=>∃ns rg row sp k,0<sp.length/\sp.length<=6/\row.length<=6/\J=Bb ns rg (A2 row) (A2 sp) k .emp .emp .emp .emp .emp .emp .emp/\∀m x,sp[m]?\x->E.nx (Bb ns rg (A2 (row++[x])) (A2 (sp.eraseIdx m)) k .emp .emp .emp .emp .emp .emp .emp)
def NB:pS:=λE J=>E.rt (.bl true)/\∃ns rg row sp k,Rw ns row sp rg/\J=Bb ns rg (A2 row) (A2 sp) k .emp .emp .emp .emp .emp .emp .emp
def hH:pS:=λE J=>∃ns rg row sp s k rs j a b,Rw ns row sp rg/\KS s sp/\j<row.length/\(rs:List At).length<=6/\J=Bb ns rg (A2 row) s k (.own (Bm rs)) (.sh (.int (j:Nat))) a b .emp .emp .emp/\∀r s a b,PlR ns row rg j r->KS s sp->E.nx (Bb ns rg (A2 row) s k (.own (Bm (rs++[r]))) (.sh (.int j)) a b .emp .emp .emp)
def hJ:pS:=λE J=>E.rt (.bl true)/\∃ns rg row sp s k rs a b c,Rw ns row sp rg/\(rs:List At).length=row.length/\(∀j r,rs[j]?\r->PlR ns row rg j r)/\J=Bb ns rg (A2 row) s k (.own (Bm rs)) a b c .emp .emp .emp
def Td:pS:=λE J=>E.rt (.bl true)/\∃ns rg row sp s k rs a b c wd l d,Rw ns row sp rg/\(rs:List At).length=row.length/\(∀j r,rs[j]?\r->PlR ns row rg j r)/\Kt rs wd l/\l.length<=6/\(wd=Str.ofString "allbut"->l.length<=5)/\J=Bb ns rg (A2 row) s k (.own (Bm rs)) a b c (.fr (.tup [.str wd,Bw l])) d .emp
def hU:pS:=λE J=>∃ns rg row s k rs a some_ name,(some_:At).length<=20/\J=Bb ns rg row s k rs a (A2 some_) (.sh (.str name)) .emp .emp .emp/\E.nx (Bb ns rg row s k rs a (A2 some_) (.sh (.str name)) .emp .emp .emp)/\E.nx (Bb ns rg row s k rs a (A2 (some_++[name])) (.sh (.str name)) .emp .emp .emp)
def Te:pS:=λE J=>∃ns rg row sp s k rs a some_ b,KS s sp/\(some_:At).length<=10/\sp.length<=6/\J=Bb ns rg row s k rs a (A2 some_) b .emp .emp .emp/\∀more b,more.Sublist sp->E.nx (Bb ns rg row (.fr (Bw sp)) k rs a (A2 (some_++more)) b .emp .emp .emp)
section
variable{ns sp:At}{rg:Bool}
theorem Rw.rnd(h:Rw ns row sp rg):row.Nodup:=(nodup_append.mp (h.p.nodup_iff.mpr h.nd)).1
theorem Rw.rl(h:Rw ns row sp rg):row.length<=6:=by
 have:=h.p.length_eq;have:=h.l6;rw[aG]at *;lia
theorem Rw.snd(h:Rw ns row sp rg):sp.Nodup/\(∀n∈sp,n∉row)/\(∀n∈sp,n∈ns)/\∀n∈row,n∈ns:=by
 obtain⟨_,h2,a⟩:=nodup_append.mp (h.p.nodup_iff.mpr h.nd);exact⟨h2,λn hn z=>a n z n hn rfl,λn hn=>h.p.mem_iff.mp (cC _ hn),λn hn=>h.p.mem_iff.mp (mem_append_left _ hn)⟩
theorem E8(a:rs.length=row.length)(c:j<row.length):rs[j]?\(rs[j]'⋯):=aH ⋯
theorem hW(W:Rw ns row sp true)(d:rs.length=row.length)(h:∀j r,rs[j]?\r->PlR ns row true j r):Ring (Dn rs) row:=by
 have nd:=W.rnd;have o:=W.l4 rfl;have pl:∀{k},k<row.length->Af row.length k<row.length:=λ{k} a=>by unfold Af;split<;>lia
 refine⟨nd,o,λi j q c=>?_⟩;rw[GL];constructor
 ·rintro⟨f,r,p,h1,h2⟩;obtain⟨k,a,rfl⟩:=getElem_of_mem p;have a:k<row.length:=⋯;have Q:=h k _ (E8 d a);have n:row[i]=gt row (Af row.length k)\/row[i]=gt row k:=(Q.iff _ (getElem_mem _)).mp h1;have m:row[j]=gt row (Af row.length k)\/row[j]=gt row k:=(Q.iff _ (getElem_mem _)).mp h2;rw[<-Ba ⋯]at n m;have l:=n.imp (D4 nd ⋯ (pl a)) (D4 nd ⋯ a);have u:=m.imp (D4 nd c (pl a)) (D4 nd c a);unfold Af at l u;split at l<;>simp_all<;>lia
 ·intro a;have f:row[i]≠row[j]:=λe=>by have:=(getElem_inj nd).mp e;lia
  rcases a with e|⟨s,v⟩
  ·have Q:=h j _ (E8 d c);refine⟨f,_,aM (E8 d c),(Q.iff _ (getElem_mem _)).mpr (.inl ?_),(Q.iff _ (getElem_mem _)).mpr (.inr (Ba c).symm)⟩;rw[<-Ba ⋯]
   congr 1
   unfold Af;rw[aB ⋯];lia
  ·have g:0<row.length:=⋯;have Q:=h 0 _ (E8 d g);refine⟨f,_,aM (E8 d g),(Q.iff _ (getElem_mem _)).mpr (.inr ?_),(Q.iff _ (getElem_mem _)).mpr (.inl ?_)⟩
   ·rw[<-Ba ⋯,s]
   ·rw[<-Ba c]
    congr 1
    unfold Af;rw[aC rfl];lia
theorem hX(W:Rw ns row sp false)(d:rs.length=row.length)(h:∀j r,rs[j]?\r->PlR ns row false j r){T:At}(c:T.Perm row):AB (Ci rs) (Fb rs) T:=by
 have nd:=W.rnd;have f:∀{j},(a:j<row.length)->Ci rs j=rs[j]'⋯:=λa=>by unfold Ci;rw[E8 d a];rfl
 refine⟨c.nodup_iff.mpr nd,by rw[c.length_eq];exact W.l3,λ⟨j,a,z⟩=>?_,λx l=>?_⟩
 ·have a:j<row.length:=by have:=bH.mp a;lia
  have Q:=h j _ (E8 d a);have m:=getElem_mem a;have:=z row[j] (c.mem_iff.mpr m);rw[f a]at this;exact(Q.iff _ m).mp this (Ba a).symm
 ·obtain⟨j,a,rfl⟩:=getElem_of_mem (c.mem_iff.mp l);have Q:=h j _ (E8 d a);refine⟨j,bH.mpr ⋯,λy i g=>?_⟩;rw[f a];exact(Q.iff y (c.mem_iff.mp i)).mpr λe=>g (by rw[e,Ba a])
theorem hZ(W:Rw ns row sp rg)(e:rs.length=row.length)(h:∀j r,rs[j]?\r->PlR ns row rg j r):RmsOk rs/\(∀r∈rs,∀n∈r,n∈ns):=by
 have c:∀r∈rs,Rm ns r:=λr a=>by
  obtain⟨j,d,rfl⟩:=getElem_of_mem a;exact(h j _ (aH d)).rm
 exact⟨⟨λr a=>(c r a).nd,λr a=>(c r a).srt,λr a=>by have:=(c r a).len;have:=W.l6;lia⟩,λr a=>(c r a).sub⟩
theorem h7{l:At}{ps:List At}{k b:Nat}(Kn:Kno rs l ps k b)(bm:b ^ (k - 1)<=63)(R:RmsOk rs)(l8:rs.length<=8)(l6:ns.length<=6)(sub:∀r∈rs,∀n∈r,n∈ns):Bn rs (rs.map (DQ ps l k b)) where
 len:=aA ..
 l8:=l8
 nd:=R.nd
 sub:=⟨ns,l6,sub⟩
 ok:=λi r t h1 h2=>by
  rw[bO,h1]at h2;cases h2;exact Kn.good R (aM h1)
 few:=λt f=>by
  obtain⟨r,a,rfl⟩:=bU.mp f;obtain⟨i,p,A⟩:=Kn.at a;rw[A.eq];unfold Ck;rw[aA];refine aR (L6 _ _ _) ?_;rw[Jn (by have:=Kn.b2;lia) (DR Kn.b2 i).1 (DR Kn.b2 i).2 Kn.k1];exact bm
 ag:=λi j r s t u h1 h2 e d=>by
  rw[bO,h1]at e;rw[bO,h2]at d;cases e;cases d;exact Kn.agree R (aM h1) (aM h2)
 no:=λU g h1 h2=>Kn.none R h1 λr a=>by
  obtain⟨j,c,rfl⟩:=getElem_of_mem a;exact h2 j _ _ (aH c) (by rw[bO,aH c];rfl)
end
theorem Tf(rs:List At):(Bm rs).pl 9=true:=show(rs.map AO).all (P.pl 8)=true from JM (λr=>'2') rs
theorem h8(rs:List At):AL (Bm rs) (Bm rs)=true:=by
 have a:(Bm rs).nb=true:=by rw[P.nb];exact F9 Lq rs
 exact(FT a a).mpr rfl
theorem iA(l:At)(m:Nat):(l.map P.str).eraseIdx m=(l.eraseIdx m).map P.str:=by
 rw[eraseIdx_eq_take_drop_succ,eraseIdx_eq_take_drop_succ,cN,map_take,map_drop]
theorem NC{k:Nat}{a:Str}{l:At}{K:dI->Prop}(q:K (J.set k (.fr (.tup [.str a,Bw l])))):A0 k (.tup [.str a,Bw l]) .nw J K:=by
 unfold A0;rw[aB '2'];exact q
theorem iB{l:At}(nd:l.Nodup)(s:Bg l):GK l:=(s.and nd).imp λ{a b} ⟨h,n⟩=>Classical.byContradiction λz=>n (RG h z)
theorem Th(a b:Str)(h:Dn rs a b):Dn rs b a:=by
 obtain⟨n,r,c,h1,h2⟩:=GL.mp h;exact GL.mpr ⟨n.symm,r,c,h2,h1⟩
theorem iC{f:Addr}(F:Fun K "law" "law" E2 f fd)(T:TxtB mg)(zN:'E' "_law_bag" 1 ["_law_script"] (KH K))(σ:'E' "_law_pull" 1 ["_law_bag_here","_law_many"] (AT Sk))(zO:'E' "_law_names" 3 ["_law_bag_here","_law_many"] (AT Sl))
  (zP:'E' "borne" 5 ["rooms","told"] (AT S7)) (zQ:'E' "_law_is_paper" 4 ["_law_rooms","_law_told"] (AT Tb)) (zR:'E' "_law_is_borne" 5 ["_law_rooms","_law_tallies"] (AT TQ)):FnOk P' w K mg base Dw 6 f fd ["_law_script"] (KM K):=by
 refine F.ok CI (λvs H Q E h=>?_) (λaj A af s H vs Q E o h=>?_)
 ·obtain⟨a,ns,rfl,_⟩:=h;rfl
 ·obtain⟨a,ns,rfl,hS,k⟩:=h;refine hE (n:=13) (CW (i:=1) CI.nd rfl (Or.inl rfl) (FI zN (o.mq) (by rfl) (Ag (pv 0) Az))) (AS (Ac (k:=2) (λ_=>CI.nd) (BW (λ_=>DG) DK 'K' nofun (AA (A4 (λ_=>(Gw trivial)) HP (λ_=>T.b_sorted) nofun (AA (Ad (λ_=>zO) (λ_=>o.mq) (AA (qv 1) (AA AW AE))) AE)) AE)))
 (AS (Ac (k:=3) (λ_=>CI.nd) (Eo (λ_=>(Cd o)) Ce (Ad (λ_=>σ) (λ_=>o.mq) (AA (qv 1) (AA AW AE))) AW (Ap _)))
 (AS (Ac (k:=4) (λ_=>CI.nd) (B1 AE))
 (AS (Ac (k:=5) (λ_=>CI.nd) (BW (λ_=>FJ) F5 (λ_=>T.b_list) nofun (AA (qv 2) AE)))
 (An.weak (m:=hG) (AS (B4 '7' dE (EL (λ_=>T.b_range) (AA (Av 'J' Ax (B1 (AA (B0 (λ_=>Da) F4 AW (Ad (λ_=>σ) (λ_=>o.mq) (AA (qv 1) (AA AW AE)))) (AA (B0 (λ_=>Da) F4 AW (Ad (λ_=>σ) (λ_=>o.mq) (AA (qv 1) (AA AW AE)))) AE))) (BW (λ_=>cj) ck (λ_=>T.b_int) nofun (AA (qv 3) AE)) dF) AE)) (C3 (k:=6) (λ_=>CI.nd))
 (An.weak (m:=Tc) (AV (Xd (k:=4) (j:=5) dE (Ad (λ_=>σ) (λ_=>o.mq) (AA (qv 1) (AA (A4 (λ_=>CM) CN 'I' nofun (AA (qv 5) AE)) AE))))) ?a3))
 (An.weak (m:=NB) (AS (Ac (k:=7) (λ_=>CI.nd) (B1 AE))
 (AS (B4 '7' dE (EL (λ_=>T.b_range) (AA (A4 (λ_=>CM) CN 'I' nofun (AA (qv 4) AE)) AE)) (C3 (k:=8) (λ_=>CI.nd))
 (An.weak (m:=hH) (AS (PV (k:=9) (λ_=>CI.nd) (N:=["_law_script","_law_bag_here","_law_names_here","_law_ring","_law_row","_law_spare","_law_k","_law_rooms","_law_at","_law_some","_law_name","_law_told","_law_turn","_law_given","_law_found"]) (sc:=AR E2) (N':=["_law_other","_law_row","_law_at"]) (qD:=[none,some 4,some 8]) '1' '3' dE (Bj dE (qv 4)) (Bp (k:=0) rfl (λ_=>show List.Nodup (["_law_other","_law_row","_law_at"]:At) from nofun)) (EM (A8 (λ_=>(Dj o)) Dk (qv 0) (Av 'J' Ax (qv 1) (qv 2) dF) (Ap _))) (qv 0))
 (AS (B3 (C2 (qv 3))
 (AV (Ac (k:=9) (λ_=>CI.nd) (B1 (AA (Av 'J' Ax (qv 4) (B0 (λ_=>EB) FR (qv 8) AW) dF) (AA (Av 'J' Ax (qv 4) (qv 8) dF) AE)))))
 B2)
 (AS (QS.weak (m:=Te) (FW 5 (B4 '7' dE (Bj dE (qv 5)) (C3 (k:=10) (λ_=>CI.nd))
 (An.weak (m:=hU) (AV (B3 (A8 (λ_=>(Cd o)) Ce (Ad (λ_=>σ) (λ_=>o.mq) (AA (qv 1) (AA AW AE))) AW (Ap _))
 (AV (FV (k:=9) dE (qv 10)))
 B2)) ?a1))) ?a0)
 (AV (FV (k:=7) dE (BW (λ_=>DG) DK 'K' nofun (AA (A4 (λ_=>(Gw trivial)) HP (λ_=>T.b_sorted) nofun (AA (qv 9) AE)) AE))))))) ?a2))
 (An.weak (m:=hJ) (AS (Ac (k:=11) (λ_=>CI.nd) (Bu (AA FM (AA (A4 (λ_=>(Gw trivial)) HP (λ_=>T.b_sorted) nofun (AA (qv 4) AE)) AE))))
 (AS (B3 (C2 (qv 3))
 (AS (Ac (k:=12) (λ_=>CI.nd) (Ad (λ_=>σ) (λ_=>o.mq) (AA (qv 1) (AA (A4 (λ_=>CM) CN 'I' nofun (AA (qv 4) AE)) AE))))
 (AS (Ac (k:=11) (λ_=>CI.nd) (Bu (AA FM (AA (B0 (λ_=>HM) JI (JQ dE (qv 4) (JP (qv 12)) JO) (JQ dE (qv 4) JO (JP (qv 12)))) AE))))
 (AV (B3 (A8 (λ_=>(Cd o)) Ce (Ad (λ_=>σ) (λ_=>o.mq) (AA (qv 1) (AA AW AE))) AW (Ap _))
 (AV (Ac (k:=11) (λ_=>CI.nd) (Bu (AA FM (AA (Z4 (Av 'J' Ax (qv 11) AW dF) (W1 AW)) AE)))))
 B2))))
 B2)
 (An.weak (m:=Td) (AS (Ac (k:=13) (λ_=>CI.nd) (BW (λ_=>FJ) F5 (λ_=>T.b_list) nofun (AA (qv 7) AE)))
 (AS (Ac (k:=14) (λ_=>CI.nd) (Ad (λ_=>zP) (λ_=>o.mq) (AA (qv 13) (AA (Bu (AA (Av 'J' Ax (qv 11) AW dF) (AA (BW (λ_=>FJ) F5 (λ_=>T.b_list) nofun (AA (Av 'J' Ax (qv 11) AW dF) AE)) AE))) AE))))
 (AV (Ah (HB (Eo (λ_=>(Cd o)) Ce (qv 13) (qv 7) (Ap _)) (HB (Ad (λ_=>zQ) (λ_=>o.mq) (AA (qv 7) (AA (qv 11) AE))) (Iz (Ad (λ_=>zR) (λ_=>o.mq) (AA (qv 7) (AA (qv 14) AE)))))))))) ?a6))) ?a7))) ?a8)) ?a9))))) ?a5 hS k
  case a5 =>
   refine⟨6,rfl,'3','3',λns hn hg nd=>⟨ns,rfl,⋯,λss v C=>Au (Cj _) ⟨2,rfl,'3','3',λr _ _=>⟨⟨rfl,rfl⟩,rfl,?_⟩⟩⟩⟩;show A0 5 (.lst (ss.map P.str)) (BC .cl (ss.map P.str)) _ _;exact SE (Iq ss) ⟨rfl,ss,_,v.nodup_iff.mpr nd,by have:=v.length_eq;lia,GG C,rfl⟩
  case a9 =>
   rintro E J ⟨L,ns,rg,nd,l6,ah,rfl⟩;refine⟨3,rfl,'3','3',λr U r1=>⟨trivial,3,rfl,'3','3',λr' ae ai=>⟨trivial,rfl,rg,rfl,?_⟩⟩⟩;have key:∀n:Nat,3<=n->n<=6->(rg=true->4<=n)->(rg=false->n<=5)->∃I:Nat->dI->Prop,I 0 (Bb ns rg (A2 []) (A2 ns) .emp .emp .emp .emp .emp .emp .emp .emp)/\(∀i ρ' x,(De 0 n)[i]?\x->I i ρ'->A0 6 x .fr ρ' λρ2=>Tc { E with nx:=I (i+1),ct:=I (i+1),bk:=NB E } ρ2)/\∀ρ',I (De 0 n).length ρ'->NB E ρ':=λn n3 n6 n4 n5=>by
    refine⟨λi J=>∃row sp k,(row++sp).Perm ns/\row.length=i/\J=Bb ns rg (A2 row) (A2 sp) k .emp .emp .emp .emp .emp .emp .emp,⟨[],ns,_,List.Perm.refl _,rfl,rfl⟩,?_,?_⟩
    ·rintro i ρ' x O ⟨row,sp,k,v,hi,rfl⟩;obtain⟨ρ,rfl⟩:=Dg O;have u:=v.length_eq;rw[aG]at u;refine Au rfl ⟨ns,rg,row,sp,_,⋯,⋯,⋯,rfl,λm x e=>⟨row++[x],sp.eraseIdx m,_,?_,by rw[aG,hi];rfl,rfl⟩⟩;have:=(List.Perm.append_left row (perm_append_comm.trans (Yt e)));rw[bK];exact this.trans v
    ·rintro ρ' ⟨row,sp,k,v,hi,rfl⟩;rw[Df]at hi;exact⟨L,ns,rg,row,sp,k,⟨v,nd,⋯,⋯,λz=>by have:=n4 z;lia,λz=>by have:=n5 z;lia⟩,rfl⟩
   cases rg with
   |true =>
    obtain⟨n,rfl⟩:=Int.eq_ofNat_of_zero_le ae;refine⟨_,Hk _ _ _,_,_,rfl,?_,?_,rfl,?_⟩
    ·lia
    ·lia
    ·have e:(4+(n:Int)).toNat=4+n:=⋯;have:=key (4+n) ⋯ ⋯ ⋯ '5';rw[<-e]at this;exact this
   |false =>
    obtain⟨n,rfl⟩:=Int.eq_ofNat_of_zero_le U;refine⟨_,CH _ _,_,_,rfl,?_,?_,rfl,?_⟩
    ·lia
    ·lia
    ·have e:(3+(n:Int)).toNat=3+n:=⋯;have:=key (3+n) ⋯ ⋯ '5' (λ_=>⋯);rw[<-e]at this;exact this
  case a3 =>
   rintro E J ⟨ns,rg,row,sp,k,l1,l2,l3,rfl,h⟩;refine⟨((sp.map P.str).length:Int),rfl,by rw[aA];lia,by rw[aA];lia,λr U r1=>?_⟩;obtain⟨n,rfl⟩:=Int.eq_ofNat_of_zero_le U;have hn:n<sp.length:=by rw[aA]at r1;lia
   refine⟨n,.str sp[n],rfl,⋯,by rw[bO,aH hn];rfl,by rw[aA];lia,'3',?_⟩;have:=h n _ (aH hn);unfold Bb A2 Bw at this;rw[cN,<-iA]at this;exact this
  case a8 =>
   rintro E J ⟨L,ns,rg,row,sp,k,W,rfl⟩;have rl:=W.rl;refine⟨rfl,_,_,rfl,⋯,by rw[aA];lia,rfl,λj J=>∃s a b c rs,KS s sp/\(rs:List At).length=j/\(∀j r,rs[j]?\r->PlR ns row rg j r)/\J=Bb ns rg (A2 row) s k (.own (Bm rs)) a b c .emp .emp .emp,⟨_,_,_,_,[],.inl rfl,rfl,(λj r e=>by simp at e),rfl⟩,?_,?_⟩
   ·rintro j ρ' x O ⟨s,a,b,c,rs,C,u,h,rfl⟩;obtain⟨ρ,rfl⟩:=Dg O;rw[Int.toNat_natCast,aA]at ρ;rw[Int.zero_add];refine Au rfl ⟨ns,rg,row,sp,s,k,rs,j,b,c,W,C,ρ,⋯,rfl,λr s a b pr C=>⟨s,_,a,b,rs++[r],C,by rw[aG,u];rfl,λi q e=>?_,rfl⟩⟩;rcases cE i rs.length with z|z
    ·rw[getElem?_append_left z]at e;exact h i q e
    ·rw[getElem?_append_right z]at e;have:i - rs.length=0:=by
      rcases Nat.eq_zero_or_pos (i - rs.length)with y|y
      ·exact y
      ·rw[bQ '4']at e;cases e
     rw[this]at e;cases e;rw[show i=j by lia];exact pr
   ·rintro ρ' ⟨s,a,b,c,rs,C,u,h,rfl⟩;rw[Df,Int.toNat_natCast,aA]at u;exact⟨L,ns,rg,row,sp,s,k,rs,a,b,c,W,u,h,rfl⟩
  case a2 =>
   rintro E J ⟨ns,rg,row,sp,s,k,rs,j,a,b,W,C,ρ,lr,rfl,h⟩;have rl:=W.rl;obtain⟨snd,a4,aa,ac⟩:=W.snd;have nd:=W.rnd;have sl:sp.length<=6:=by have:=W.p.length_eq;have:=W.l6;rw[aG]at *;lia
   have pl:Af row.length j<row.length:=by unfold Af;split<;>lia
   refine⟨_,rfl,nofun,by rw[aA];lia,A5.filter (λn=>decide (n≠gt row j)) P.str '8' (λn hn M hM=>?_) ?_⟩
   ·have hM:=hM .cl;refine Au rfl ⟨_,KQ ρ,⟨rfl,rfl⟩,_,rfl,BP (λz=>?_) λz=>?_⟩<;>rw[JW]at z
    ·rw[aC (~~~z)]at hM;exact hM
    ·rw[aB (~~~z)]at hM;exact hM
   ·have D:∀g:At,g.Nodup->g.length<=6->(∀n∈g,n∈row)->(∀n∈row,n∈g↔NA rg row j n)->Te { E with nx:=HU 7 (EG JJ (Iu (EG JK (Iu (Fx 9) Ir)) Ir)) E } (Bb ns rg (A2 row) s k (.own (Bm rs)) (.sh (.int (j:Int))) (A2 g) b .emp .emp .emp):=λg n1 n2 n3 n4=>by
     refine⟨ns,rg,_,sp,s,k,_,_,g,b,C,⋯,sl,rfl,λmore b us=>?_⟩;have u:=us.length_le;refine⟨g++more,rfl,by rw[aG];lia,λss v ag=>⟨ET (Cj ss),by rw[aA];lia,?_⟩⟩;have mem:∀n,n∈ss↔n∈g\/n∈more:=λn=>by rw[v.mem_iff,bA]
     have ms:∀n∈more,n∈sp:=λn hn=>us.subset hn;have pr:PlR ns row rg j ss:=by
      refine⟨Rm.of v ag (λn hn=>?_) (nodup_append.mpr ⟨n1,snd.sublist us,λx O y hy e=>a4 y (ms y hy) (e▸n3 x O)⟩),λn hn=>?_⟩
      ·rcases bA.mp hn with z|z
       ·exact ac n (n3 n z)
       ·exact aa n (ms n z)
      ·rw[mem,<-n4 n hn];exact⟨λz=>z.elim id λz=>bS hn (a4 n (ms n z)),.inl⟩
     have:=h ss (.fr (Bw sp)) (A2 (g++more)) b pr (.inr rfl);unfold Bb Bm at this;rw[cN]at this;exact this
    cases rg with
    |true =>
     refine⟨true,rfl,trivial,_,Sx ρ,_,KQ ρ,rfl,D [gt row (Af row.length j),gt row j] ?_ '2' (λn hn=>?_) λn hn=>?_⟩
     ·have ne:gt row (Af row.length j)≠gt row j:=λz=>by have l3:=W.l3;have:=D4 nd pl ρ z;unfold Af at this;split at this<;>lia
      simpa using ne
     ·rcases aF.mp hn with rfl|hn
      ·rw[Ba pl];exact getElem_mem pl
      ·rw[bI.mp hn,Ba ρ];exact getElem_mem ρ
     ·unfold NA;simp
    |false =>
     refine⟨false,rfl,D (row.filter λn=>decide (n≠gt row j)) (nd.sublist filter_sublist) (by have:=length_filter_le (λn=>decide (n≠gt row j)) row;lia) (λn hn=>(cW.mp hn).1) λn hn=>?_⟩;rw[cW,aW];exact⟨λz=>z.2,λz=>⟨hn,z⟩⟩
  case a1 =>
   rintro E J ⟨ns,rg,row,s,k,rs,a,g,name,ls,rfl,h1,h2⟩;refine⟨3,rfl,'3','3',λr U r1=>⟨⟨rfl,rfl⟩,_,rfl,BP (λz=>⟨ET rfl,by rw[aA];lia,?_⟩) λz=>h1⟩⟩;unfold Bb A2 Bw at h2;rw[cN]at h2;exact h2
  case a0 =>
   rintro E J ⟨ns,rg,row,sp,s,k,rs,a,g,b,C,l1,l2,rfl,h⟩;have ez:frzS 5 (Bb ns rg row s k rs a (A2 g) b .emp .emp .emp)=Bb ns rg row (.fr (Bw sp)) k rs a (A2 g) b .emp .emp .emp:=by rcases C with rfl|rfl<;>rfl
   show JG _ _ _ _ (frzS 5 (Bb ns rg row s k rs a (A2 g) b .emp .emp .emp));rw[ez];refine⟨_,rfl,rfl,λi J=>∃more b,more.Sublist (sp.take i)/\J=Bb ns rg row (.fr (Bw sp)) k rs a (A2 (g++more)) b .emp .emp .emp,⟨[],b,nil_sublist _,by rw[append_nil]⟩,?_,?_⟩
   ·rintro i ρ' x O ⟨more,b,us,rfl⟩;rw[bO]at O;obtain⟨n,hn,rfl⟩:=aJ.mp O;have ht:sp.take (i+1)=sp.take i++[n]:=by rw[bJ,hn];rfl
    have u:=us.length_le;rw[aO]at u;refine Au rfl ⟨ns,rg,row,_,k,rs,a,g++more,n,by rw[aG];lia,rfl,⟨more,_,?_,rfl⟩,⟨more++[n],_,?_,by rw[bK]⟩⟩
    ·rw[ht];exact us.trans (sublist_append_left _ _)
    ·rw[ht];exact us.append (List.Sublist.refl _)
   ·rintro ρ' ⟨more,b,us,rfl⟩;rw[aA,take_length]at us;exact h more b us
  case a7 =>
   rintro E J ⟨L,ns,rg,row,sp,s,k,rs,a,b,c,W,u,h,rfl⟩;have rl:=W.rl;refine⟨row,rfl,⋯,λT v C=>⟨rfl,NC ⟨rg,rfl,?_⟩⟩⟩;cases rg with
   |false =>
    have ab:=hX W u h v;exact⟨L,ns,false,row,sp,s,k,rs,a,b,c,_,T,_,W,u,h,.inr ⟨rfl,iB ab.nd (GG C),(TY ab.nd).mpr ab⟩,by rw[v.length_eq];exact rl,λ_=>by rw[v.length_eq];exact W.l5 rfl,rfl⟩
   |true =>
    have R:=hW W u h;have l3:=W.l3;refine⟨_,rfl,by rw[aA];lia,by rw[aA];lia,λr U r1=>Au rfl ?_⟩;obtain⟨n,rfl⟩:=Int.eq_ofNat_of_zero_le U;have e1:cut (row.map P.str) (some (n:Int)) none++cut (row.map P.str) none (some (n:Int))=(row.drop n++row.take n).map P.str:=by rw[GO,GO,S2,S3,<-cN]
    have l1:=aT length e1;rw[aG,aA,aG,length_drop,aO]at l1;have t1:∀f,BC f (cut (row.map P.str) (some (n:Int)) none)=.nw:=λf=>by rw[GO,M5]
    have t2:∀f,BC f (cut (row.map P.str) none (some (n:Int)))=.nw:=λf=>by rw[GO,M5]
    refine⟨⋯,?_⟩;rw[e1,t1,t2];have R1:Ring (Dn rs) (row.drop n++row.take n):=MQ Th (row.take n) (row.drop n) (by rw[take_append_drop];exact R);have L1:(row.drop n++row.take n).length<=6:=by rw[aG,length_drop,aO];lia
    generalize row.drop n++row.take n=q at R1 L1 ⊢;have D:∀q:At,Ring (Dn rs) q->q.length<=6->Td E (Bb ns true (A2 row) s k (.own (Bm rs)) a b c (.fr (.tup [.str (Str.ofString "ring"),Bw q])) (.sh (.int (n:Int))) .emp):=λq hq lq=>⟨L,ns,true,row,sp,s,k,rs,a,b,c,_,q,_,W,u,h,.inl ⟨rfl,Ry.mpr hq⟩,lq,(λz=>bS z '3'),rfl⟩;refine⟨rfl,NC ⟨2,rfl,'3','3',λr U r1=>⟨⟨rfl,rfl⟩,_,rfl,BP (λz=>⟨_,Hk _ _ _,rfl,?_⟩) λz=>D q R1 L1⟩⟩⟩;refine⟨rfl,?_⟩;show A0 11 (.tup [.str (Str.ofString "ring"),.lst (q.map P.str).reverse]) (CL [(.str (Str.ofString "ring"),.fr),(.lst (q.map P.str).reverse,BC .fr (q.map P.str).reverse)]) _ _;rw[<-map_reverse,M5];exact NC (D q.reverse (Zw Th R1) (by rw[length_reverse];exact L1))
  case a6 =>
   rintro E J ⟨L,ns,rg,row,sp,s,k,rs,a,b,c,wd,l,d,W,u,h,kt,l6,l5,rfl⟩;have rl:=W.rl;have n6:=W.l6;obtain⟨R,sub⟩:=hZ W u h;have kn:∃ps k b,Kno rs l ps k b/\b ^ (k - 1)<=63/\((wd=Str.ofString "ring"/\ps=DS l/\k=2/\b=2)\/(wd=Str.ofString "allbut"/\ps=DT l/\k=l.length - 1/\b=dM (l.length - 1)/\3<=l.length)):=by
    rcases kt with⟨rfl,h1⟩|⟨rfl,h1,h2⟩
    ·exact⟨_,_,_,Kno.ring (Ry.mp h1),'3',.inl ⟨rfl,rfl,rfl,rfl⟩⟩
    ·have ab:=(TY h1.nd).mp h2;have l5:=l5 rfl;have l3:=ab.len;have c3:dM (l.length - 1) ^ (l.length - 1 - 1)<=63:=by
      have:l.length - 1=2\/l.length - 1=3\/l.length - 1=4:=⋯;rcases this with e|e|e<;>rw[e]<;>decide
     exact⟨_,_,_,Kno.allbut ab (Ta h1) l6,c3,.inr ⟨rfl,rfl,rfl,rfl,ab.len⟩⟩
   obtain⟨ps,kk,bb,Kn,bm,hc⟩:=kn;have B:=h7 Kn bm R ⋯ n6 sub;show A0 13 (.lst (rs.map AO)) (BC .bo (rs.map AO)) _ _;refine SE (M6 rs) ?_;exact⟨_,CH _ _,_,Hk _ _ _,rfl,rs,wd,l,ps,kk,bb,rfl,⋯,R,l6,Kn,bm,hc,⟨Tf rs,Tf rs⟩,true,aT P.bl (h8 rs),rs,wd,l,rfl,⋯,⋯,kt,true,rfl,rs,_,rfl,B,Jm rfl,L⟩
end
abbrev AF(K:Fg)(n:Str)(st:Stmt):Prop:=∃(a:Addr) (od an:Go) (sl:Array Ex) (oc kV dc pm cd ct:Value),PySem.W.nsIn K mainGlobals n\(some (.ref a))/\K.lookup a\⟨oc,od,.func (PySem.W.fnOf n n (Dv st) (Cz st) (AR st) .none kV dc pm an cd ct),sl⟩/\PySem.W.codeIn K cd n=true/\PySem.W.keepIn K (.ref a)=true
abbrev Bt(K:Fg)(n:Str):Prop:=PySem.W.nsIn K mainGlobals n\none
theorem AF.of{K:Fg}{n:Str}{od an:Go}{sl:Array Ex}{oc kV f pm c ct:Value}(h1:PySem.W.nsIn K mainGlobals n\(some (.ref a)))(h2:K.lookup a\⟨oc,od,.func (PySem.W.fnOf n n (Dv st) (Cz st) (AR st) .none kV f pm an c ct),sl⟩)(e:PySem.W.codeIn K c n=true)(d:PySem.W.keepIn K (.ref a)=true):AF K n st:=⟨_,_,_,_,_,_,_,_,_,_,h1,h2,e,d⟩
theorem AF.at{K:Fg}{n:Str}(p:AF K n st)(X:K.In h)(us:h.Ns mainGlobals mg):Ak K mg n st:=by
 obtain⟨_,_,_,_,_,_,_,_,_,_,h1,h2,c,a⟩:=p;exact⟨_,_,OB (st:=st) h2 c a,PySem.W.mg_of X us h1⟩
theorem all_mk{l:PySem.W.OpenLaw}{K:Fg}{fa:Addr}(X:K.In h)(us:h.Ns mainGlobals mg)(hfa:mg "law"\(.ref fa))(d0:AF K "within" Jo)(d1:AF K "common" Jp)(d2:AF K "places" Jq)(d3:AF K "picked" Jr)(d4:AF K "summed" Js)(d5:AF K "shared" Ju)(d6:AF K "ring_pieces" Mk)(d7:AF K "answer_rows" Jv)(d8:AF K "least_divisor" Ml)(d9:AF K "allbut_pieces" Jx)(d10:AF K "stretched" Jy)(d11:AF K "room_tally" Jz)(d12:AF K "borne" J0)(d13:AF K "_law_bag" Mn)(d14:AF K "_law_pull" Mo)(d15:AF K "_law_word" J4)(d16:AF K "_law_names" Mp)(d17:AF K "_law_is_order" Mq)(d18:AF K "_law_in" J5)(d19:AF K "_law_stand" J6)(d20:AF K "_law_is_ring" Mr)(d21:AF K "_law_is_allbut" J7)(d22:AF K "_law_is_paper" Ms)(d23:AF K "_law_whole" Mt)(d24:AF K "_law_tuple" J8)(d25:AF K "_law_is_good" J9)(d26:AF K "_law_both" KA)(d27:AF K "_law_row_of" KB)(d28:AF K "_law_settled" KC)(d29:AF K "_law_portion" Mv)(d30:AF K "_law_bar" KD)(d31:AF K "_law_bars" Mw)(d32:AF K "_law_woven" KF)(d33:AF K "_law_all" Mx)(d34:AF K "_law_together" Mz)(d35:AF K "_law_is_borne" M0)(d36:AF K "law" E2)(hb_len:Bt K "len")(hb_list:Bt K "list")(hb_range:Bt K "range")(hb_isinstance:Bt K "isinstance")(hb_bool:Bt K "bool")(hb_int:Bt K "int")(hb_tuple:Bt K "tuple")(hb_all:Bt K "all")(hb_any:Bt K "any")(hb_sorted:Bt K "sorted")(hb_set:Bt K "set")(hb_sum:Bt K "sum")(hb_dict:Bt K "dict")(hb_zip:Bt K "zip")(hb_min:Bt K "min")(hb_max:Bt K "max") :
  ∃fd:FuncData,(∀(s:Shared) (v:Value),BindsTo s fd ⟨[v],[]⟩ [("_law_script",v)])/\∀base:Heap,K.In base->base.Ns mainGlobals mg->FnOk l.prog w K mg base Dw 6 fa fd ["_law_script"] (KM K):=by
 obtain⟨aff,odf,anf,slf,ocf,kVf,dcf,pmf,cdf,ctf,h1f,h2f,h3f,h4f⟩:=d36;have e:=hfa.symm.trans (PySem.W.mg_of X us h1f);cases e;have T:TxtB mg:={ b_len:=cU X us hb_len,b_list:=cU X us hb_list,b_range:=cU X us hb_range,b_isinstance:=cU X us hb_isinstance,b_bool:=cU X us hb_bool,b_int:=cU X us hb_int,b_tuple:=cU X us hb_tuple,b_all:=cU X us hb_all,b_any:=cU X us hb_any,b_sorted:=cU X us hb_sorted,b_set:=cU X us hb_set,b_sum:=cU X us hb_sum,b_dict:=cU X us hb_dict,b_zip:=cU X us hb_zip,b_min:=cU X us hb_min,b_max:=cU X us hb_max };refine⟨PySem.W.fnOf "law" "law" (Dv E2) (Cz E2) (AR E2) .none kVf dcf pmf anf cdf ctf,λs v=>.of_eq rfl,λbase _ _=>?_⟩;have Gpull:=eu (P:=l.prog) (w:=w) (base:=base) (d14.at X us) T;have GpullP:=fG Gpull;have Gwi:=fL (P':=l.prog) (w:=w) (base:=base) (d0.at X us) T;have Gcm:=fM (P':=l.prog) (w:=w) (base:=base) (d1.at X us) T;have Gsh:=fV (d5.at X us) T (fP (d2.at X us) T Gwi) (fQ (P':=l.prog) (w:=w) (base:=base) (d3.at X us) T) (fU (d4.at X us) T);have Gbo:=gC (d12.at X us) T (fh (d6.at X us) T) (fy (d9.at X us) T (ft (d8.at X us) T) (fq (d7.at X us) T)) (gA (d11.at X us) T Gcm Gwi Gsh (f8 (d10.at X us) T));have Gst:=g5 (P':=l.prog) (w:=w) (base:=base) (d19.at X us) T (g4 (d18.at X us) T);have Gpa:=hB (d22.at X us) T (hA (d17.at X us)) (g8 (d20.at X us) T Gst) (g7 (d21.at X us) T Gst);have Gbt:=fN (P':=l.prog) (w:=w) (base:=base) (d26.at X us) T;have Gro:=fO (P':=l.prog) (w:=w) (base:=base) (d27.at X us) T;have Gpor:=fY (d29.at X us) T Gro (fK (P':=l.prog) (w:=w) (base:=base) (d28.at X us) T);have Gwh:=gh (P':=l.prog) (w:=w) (base:=base) (d23.at X us) T;have Gib:=gu (d35.at X us) T (gl (d25.at X us) T (gi (d24.at X us) T Gwh) Gwh) (gH (d31.at X us) T (gD (d30.at X us) T Gbt Gpor)) (gg (d34.at X us) T Gbt Gro (gP (d32.at X us) T) (gI (P':=l.prog) (w:=w) (base:=base) (d33.at X us) T));exact iC (OB (st:=E2) h2f h3f h4f) T (ek (d13.at X us) T) GpullP (fH (fF (d16.at X us) T Gpull (fA (d15.at X us) T Gpull))) Gbo Gpa Gib
theorem walk{l:PySem.W.OpenLaw}{q:Program}{loose:At}{XP:(Str->Ex)->Heap->Prop}{YP:World->Heap->Prop}{d:DefRec}{K:Params->Fg}(hn:l.most\63)(hdf:d.params.defaults=[])
  (hY:∀(w:World) (h:Heap),YP w h->(K w.params).In h)
  (F:∀(w:World) (mg:Str->Ex) (fa:Addr) (h:Heap),(K w.params).In h->h.Ns mainGlobals mg->mg d.name\(.ref fa) ->
   ∃fd:FuncData,(∀(s:Shared) (u:Value),BindsTo s fd ⟨[u],[]⟩ [("_law_script",u)])/\∀base:Heap,(K w.params).In base->base.Ns mainGlobals mg->FnOk l.prog w (K w.params) mg base Dw 6 fa fd ["_law_script"] (KM (K w.params))) :
  PySem.W.WalkO q loose XP YP l.row.toRowW d [] (λf vs=>PySem.call f vs) :=
 L2.dU (n:=63) (k:=6) (x:="_law_script") (CX:=λ_=>Dw) (sp:=λw=>KM (K w.params)) hn '3' hdf ⟨rfl,'3','3'⟩ hY F (λ_ _ a ns hl _ hS=>⟨a,ns,rfl,hS,λ_=>rfl⟩) λ_ _ _ _ _ z=>z
end K
structure PySem.W.Fast:Prop where(tw1004014348525765274 tw10202232224491822136 tw1034977329968130251 tw10380163309258331898 tw10440553938253184993 tw1045101818513982866 tw10462126893061875937 tw10798200887053999712 tw11383105571604532164 tw11473073070552993651 tw11516629897300414905 tw11640618310399329108 tw12071999771818618794 tw12107794673791363175 tw12134414165406016859 tw12354935634669759928 tw12487957664173320022 tw12492294905452898670 tw12587224325902048230 tw12837122658724037823 tw13298226155634572634 tw13461591182905957477 tw13720361278589941835 tw13767831451955189103 tw1392854988535065462 tw14038439163042475486 tw14115627865968566095 tw14163394170454555019 tw14165859748458862421 tw14195313358101601742 tw14308586609707745250 tw14455515214523381214 tw14529244698741665680 tw14891962299937429080 tw1491717702156639369 tw15247557627406262309 tw1532639115000654238 tw15444784025529414751 tw15448215415802161577 tw15503316171873285190 tw1557724923258201064 tw15583362076233782138 tw15619836300082288294 tw15785639387420903229 tw157880614652983389 tw16083450601931817029 tw16291302204033571895 tw16328031742810117437 tw16627946759155342078 tw16681153312667678715 tw17030616346526291553 tw17385767490843436515 tw17864358588674956873 tw17866454029024715676 tw17924713107369194641 tw18025661720335494254 tw18269550263305474732 tw18288773625048738897 tw18362366325002718622 tw1880581858085661984 tw1904452564833928509 tw224152543435559290 tw2470306354023214684 tw2646014182956030992 tw2708567109777090737 tw2857159808505519985 tw3796523297045104126 tw3842311284312182773 tw3974377351181937992 tw4034598235237413841 tw4101533053970898320 tw4288807937170611426 tw4351379706088473956 tw4362109358873609621 tw4382036535583411582 tw4514052286216923828 tw4536402168370452488 tw461584601374505639 tw465359450673831331 tw4722482942039303696 tw4981570244583272385 tw5007519446960071138 tw5128024721092011144 tw5190602433056833058 tw5235223700253784179 tw5722500281740140966 tw6027254669218013397 tw6238855970675104795 tw6241654386080217571 tw6402126795728717411 tw6656068048512556401 tw6909614425937466468 tw6924557961976621938 tw6939594321675688461 tw6972073480127541442 tw7428482059966901683 tw7736862505326829072 tw7779190429620236076 tw8198607307720093354 tw8268413639021648146 tw8369236208150172343 tw8398586905480637530 tw854724191827360169 tw8580473293761706627 tw8777632142059139075 tw8797735177711846114 tw8945890969886972955 tw9005992679554356160 tw9239547656126151052 tw9285751970163940883 tw9345585558177344092 tw9446976885300560186 tw9549863518026294447 tw9558034882203083769:True)
open PySem PySem.W PyProof.Rows
set_option maxRecDepth 100000 in
set_option maxHeartbeats 0 in
theorem PySem.Challenge.cw_roomtally_k20_tallies_of_a_handed_knot_holds : PySem.Challenge.rw_roomtally_k20_tallies_of_a_handed_knot.Holds := by
  w_on; o_law; k_head; (case hw => w_witness2)
  k_fill
  refine K.walk (l := PySem.Challenge.rw_roomtally_k20_tallies_of_a_handed_knot) rfl rfl (λw h σ => PySem.W.kIn_of σ) ?F
  case F =>
    intro w mg fa h KX us hmg;refine' K.all_mk KX us hmg ?_ ?_ ?_ ?_ ?_ ?_ ?_ ?_ ?_ ?_ ?_ ?_ ?_ ?_ ?_ ?_ ?_ ?_ ?_ ?_ ?_ ?_ ?_ ?_ ?_ ?_ ?_ ?_ ?_ ?_ ?_ ?_ ?_ ?_ ?_ ?_ ?_ ?_ ?_ ?_ ?_ ?_ ?_ ?_ ?_ ?_ ?_ ?_ ?_ ?_ ?_ ?_ ?_
    all_goals first|exact K.AF.of (by k_is) (by k_is) (by k_is) (by k_is)|(show _=_;k_is)