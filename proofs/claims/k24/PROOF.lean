import PyProof.Rows.All
import Wide.All
import OpenK.AllK
import Wide.FinOn
import Lean
import PyProof.EqAt
import PyProof.EqKinds
import PyProof.TupleCall
import PyProof.NeKinds
import PyProof.Draws
import PyProof.ZipIter
import KE.KSortTup
import PyProof.DictWalks
import KE.KDictList
import KE.KDictSum
import PyProof.AttrMissSeq
import PyProof.MinMaxWalk
import PyProof.Rows.SortRuns
import PyProof.Rows.SortKey
import PyProof.ExcBaseAll.ValueError
import OpenK.KOwn
import PyProof.InstStoreFacts
import PyProof.ExcInit
import PyProof.RulesDel
import PyProof.RulesAs
import KE.KItemsList
import PyProof.SetRoads
import PyProof.WalksMore
import PyProof.Rows.SetFrom
import PyProof.IsRules
import PyProof.Cells
import PyProof.ListRange
import PyProof.ListTruth
import KE.KEqDict
import KE.KRevIter
import PySem.Challenge.RW_roomtally_k24_wide_tallies
set_option Elab.async false
set_option linter.all false
set_option compiler.extract_closed false
set_option maxRecDepth 100000
set_option maxHeartbeats 4000000
noncomputable section
open PySem List
abbrev At:=List PySem.Str
abbrev By:=List Int
abbrev Do:=List PySem.Value
abbrev Ex:=Option PySem.Value
abbrev FG:=Array PySem.Value
abbrev Ge:=List Nat
abbrev Go:=Option PySem.Addr
abbrev Ha:=List PySem.Addr
abbrev Hb:=List PySem.Expr
abbrev He:=List PySem.Stmt
abbrev dE{α:Sort u}{β:Sort v}{a:α->β}(i:α):a i=a i:=rfl
abbrev dF{α:Sort u}{γ:α->Sort w}{β:Sort v}{a:∀i,γ i->β}(i:α)(j:γ i):a i j=a i j:=rfl
abbrev aA:=@length_map
abbrev aB:=@if_neg
abbrev aC:=@if_pos
abbrev aD:=@PyProof.Rows.wpS_bind
abbrev aE:=@PyProof.Rows.wpS_pure
abbrev aF:=@mem_cons
abbrev aG:=@length_append
abbrev aH:=@getElem?_eq_getElem
abbrev aI:=@List.getElem?_eq_some_iff
abbrev aJ:=@Option.map_eq_some_iff
abbrev aK:=@decide_eq_true
abbrev aL:=@of_decide_eq_true
abbrev aM:=@mem_of_getElem?
abbrev aO:=@length_take
abbrev aP:=@mem_map_of_mem
abbrev aQ:=@Nat.le_refl
abbrev aR:=@Nat.le_trans
abbrev aS:=@Heap.get?_push_of_some
abbrev aT:=@congrArg
abbrev aU:=@Nat.lt_of_lt_of_le
abbrev aV:=@eq_of_beq
abbrev aW:=@decide_eq_true_iff
abbrev aX:=@Nat.lt_irrefl
abbrev aY:=@Nat.le_of_lt
abbrev aZ:=@take_of_length_le
abbrev bA:=@mem_append
abbrev bB:=@not_mem_nil
abbrev bC:=@nodup_cons
abbrev bG:=@length_range
abbrev bH:=@mem_range
abbrev bI:=@mem_singleton
abbrev bK:=@append_assoc
abbrev bL:=@wpAny_mono
abbrev bM:=@wpAny_holding
abbrev bN:=@Heap.lt_size
abbrev bO:=@getElem?_map
abbrev bP:=@Heap.get?_push_size
abbrev bQ:=@getElem?_eq_none
abbrev bR:=@Array.length_toList
abbrev bS:=@absurd
abbrev bT:=@mem_cons_of_mem
abbrev bU:=@mem_map
abbrev bV:=@getElem?_set_ne
abbrev bW:=@getD_eq_getElem?_getD
abbrev bX:=@Nat.ne_of_lt
abbrev bY:=@getElem?_set_self
abbrev bZ:=@map_map
abbrev cA:=@mem_cons_self
abbrev cB:=@Bool.and_eq_true
abbrev cC:=@mem_append_right
abbrev cD:=@Nat.zero_le
abbrev cE:=@Nat.lt_or_ge
abbrev cF:=@map_congr_left
abbrev cG:=@wpAny_newObj_type
abbrev cH:=@Bool.false_ne_true
abbrev cI:=@Array.toList_append
abbrev cJ:=@decide_eq_false
abbrev cK:=@Array.getElem?_eq_getElem
abbrev cL:=@Heap.get?_update_other
abbrev cM:=@eq_nil_of_length_eq_zero
abbrev cN:=@map_append
abbrev cO:=@append_nil
abbrev cP:=@wpAny_call_entry
abbrev cQ:=@pairwise_append
abbrev cR:=@Nat.le_succ
abbrev cS:=@pairwise_cons
abbrev cT:=@sizeLine_eq
abbrev cU:=@PySem.W.mg_none_of
abbrev cW:=@mem_filter
abbrev dC:=@if_true
abbrev VS:=Value->Shared->Prop
abbrev oI:=@Option.some.inj
abbrev Fg:=PySem.W.Frag
local macro_rules
 |`(nofun)=>`(by decide +kernel)
variable{fd:FuncData}{ps N ns N' qK qC qB qJ:At}{us:Do}{x qual:Str}{u v' u':Value}{a p it d I:Addr}{h h' base:Heap}{w:World}{qA:List (Addr×Obj)}{s:Shared}{t' i j n lo ep:Nat}{A:Around}{E Q:VS}{pos pos' qM qL:Pos}{st:SortSt}{c tg iter ce:Expr}{es ifs:Hb}{fp:Ha}{r:By}{mg:Str->Ex}{ks:List By}{sc scope:Scope}{prog P':Program}{qH:FG}{env:Env}{q:By×Int}{qD:List (Option Nat)}{Z:Addr->Prop}{Kf:Fg}{rs:List At}{O:KeyOrd}{qG:Array Keyed}
abbrev wB:=@PySem.wpAny_bind
abbrev wP:=@PySem.wpAny_pure
local macro_rules
 |`(tactic| trivial)=>`(tactic| first|exact .inl rfl|exact .inr rfl|exact .inr (.inl rfl)|exact .inr (.inr rfl)|assumption)
local macro_rules|`(⋯)=>`(by lia)
namespace L2
open PySem PySem.Spec PyProof.Rows
theorem DH(h:us.length=1)(k:∀a,bindArgs fd ⟨[a],[]⟩=pure (ps.zip [a])):bindArgs fd ⟨us,[]⟩=pure (ps.zip us):=by
 cases us with
 |nil=>cases h
 |cons a l=>cases l with
  |nil=>exact k a
  |cons _ _=>cases h
theorem CM(h:us.length=2)(k:∀a b,bindArgs fd ⟨[a,b],[]⟩=pure (ps.zip [a,b])):bindArgs fd ⟨us,[]⟩=pure (ps.zip us):=by
 rcases us with _|⟨a,_|⟨b,_|⟨_,_⟩⟩⟩<;>first|exact k _ _|cases h
theorem EB(h:us.length=3)(k:∀a b c,bindArgs fd ⟨[a,b,c],[]⟩=pure (ps.zip [a,b,c])):bindArgs fd ⟨us,[]⟩=pure (ps.zip us):=by
 rcases us with _|⟨a,_|⟨b,_|⟨c,_|⟨_,_⟩⟩⟩⟩<;>first|exact k _ _ _|cases h
theorem NX(h:us.length=4)(k:∀a b c d,bindArgs fd ⟨[a,b,c,d],[]⟩=pure (ps.zip [a,b,c,d])):bindArgs fd ⟨us,[]⟩=pure (ps.zip us):=by
 rcases us with _|⟨a,_|⟨b,_|⟨c,_|⟨d,_|⟨_,_⟩⟩⟩⟩⟩<;>first|exact k _ _ _ _|cases h
abbrev AO:=Sum Int Str
def FO:AO->Value->Bool
 |.inl k,v=>Value.isInt k v
 |.inr x,v=>Value.isStrOf x v
def Tx(w:World):AO->Int
 |.inl k=>hashInt k
 |.inr x=>hashStr w x
theorem Ds:∀{k:AO} {v:Value},FO k v=true->(∃i t,k=Sum.inl i/\v=Value.int i t)\/(∃x t,k=Sum.inr x/\v=Value.str x t)
 |.inl i,v,h=>by
  obtain⟨t,e⟩:=Value.isInt_shape (k:=i) (v:=v) h;exact .inl ⟨i,t,rfl,e⟩
 |.inr x,v,h=>by
  obtain⟨t,e⟩:=Value.isStrOf_shape (x:=x) (v:=v) h;exact .inr ⟨x,t,rfl,e⟩
theorem Tz(i:Int)(t:Tok):FO (.inl i) (.int i t)=true:=by simp[FO,Value.isInt]
theorem T0(x:Str)(t:Tok):FO (.inr x) (.str x t)=true:=by simp[FO,Value.isStrOf]
theorem T1(a b:Int):decide ((Sum.inl a:AO)=Sum.inl b)=(a==b):=by
 by_cases e:a=b
 ·subst e;simp
 ·have h:¬(Sum.inl a:AO)=Sum.inl b:=λq=>e (Sum.inl.inj q);rw[cJ h];exact(beq_eq_false_iff_ne.mpr e).symm
theorem T3(a b:Str):decide ((Sum.inr a:AO)=Sum.inr b)=decide (a=b):=by
 by_cases e:a=b
 ·subst e;simp
 ·have h:¬(Sum.inr a:AO)=Sum.inr b:=λq=>e (Sum.inr.inj q);rw[cJ h,cJ e]
theorem T4(a:Int)(b:Str):decide ((Sum.inl a:AO)=Sum.inr b)=false:=cJ (λq=>nomatch q)
theorem T5(a:Str)(b:Int):decide ((Sum.inr a:AO)=Sum.inl b)=false:=cJ (λq=>nomatch q)
def B0(prog:Program)(w:World):PySem.KeyKind prog w AO where
 is:=FO
 hash:=Tx w
 inj:=λv a b ha hb=>by
  rcases Ds ha with⟨i,t,rfl,rfl⟩|⟨x,t,rfl,rfl⟩
  ·rcases Ds hb with⟨j,u,rfl,e⟩|⟨y,u,rfl,e⟩
   ·injection e with e1 _;rw[e1]
   ·exact nomatch e
  ·rcases Ds hb with⟨j,u,rfl,e⟩|⟨y,u,rfl,e⟩
   ·exact nomatch e
   ·injection e with e1 _;rw[e1]
 byValue:=λk v h=>by
  rcases Ds h with⟨i,t,rfl,rfl⟩|⟨x,t,rfl,rfl⟩<;>rfl
 pyHash:=λhv h=>by
  rcases Ds hv with⟨i,t,rfl,rfl⟩|⟨x,t,rfl,rfl⟩
  ·exact wpAny_pyHash_int h
  ·exact wpAny_pyHash_str h
 eqBool:=λhu hv h=>by
  rcases Ds hu with⟨i,t,rfl,rfl⟩|⟨x,t,rfl,rfl⟩
  ·rcases Ds hv with⟨j,u,rfl,rfl⟩|⟨y,u,rfl,rfl⟩
   ·rw[T1]at h;exact wpAny_eqBool_int h
   ·rw[T4]at h;exact SeqAt.EqAt.int_str i t y u _ _ _ _ h
  ·rcases Ds hv with⟨j,u,rfl,rfl⟩|⟨y,u,rfl,rfl⟩
   ·rw[T5]at h;exact SeqAt.EqAt.str_int x t j u _ _ _ _ h
   ·rw[T3]at h;exact wpAny_eqBool_str h
 «strs»:=λk x t v h=>by
  rcases Ds h with⟨i,u,rfl,e⟩|⟨y,u,rfl,e⟩
  ·exact nomatch e
  ·injection e with e1 _
   subst e1;cases v<;>rfl
theorem T6(prog:Program)(w:World)(i:Int)(t:Tok):(B0 prog w).is (.inl i) (.int i t)=true:=Tz i t
theorem T7(prog:Program)(w:World)(x:Str)(t:Tok):(B0 prog w).is (.inr x) (.str x t)=true:=T0 x t
inductive V where
 |non|bl (b:Bool)|int (i:Int)|str (x:Str)|byt (b:Array UInt8)|flt (b:UInt64)|ref (a:Addr)|ty (n:String)
 deriving DecidableEq
abbrev dG:=List V
def AH:V->Value->Prop
 |.non,u=>u=Value.none
 |.bl b,u=>u=Value.bool b
 |.int i,u=>∃t,u=Value.int i t
 |.str x,u=>∃t,u=Value.str x t
 |.byt b,u=>∃t,u=Value.bytes b t
 |.flt b,u=>∃t,u=Value.float b t
 |.ref a,u=>u=Value.ref a
 |.ty n,u=>u=Value.type n
abbrev AQ:dG->Do->Prop:=Paired AH
theorem AQ.length{xs:dG}(r:AQ xs us):xs.length=us.length:=Paired.length r
theorem AQ.get:∀{xs:dG} {us:Do} {i:Nat} {x:V},AQ xs us->xs[i]?=some x->∃u,us[i]?=some u/\AH x u
 |_,_,_,_,.nil,e=>by simp at e
 |_,_,0,_,.cons r _,e=>by simp at e;subst e;exact⟨_,rfl,r⟩
 |_,_,i+1,x,.cons _ t,e=>by
  obtain⟨u,h1,h2⟩:=AQ.get (i:=i) (x:=x) t (by simpa using e);exact⟨u,by simpa using h1,h2⟩
theorem AQ.set{x:V}{u:Value}(r:AH x u):∀{xs:dG} {us:Do} (i:Nat),AQ xs us->AQ (xs.set i x) (us.set i u)
 |_,_,_,.nil=>.nil
 |_,_,0,.cons _ t=>.cons r t
 |_,_,i+1,.cons q t=>.cons q (AQ.set r i t)
theorem AQ.append:∀{xs ys:dG} {us a:Do},AQ xs us->AQ ys a->AQ (xs++ys) (us++a)
 |_,_,_,_,.nil,s=>s
 |_,_,_,_,.cons r t,s=>.cons r (AQ.append t s)
theorem AQ.take:∀{xs:dG} {us:Do} (n:Nat),AQ xs us->AQ (xs.take n) (us.take n)
 |_,_,0,_=>.nil
 |_,_,_+1,.nil=>.nil
 |_,_,n+1,.cons r t=>.cons r (AQ.take n t)
theorem AQ.drop:∀{xs:dG} {us:Do} (n:Nat),AQ xs us->AQ (xs.drop n) (us.drop n)
 |_,_,0,r=>r
 |_,_,_+1,.nil=>.nil
 |_,_,n+1,.cons _ t=>AQ.drop n t
def Cn:Option V->Ex->Prop
 |some v,some u=>AH v u
 |none,none=>True
 |_,_=>False
def KV{κ:Type}:List (κ×V)->List (κ×Value)->Prop:=Paired λ(p:κ×V) (q:κ×Value)=>p.1=q.1/\AH p.2 q.2
def kV:AO->V
 |.inl i=>.int i
 |.inr x=>.str x
inductive HO where
 |lst (xs:dG)
 |tup (xs:dG)
 |dK (qI:List (AO×V))|dT (qI:List (List AO×V))
 |set (S:Int->Bool) (n:Nat)
 |ins (C dx:Addr) (fs:List (Str×V))
 |own (x:Addr)
 |xd (fs:List (Str×V))
 |met (f x:Addr)
 |rng (lo hi:Int)
 |frz (o:Obj) (u:HO)
 |tbl (ps:FG)
 |ext (φ:Heap->Prop)
abbrev Hp:=Addr->Option HO
def AD(H:Hp)(a:Addr)(o:HO):Hp:=λb=>if b=a then some o else H b
theorem Aa{H:Hp}{o:HO}:AD H a o a=some o:=by unfold AD;rw[aC rfl]
theorem AK{H:Hp}{b:Addr}{o:HO}(h:b≠a):AD H a o b=H b:=by unfold AD;rw[aB h]
theorem H0{H:Hp}{o u:HO}:AD (AD H a o) a u=AD H a u:=by
 funext b;unfold AD;split<;>rfl
theorem EC{H:Hp}{b:Addr}{o u:HO}(h:H a=some o)(h':H b=some u)(d:o≠u):a≠b:=by
 intro e;subst e;rw[h]at h';exact d (oI h')
theorem A2{H:Hp}{b:Addr}{o:HO}(h:H a=some o)(h':H b=none):a≠b:=by
 intro e;subst e;rw[h]at h';cases h'
def DX(h:Heap)(a:Addr)(items:FG):Prop:=∃o,h.get? a=some o/\o.cls=.type "tuple"/\(∃n,o.data=.seq items n)/\o.dict=none
theorem DX.tup{items:FG}(x:DX h a items):IsTup h a items:=let⟨o,e,c,d,_⟩:=x;⟨o,e,c,d⟩
theorem DX.new(h:Heap)(items:FG):DX (h.push { cls:=.type "tuple",data:=.seq items }) h.objs.size items:=⟨_,bP _ rfl,rfl,⟨_,rfl⟩,rfl⟩
section
variable(P:Program)(w:World)
def A4(H:Hp)(h:Heap)(a:Addr):HO->Prop
 |.lst xs=>xs.length<=sizeLine/\∃(qH:Do) (n:Nat),AQ xs qH/\h.get? a=some { cls:=.type "list",data:=.seq qH.toArray n }
 |.tup xs=>xs.length<=sizeLine/\∃qH:Do,AQ xs qH/\DX h a qH.toArray
 |.dK qI=>qI.length<=sizeLine/\(a==sysModules)=false/\∃vs,KV qI vs/\h.DictOf (B0 P w) a vs
 |.dT qI=>qI.length<=sizeLine/\(a==sysModules)=false/\∃xs:List (List AO×Addr×Value),
   Paired (λ(p:List AO×V) (q:List AO×Addr×Value)=>p.1=q.1/\H q.2.1=some (.tup (p.1.map kV))/\AH p.2 q.2.2) qI xs /\
   ∃o es ep,h.get? a=some o/\o.ExactDict/\o.data=.dict es ep/\es.toList=xs.map (entryOfKey (tupleKind (B0 P w)))/\(xs.map (·.1)).Nodup
 |.set S n=>h.SetOf (intKind P w) a S n
 |.ins C dx fs=>H dx=some (.own a)/\fs.length<=1000/\dx≠a/\h.get? a=some (PySem.W.instObj C dx) /\
   ∃mA,h.Ns1 dx mA/\(∀f,Cn (fs.lookup f) (mA f))/\PySem.Within mA (fs.map (·.1))
 |.own _=>∃o,h.get? a=some o
 |.xd fs=>∃mA,h.Ns1 a mA/\∀f,Cn (fs.lookup f) (mA f)
 |.rng lo hi=>∃t u v,h.get? a=some { cls:=.type "range",data:=.fields #[.int lo t,.int hi u,.int 1 v] }
 |.frz o u=>h.get? a=some o/\A4 H h a u
 |.tbl ps=>h.get? a=some { cls:=.none,data:=.fields ps }
 |.met f x=>h.get? a=some (PySem.W.methodObj (.ref f) (.ref x))
 |.ext φ=>φ h/\(∃o,h.get? a=some o)/\∀h1 h2:Heap,φ h1->(∀o,h1.get? a=some o->h2.get? a=some o)->φ h2
def A7(H:Hp)(h:Heap):Prop:=∀a o,H a=some o->A4 P w H h a o
end
section
variable{P:Program}{H H':Hp}{o:HO}
theorem A4.lt(x:A4 P w H h a o):a<h.objs.size:=by
 cases o with
 |lst xs=>obtain⟨_,_,_,_,e⟩:=x;exact bN e
 |tup xs=>obtain⟨_,_,_,p⟩:=x;exact p.tup.lt
 |dK qI=>obtain⟨_,_,_,_,o,_,_,e,_⟩:=x;exact bN e
 |dT qI=>obtain⟨_,_,_,_,o,_,_,e,_⟩:=x;exact bN e
 |set S n=>obtain⟨o,_,_,_,e,_⟩:=x;exact bN e
 |ins C dx fs=>obtain⟨_,_,_,e,_⟩:=x;exact bN e
 |own y=>obtain⟨_,e⟩:=x;exact bN e
 |xd fs=>obtain⟨_,⟨_,_,_,e,_⟩,_⟩:=x;exact bN e
 |rng lo hi=>obtain⟨_,_,_,e⟩:=x;exact bN e
 |frz ob u=>obtain⟨e,_⟩:=x;exact bN e
 |tbl ps=>exact bN (show h.get? a=some _ from x)
 |met f y=>exact bN (show h.get? a=some _ from x)
 |ext φ=>obtain⟨_,⟨_,e⟩,_⟩:=x;exact bN e
theorem Paired.mapP{α β:Type}{F G:α->β->Prop}:∀{c:List α} {l₂:List β},Paired F c l₂->(∀a b,F a b->G a b)->Paired G c l₂
 |_,_,.nil,_=>.nil
 |_,_,.cons r t,f=>.cons (f _ _ r) (Paired.mapP t f)
theorem A4.stay(x:A4 P w H h a o)(k:∀b u,(b=a\/H b=some (.own a))->h.get? b=some u->h'.get? b=some u)
  (j:∀b,H b=some (.own a)->H' b=some (.own a)) (i:∀b xs,H b=some (.tup xs)->H' b=some (.tup xs)):A4 P w H' h' a o:=by
 induction o with
 |lst xs=>obtain⟨z,qH,n,r,e⟩:=x;exact⟨z,qH,n,r,k _ _ (.inl rfl) e⟩
 |tup xs=>obtain⟨z,qH,r,ob,e,c⟩:=x;exact⟨z,qH,r,ob,k _ _ (.inl rfl) e,c⟩
 |dK qI=>obtain⟨z,y,vs,r,ob,es,ep,e,c⟩:=x;exact⟨z,y,vs,r,ob,es,ep,k _ _ (.inl rfl) e,c⟩
 |dT qI =>
  obtain⟨z,y,xs,r,ob,es,ep,e,c⟩:=x;exact⟨z,y,xs,Paired.mapP r λp q z=>⟨z.1,i _ _ z.2.1,z.2.2⟩,ob,es,ep,k _ _ (.inl rfl) e,c⟩
 |set S n=>obtain⟨ob,es,ep,t,e,c⟩:=x;exact⟨ob,es,ep,t,k _ _ (.inl rfl) e,c⟩
 |ins C dx fs =>
  obtain⟨d,z,ne,e,mA,⟨od,es,ep,l,c⟩,r⟩:=x;exact⟨j _ d,z,ne,k _ _ (.inl rfl) e,mA,⟨od,es,ep,k _ _ (.inr d) l,c⟩,r⟩
 |own y=>obtain⟨ob,e⟩:=x;exact⟨ob,k _ _ (.inl rfl) e⟩
 |xd fs=>obtain⟨mA,⟨od,es,ep,e,c⟩,r⟩:=x;exact⟨mA,⟨od,es,ep,k _ _ (.inl rfl) e,c⟩,r⟩
 |rng lo hi=>obtain⟨t,u,v,e⟩:=x;exact⟨t,u,v,k _ _ (.inl rfl) e⟩
 |frz ob u g=>obtain⟨e,q⟩:=x;exact⟨k _ _ (.inl rfl) e,g q⟩
 |tbl ps =>
  have e:h.get? a=some { cls:=.none,data:=.fields ps }:=x;show h'.get? a=some { cls:=.none,data:=.fields ps };exact k a _ (.inl rfl) e
 |met f y =>
  have e:h.get? a=some (PySem.W.methodObj (.ref f) (.ref y)):=x;show h'.get? a=some (PySem.W.methodObj (.ref f) (.ref y));exact k a _ (.inl rfl) e
 |ext φ=>obtain⟨p,⟨o,e⟩,st⟩:=x;exact⟨st _ _ p λo q=>k _ _ (.inl rfl) q,⟨o,k _ _ (.inl rfl) e⟩,st⟩
theorem A7.lt(x:A7 P w H h)(e:H a=some o):a<h.objs.size:=(x a o e).lt
theorem A7.fresh(x:A7 P w H h)(e:h.objs.size<=a):H a=none:=by
 cases q:H a with
 |none=>rfl
 |some u=>exact bS (aU (x.lt q) e) (aX _)
theorem A7.kept(x:A7 P w H h)(k:∀b u,h.get? b=some u->h'.get? b=some u):A7 P w H h':=λa o e =>
 (x a o e).stay (λb u _ q=>k b u q) (λ_ q=>q) λ_ _ q=>q
theorem A7.laid(x:A7 P w H h)(k:∀b u,h.get? b=some u->h'.get? b=some u)(d:h.objs.size<=a)(new:A4 P w (AD H a o) h' a o):A7 P w (AD H a o) h':=λb u e=>by
 have hn:=x.fresh d;by_cases hb:b=a
 ·subst hb;rw[Aa]at e;cases e;exact new
 ·rw[AK hb]at e;exact(x b u e).stay (λc v _ q=>k c v q) (λc q=>by rw[AK (A2 q hn)];exact q) λc xs q=>by rw[AK (A2 q hn)];exact q
end
def Rd(H:Hp)(a:Addr)(u:HO):Prop:=H a=some u\/∃o,H a=some (.frz o u)
theorem Rd.of{H:Hp}{u:HO}(h:H a=some u):Rd H a u:=.inl h
theorem Rd.ok{P:Program}{H:Hp}{u:HO}(r:Rd H a u)(x:A7 P w H h):A4 P w H h a u:=by
 rcases r with r|⟨o,r⟩
 ·exact x a u r
 ·obtain⟨_,q⟩:=x a _ r;exact q
def GO:Option HO->Prop
 |some (.lst _)=>True
 |some (.dK _)=>True
 |some (.dT _)=>True
 |some (.set _ _)=>True
 |some (.ins _ _ _)=>True
 |some (.ext _)=>True
 |_=>False
section
variable{P:Program}{H:Hp}{x e:Addr}{o':HO}
theorem A7.write(ok:A7 P w H h)(g:GO (H x))(j:e=x\/H e=some (.own x))(k:∀b u,b≠e->h.get? b=some u->h'.get? b=some u)(i:∃u,h'.get? e=some u)
  (new:A4 P w (AD H x o') h' x o'):A7 P w (AD H x o') h':=λb u q=>by
 have d:∀c y,H c=some (.own y)->c≠x:=λc y r z=>by subst z;rw[r]at g;exact g
 have f:∀c xs,H c=some (.tup xs)->c≠x:=λc xs r z=>by subst z;rw[r]at g;exact g
 by_cases hb:b=x
 ·subst hb;rw[Aa]at q;cases q;exact new
 ·rw[AK hb]at q;by_cases a:b=e
  ·have q':H b=some (.own x):=by
    rcases j with z|z
    ·exact bS (a.trans z) hb
    ·rw[a];exact z
   rw[q]at q';cases q';obtain⟨v,l⟩:=i;exact⟨v,by rw[a];exact l⟩
  ·refine(ok b u q).stay (λc v hc r=>k c v ?_ r) (λc r=>by rw[AK (d c b r)];exact r) λc xs r=>by rw[AK (f c xs r)];exact r
   rcases hc with rfl|hc
   ·exact a
   ·rintro rfl;rcases j with z|z
    ·exact d c b hc z
    ·rw[hc]at z;cases z;exact hb rfl
end
structure Un(fs ex:Ha)(H H':Hp)(h h':Heap):Prop where
 keep:∀b o,h.get? b=some o->H b=none->b∉fs->b∉ex->h'.get? b=some o
 slot:∀b o,h.get? b=some o->H b=none->b∈fs->b∉ex->∃sl,h'.get? b=some { o with slots:=sl }
 free:∀b o,h.get? b=some o->H b=none->b∉ex->H' b=none
 there:∀b o,h.get? b=some o->b∉ex->∃o',h'.get? b=some o'
 tups:∀b xs,H b=some (.tup xs)->H' b=some (.tup xs)
 frzs:∀b o u,H b=some (.frz o u)->H' b=some (.frz o u)
 tbls:∀b ps,H b=some (.tbl ps)->∃more,H' b=some (.tbl (ps++more))
section
variable{fs fs' ex ex':Ha}{H H1 H2:Hp}{h1 h2:Heap}{x e:Addr}{o:HO}
theorem Un.any(u:Un fs ex H H1 h h1){b:Addr}{ob:Obj}(q:h.get? b=some ob)(n:H b=none)(a:b∉ex):∃sl,h1.get? b=some { ob with slots:=sl }:=by
 by_cases hb:b∈fs
 ·exact u.slot b ob q n hb a
 ·exact⟨ob.slots,u.keep b ob q n hb a⟩
theorem Un.trans(a:Un fs ex H H1 h h1)(b:Un fs ex H1 H2 h1 h2):Un fs ex H H2 h h2 where
 keep:=λc ob q n f d=>b.keep c ob (a.keep c ob q n f d) (a.free c ob q n d) f d
 slot:=λc ob q n f d=>by
  obtain⟨sl,e⟩:=a.slot c ob q n f d;obtain⟨g,i⟩:=b.slot c _ e (a.free c ob q n d) f d;exact⟨g,i⟩
 free:=λc ob q n d=>by
  obtain⟨o',e⟩:=a.there c ob q d;exact b.free c o' e (a.free c ob q n d) d
 there:=λc ob q d=>by
  obtain⟨o',e⟩:=a.there c ob q d;exact b.there c o' e d
 tups:=λc xs q=>b.tups c xs (a.tups c xs q)
 frzs:=λc ob xs q=>b.frzs c ob xs (a.frzs c ob xs q)
 tbls:=λc ps q=>by
  obtain⟨l,e⟩:=a.tbls c ps q;obtain⟨j,i⟩:=b.tbls c _ e;exact⟨l++j,by rw[i,Array.append_assoc]⟩
theorem Un.kept(k:∀b u,h.get? b=some u->h'.get? b=some u):Un fs ex H H h h' :=
 ⟨λb ob q _ _ _=>k b ob q,λb ob q _ _ _=>⟨ob.slots,k b ob q⟩,λ_ _ _ n _=>n,λb ob q _=>⟨ob,k b ob q⟩,λ_ _ q=>q,λ_ _ _ q=>q,λ_ ps q=>⟨#[],by rw[q];simp⟩⟩
theorem Un.refl:Un fs ex H H h h:=Un.kept λ_ _ q=>q
theorem Un.laid(k:∀b u,h.get? b=some u->h'.get? b=some u)(c:h.objs.size<=a)(hn:H a=none):Un fs ex H (AD H a o) h h' where
 keep:=λb u q _ _ _=>k b u q
 slot:=λb u q _ _ _=>⟨u.slots,k b u q⟩
 free:=λb u q n _=>by rw[AK (bX (aU (bN q) c))];exact n
 there:=λb u q _=>⟨u,k b u q⟩
 tups:=λb xs q=>by rw[AK (A2 q hn)];exact q
 frzs:=λb u xs q=>by rw[AK (A2 q hn)];exact q
 tbls:=λb ps q=>⟨#[],by rw[AK (A2 q hn),q];simp⟩
theorem Un.write(c:GO (H x))(g:e=x\/H e=some (.own x))(k:∀b u,b≠e->h.get? b=some u->h'.get? b=some u)(d:∃u,h'.get? e=some u):Un fs ex H (AD H x o) h h':=by
 have f:∀b,H b=none->b≠x:=λb n z=>by subst z;rw[n]at c;exact c
 have hb:∀b,H b=none->b≠e:=λb n z=>by
  subst z;rcases g with r|r
  ·exact f b n r
  ·rw[n]at r;cases r
 have hm:∀b u,H b=some u->¬GO (some u)->b≠x:=λb u q nm z=>by subst z;rw[q]at c;exact nm c
 refine⟨λb u q n _ _=>k b u (hb b n) q,λb u q n _ _=>⟨u.slots,k b u (hb b n) q⟩,λb u q n _=>by rw[AK (f b n)];exact n,λb u q _=>?_,
  λb xs q=>by rw[AK (hm b _ q λz=>z)];exact q,λb u xs q=>by rw[AK (hm b _ q λz=>z)];exact q,λb ps q=>⟨#[],by rw[AK (hm b _ q λz=>z),q];simp⟩⟩
 by_cases a:b=e
 ·subst a;exact d
 ·exact⟨u,k b u a q⟩
end
def IA(h:Heap)(H:Hp):Ha:=(List.range h.objs.size).filter λa=>(H a).isSome
def Dt(h:Heap)(H:Hp):Heap:=PySem.W.hideAll h (IA h H)
theorem T8(h:Heap)(H:Hp):(Dt h H).objs.size=h.objs.size:=PySem.W.hideAll_size _ _
theorem T9{H:Hp}{b:Addr}{o:Obj}(e:h.get? b=some o)(n:H b=none):(Dt h H).get? b=some o :=
 PySem.W.hideAll_get _ e λa=>by
  have q:(H b).isSome=true:=(cW.mp a).2;rw[n]at q;simp at q
theorem UA{H:Hp}{b:Addr}{o:Obj}(e:(Dt h H).get? b=some o):h.get? b=some o/\H b=none:=by
 have a:h.get? b=some o:=PySem.W.of_hideAll (IA h H) e;refine⟨a,?_⟩;cases q:H b with
 |none=>rfl
 |some x =>
  have c:b∈IA h H:=cW.mpr ⟨bH.mpr (bN a),by simp[q]⟩;have z:(Dt h H).get? b=none:=PySem.W.hideAll_none (IA h H) c;rw[z]at e;cases e
def IB(g h:Heap)(L:Addr):List (Addr×Obj):=(List.range h.objs.size).filterMap λa=>if a=L\/(g.get? a).isSome=true then none else(h.get? a).map λo=>(a,o)
theorem KR{g:Heap}{L:Addr}{o:Obj}(h1:a≠L)(h2:g.get? a=none)(c:h.get? a=some o):(a,o)∈IB g h L :=
 mem_filterMap.mpr ⟨a,bH.mpr (bN c),by simp[h1,h2,c]⟩
theorem UB{g:Heap}{L:Addr}{p:Addr×Obj}(c:p∈IB g h L):p.1≠L/\g.get? p.1=none/\h.get? p.1=some p.2:=by
 obtain⟨b,_,e⟩:=mem_filterMap.mp c;split at e
 ·cases e
 ·rename_i a;cases q:h.get? b with
  |none=>rw[q]at e;simp at e
  |some u =>
   rw[q]at e;simp only[Option.map_some,Option.some.injEq]at e;subst e;refine⟨λz=>a (.inl z),?_,q⟩;show g.get? b=none;cases r:g.get? b with
   |none=>rfl
   |some v=>exact(a (.inr (by simp[r]))).elim
def qF(g h:Heap)(L d:Addr):List (Addr×Obj):=(IB g h L).filter λp=>decide (p.1≠d)
theorem UC{g:Heap}{L:Addr}:News g L h (IB g h L):=λp d=>let⟨a,b,c⟩:=UB d;⟨c,a,b⟩
structure Mod(K:Fg)(mg:Str->Ex)(base:Heap):Prop where
 kin:K.In base
 glob:base.Ns mainGlobals mg
 blt:∃mb,base.Ns builtinsNs mb/\∀x:Str,x≠"__name__"->mb x=bootBuiltins x
 nolimit:base.NoLimit
structure Cx where
 prog:Program
 w:World
 K:Fg
 mg:Str->Ex
 base:Heap
 A:Around
 N:At
 s₀:Shared
 H₀:Hp
 env:Env
 outer:List Env
 stack:List Env
 ex:Ha
 fn:Str->Bool
 calm:Bool
 pn:List (Addr×Obj)
 xe:VS
end L2
variable{H H' H1 H2 Hs:L2.Hp}{o:L2.HO}{X:L2.Cx}{v:L2.V}{vs:List L2.V}
namespace L2
open PySem PySem.Spec PyProof.Rows
def CN(l:List Env):Ha:=l.filterMap (·.frame)
abbrev Cx.fs(X:Cx):Ha:=CN X.outer
def C2(sc:Scope)(x:Str):Prop:=sc.names.lookup x=some .local\/sc.names.lookup x=some .cell\/sc.names.lookup x=some .free
def CA(sc:Scope)(x:Str):Prop:=sc.names.lookup x=some .local\/sc.names.lookup x=some .cell
def UD(env:Env)(h:Heap)(m:Str->Ex)(x:Str)(u:Value):Prop :=
 (env.kindOf x=some .local/\m x=some u)\/((env.kindOf x=some .cell\/env.kindOf x=some .free)/\∃c,env.cells.lookup x=some c/\h.IsCell c (some u))
structure Cx.Ok(X:Cx):Prop where
 mod:Mod X.K X.mg X.base
 kind:X.env.scope.kind=.function
 glob:X.env.globals=mainGlobals
 blt:X.env.builtins=builtinsNs
 above:X.s₀.heap.objs.size<=X.env.locals
 inj:∀x y c,X.env.cells.lookup x=some c->X.env.cells.lookup y=some c->x=y
 has:∀x,(X.env.kindOf x=some .cell\/X.env.kindOf x=some .free)->∃c,X.env.cells.lookup x=some c
 cab:∀x c,X.fn x=true->X.env.cells.lookup x=some c->X.s₀.heap.objs.size<=c
 hd:X.calm=true->X.A.handled=none
 frames:X.A.frames=some X.stack
 stk:X.stack=X.outer\/(X.stack=X.env::X.outer/\X.env.frame=some X.env.locals)
 exf:∀b∈X.ex,b≠X.env.locals/\∀x c,X.env.cells.lookup x=some c->c≠b
 bs:∀b o,X.base.get? b=some o->X.s₀.heap.get? b=some o/\X.H₀ b=none
 bsz:X.base.objs.size<=X.s₀.heap.objs.size
 noex:∀b o,X.base.get? b=some o->b∉X.ex
 exfs:∀b∈X.ex,b∉X.fs
 funs:X.s₀.heap.FunFrames X.base X.outer
 frf:∀b∈X.fs,X.H₀ b=none
structure Inv(X:Cx)(qA:List (Addr×Obj))(σ:List (Option V))(H:Hp)(s:Shared):Prop where
 ok:X.Ok
 os:s.os=X.s₀.os
 bare:AllBare s.gens
 base:Un X.fs X.ex X.H₀ H X.s₀.heap s.heap
 loc:∃m,s.heap.Ns X.env.locals m/\∀(i:Nat) (x:Str) (v:V),X.N[i]?=some x->σ[i]?=some (some v)->C2 X.env.scope x->∃u,AH v u/\UD X.env s.heap m x u
 cell:∀x c,X.env.cells.lookup x=some c->∃v,s.heap.IsCell c v
 free:H X.env.locals=none
 freeC:∀x c,X.env.cells.lookup x=some c->H c=none
 pin:∀p∈X.pn++qA,s.heap.get? p.1=some p.2/\H p.1=none/\p.1≠X.env.locals/\p.1∉X.fs/\∀v,p.2.data≠.cell v
 hok:A7 X.prog X.w H s.heap
 len:σ.length=X.N.length
section
variable{σ:List (Option V)}
theorem Cx.Ok.nofr(ok:X.Ok){b:Addr}{o:Obj}(e:X.base.get? b=some o):b∉X.fs:=λhb=>by
 have:=(ok.funs.mem hb).1;rw[e]at this;cases this
theorem Inv.bs(I:Inv X qA σ H s):∀b o,X.base.get? b=some o->s.heap.get? b=some o/\H b=none:=λb o e =>
 ⟨I.base.keep b o (I.ok.bs b o e).1 (I.ok.bs b o e).2 (I.ok.nofr e) (I.ok.noex b o e),I.base.free b o (I.ok.bs b o e).1 (I.ok.bs b o e).2 (I.ok.noex b o e)⟩
theorem Inv.bk(I:Inv X qA σ H s):∀b o,X.base.get? b=some o->s.heap.get? b=some o:=λb o e=>(I.bs b o e).1
theorem Inv.mod(I:Inv X qA σ H s):Mod X.K X.mg X.base:=I.ok.mod
theorem Inv.kIn(I:Inv X qA σ H s):X.K.In s.heap:=I.ok.mod.kin.keeps I.bk
theorem Inv.nolimit(I:Inv X qA σ H s):s.heap.NoLimit:=I.ok.mod.nolimit.keeps I.bk
theorem Inv.lt(I:Inv X qA σ H s):X.env.locals<s.heap.objs.size:=let⟨_,hn,_⟩:=I.loc;hn.lt
theorem Inv.sz(I:Inv X qA σ H s):X.s₀.heap.objs.size<=s.heap.objs.size:=aR I.ok.above (aY I.lt)
theorem Inv.nofs(I:Inv X qA σ H s)(h:s.heap.objs.size<=a):a∉X.fs:=λhb=>by
 obtain⟨_,o,c,_⟩:=I.ok.funs.mem hb;exact bS (aU (bN c) (aR I.sz h)) (aX _)
theorem Inv.cne(I:Inv X qA σ H s):∀x c,X.env.cells.lookup x=some c->c≠X.env.locals:=λx c e z=>by
 obtain⟨v,o,f,hd⟩:=I.cell x c e;obtain⟨m,⟨o',es,ep,a,d,_⟩,_⟩:=I.loc;rw[z,a]at f;cases f;rw[d]at hd;cases hd
theorem Inv.funs(I:Inv X qA σ H s):s.heap.FunFrames X.base X.outer:=by
 have all:∀(l:List Env),(∀b∈CN l,b∈X.fs)->X.s₀.heap.FunFrames X.base l->s.heap.FunFrames X.base l:=by
  intro l
  induction l with
  |nil=>intro _ _;trivial
  |cons env r f =>
   intro d i;obtain⟨j,⟨L,o,a,hn,h,hd⟩,g⟩:=i;have c:L∈X.fs:=d L (by unfold CN;rw[filterMap_cons,a];exact cA);obtain⟨sl,e⟩:=I.base.slot L o h (I.ok.frf L c) c λz=>I.ok.exfs L z c;exact⟨j,⟨L,_,a,hn,e,hd⟩,f (λb hb=>d b (by unfold CN;rw[filterMap_cons,a];exact bT _ hb)) g⟩
 exact all X.outer (λ_ hb=>hb) I.ok.funs
theorem Inv.stack(I:Inv X qA σ H s):s.heap.FunFrames X.base X.stack:=by
 rcases I.ok.stk with e|⟨e,a⟩
 ·rw[e];exact I.funs
 ·rw[e];obtain⟨m,hn,_⟩:=I.loc;refine .cons (by rw[I.ok.kind];decide) a hn ?_ I.funs;exact Heap.get?_none_of_le (aR I.ok.bsz I.ok.above)
theorem Inv.stkSub(I:Inv X qA σ H s):∀b∈CN X.stack,b∈X.env.locals::X.fs:=λb hb=>by
 rcases I.ok.stk with e|⟨e,a⟩
 ·rw[e]at hb;exact bT _ hb
 ·rw[e]at hb;unfold CN at hb;rw[filterMap_cons,a]at hb;exact hb
theorem Inv.stkFree(I:Inv X qA σ H s):∀b∈CN X.stack,H b=none:=λb hb=>by
 rcases aF.mp (I.stkSub b hb)with e|hb
 ·rw[e];exact I.free
 ·obtain⟨_,o,a,_⟩:=I.ok.funs.mem hb;exact I.base.free b o a (I.ok.frf b hb) λz=>I.ok.exfs b z hb
theorem Inv.step{g':Array GenState}{d':Drawn}{ch:Ha}(I:Inv X qA σ H s)
  (g:∀b∈ch,(b∈X.ex\/X.s₀.heap.objs.size<=b)/\b≠X.env.locals/\(∀x c,X.env.cells.lookup x=some c->c≠b)/\∀p∈X.pn++qA,p.1≠b)
  (keep:∀b o,b≠X.env.locals->b∉X.fs->b∉ch->s.heap.get? b=some o->H b=none->h'.get? b=some o)
  (slot:∀b o,b≠X.env.locals->b∈X.fs->b∉ch->s.heap.get? b=some o->H b=none->∃sl,h'.get? b=some { o with slots:=sl }) (free:∀b o,b∉ch->s.heap.get? b=some o->H b=none->H' b=none)
  (there:∀b o,b∉ch->s.heap.get? b=some o->∃o',h'.get? b=some o')
  (tups:∀b xs,H b=some (.tup xs)->H' b=some (.tup xs)) (frzs:∀b o u,H b=some (.frz o u)->H' b=some (.frz o u)) (tbls:∀b ps,H b=some (.tbl ps)->∃more,H' b=some (.tbl (ps++more)))
  (ns:∀m,s.heap.Ns X.env.locals m->h'.Ns X.env.locals m) (hok:A7 X.prog X.w H' h') (hg:AllBare g') :
  Inv X qA σ H' { s with heap:=h',gens:=g',drawn:=d',toks:=t' }:=by
 have B:∀b o,X.s₀.heap.get? b=some o->b≠X.env.locals:=λb o e=>bX (aU (bN e) I.ok.above);have j:∀b o,X.s₀.heap.get? b=some o->b∉X.ex->b∉ch:=λb o e a hb=>by
  rcases(g b hb).1 with z|z
  ·exact a z
  ·exact bS (aU (bN e) z) (aX _)
 have h:∀x c,X.env.cells.lookup x=some c->∀v,s.heap.IsCell c v->h'.IsCell c v:=λx c e v ⟨o,A,hd⟩=>by
  have f:c∉ch:=λz=>(g c z).2.2.1 x c e rfl;by_cases J:c∈X.fs
  ·obtain⟨sl,q⟩:=slot c o (I.cne x c e) J f A (I.freeC x c e);exact⟨_,q,hd⟩
  ·exact⟨o,keep c o (I.cne x c e) J f A (I.freeC x c e),hd⟩
 refine⟨I.ok,I.os,hg,⟨λb o e n hb a=>?_,λb o e n hb a=>?_,λb o e n a=>?_,λb o e a=>?_,λb xs e=>tups b xs (I.base.tups b xs e),λb o xs e=>frzs b o xs (I.base.frzs b o xs e),λb ps e=>?_⟩,?_,λx c e=>?_,?_,λx c e=>?_,λp G=>?_,hok,I.len⟩
 ·exact keep b o (B b o e) hb (j b o e a) (I.base.keep b o e n hb a) (I.base.free b o e n a)
 ·obtain⟨sl,y⟩:=I.base.slot b o e n hb a;obtain⟨D,C⟩:=slot b _ (B b o e) hb (j b o e a) y (I.base.free b o e n a);exact⟨D,C⟩
 ·obtain⟨o',y⟩:=I.base.there b o e a;exact free b o' (j b o e a) y (I.base.free b o e n a)
 ·obtain⟨o',y⟩:=I.base.there b o e a;exact there b o' (j b o e a) y
 ·obtain⟨M,y⟩:=I.base.tbls b ps e;obtain⟨L,C⟩:=tbls b _ y;exact⟨M++L,by rw[C,Array.append_assoc]⟩
 ·obtain⟨m,hn,N⟩:=I.loc;refine⟨m,ns m hn,λi x v y C O=>?_⟩;obtain⟨u,r,l⟩:=N i x v y C O;refine⟨u,r,?_⟩;rcases l with l|⟨k,c,e,z⟩
  ·exact .inl l
  ·exact .inr ⟨k,c,e,h x c e _ z⟩
 ·obtain⟨v,z⟩:=I.cell x c e;exact⟨v,h x c e v z⟩
 ·obtain⟨m,⟨o,_,_,A,_⟩,_⟩:=I.loc;exact free _ o (λz=>(g _ z).2.1 rfl) A I.free
 ·obtain⟨v,o,A,hd⟩:=I.cell x c e;exact free c o (λz=>(g c z).2.2.1 x c e rfl) A (I.freeC x c e)
 ·obtain⟨e,n,ne,E,d⟩:=I.pin p G;have f:p.1∉ch:=λz=>(g p.1 z).2.2.2 p G rfl;exact⟨keep p.1 p.2 ne E f e n,free p.1 p.2 f e n,ne,E,d⟩
theorem Inv.un(I:Inv X qA σ H s)(u:Un X.fs [] H H' s.heap h')(hok:A7 X.prog X.w H' h'):Inv X qA σ H' { s with heap:=h',toks:=t' }:=by
 obtain⟨m,⟨o,es,ep,f,r⟩,_⟩:=id I.loc;obtain⟨sl,h⟩:=u.any f I.free (by simp);exact I.step (g':=s.gens) (d':=s.drawn) (ch:=[]) (λ_ z=>nomatch z) (λb o _ hb _ e n=>u.keep b o e n hb (by simp)) (λb o _ hb _ e n=>u.slot b o e n hb (by simp)) (λb o _ e n=>u.free b o e n (by simp)) (λb o _ e=>u.there b o e (by simp)) u.tups u.frzs u.tbls (λi hm=>by
  obtain⟨o',c,d,a,g⟩:=hm;rw[f]at a;cases a;exact⟨_,c,d,h,g⟩) hok I.bare
theorem Inv.call{g':Array GenState}{d':Drawn}{ch:Ha}(I:Inv X qA σ H s)(u:Un (CN X.stack) ch H H' s.heap h')(hok:A7 X.prog X.w H' h')(hg:AllBare g')
  (f:∀b∈ch,(b∈X.ex\/X.s₀.heap.objs.size<=b)/\b≠X.env.locals/\(∀x c,X.env.cells.lookup x=some c->c≠b)/\∀p∈X.pn++qA,p.1≠b) :
  Inv X qA σ H' { s with heap:=h',gens:=g',drawn:=d',toks:=t' }:=by
 obtain⟨m,⟨o,es,ep,j,r⟩,_⟩:=id I.loc;obtain⟨sl,g⟩:=u.any j I.free λz=>(f _ z).2.1 rfl;exact I.step (ch:=ch) f (λb o g hb a e n=>u.keep b o e n (λz=>(aF.mp (I.stkSub b z)).elim g hb) a) (λb o _ _ a e n=>u.any e n a) (λb o a e n=>u.free b o e n a) (λb o a e=>u.there b o e a) u.tups u.frzs u.tbls (λq hm=>by
  obtain⟨o',h,i,d,l⟩:=hm;rw[j]at d;cases d;exact⟨_,h,i,g,l⟩) hok hg
theorem Inv.turned(I:Inv X qA σ H s)(k:∀b o,b≠it->s.heap.get? b=some o->h'.get? b=some o)(hn:H it=none)(f:it≠X.env.locals)
  (h1:it∈X.ex\/X.s₀.heap.objs.size<=it) (h2:∀x c,X.env.cells.lookup x=some c->c≠it) (h:∀p∈X.pn++qA,p.1≠it):Inv X qA σ H { s with heap:=h',toks:=t' }:=by
 have d:∀b u,H b=some u->b≠it:=λb u e z=>by rw[z,hn]at e;cases e
 refine I.step (g':=s.gens) (d':=s.drawn) (ch:=[it]) (λb hb=>?_) (λb o _ _ a e _=>k b o (λz=>a (by simp[z])) e) (λb o _ _ a e _=>⟨o.slots,k b o (λz=>a (by simp[z])) e⟩) (λ_ _ _ _ n=>n)
  (λb o a e=>⟨o,k b o (λz=>a (by simp[z])) e⟩) (λ_ _ e=>e) (λ_ _ _ e=>e) (λb ps e=>⟨#[],by rw[e];simp⟩) (λm hm=>?_) (λb u e=>?_) I.bare
 ·have e:b=it:=by simpa using hb
  subst e;exact⟨h1,f,h2,h⟩
 ·obtain⟨o,es,ep,g,r⟩:=hm;exact⟨o,es,ep,k _ o (Ne.symm f) g,r⟩
 ·refine(I.hok b u e).stay (λc v a q=>k c v ?_ q) (λ_ q=>q) λ_ _ q=>q;rcases a with z|z
  ·rw[z];exact d b u e
  ·exact d c _ z
theorem Inv.tok(I:Inv X qA σ H s)(t:Nat):Inv X qA σ H { s with toks:=t }:=I.un (h':=s.heap) (t':=t) Un.refl I.hok
theorem Inv.kept(I:Inv X qA σ H s)(k:∀b u,s.heap.get? b=some u->h'.get? b=some u):Inv X qA σ H { s with heap:=h',toks:=t' }:=I.un (Un.kept k) (I.hok.kept k)
theorem Inv.laid(I:Inv X qA σ H s)(k:∀b u,s.heap.get? b=some u->h'.get? b=some u)(c:s.heap.objs.size<=a)(new:A4 X.prog X.w (AD H a o) h' a o) :
  Inv X qA σ (AD H a o) { s with heap:=h',toks:=t' }:=I.un (Un.laid k c (I.hok.fresh c)) (I.hok.laid k c new)
theorem Inv.write{x e:Addr}(I:Inv X qA σ H s)(c:GO (H x))(d:e=x\/H e=some (.own x))(k:∀b u,b≠e->s.heap.get? b=some u->h'.get? b=some u)(a:∃u,h'.get? e=some u)
  (new:A4 X.prog X.w (AD H x o) h' x o):Inv X qA σ (AD H x o) { s with heap:=h',toks:=t' }:=I.un (Un.write c d k a) (I.hok.write c d k a new)
theorem Inv.weak{σ':List (Option V)}(I:Inv X qA σ H s)(c:σ'.length=σ.length)(w:∀(i:Nat) v,σ'[i]?=some (some v)->σ[i]?=some (some v)):Inv X qA σ' H s :=
 ⟨I.ok,I.os,I.bare,I.base,let⟨m,hn,a⟩:=I.loc;⟨m,hn,λi x v f e d=>a i x v f (w i v e) d⟩,I.cell,I.free,I.freeC,I.pin,I.hok,c.trans I.len⟩
theorem Inv.pins_of{a:List (Addr×Obj)}(I:Inv X qA σ H s)(h:∀p∈a,s.heap.get? p.1=some p.2/\H p.1=none/\p.1≠X.env.locals/\p.1∉X.fs/\∀v,p.2.data≠.cell v):Inv X a σ H s :=
 ⟨I.ok,I.os,I.bare,I.base,I.loc,I.cell,I.free,I.freeC,λp c=>(bA.mp c).elim (λz=>I.pin p (mem_append_left _ z)) (h p),I.hok,I.len⟩
theorem NY(c:N.Nodup)(a:N[i]?=some x)(b:N[j]?=some x):i=j:=by
 obtain⟨h1,e⟩:=aI.mp a;obtain⟨h2,d⟩:=aI.mp b;exact(getElem_inj c).mp (e.trans d.symm)
theorem NZ{M:Model}{Q:Unit->Shared->Prop}(I:Inv X qA σ H s)(hN:X.N.Nodup)(hi:X.N[i]?=some x)(B:CA X.env.scope x)(r:AH v u)
  (h:∀s',Inv X qA (σ.set i (some v)) H s'->(∃a,Heap.SameBut a s.heap s'.heap/\(a=X.env.locals\/X.env.cells.lookup x=some a))->Q () s') (hf:X.fn x=true\/X.env.scope.names.lookup x=some .local:=by trivial):wpAny M A (storeName X.env x u) Q E s:=by
 obtain⟨m,hn,hl⟩:=id I.loc;have Y:(X.env.scope.kind==.class||(X.env.scope.kind==.module&&X.env.locals != X.env.globals))=false:=by rw[I.ok.kind];rfl
 have G:i<σ.length:=by rw[I.len];exact(aI.mp hi).1
 have cne:=I.cne;have g:∀{a:Addr} {h':Heap},(∃o,s.heap.get? a=some o/\H a=none)->Heap.SameBut a s.heap h'->A7 X.prog X.w H h':=λ{a h'} ha f b ob e=>by
  obtain⟨_,_,C⟩:=ha;refine(I.hok b ob e).stay (λc w' hc q=>(f.2 c ?_).trans q) (λ_ q=>q) λ_ _ q=>q;rintro rfl;rcases hc with rfl|hc
  ·rw[C]at e;cases e
  ·rw[C]at hc;cases hc
 rcases B with hk|hk
 ·refine wpAny_storeName_local hk hn (λh' a3 f=>?_) Y;obtain⟨oL,_,_,a2,_⟩:=id hn;refine h _ ⟨I.ok,I.os,I.bare,⟨λb o e n O B=>?_,λb o e n O B=>?_,I.base.free,λb o e B=>?_,I.base.tups,I.base.frzs,I.base.tbls⟩,⟨_,a3,λj y v' l D e3=>?_⟩,λy c e=>?_,I.free,I.freeC,λp hp=>?_,g ⟨oL,a2,I.free⟩ f,by simpa using I.len⟩ ⟨_,f,.inl rfl⟩
  ·exact(f.2 b (bX (aU (bN e) I.ok.above))).trans (I.base.keep b o e n O B)
  ·obtain⟨sl,l⟩:=I.base.slot b o e n O B;exact⟨sl,(f.2 b (bX (aU (bN e) I.ok.above))).trans l⟩
  ·obtain⟨o',l⟩:=I.base.there b o e B;exact⟨o',(f.2 b (bX (aU (bN e) I.ok.above))).trans l⟩
  ·by_cases J:j=i
   ·subst J;rw[hi]at l;cases l;rw[bY G]at D;cases D;exact⟨u,r,.inl ⟨hk,by simp⟩⟩
   ·rw[bV (Ne.symm J)]at D;obtain⟨u',r',q⟩:=hl j y v' l D e3;refine⟨u',r',?_⟩;rcases q with⟨k,e⟩|⟨k,c,e,z⟩
    ·refine .inl ⟨k,?_⟩;have:y≠x:=λe=>J (NY hN l (e▸hi));simp[this,e]
    ·exact .inr ⟨k,c,e,z.sameBut f (cne y c e)⟩
  ·obtain⟨w',z⟩:=I.cell y c e;exact⟨w',z.sameBut f (cne y c e)⟩
  ·obtain⟨e,n,ne,nf,d⟩:=I.pin p hp;exact⟨(f.2 p.1 ne).trans e,n,ne,nf,d⟩
 ·have L:X.fn x=true:=by
   rcases hf with z|z
   ·exact z
   ·rw[z]at hk;cases hk
  obtain⟨c,hc⟩:=I.ok.has x (.inl hk);obtain⟨w',z⟩:=I.cell x c hc;refine wpAny_storeName_cell I.ok.kind hk hc z (λh' a1 f=>?_);obtain⟨oc,U,T⟩:=id z;refine h { s with heap:=h' } ⟨I.ok,I.os,I.bare,⟨λb o e n O B=>?_,λb o e n O B=>?_,I.base.free,λb o e B=>?_,I.base.tups,I.base.frzs,I.base.tbls⟩,⟨m,hn.sameBut f (Ne.symm (cne x c hc)),λj y v' l D e3=>?_⟩,λy c' e=>?_,I.free,I.freeC,λp hp=>?_,g ⟨oc,U,I.freeC x c hc⟩ f,by simpa using I.len⟩ ⟨c,f,.inr hc⟩
  ·exact(f.2 b (bX (aU (bN e) (I.ok.cab x c L hc)))).trans (I.base.keep b o e n O B)
  ·obtain⟨sl,l⟩:=I.base.slot b o e n O B;exact⟨sl,(f.2 b (bX (aU (bN e) (I.ok.cab x c L hc)))).trans l⟩
  ·obtain⟨o',l⟩:=I.base.there b o e B;exact⟨o',(f.2 b (bX (aU (bN e) (I.ok.cab x c L hc)))).trans l⟩
  ·by_cases J:j=i
   ·subst J;rw[hi]at l;cases l;rw[bY G]at D;cases D;exact⟨u,r,.inr ⟨.inl hk,c,hc,a1⟩⟩
   ·rw[bV (Ne.symm J)]at D;obtain⟨u',r',q⟩:=hl j y v' l D e3;refine⟨u',r',?_⟩;rcases q with q|⟨k,c',e,z'⟩
    ·exact .inl q
    ·refine .inr ⟨k,c',e,z'.sameBut f ?_⟩;rintro rfl;exact J (NY hN l (I.ok.inj _ _ _ e hc▸hi))
  ·by_cases a0:c'=c
   ·subst a0;exact⟨_,a1⟩
   ·obtain⟨w2,z2⟩:=I.cell y c' e;exact⟨w2,z2.sameBut f a0⟩
  ·obtain⟨e,n,ne,nf,d⟩:=I.pin p hp;refine⟨(f.2 p.1 ?_).trans e,n,ne,nf,d⟩;intro q;rw[q,U]at e;have q':oc=p.2:=oI e;exact d w' (by rw[<-q'];exact T)
theorem GP{M:Model}{Q:Unit->Shared->Prop}(I:Inv X qA σ H s)(d:X.N.Nodup)(hi:X.N[i]?=some x)(a:CA X.env.scope x)(r:AH v u)
  (h:∀s',Inv X qA (σ.set i (some v)) H s'->Q () s') (c:X.fn x=true\/X.env.scope.names.lookup x=some .local:=by trivial):wpAny M A (storeName X.env x u) Q E s :=
 NZ I d hi a r (λs' e _=>h s' e) c
theorem Inv.call'{s':Shared}{ch:Ha}(I:Inv X qA σ H s)(d:s'.os=s.os)(u:Un (CN X.stack) ch H H' s.heap s'.heap)(hok:A7 X.prog X.w H' s'.heap)(hg:AllBare s'.gens)
  (a:∀b∈ch,(b∈X.ex\/X.s₀.heap.objs.size<=b)/\b≠X.env.locals/\(∀x c,X.env.cells.lookup x=some c->c≠b)/\∀p∈X.pn++qA,p.1≠b):Inv X qA σ H' s':=by
 obtain⟨h',g',d',t',o'⟩:=s';have e:o'=s.os:=d;subst e;exact I.call (g':=g') (t':=t') (d':=d') u hok hg a
end
abbrev XK:=Value->Go->Hp->Prop
abbrev St:=List (Option V)
abbrev VK:=V->Hp->Prop
abbrev TE:=St->Hp->VK->Prop
end L2
variable{σ σ':L2.St}{ta tb te:L2.TE}
namespace L2
open PySem PySem.Spec PyProof.Rows
abbrev TT:=St->Hp->(Bool->Hp->Prop)->Prop
abbrev TA:=St->Hp->(dG->Hp->Prop)->Prop
structure Ends where
 nx:St->Hp->Prop
 rt:VK
 bk:St->Hp->Prop:=λ_ _=>False
 ct:St->Hp->Prop:=λ_ _=>False
abbrev TS:=Ends->St->Hp->Prop
def EP(X:Cx)(qA:List (Addr×Obj))(σ:St)(Q:VK)(u:Value)(s':Shared):Prop:=∃v H',Inv X qA σ H' s'/\AH v u/\Q v H'
def TP(X:Cx)(qA:List (Addr×Obj))(σ:St)(Q:Bool->Hp->Prop)(b:Bool)(s':Shared):Prop:=∃H',Inv X qA σ H' s'/\Q b H'
def AP(X:Cx)(qA:List (Addr×Obj))(σ:St)(Q:dG->Hp->Prop)(us:Do)(s':Shared):Prop:=∃vs H',Inv X qA σ H' s'/\AQ vs us/\Q vs H'
def SP(X:Cx)(qA:List (Addr×Obj))(D:Ends)(f:Flow)(s':Shared):Prop :=
 match f with
 |.next=>∃σ' H',Inv X qA σ' H' s'/\D.nx σ' H'
 |.brk=>∃σ' H',Inv X qA σ' H' s'/\D.bk σ' H'
 |.cont=>∃σ' H',Inv X qA σ' H' s'/\D.ct σ' H'
 |.ret u=>∃v σ' H',Inv X qA σ' H' s'/\AH v u/\D.rt v H'
def PE(X:Cx)(e:Expr)(t:TE):Prop :=
 ∀(qA:List (Addr×Obj)) (s:Shared) (σ:St) (H:Hp) (Q:VK),Inv X qA σ H s->t σ H Q->wpAny (model X.prog X.w) X.A (eval e X.env) (EP X qA σ Q) X.xe s
def PT(X:Cx)(e:Expr)(t:TT):Prop :=
 ∀(qA:List (Addr×Obj)) (s:Shared) (σ:St) (H:Hp) (Q:Bool->Hp->Prop),Inv X qA σ H s->t σ H Q->wpAny (model X.prog X.w) X.A (isTrue e X.env (eval e X.env)) (TP X qA σ Q) X.xe s
def PW(X:Cx)(e:Expr)(t:TT):Prop :=
 ∀(whole:Sem Value) (qA:List (Addr×Obj)) (s:Shared) (σ:St) (H:Hp) (Q:Bool->Hp->Prop),Inv X qA σ H s->t σ H Q->wpAny (model X.prog X.w) X.A (isTrue e X.env whole) (TP X qA σ Q) X.xe s
theorem PW.pt{e:Expr}{t:TT}(h:PW X e t):PT X e t:=h _
def PA(X:Cx)(es:Hb)(t:TA):Prop :=
 ∀(pos:Pos) (qA:List (Addr×Obj)) (s:Shared) (σ:St) (H:Hp) (Q:dG->Hp->Prop),Inv X qA σ H s->t σ H Q->wpAny (model X.prog X.w) X.A (spliced (backTo pos (starEach es X.env))) (AP X qA σ Q) X.xe s
def PS(X:Cx)(st:Stmt)(t:TS):Prop :=
 ∀(qA:List (Addr×Obj)) (s:Shared) (σ:St) (H:Hp) (D:Ends),Inv X qA σ H s->t D σ H->wpAny (model X.prog X.w) X.A (exec st X.env) (SP X qA D) X.xe s
def Bf(X:Cx)(st:He)(t:TS):Prop :=
 ∀(qA:List (Addr×Obj)) (s:Shared) (σ:St) (H:Hp) (D:Ends),Inv X qA σ H s->t D σ H->wpAny (model X.prog X.w) X.A (execs st X.env) (SP X qA D) X.xe s
theorem AG{α:Type}{t:Sem α}{Q c:α->Shared->Prop}{M:Model}(h:wpAny M A t Q E s)(d:∀a s,Q a s->c a s):wpAny M A t c E s:=bL h d λ_ _ x=>x
section
def CH(i:Nat):TE:=λσ H Q=>∃v,σ[i]?=some (some v)/\Q v H
def tC(v:V):TE:=λ_ H Q=>Q v H
theorem Du(w:X.N[i]?=some x)(n:C2 X.env.scope x)(f:(x==("__debug__":Str))=false:=by decide)(g:(x==("__classdict__":Str))=false:=by decide):PE X (.Name x pos) (CH i):=by
 intro qA s σ H Q I h;obtain⟨v,e,h⟩:=h;obtain⟨m,o,q⟩:=I.loc;obtain⟨u,r,l⟩:=q i x v w e n;have d:EP X qA σ Q u s:=⟨v,H,I,r,h⟩;rcases l with⟨hk,p⟩|⟨hk,c,j,a⟩
 ·exact wpAny_Name (wpAny_loadName_local I.ok.kind hk o p d) f
 ·rcases hk with hk|hk
  ·exact wpAny_Name (wpAny_loadName_cell I.ok.kind hk j a d) f
  ·exact wpAny_Name (wpAny_loadName_free I.ok.kind hk j a d g) f
theorem An{i j pos}:PE X (.Constant (.int i) j pos) (tC (.int i)):=λ_ _ _ H _ I h=>wpAny_Constant_int ⟨.int i,H,I.tok _,⟨_,rfl⟩,h⟩
theorem UE{b j pos}:PE X (.Constant (.bool b) j pos) (tC (.bl b)):=λ_ _ _ H _ I h=>Constant_bool ⟨.bl b,H,I,rfl,h⟩
theorem UF{j pos}:PE X (.Constant .none j pos) (tC .non):=λ_ _ _ H _ I h=>Constant_none ⟨.non,H,I,rfl,h⟩
theorem IC{x j pos}:PE X (.Constant (.str x) j pos) (tC (.str x)):=λ_ _ _ H _ I h=>Calls.Constant_str ⟨.str x,H,I.tok _,⟨_,rfl⟩,h⟩
def Gl(X:Cx)(x:Str):Prop:=X.env.kindOf x=some .globalImplicit
theorem UG(I:Inv X qA σ H s)(c:Gl X x)(a:X.mg x=some u)(h:Q u s)
  (d:(x==("__debug__":Str))=false:=by decide):wpAny (model X.prog X.w) X.A (eval (.Name x pos) X.env) Q E s :=
 Calls.Name_function_global I.ok.kind c (Calls.loadGlobal_global (by rw[I.ok.glob];exact I.mod.glob.keeps I.bk) a h) d
theorem ED(I:Inv X qA σ H s)(e:Gl X x)(d:X.mg x=none)(a:bootBuiltins x=some u)(h:Q u s)
  (c:x≠"__name__":=by decide) (f:(x==("__debug__":Str))=false:=by decide):wpAny (model X.prog X.w) X.A (eval (.Name x pos) X.env) Q E s:=by
 obtain⟨g,h1,h2⟩:=I.mod.blt;exact Calls.Name_function_global I.ok.kind e (Calls.loadGlobal_builtin (by rw[I.ok.glob];exact I.mod.glob.keeps I.bk) d (by rw[I.ok.blt];exact h1.keeps I.bk) ((h2 x c).trans a) h) f
theorem UH(e:Gl X x)(d:X.mg x=none)(a:bootBuiltins x=some u)(r:AH v u)(c:x≠"__name__":=by decide)(f:(x==("__debug__":Str))=false:=by decide):PE X (.Name x pos) (tC v) :=
 λ_ _ _ H _ I h=>ED I e d a ⟨v,H,I,r,h⟩ c f
variable{a b:Expr}
def tB(t:TE):TT:=λσ H Q=>t σ H λx H1=>∃c,x=.bl c/\Q c H1
theorem UI{e:Expr}{t:TE}(h:PE X e t)(i:∀a,isTrue e X.env a=(do let v <-a;standAt e.pos;holding [v] (truthy v)):=by intro _;rfl):PT X e (tB t):=by
 intro qA s σ H Q I g;refine isTrue_plain (AG (h qA s σ H _ I g) λv l ⟨x,H1,j,c,f⟩=>?_) (i _);obtain⟨d,rfl,q⟩:=f;cases c;exact wpAny_truthy_bool ⟨H1,j,q⟩
variable{tA tB':TT}{qF:Hb}
def UJ(t u:TT):TT:=λσ H Q=>t σ H λc H1=>if c=true then u σ H1 Q else Q false H1
def UK(t u:TT):TT:=λσ H Q=>t σ H λc H1=>if c=true then Q true H1 else u σ H1 Q
def UL(t:TT):TT:=λσ H Q=>t σ H λc H1=>Q (!c) H1
theorem UM(d:PT X a tA):PW X (.BoolOp .And [a] pos) tA:=by
 intro f qA s σ H Q I h;refine isTrue_and (AG (d qA s σ H Q I h) λc g e=>?_);cases c with
 |true=>exact isTrue_and_nil e
 |false=>exact e
theorem Na(d:PT X a tA):PW X (.BoolOp .Or [a] pos) tA:=by
 intro f qA s σ H Q I h;refine isTrue_or (AG (d qA s σ H Q I h) λc g e=>?_);cases c with
 |false=>exact isTrue_or_nil e
 |true=>exact e
theorem UN(j:PT X a tA)(i:PW X (.BoolOp .And (b::qF) pos) tB'):PW X (.BoolOp .And (a::b::qF) pos) (UJ tA tB'):=by
 intro f qA s σ H Q I h;refine isTrue_and (AG (j qA s σ H _ I h) λc g ⟨H1,e,d⟩=>?_);cases c with
 |true=>exact i f qA g σ H1 Q e d
 |false=>exact⟨H1,e,d⟩
theorem Nb(j:PT X a tA)(i:PW X (.BoolOp .Or (b::qF) pos) tB'):PW X (.BoolOp .Or (a::b::qF) pos) (UK tA tB'):=by
 intro f qA s σ H Q I h;refine isTrue_or (AG (j qA s σ H _ I h) λc g ⟨H1,e,d⟩=>?_);cases c with
 |true=>exact⟨H1,e,d⟩
 |false=>exact i f qA g σ H1 Q e d
theorem UO(d:PT X a tA):PT X (.UnaryOp .Not a pos) (UL tA):=by
 intro qA s σ H Q I h;exact isTrue_not (d qA s σ H (λc H1=>Q (!c) H1) I h)
def UP(ta tb:TE):TE:=λσ H Q=>ta σ H λx H1=>∃c,x=.bl c/\if c=true then tb σ H1 Q else Q (.bl false) H1
def UQ(ta:TE):TE:=λσ H Q=>ta σ H λx H1=>∃c,x=.bl c/\Q (.bl (!c)) H1
theorem UR{op}{t:TE}(h:PE X a t):PE X (.BoolOp op [a] pos) t:=λqA s σ H Q I c=>BoolOp_one (h qA s σ H Q I c)
theorem US(j:PE X a ta)(i:PE X (.BoolOp .And (b::qF) pos) tb):PE X (.BoolOp .And (a::b::qF) pos) (UP ta tb):=by
 intro qA s σ H Q I h;refine BoolOp_and (AG (j qA s σ H _ I h) λv f ⟨x,H1,e,g,d⟩=>?_);obtain⟨c,rfl,d⟩:=d;cases g;refine wpAny_truthy_bool ?_;cases c with
 |true=>exact i qA f σ H1 Q e d
 |false=>exact⟨.bl false,H1,e,rfl,d⟩
theorem UT(f:PE X a ta):PE X (.UnaryOp .Not a pos) (UQ ta):=by
 intro qA s σ H Q I h;refine UnaryOp_ (AG (f qA s σ H _ I h) λv i ⟨x,H1,g,e,d⟩=>?_);obtain⟨c,rfl,d⟩:=d;cases e;exact not_of (wpAny_truthy_bool ⟨.bl (!c),H1,g,rfl,d⟩)
end
def Aq(K:Fg)(H:Hp)(a:Addr)(xs:dG):Prop :=
 Rd H a (.lst xs) \/
  ∃(o:Obj) (qH:FG) (n:Nat),K.lookup a=some o/\o.cls=.type "list"/\o.dict=none/\o.data=.seq qH n/\qH.size<=sizeLine/\AQ xs qH.toList
def B1(K:Fg)(H:Hp)(a:Addr)(xs:dG):Prop :=
 Rd H a (.tup xs) \/
  ∃(o:Obj) (qH:FG) (n:Nat),K.lookup a=some o/\o.cls=.type "tuple"/\o.data=.seq qH n/\qH.size<=sizeLine/\AQ xs qH.toList
def UU:Value->Option V
 |.none=>some .non
 |.bool b=>some (.bl b)
 |.int i _=>some (.int i)
 |.str x _=>some (.str x)
 |.bytes b _=>some (.byt b)
 |.float b _=>some (.flt b)
 |.ref a=>some (.ref a)
 |.type n=>some (.ty n)
 |_=>none
theorem AH.abs{x:V}(r:AH x u):UU u=some x:=by
 cases x with
 |non=>cases r;rfl
 |bl _=>cases r;rfl
 |int _=>obtain⟨t,rfl⟩:=r;rfl
 |str _=>obtain⟨t,rfl⟩:=r;rfl
 |byt _=>obtain⟨t,rfl⟩:=r;rfl
 |flt _=>obtain⟨t,rfl⟩:=r;rfl
 |ref _=>cases r;rfl
 |ty _=>cases r;rfl
theorem AH.inj{x y:V}(r:AH x u)(q:AH y u):x=y:=oI (r.abs.symm.trans q.abs)
theorem AQ.inj:∀{xs ys:dG} {us:Do},AQ xs us->AQ ys us->xs=ys
 |_,_,_,.nil,.nil=>rfl
 |_,_,_,.cons r t,.cons a t'=>by rw[r.inj a,AQ.inj t t']
section
variable{xs ys:dG}
theorem Aq.of{K:Fg}(h:H a=some (.lst xs)):Aq K H a xs:=.inl (.inl h)
theorem B1.of{K:Fg}(h:H a=some (.tup xs)):B1 K H a xs:=.inl (.inl h)
theorem Inv.list(I:Inv X qA σ H s)(h:Aq X.K H a xs):∃qH:Do,AQ xs qH/\PlainL s.heap a qH.toArray/\xs.length<=sizeLine:=by
 rcases h with h|⟨o,qH,n,d,f,hd,c,g,r⟩
 ·obtain⟨z,qH,n,r,e⟩:=h.ok I.hok;exact⟨qH,r,⟨_,n,e,rfl,rfl,rfl⟩,z⟩
 ·refine⟨qH.toList,r,⟨o,n,I.kIn a o d,f,hd,by simpa using c⟩,?_⟩;have e:=r.length;simp only[bR]at e;lia
theorem Inv.tuple(I:Inv X qA σ H s)(h:B1 X.K H a xs):∃qH:Do,AQ xs qH/\IsTup s.heap a qH.toArray/\xs.length<=sizeLine:=by
 rcases h with h|⟨o,qH,n,d,f,c,g,r⟩
 ·obtain⟨z,qH,r,p⟩:=h.ok I.hok;exact⟨qH,r,p.tup,z⟩
 ·refine⟨qH.toList,r,⟨o,I.kIn a o d,f,n,by simpa using c⟩,?_⟩;have e:=r.length;simp only[bR]at e;lia
theorem Inv.list_inj(I:Inv X qA σ H s)(h:Aq X.K H a xs)(h':Aq X.K H a ys):xs=ys:=by
 obtain⟨qH,r,⟨o,n,e,_,_,d⟩,_⟩:=I.list h;obtain⟨its',g,⟨o',j,c,_,_,f⟩,_⟩:=I.list h';rw[e]at c;cases c;rw[d]at f;injection f with i _
 have:qH=its':=by simpa using aT Array.toList i
 subst this;exact r.inj g
theorem Inv.tuple_inj(I:Inv X qA σ H s)(h:B1 X.K H a xs)(h':B1 X.K H a ys):xs=ys:=by
 obtain⟨qH,r,⟨o,e,_,n,d⟩,_⟩:=I.tuple h;obtain⟨its',g,⟨o',c,_,j,f⟩,_⟩:=I.tuple h';rw[e]at c;cases c;rw[d]at f;injection f with i _
 have:qH=its':=by simpa using aT Array.toList i
 subst this;exact r.inj g
end
abbrev Cx.wish(X:Cx)(E:VS):Cx:={ X with xe:=E }
abbrev Cx.nox(X:Cx):Cx:=X.wish λ_ _=>False
theorem Cx.Ok.wish(ok:X.Ok)(E:VS):(X.wish E).Ok :=
 ⟨ok.mod,ok.kind,ok.glob,ok.blt,ok.above,ok.inj,ok.has,ok.cab,ok.hd,ok.frames,ok.stk,ok.exf,ok.bs,ok.bsz,ok.noex,ok.exfs,ok.funs,ok.frf⟩
theorem Cx.Ok.unwish(ok:(X.wish E).Ok):X.Ok :=
 ⟨ok.mod,ok.kind,ok.glob,ok.blt,ok.above,ok.inj,ok.has,ok.cab,ok.hd,ok.frames,ok.stk,ok.exf,ok.bs,ok.bsz,ok.noex,ok.exfs,ok.funs,ok.frf⟩
theorem Inv.wish(I:Inv X qA σ H s)(E:VS):Inv (X.wish E) qA σ H s:=⟨I.ok.wish E,I.os,I.bare,I.base,I.loc,I.cell,I.free,I.freeC,I.pin,I.hok,I.len⟩
theorem Inv.unwish(I:Inv (X.wish E) qA σ H s):Inv X qA σ H s:=⟨I.ok.unwish,I.os,I.bare,I.base,I.loc,I.cell,I.free,I.freeC,I.pin,I.hok,I.len⟩
theorem SP.unwish{D:Ends}{f:Flow}{s':Shared}(h:SP (X.wish E) qA D f s'):SP X qA D f s':=by
 cases f with
 |next=>obtain⟨σ',H',I,q⟩:=h;exact⟨σ',H',I.unwish,q⟩
 |brk=>obtain⟨σ',H',I,q⟩:=h;exact⟨σ',H',I.unwish,q⟩
 |cont=>obtain⟨σ',H',I,q⟩:=h;exact⟨σ',H',I.unwish,q⟩
 |ret u=>obtain⟨v,σ',H',I,r,q⟩:=h;exact⟨v,σ',H',I.unwish,r,q⟩
theorem Bf.nox{st:He}{t:TS}(h:Bf X.nox st t):Bf X st t:=λqA s σ H D I a =>
 bL (h qA s σ H D (I.wish _) a) (λ_ _ q=>q.unwish) λ_ _ z=>False.elim z
section
variable{st:Stmt}{qF:He}{t u:TS}{e:Expr}
def UV:TS:=λD σ H=>D.nx σ H
def UW(t u:TS):TS:=λD σ H=>t { D with nx:=u D } σ H
theorem GQ:Bf X [] UV:=λ_ _ σ H _ I h=>wpAny_execs_nil ⟨σ,H,I,h⟩
theorem Bp(h1:PS X st t)(h2:Bf X qF u):Bf X (st::qF) (UW t u):=by
 intro qA s σ H D I h;refine wpAny_execs_cons (AG (h1 qA s σ H { D with nx:=u D } I h) λf a q=>?_);cases f with
 |next =>
  obtain⟨σ',H',c,q⟩:=q;exact h2 qA a σ' H' D c q
 |ret v=>exact q
 |brk=>exact q
 |cont=>exact q
theorem Co(h1:PS X st t):Bf X [st] t:=by
 intro qA s σ H D I h;refine wpAny_execs_cons (AG (h1 qA s σ H D I h) λf a q=>?_);cases f with
 |next=>exact wpAny_execs_nil q
 |ret v=>exact q
 |brk=>exact q
 |cont=>exact q
theorem Inv.quiet(I:Inv X qA σ H s):interactive X.env=false:=by simp[interactive,I.ok.kind]
def ID(te:TE):TS:=λD σ H=>te σ H λ_ H1=>D.nx σ H1
theorem IE(d:PE X e te)(c:swapsWith e none pos.line X.env=pure false:=by rfl):PS X (.Expr e pos) (ID te):=by
 intro qA s σ H D I h;exact wpAny_Expr_any (AG (d qA s σ H _ I h) λv g ⟨x,H1,f,i,a⟩=>⟨σ,H1,f,a⟩) I.quiet c
def UX(te:TE):TS:=λD σ H=>te σ H D.rt
theorem FP(d:PE X e te):PS X (.Return (some e) pos) (UX te):=by
 intro qA s σ H D I h;exact wpAny_Return_some (AG (d qA s σ H _ I h) λv g ⟨x,H1,f,a,c⟩=>⟨x,σ,H1,f,a,c⟩)
def UY(c:TT)(t u:TS):TS:=λD σ H=>c σ H λb H1=>if b=true then t D σ H1 else u D σ H1
theorem GR{a b:He}{tc:TT}(i:PT X c tc)(l:Bf X a t)(j:Bf X b u):PS X (.If c a b pos) (UY tc t u):=by
 intro qA s σ H D I h;refine wpAny_If (AG (i qA s σ H _ I h) λd e ⟨H1,g,f⟩=>?_);cases d with
 |true=>exact l qA e σ H1 D g f
 |false=>exact j qA e σ H1 D g f
def UZ:TS:=λ_ _ _=>False
theorem Ua:PS X st UZ:=λ_ _ _ _ _ _ h=>h.elim
end
abbrev TG:=V->St->Hp->(St->Hp->Prop)->Prop
abbrev EE:=dG->St->Hp->(St->Hp->Prop)->Prop
def PG(X:Cx)(target:Expr)(t:TG):Prop :=
 ∀(qA:List (Addr×Obj)) (s:Shared) (σ:St) (H:Hp) (v:V) (u:Value) (Q:St->Hp->Prop),Inv X qA σ H s->AH v u->t v σ H Q ->
  wpAny (model X.prog X.w) X.A (assign target X.env u) (λ_ s'=>∃σ' H',Inv X qA σ' H' s'/\Q σ' H') X.xe s
def El(X:Cx)(ts:Hb)(t:EE):Prop :=
 ∀(qA:List (Addr×Obj)) (s:Shared) (σ:St) (H:Hp) (vs:dG) (us:Do) (Q:St->Hp->Prop),Inv X qA σ H s->AQ vs us->t vs σ H Q ->
  wpAny (model X.prog X.w) X.A (assignInOrder ((assignEach ts X.env).map (·.2)) us) (λ_ s'=>∃σ' H',Inv X qA σ' H' s'/\Q σ' H') X.xe s
abbrev GS:=V->V->V->Hp->(Hp->Prop)->Prop
def KS(X:Cx)(t:GS):Prop :=
 ∀(qA:List (Addr×Obj)) (s:Shared) (σ:St) (H:Hp) (o i v:V) (ov iv u:Value) (Q:Hp->Prop),Inv X qA σ H s->AH o ov->AH i iv->AH v u->t o i v H Q ->
  wpAny (model X.prog X.w) X.A (setItem ov iv u) (λ_ s'=>∃H',Inv X qA σ H' s'/\Q H') X.xe s
abbrev FQ:=V->V->Hp->VK->Prop
def FR(X:Cx)(op:Operator)(t:FQ):Prop :=
 ∀(qA:List (Addr×Obj)) (s:Shared) (σ:St) (H:Hp) (x y:V) (v u:Value) (Q:VK),Inv X qA σ H s->AH x v->AH y u->t x y H Q ->
  wpAny (model X.prog X.w) X.A (inplaceOp op v u) (EP X qA σ Q) X.xe s
def CI(i:Nat):TG:=λv σ H Q=>Q (σ.set i (some v)) H
theorem BD(d:X.N.Nodup)(hi:X.N[i]?=some x)(a:CA X.env.scope x)(c:X.fn x=true\/X.env.scope.names.lookup x=some .local:=by trivial):PG X (.Name x pos) (CI i):=by
 intro qA s σ H v u Q I r h;exact wpAny_assign_Name (GP I d hi a r (λs' e=>⟨_,H,e,h⟩) c)
def KU:EE:=λvs σ H Q=>vs=[]/\Q σ H
def IF(t:TG)(u:EE):EE:=λvs σ H Q=>∃v r,vs=v::r/\t v σ H λσ' H'=>u r σ' H' Q
theorem DY:El X [] KU:=by
 intro qA s σ H vs us Q I r h;obtain⟨e,h⟩:=h;subst e;cases r;exact assignInOrder_nil ⟨σ,H,I,h⟩
theorem Bi{e:Expr}{t:TG}{u:EE}(h1:PG X e t)(h2:El X es u)
  (g:(assignEach (e::es) X.env).map (·.2)=assign e X.env::(assignEach es X.env).map (·.2):=by rfl):El X (e::es) (IF t u):=by
 intro qA s σ H vs us Q I r h;obtain⟨v,l,i,h⟩:=h;subst i;cases r with
 |cons r d =>
  rw[g];refine assignInOrder_cons (AG (h1 qA s σ H _ _ _ I r h) λ_ c ⟨a,H1,j,f⟩=>?_);exact h2 qA c a H1 _ _ Q j d f
def Em(K:Fg)(n:Nat)(t:EE):TG:=λv σ H Q=>∃a xs,v=.ref a/\B1 K H a xs/\xs.length=n/\t xs σ H Q
theorem KW{k:Nat}{t:EE}(p:X.calm=true)(h:El X es t)
  (j:(assignEach es X.env).length=n:=by rfl) (d:(assignEach es X.env).findIdx? (·.1)=none:=by rfl):PG X (.Tuple es k pos) (Em X.K n t):=by
 intro qA s σ H v u Q I r c;obtain⟨a,xs,q,i,l,c⟩:=c;subst q;cases r;obtain⟨qH,rv,g,x⟩:=I.tuple i;refine assign_Tuple_tuple (I.ok.hd p) g (by simp[j,<-l,rv.length]) d λh' f=>?_;have w:Inv X qA σ H { s with heap:=h' }:=I.kept (t':=s.toks) λb o e=>f b o (bX (bN e)) e;exact h qA _ σ H xs _ Q w (by simpa using rv) c
def Ub(to ti:TE)(t:GS):TG:=λv σ H Q=>to σ H λo H1=>ti σ H1 λi H2=>t o i v H2 λH3=>Q σ H3
theorem Nc{o i:Expr}{to d:TE}{t:GS}(w:PE X o to)(hi:PE X i d)(q:KS X t)
  (z:∀v,assign (.Subscript o i pos) X.env v=(do
   let a <-holding [v] (eval o X.env)
   let c <-holding [v,a] (eval i X.env)
   standAt pos
   holding [v,a,c] (setItem a c v)
   release [v,a,c] []):=by intro _;rfl):PG X (.Subscript o i pos) (Ub to d t):=by
 intro qA s σ H v u Q I r h;rw[z];refine wB (bM (AG (w qA s σ H _ I h) λa f ⟨x,H1,C,j,p⟩=>?_));refine wB (bM (AG (hi qA f σ H1 _ C p) λc e ⟨y,H2,B,g,n⟩=>?_));refine wB (wpAny_standAt (wB (bM (AG (q qA e σ H2 x y v a c u _ B j g r n) λ_ E ⟨D,A,l⟩=>?_))));exact wpAny_release ⟨σ,D,A,l⟩
def En(te:TE)(g:TG):TS:=λD σ H=>te σ H λx H1=>g x σ H1 D.nx
theorem KY{e:Expr}{g:TG}(j:PE X e te)(i:PG X tg g)(f:swapsWithSole [tg] e pos.line X.env=pure false:=by rfl)(hw:swappedStores [tg] e X.env=pure none:=by rfl)
  (h1:(assignEach [tg] X.env).map (·.2)=[assign tg X.env]:=by rfl):PS X (.Assign [tg] e pos) (En te g):=by
 intro qA s σ H D I h;refine wpAny_Assign_stores (AG (j qA s σ H _ I h) λv a ⟨x,H1,l,c,d⟩=>?_) f hw;rw[h1];exact AG (i qA a σ H1 x v _ l c d) λ_ n q=>q
theorem CO{e:Expr}(l:X.N.Nodup)(hi:X.N[i]?=some x)(d:CA X.env.scope x)(j:PE X e te)(f:swapsWith e (some (.Name x pos')) pos.line X.env=pure false:=by rfl)(g:X.fn x=true\/X.env.scope.names.lookup x=some .local:=by trivial) :
  PS X (.Assign [.Name x pos'] e pos) (En te (CI i)):=by
 intro qA s σ H D I h;refine wpAny_Assign_Name (AG (j qA s σ H _ I h) λv q ⟨y,H1,o,a,c⟩=>?_) f;exact GP o l hi d a (λp n=>⟨_,H1,n,c⟩) g
def Uc(i:Nat)(te:TE)(ti:FQ):TS:=λD σ H=>∃x,σ[i]?=some (some x)/\te σ H λy H1=>ti x y H1 λz H2=>D.nx (σ.set i (some z)) H2
theorem Ud{e:Expr}{op:Operator}{n:FQ}(U:X.N.Nodup)(hi:X.N[i]?=some x)(j:CA X.env.scope x)(Q:PE X e te)(G:FR X op n)(O:X.fn x=true\/X.env.scope.names.lookup x=some .local:=by trivial) :
  PS X (.AugAssign (.Name x pos') op e pos) (Uc i te n):=by
 intro qA s σ H D I h;obtain⟨v,Y,h⟩:=h;obtain⟨m,J,M⟩:=I.loc;have g:C2 X.env.scope x:=by rcases j with k|k;exact .inl k;exact .inr (.inl k)
 obtain⟨u,r,l⟩:=M i x v hi Y g;refine wpAny_AugAssign_Name ?_;have o:wpAny (model X.prog X.w) X.A (eval e X.env) (λw f=>wpAny (model X.prog X.w) X.A (inplaceOp op u w) (λr d=>wpAny (model X.prog X.w) X.A (storeName X.env x r) (λ_=>SP X qA D .next) X.xe d) X.xe f) X.xe s:=by
  refine AG (Q qA s σ H _ I h) λw p ⟨y,H1,I1,B,E⟩=>?_;refine AG (G qA p σ H1 v y u w _ I1 r B E) λz s2 ⟨zv,H2,I2,q,C⟩=>?_;exact GP I2 U hi j q (λs3 I3=>⟨_,H2,I3,C⟩) O
 rcases l with⟨hk,L⟩|⟨hk,c,T,a⟩
 ·exact wpAny_loadName_local I.ok.kind hk J L o
 ·rcases hk with hk|hk
  ·exact wpAny_loadName_cell I.ok.kind hk T a o
  ·rcases j with k|k
   ·have:X.env.scope.names.lookup x=some .free:=hk;rw[k]at this;cases this
   ·have:X.env.scope.names.lookup x=some .free:=hk;rw[k]at this;cases this
def Nd(to ti te:TE)(tget:V->V->Hp->VK->Prop)(tip:FQ)(tset:GS):TS:=λD σ H=>to σ H λo H1=>ti σ H1 λi H2=>tget o i H2 λx H3=>te σ H3 λy H4=>tip x y H4 λz H5=>tset o i z H5 λH6=>D.nx σ H6
def Nf(X:Cx)(t:V->V->Hp->VK->Prop):Prop :=
 ∀(qA:List (Addr×Obj)) (s:Shared) (σ:St) (H:Hp) (o i:V) (ov iv:Value) (Q:VK),Inv X qA σ H s->AH o ov->AH i iv->t o i H Q ->
  wpAny (model X.prog X.w) X.A (getItem ov iv) (EP X qA σ Q) X.xe s
theorem Ng{o i e:Expr}{to n:TE}{c:V->V->Hp->VK->Prop}{g:FQ}{a:GS}{op:Operator}{tpos:Pos}(Y:PE X o to)(hi:PE X i n)(hg:Nf X c)(he:PE X e te)(U:FR X op g)(T:KS X a)
  (ha:∀d f new,augStore i d f new=(do holding [new,d,f] (setItem d f new);release [new,d,f] [];pure .next):=by intros;rfl):PS X (.AugAssign (.Subscript o i tpos) op e pos) (Nd to n te c g a):=by
 intro qA s σ H D I h;refine wpAny_AugAssign_SubscriptAny (AG (Y qA s σ H _ I h) λd B ⟨x1,H1,I1,q,Q⟩=>?_) ha;refine AG (hi qA B σ H1 _ I1 Q) λf A ⟨l,H2,I2,p,O⟩=>?_;refine AG (hg qA A σ H2 x1 l d f _ I2 q p O) λj z ⟨w,H3,I3,G,N⟩=>?_;refine AG (he qA z σ H3 _ I3 N) λv y ⟨u,H4,I4,E,M⟩=>?_;refine AG (U qA y σ H4 w u j v _ I4 G E M) λnew x ⟨r,H5,I5,C,L⟩=>?_;exact AG (T qA x σ H5 x1 l r d f new _ I5 q p C L) λ_ s6 ⟨H6,I6,J⟩=>⟨σ,H6,I6,J⟩
def GU(f:Int->Int->Int):FQ:=λx y H Q=>∃i j,x=.int i/\y=.int j/\Q (.int (f i j)) H
theorem KZ:FR X .Add (GU λi j=>i+j):=by
 intro qA s σ H x y v u Q I c a h;obtain⟨i,j,e,d,q⟩:=h;subst e;subst d;obtain⟨t,rfl⟩:=c;obtain⟨t',rfl⟩:=a;exact iadd_int ⟨.int _,H,I.tok _,⟨_,rfl⟩,q⟩
theorem Nh:FR X .Sub (GU λi j=>i - j):=by
 intro qA s σ H x y v u Q I c a h;obtain⟨i,j,e,d,q⟩:=h;subst e;subst d;obtain⟨t,rfl⟩:=c;obtain⟨t',rfl⟩:=a;exact isub_int ⟨.int _,H,I.tok _,⟨_,rfl⟩,q⟩
def Ue(c:TT)(tb:TS):TS:=λD σ H=>∃W:Nat->St->Hp->Prop,(∃m,W m σ H)/\∀m σ H,W m σ H ->
 c σ H λb H1=>if b=true then∃N:St->Hp->Prop,(∀σ' H',N σ' H'->∃m',m'<m/\W m' σ' H')/\tb { D with nx:=N,ct:=N,bk:=D.nx } σ H1 else D.nx σ H1
theorem Uf{body:He}{tc:TT}{tb:TS}(u:PassesOwn (model X.prog X.w) X.A X.env X.xe)(J:PT X c tc)(L:Bf X body tb):PS X (.While c body [] pos) (Ue tc tb):=by
 intro qA s σ H D I h;obtain⟨W,⟨G,B⟩,e⟩:=h;refine wpAny_While (codeAny_whileLoop (λn s'=>∃σ' H',Inv X qA σ' H' s'/\W n σ' H') ?_ G ⟨σ,H,I,B⟩);rintro n E ⟨d,H1,M,z⟩;refine wpAny_passesOwn u (AG (J qA E d H1 _ M (e n d H1 z)) λb C ⟨H2,y,j⟩=>?_);cases b with
 |true =>
  obtain⟨N,x,j⟩:=j;rw[aC rfl];refine wpAny_passesOwn u (AG (L qA C d H2 _ y j) λf O i=>?_);cases f with
  |next =>
   obtain⟨a,g,r,o⟩:=i;obtain⟨p,q,l⟩:=x a g o;exact⟨p,q,a,g,r,l⟩
  |cont =>
   obtain⟨a,g,r,o⟩:=i;obtain⟨p,q,l⟩:=x a g o;exact⟨p,q,a,g,r,l⟩
  |brk=>exact i
  |ret v=>exact i
 |false =>
  rw[aB cH];exact wpAny_execs_nil ⟨d,H2,y,j⟩
structure It where
 go:Nat->Hp->Prop
 yld:Nat->Hp->V->Hp->Prop
 stop:Nat->Hp->Prop
def Bq(X:Cx)(qA:List (Addr×Obj))(H:Hp)(b:Addr):Prop :=
 H b=none/\b≠X.env.locals/\b∉X.fs/\(b∈X.ex\/X.s₀.heap.objs.size<=b)/\(∀x c,X.env.cells.lookup x=some c->c≠b)/\∀p∈X.pn++qA,p.1≠b
theorem Inv.fpOk{b:Addr}(I:Inv X qA σ H s)(hb:s.heap.objs.size<=b)(hn:H' b=none):Bq X qA H' b:=by
 refine⟨hn,Nat.ne_of_gt (aU I.lt hb),I.nofs hb,.inr (aR I.sz hb),λx c e z=>?_,λp a z=>?_⟩
 ·obtain⟨v,q⟩:=I.cell x c e;exact bS (aU q.lt (by rw[z];exact hb)) (aX _)
 ·exact bS (aU (bN (I.pin p a).1) (by rw[z];exact hb)) (aX _)
structure Turn(P:Program)(w:World)(K:Fg)(tg:Expr)(J:It)(fp:Ha)(it:Addr)(tn:Nat->Heap->Prop):Prop where
 mem:it∈fp
 obj:∀i h,tn i h->∀b∈fp,∃o,h.get? b=some o/\∀v,o.data≠.cell v
 keep:∀i h h',tn i h->(∀b∈fp,∀o,h.get? b=some o->h'.get? b=some o)->tn i h'
 item:∀(X:Cx),X.prog=P->X.w=w->X.K=K->X.calm=true->∀(i:Nat) (qA:List (Addr×Obj)) (s:Shared) (σ:St) (H:Hp) (E:VS),Inv X qA σ H s->(∀b∈fp,Bq X qA H b)->tn i s.heap->J.go i H ->
  wpAny (model P w) X.A (pyNext (.ref it)) (λr s1=>∃u,r=some u /\
   wpAny (model P w) X.A (letOwnedTupleGo tg (.ref it) u) (λ_ s2=>∃x H',Inv X qA σ H' s2/\AH x u/\J.yld i H x H'/\tn (i+1) s2.heap/\∀b∈fp,H' b=none) E s1) E s
 done:∀(X:Cx),X.prog=P->X.w=w->X.K=K->X.calm=true->∀(i:Nat) (qA:List (Addr×Obj)) (s:Shared) (σ:St) (H:Hp) (E:VS),Inv X qA σ H s->(∀b∈fp,Bq X qA H b)->tn i s.heap->J.stop i H ->
  wpAny (model P w) X.A (pyNext (.ref it)) (λr s1=>r=none/\Inv X qA σ H s1) E s
 self:∀(A:Around) (i:Nat) (s:Shared) (Q:VS) (E:VS),tn i s.heap->Q (.ref it) s->wpAny (model P w) A (pyIter (.ref it)) Q E s
abbrev TI:=St->Hp->(It->Hp->Prop)->Prop
end L2
variable{g:L2.TG}{wi:L2.TI}{tt:L2.TT}
namespace L2
open PySem PySem.Spec PyProof.Rows
def Ni(X:Cx)(qA:List (Addr×Obj))(σ:St)(tg:Expr)(R:It->Hp->Prop)(itv:Value)(s2:Shared):Prop :=
 ∃(it:Addr) (fp:Ha) (tn:Nat->Heap->Prop) (J:It) (H':Hp),itv=.ref it/\Inv X qA σ H' s2/\Turn X.prog X.w X.K tg J fp it tn/\tn 0 s2.heap/\(∀b∈fp,Bq X qA H' b)/\R J H'
def PI(X:Cx)(tg iter:Expr)(wi:TI):Prop :=
 ∀(qA:List (Addr×Obj)) (s:Shared) (σ:St) (H:Hp) (R:It->Hp->Prop),Inv X qA σ H s->wi σ H R ->
  wpAny (model X.prog X.w) X.A (eval iter X.env) (λv s1=>wpAny (model X.prog X.w) X.A (pyIter v) (Ni X qA σ tg R) X.xe s1) X.xe s
theorem GV {M : Model} {E : Value → Shared → Prop} {o : Obj} {n : String} {vs : FG} {Q : Unit → Shared → Prop} (c : s.heap.get? it = some o) (f : o.cls = .type n) (e : o.data = .fields vs)
    (d : ["enumerate", "zip", "dict_itemiterator", "dict_reverseitemiterator", "odict_iterator", "itertools.zip_longest", "itertools.pairwise"].contains n = false) (a : Q () s) : wpAny M A (letOwnedTupleGo tg (.ref it) u) Q E s := by
  unfold letOwnedTupleGo;cases tg<;>first
    |exact wP a
    | (cases u <;> first
        |exact wP a
        | (refine wB (wpAny_load c ?_)
           rw[f, e];show wpAny M A (if(["enumerate", "zip", "dict_itemiterator", "dict_reverseitemiterator", "odict_iterator", "itertools.zip_longest", "itertools.pairwise"].contains n&&vs[0]?==some (rawInt _)) = true then _ else _) Q E s;rw[aB (by intro h; rw[d, Bool.false_and]at h; cases h)];exact wP a))
def DI(K:Fg)(a:Addr):It :=
 ⟨λi H=>∃xs x,Aq K H a xs/\xs[i]?=some x,λi H x H'=>H'=H/\∀xs,Aq K H a xs->xs[i]?=some x,λi H=>∃xs,Aq K H a xs/\xs.length<=i⟩
def Eo(K:Fg)(a:Addr):It :=
 ⟨λi H=>∃xs x,B1 K H a xs/\xs[i]?=some x,λi H x H'=>H'=H/\∀xs,B1 K H a xs->xs[i]?=some x,λi H=>∃xs,B1 K H a xs/\xs.length<=i⟩
def DJ(lo:Int)(n:Nat):It:=⟨λi _=>i<n,λi H x H'=>H'=H/\x=.int (lo+i),λi _=>n<=i⟩
theorem Ug{P:Program}{K:Fg}(a it:Addr):Turn P w K tg (DI K a) [it] it (λi h=>h.IsListIter it a i) where
 mem:=by simp
 obj:=λi h st b f=>by
  have e:b=it:=by simpa using f
  subst e;obtain⟨o,e,c,d⟩:=st;exact⟨o,e,λv z=>by rw[d]at z;cases z⟩
 keep:=λi h h' st k=>st.at λo e=>k it (by simp) o e
 item:=by
  intro X y q A L i qA s σ H E I l st r;subst y q A;obtain⟨xs,x,j,n⟩:=r;obtain⟨qH,rv,p,O⟩:=I.list j;obtain⟨u,T,N⟩:=rv.get n;obtain⟨J,G,U,D,C,B⟩:=l it (by simp);refine wpAny_pyNext_list_item st p.isList (x:=u) (by simpa using T) λh' g M=>?_;have I1:Inv X qA σ H { s with heap:=h' }:=I.turned (t':=s.toks) (λb o f e=>(M.2 b f).trans e) J G D C B;obtain⟨o,e,c,d⟩:=id g;exact⟨u,rfl,GV (s:={ s with heap:=h' }) e c d (by decide) ⟨x,H,I1,N,⟨rfl,λys Q=>by rw[I.list_inj Q j];exact n⟩,g,λb f=>(l b f).1⟩⟩
 done:=by
  intro X y q A L i qA s σ H E I l st r;subst y q A;obtain⟨xs,j,n⟩:=r;obtain⟨qH,rv,p,O⟩:=I.list j;obtain⟨J,G,U,D,C,B⟩:=l it (by simp);have hl:=rv.length;exact wpAny_pyNext_list_end (I.ok.hd L) st p.isList (by simp;lia) λh' Y=>⟨rfl,I.turned (t':=s.toks) (λb o f e=>Y b o f e) J G D C B⟩
 self:=λ_ _ _ _ _ st h=>wpAny_pyIter_listiter st h
theorem Uh{P:Program}{K:Fg}(a it:Addr):Turn P w K tg (Eo K a) [it] it (λi h=>h.IsTupleIter it a i) where
 mem:=by simp
 obj:=λi h st b f=>by
  have e:b=it:=by simpa using f
  subst e;obtain⟨o,e,c,d⟩:=st;exact⟨o,e,λv z=>by rw[d]at z;cases z⟩
 keep:=λi h h' st k=>st.at λo e=>k it (by simp) o e
 item:=by
  intro X y q A L i qA s σ H E I l st r;subst y q A;obtain⟨xs,x,j,n⟩:=r;obtain⟨qH,rv,p,O⟩:=I.tuple j;obtain⟨u,T,N⟩:=rv.get n;obtain⟨J,G,U,D,C,B⟩:=l it (by simp);refine wpAny_pyNext_tuple_item st (show s.heap.IsTuple a qH.toArray from p) (x:=u) (by simpa using T) λh' g M=>?_;have I1:Inv X qA σ H { s with heap:=h' }:=I.turned (t':=s.toks) (λb o f e=>(M.2 b f).trans e) J G D C B;obtain⟨o,e,c,d⟩:=id g;exact⟨u,rfl,GV (s:={ s with heap:=h' }) e c d (by decide) ⟨x,H,I1,N,⟨rfl,λys Q=>by rw[I.tuple_inj Q j];exact n⟩,g,λb f=>(l b f).1⟩⟩
 done:=by
  intro X y q A L i qA s σ H E I l st r;subst y q A;obtain⟨xs,j,n⟩:=r;obtain⟨qH,rv,p,O⟩:=I.tuple j;obtain⟨J,G,U,D,C,B⟩:=l it (by simp);have hl:=rv.length;exact wpAny_pyNext_tuple_end (I.ok.hd L) st (show s.heap.IsTuple a qH.toArray from p) (by simp;lia) λh' Y=>⟨rfl,I.turned (t':=s.toks) (λb o f e=>Y b o f e) J G D C B⟩
 self:=λ_ _ _ _ _ st h=>wpAny_pyIter_tupleiter st h
theorem Ui{P:Program}{K:Fg}(it:Addr)(lo:Int)(n:Nat):Turn P w K tg (DJ lo n) [it] it (λi h=>IsRangeIter h it (lo+(i:Nat) * 1) ((n:Int) - (i:Nat)) 1) where
 mem:=by simp
 obj:=λi h st b a=>by
  have e:b=it:=by simpa using a
  subst e;exact⟨_,st,λv z=>by
   have A:Data.fields _=Data.cell v:=z;cases A⟩
 keep:=λi h h' st k=>k it (by simp) _ st
 item:=by
  intro X l f p j i qA s σ H E I d st g;subst l f p;obtain⟨y,x,D,u,r,q⟩:=d it (by simp);have W:=Walks.range (prog:=X.prog) (w:=X.w) (I.ok.hd j) it lo 1 n;refine W.item i s _ _ g st λv h' tk C c B=>?_;obtain⟨t,rfl⟩:=C;have J:Inv X qA σ H { s with heap:=h',toks:=tk }:=I.turned (λb o a e=>B b o (by simpa using a) e) y x u r q;refine⟨_,rfl,GV (s:={ s with heap:=h',toks:=tk }) (n:="range_iterator") c rfl rfl (by decide) ⟨.int (lo+i),H,J,⟨t,?_⟩,⟨rfl,rfl⟩,c,λb a=>(d b a).1⟩⟩;rw[Int.mul_one]
 done:=by
  intro X l f p j i qA s σ H E I d st g;subst l f p;obtain⟨y,x,D,u,r,q⟩:=d it (by simp);exact wpAny_pyNext_range_end (I.ok.hd j) st (by have:n<=i:=g;lia) λh' G=>⟨rfl,I.turned (t':=s.toks) (λb o a e=>G b o a e) y x u r q⟩
 self:=λ_ _ _ _ _ st h=>wpAny_pyIter_rangeiter st h
def Nj(K:Fg)(tl:TE):TI:=λσ H R=>tl σ H λx H1=>∃a,x=.ref a/\(∃xs,Aq K H1 a xs)/\R (DI K a) H1
def IG(K:Fg)(tl:TE):TI:=λσ H R=>tl σ H λx H1=>∃a,x=.ref a/\(∃xs,B1 K H1 a xs)/\R (Eo K a) H1
theorem Nk{l:Expr}{tl:TE}(j:PE X l tl):PI X tg l (Nj X.K tl):=by
 intro qA s σ H R I h;refine AG (j qA s σ H _ I h) λv c ⟨x,H1,d,f,g⟩=>?_;obtain⟨a,e,⟨xs,i⟩,q⟩:=g;subst e;cases f;obtain⟨qH,rv,p,r⟩:=d.list i;refine wpAny_pyIter_list p.isList ?_;refine⟨c.heap.objs.size,[c.heap.objs.size],_,_,H1,rfl,d.kept (t':=c.toks) λb o e=>aS _ e,Ug a _,⟨_,bP _ rfl,rfl,rfl⟩,λb n=>?_,q⟩;have e:b=c.heap.objs.size:=by simpa using n
 subst e;exact d.fpOk (aQ _) (d.hok.fresh (aQ _))
theorem Nl{l:Expr}{tl:TE}(j:PE X l tl):PI X tg l (IG X.K tl):=by
 intro qA s σ H R I h;refine AG (j qA s σ H _ I h) λv c ⟨x,H1,d,f,g⟩=>?_;obtain⟨a,e,⟨xs,i⟩,q⟩:=g;subst e;cases f;obtain⟨qH,rv,p,r⟩:=d.tuple i;refine wpAny_pyIter_tuple (show c.heap.IsTuple a qH.toArray from p) ?_;refine⟨c.heap.objs.size,[c.heap.objs.size],_,_,H1,rfl,d.kept (t':=c.toks) λb o e=>aS _ e,Uh a _,⟨_,bP _ rfl,rfl,rfl⟩,λb n=>?_,q⟩;have e:b=c.heap.objs.size:=by simpa using n
 subst e;exact d.fpOk (aQ _) (d.hok.fresh (aQ _))
theorem Nm{R:It->Hp->Prop}{lo hi:Int}{t u v:Tok}{tk:Nat}(I:Inv X qA σ H s)(h1:-(2 ^ 62)<=lo)(h2:lo<2 ^ 62)(f:-(2 ^ 62)<=hi)(d:hi<2 ^ 62)
  (q:R (DJ lo (hi - lo).toNat) H):wpAny (model X.prog X.w) X.A (pyIter (.ref s.heap.objs.size)) (Ni X qA σ tg R) E { s with heap:=s.heap.push { cls:=.type "range",data:=.fields #[.int lo t,.int hi u,.int 1 v] },toks:=tk }:=by
 refine wpAny_pyIter_range (IsRange.new ..) (small_one h1 h2 f d) ?_;have a:Inv X qA σ H { s with heap:=s.heap.push { cls:=.type "range",data:=.fields #[.int lo t,.int hi u,.int 1 v] },toks:=tk }:=I.kept λb o e=>aS _ e;refine⟨(s.heap.push { cls:=.type "range",data:=.fields #[.int lo t,.int hi u,.int 1 v] }).objs.size,[(s.heap.push { cls:=.type "range",data:=.fields #[.int lo t,.int hi u,.int 1 v] }).objs.size],_,_,H,rfl,
  a.kept (t':=tk) λb o e=>aS _ e,Ui _ lo (hi - lo).toNat,?_,λb c=>?_,q⟩
 ·have h:lo+((0:Nat):Int) * 1=lo:=by simp
  have g:(((hi - lo).toNat:Nat):Int) - ((0:Nat):Int)=Builtin.Range.rangeSize lo hi 1:=by rw[rangeSize_one];split<;>lia
  show IsRangeIter _ _ (lo+((0:Nat):Int) * 1) ((((hi - lo).toNat:Nat):Int) - ((0:Nat):Int)) 1;rw[h,g];exact bP _ rfl
 ·have e:b=(s.heap.push { cls:=.type "range",data:=.fields #[.int lo t,.int hi u,.int 1 v] }).objs.size:=by simpa using c
  subst e;exact a.fpOk (aQ _) (a.hok.fresh (aQ _))
def Uj(ta:TA):TI:=λσ H R=>ta σ H λvs H1=>∃j:Int,vs=[.int j]/\-(2 ^ 62)<=j/\j<2 ^ 62/\R (DJ 0 j.toNat) H1
def Uk(ta:TA):TI:=λσ H R=>ta σ H λvs H1=>∃i j:Int,vs=[.int i,.int j]/\(-(2 ^ 62)<=i/\i<2 ^ 62/\-(2 ^ 62)<=j/\j<2 ^ 62)/\R (DJ i (j - i).toNat) H1
theorem IH{a:Expr}{ta:TA}{p:Pos}(n:Gl X "range")(l:X.mg "range"=none)(o:PA X [a] ta)(i:starEach [a] X.env=[(false,eval a X.env)]:=by rfl):PI X tg (.Call (.Name "range" p) [a] [] pos) (Uj ta):=by
 intro qA s σ H R I h;refine Call_ (ED I n l boot_range (PyProof.Rows.callWith_type1 (AG (o pos qA s σ H _ I h) λus v ⟨vs,H1,u,f,c⟩=>?_) i rfl));obtain⟨j,e,c,g,q⟩:=c;subst e;cases f with
 |cons r d =>
  cases d;obtain⟨t,rfl⟩:=r;exact call_range_1 (Nm u ⋯ ⋯ c g (by simpa using q))
theorem Ul{a b:Expr}{ta:TA}{p:Pos}(x:Gl X "range")(w:X.mg "range"=none)(y:PA X [a,b] ta)(v:starEach [a,b] X.env=[(false,eval a X.env),(false,eval b X.env)]:=by rfl)(c:starEach [b] X.env=[(false,eval b X.env)]:=by rfl) :
  PI X tg (.Call (.Name "range" p) [a,b] [] pos) (Uk ta):=by
 intro qA s σ H R I h;refine Call_ (ED I x w boot_range (PyProof.Rows.callWith_type1 (AG (y pos qA s σ H _ I h) λus A ⟨vs,H1,z,g,f⟩=>?_) (by rw[v,c]) (by rw[c];rfl)));obtain⟨i,j,e,⟨f,u,o,n⟩,q⟩:=f;subst e;cases g with
 |cons r d =>
  cases d with
  |cons l d =>
   cases d;obtain⟨t,rfl⟩:=r;obtain⟨t',rfl⟩:=l;exact call_range_2 (Nm z f u o n q)
def Nn(wi:TI)(g:TG)(tb:TS):TS:=λD σ H=>wi σ H λJ H1=>∃W:Nat->Nat->St->Hp->Prop,(∃m,W 0 m σ H1)/\∀i m σ H,W i m σ H ->
 (J.stop i H/\D.nx σ H)\/(J.go i H/\∃N:St->Hp->Prop,(∀σ' H',N σ' H'->∃m',m'<m/\W (i+1) m' σ' H')/\∀x H',J.yld i H x H'->g x σ H' λσ2 H2=>tb { D with nx:=N,ct:=N,bk:=D.nx } σ2 H2)
def EF(fp:Ha)(h:Heap):List (Addr×Obj):=fp.filterMap λb=>(h.get? b).map λo=>(b,o)
theorem EG{b:Addr}{o:Obj}(a:b∈fp)(e:h.get? b=some o):(b,o)∈EF fp h:=mem_filterMap.mpr ⟨b,a,by rw[e];rfl⟩
theorem Um{p:Addr×Obj}(a:p∈EF fp h):p.1∈fp/\h.get? p.1=some p.2:=by
 obtain⟨b,c,e⟩:=mem_filterMap.mp a;cases q:h.get? b with
 |none=>rw[q]at e;cases e
 |some o =>
  rw[q]at e;have d:(b,o)=p:=oI e;subst d;exact⟨c,q⟩
theorem Inv.pinned(I:Inv X qA σ H s)(g:∀b∈fp,Bq X qA H b)(f:∀b∈fp,∃o,s.heap.get? b=some o/\∀v,o.data≠.cell v):Inv X (qA++EF fp s.heap) σ H s :=
 I.pins_of λp c=>(bA.mp c).elim (λz=>I.pin p (cC _ z)) λz=>by
  obtain⟨hb,e⟩:=Um z;obtain⟨j,i,h,_⟩:=g p.1 hb;obtain⟨o,a,d⟩:=f p.1 hb;rw[e]at a;cases a;exact⟨e,j,i,h,d⟩
theorem Inv.unpinned{pl:List (Addr×Obj)}(I:Inv X (qA++pl) σ H s):Inv X qA σ H s:=I.pins_of λp a=>I.pin p (cC _ (mem_append_left _ a))
theorem GW{body:He}{tb:TS}(L:PassesOwn (model X.prog X.w) X.A X.env X.xe)(hc:X.calm=true)(hi:PI X tg iter wi)(hg:PG X tg g)(l:Bf X body tb)
  (hs:∀x,foldedSetIterable iter X.env x=pure x:=by intro _;rfl):PS X (.For tg iter body [] pos) (Nn wi g tb):=by
 intro qA s σ H D I h;refine wpAny_For (AG (hi qA s σ H _ I h) λv s1 h1=>AG h1 λa2 s2 h2=>?_) hs;obtain⟨it,fp,tn,J,H2,e,I2,T,U,f2,W,⟨m0,w0⟩,B⟩:=h2;subst e;have j:∀{H':Hp},(∀b∈fp,H' b=none)->∀b∈fp,Bq X qA H' b:=λhn b l=>⟨hn b l,(f2 b l).2⟩;refine codeAny_forLoop_any (λn s'=>∃i σ' H',Inv X qA σ' H' s'/\tn i s'.heap/\(∀b∈fp,H' b=none)/\W i n σ' H') ?_ m0 ⟨0,σ,H2,I2,U,λb l=>(f2 b l).1,w0⟩;rintro n s3 ⟨i,c,O,I3,E,M,w3⟩;rcases B i n c O w3 with⟨C,qn⟩|⟨go,N,hN,step⟩
 ·refine wpAny_passesOwn L (AG (T.done X rfl rfl rfl hc i qA s3 c O X.xe I3 (j M) E C) λr s4 ⟨hr,I4⟩=>?_);subst hr;exact wpAny_execs_nil ⟨c,O,I4,qn⟩
 ·refine wpAny_passesOwn L (AG (T.item X rfl rfl rfl hc i qA s3 c O X.xe I3 (j M) E go) λr s4 ⟨u,hr,h4⟩=>?_);subst hr;refine wpAny_passesOwn L (AG h4 λ_ s5 ⟨x,H5,I5,r5,y5,z,a0⟩=>?_);have a1:=I5.pinned (j a0) (T.obj _ _ z);refine wpAny_passesOwn L (AG (hg _ s5 c H5 x u _ a1 r5 (step x H5 y5)) λ_ s6 ⟨Q,H6,I6,q6⟩=>?_);refine wpAny_passesOwn L (AG (l _ s6 Q H6 _ I6 q6) λf Y y=>?_);have again:∀{a:St} {q:Hp},Inv X (qA++EF fp s5.heap) a q Y->N a q->∃m,m<n/\∃i σ' H',Inv X qA σ' H' Y/\tn i Y.heap/\(∀b∈fp,H' b=none)/\W i m σ' H':=λ{a q} p G=>by
   obtain⟨m',hm,w7⟩:=hN a q G;refine⟨m',hm,i+1,a,q,p.unpinned,T.keep _ _ _ z λb l o e=>(p.pin (b,o) (cC _ (cC _ (EG l e)))).1,λb l=>?_,w7⟩;obtain⟨o,e,d⟩:=T.obj _ _ z b l;exact(p.pin (b,o) (cC _ (cC _ (EG l e)))).2.1
  cases f with
  |next=>obtain⟨a,q,p,G⟩:=y;exact again p G
  |cont=>obtain⟨a,q,p,G⟩:=y;exact again p G
  |brk=>obtain⟨a,q,p,y⟩:=y;exact⟨a,q,p.unpinned,y⟩
  |ret v=>obtain⟨x7,a,q,p,r7,y⟩:=y;exact⟨x7,a,q,p.unpinned,r7,y⟩
theorem Uo{K:Fg}{xs:dG}{tb:TS}{D:Ends}(Pv:Nat->St->Hp->Prop)(o:Pv 0 σ H)(l:∀i σ H,i<=xs.length->Pv i σ H->Aq K H a xs)
  (j:∀i x σ H,xs[i]?=some x->Pv i σ H->g x σ H λc H2=>tb { D with nx:=Pv (i+1),ct:=Pv (i+1),bk:=D.nx } c H2) (n:∀σ H,Pv xs.length σ H->D.nx σ H) :
  ∃W:Nat->Nat->St->Hp->Prop,(∃m,W 0 m σ H)/\∀i m σ H,W i m σ H ->
   ((DI K a).stop i H/\D.nx σ H)\/((DI K a).go i H/\∃N:St->Hp->Prop,(∀σ' H',N σ' H'->∃f,f<m/\W (i+1) f σ' H')/\∀x H',(DI K a).yld i H x H'->g x σ H' λc H2=>tb { D with nx:=N,ct:=N,bk:=D.nx } c H2):=by
 refine⟨λi m σ H=>m=xs.length - i/\i<=xs.length/\Pv i σ H,⟨xs.length,by simp,cD _,o⟩,?_⟩;rintro i m σ H ⟨rfl,hi,p⟩;have q:=l i σ H hi p;by_cases d:i<xs.length
 ·refine .inr ⟨⟨xs,xs[i],q,by simp[d]⟩,Pv (i+1),λσ' H' h=>⟨xs.length - (i+1),⋯,rfl,d,h⟩,λx H' y=>?_⟩;obtain⟨e,y⟩:=y;subst e;exact j i x σ _ (y xs q) p
 ·have e:i=xs.length:=⋯;subst e;exact .inl ⟨⟨xs,q,aQ _⟩,n σ H p⟩
theorem Np{lo:Int}{tb:TS}{D:Ends}(Pv:Nat->St->Hp->Prop)(l:Pv 0 σ H)
  (h:∀i σ H,i<n->Pv i σ H->g (.int (lo+i)) σ H λa H2=>tb { D with nx:=Pv (i+1),ct:=Pv (i+1),bk:=D.nx } a H2) (j:∀σ H,Pv n σ H->D.nx σ H) :
  ∃W:Nat->Nat->St->Hp->Prop,(∃m,W 0 m σ H)/\∀i m σ H,W i m σ H ->
   ((DJ lo n).stop i H/\D.nx σ H)\/((DJ lo n).go i H/\∃N:St->Hp->Prop,(∀σ' H',N σ' H'->∃d,d<m/\W (i+1) d σ' H')/\∀x H',(DJ lo n).yld i H x H'->g x σ H' λa H2=>tb { D with nx:=N,ct:=N,bk:=D.nx } a H2):=by
 refine⟨λi m σ H=>m=n - i/\i<=n/\Pv i σ H,⟨n,by simp,cD _,l⟩,?_⟩;rintro i m σ H ⟨rfl,hi,p⟩;by_cases c:i<n
 ·refine .inr ⟨c,Pv (i+1),λσ' H' f=>⟨n - (i+1),⋯,rfl,c,f⟩,λx H' y=>?_⟩;obtain⟨e,y⟩:=y;subst e y;exact h i σ _ c p
 ·have e:i=n:=⋯;subst e;exact .inl ⟨aQ _,j σ H p⟩
abbrev R2:=V->V->Hp->VK->Prop
def A1(X:Cx)(f:Value->Value->Sem Value)(r:R2):Prop :=
 ∀(qA:List (Addr×Obj)) (s:Shared) (σ:St) (H:Hp) (x y:V) (v u:Value) (Q:VK),Inv X qA σ H s->AH x v->AH y u->r x y H Q ->
  wpAny (model X.prog X.w) X.A (f v u) (EP X qA σ Q) X.xe s
def Ka(X:Cx)(f:Value->Sem Value)(r:V->Hp->VK->Prop):Prop :=
 ∀(qA:List (Addr×Obj)) (s:Shared) (σ:St) (H:Hp) (x:V) (v:Value) (Q:VK),Inv X qA σ H s->AH x v->r x H Q ->
  wpAny (model X.prog X.w) X.A (f v) (EP X qA σ Q) X.xe s
def BJ(X:Cx)(f:Value)(r:dG->Hp->VK->Prop):Prop :=
 ∀(qA:List (Addr×Obj)) (s:Shared) (σ:St) (H:Hp) (xs:dG) (us:Do) (Q:VK),Inv X qA σ H s->AQ xs us->r xs H Q ->
  wpAny (model X.prog X.w) X.A (call f us) (EP X qA σ Q) X.xe s
def FS(r:R2)(ta tb:TE):TE:=λσ H Q=>ta σ H λx H1=>tb σ H1 λy H2=>r x y H2 Q
def Uq(r:V->Hp->VK->Prop)(ta:TE):TE:=λσ H Q=>ta σ H λx H1=>r x H1 Q
def rI(C:Int->Int->Prop)(g:Int->Int->V):R2:=λx y H Q=>∃i j,x=.int i/\y=.int j/\C i j/\Q (g i j) H
def CZ(g:Int->Int->V):R2:=λx y H Q=>∃i j,x=.int i/\y=.int j/\Q (g i j) H
def rU(g:Int->V):V->Hp->VK->Prop:=λx H Q=>∃i,x=.int i/\Q (g i) H
section
variable{a b:Expr}{tc:TE}
theorem Kb(o:PE X a ta)(n:PE X b tb){R:V->V->Hp->Prop}(I:Inv X qA σ H s)
  (h:ta σ H λx H1=>tb σ H1 λy H2=>R x y H2) {f:Value->Value->Sem Value}
  (l:∀v u c x y H2,Inv X qA σ H2 c->AH x v->AH y u->R x y H2->wpAny (model X.prog X.w) X.A (f v u) Q X.xe c) :
  wpAny (model X.prog X.w) X.A (eval a X.env) (λv s₁=>wpAny (model X.prog X.w) X.A (eval b X.env) (λu s₂=>wpAny (model X.prog X.w) X.A (f v u) Q X.xe s₂) X.xe s₁) X.xe s:=by
 refine AG (o qA s σ H _ I h) λv d ⟨x,H1,q,g,j⟩=>?_;refine AG (n qA d σ H1 _ q j) λu c ⟨y,H2,p,e,i⟩=>?_;exact l v u c x y H2 p g e i
theorem Ba{op:Operator}{r:R2}(f:A1 X (binaryOp op) r)(i:PE X a ta)(g:PE X b tb):PE X (.BinOp a op b pos) (FS r ta tb):=by
 intro qA s σ H Q I h;exact wpAny_BinOp (Kb i g I h λv u c x y H2 j e d q=>f qA c σ H2 x y v u Q j e d q)
theorem Nq{op:UnaryOp}{r:V->Hp->VK->Prop}(f:Ka X (unaryOp op) r)(g:PE X a ta):PE X (.UnaryOp op a pos) (Uq r ta):=by
 intro qA s σ H Q I h;exact UnaryOp_ (AG (g qA s σ H _ I h) λv c ⟨x,H1,i,d,e⟩=>f qA c σ H1 x v Q i d e)
theorem II{f:Value->Value->Sem Value}{C:Int->Int->Prop}{g:Int->Int->Int}
  (rule:∀(i j:Int) (t u:Tok) (s:Shared) (Q:VS) (E:VS),C i j->Q (.int (g i j) s.toks) { s with toks:=s.toks+1 }->wpAny (model X.prog X.w) X.A (f (.int i t) (.int j u)) Q E s) :
  A1 X f (rI C λi j=>.int (g i j)):=by
 intro qA s σ H x y v u Q I c a h;obtain⟨i,j,rfl,rfl,d,q⟩:=h;obtain⟨t,rfl⟩:=c;obtain⟨t',rfl⟩:=a;exact rule i j t t' s _ _ d ⟨.int (g i j),H,I.tok _,⟨_,rfl⟩,q⟩
theorem Nr{f:Value->Value->Sem Value}{g:Int->Int->Int}
  (rule:∀(i j:Int) (t u:Tok) (s:Shared) (Q:VS) (E:VS),Q (.int (g i j) s.toks) { s with toks:=s.toks+1 }->wpAny (model X.prog X.w) X.A (f (.int i t) (.int j u)) Q E s) :
  A1 X f (CZ λi j=>.int (g i j)):=by
 intro qA s σ H x y v u Q I c a h;obtain⟨i,j,rfl,rfl,q⟩:=h;obtain⟨t,rfl⟩:=c;obtain⟨t',rfl⟩:=a;exact rule i j t t' s _ _ ⟨.int (g i j),H,I.tok _,⟨_,rfl⟩,q⟩
theorem Kc{f:Value->Value->Sem Value}{g:Int->Int->Bool}
  (rule:∀(i j:Int) (t u:Tok) (s:Shared) (Q:VS) (E:VS),Q (.bool (g i j)) s->wpAny (model X.prog X.w) X.A (f (.int i t) (.int j u)) Q E s) :
  A1 X f (CZ λi j=>.bl (g i j)):=by
 intro qA s σ H x y v u Q I c a h;obtain⟨i,j,rfl,rfl,q⟩:=h;obtain⟨t,rfl⟩:=c;obtain⟨t',rfl⟩:=a;exact rule i j t t' s _ _ ⟨.bl (g i j),H,I,rfl,q⟩
def IJ(i j:Int):Prop:=0<=j/\j<=1000000/\i.natAbs<2 ^ 64
def GX(i j:Int):Prop:=(-(2 ^ 64)<i/\i<2 ^ 64)\/(-(2 ^ 64)<j/\j<2 ^ 64)
theorem GX.ok{i j:Int}(h:GX i j):IntMulOk i j:=by
 rcases h with⟨h1,h2⟩|⟨h1,h2⟩
 ·exact .of_left (intBits_le_64 h1 h2)
 ·exact .of_right (intBits_le_64 h1 h2)
theorem DZ:A1 X (binaryOp .Add) (CZ λi j=>.int (i+j)):=Nr λ_ _ _ _ _ _ _ q=>add_int q
theorem Kd:A1 X (binaryOp .Sub) (CZ λi j=>.int (i - j)):=Nr λ_ _ _ _ _ _ _ q=>sub_int q
theorem GY:A1 X (binaryOp .Mult) (rI GX λi j=>.int (i * j)):=II λ_ _ _ _ _ _ _ a q=>mul_int q a.ok
theorem FT:A1 X (binaryOp .Mod) (rI (λ_ j=>0<j) λi j=>.int (i % j)):=II λi j _ _ _ _ _ a q=>by
 have h1:(0:Int)<j:=a;exact mod_int' ⋯ (by rw[Int.fmod_eq_emod_of_nonneg i ⋯];exact q)
theorem Nt:A1 X (binaryOp .Pow) (rI IJ λi j=>.int (i ^ j.toNat)):=II λ_ _ _ _ _ _ _ a q=>pow_int_small a.1 a.2.1 a.2.2 q
theorem Ur{f:Value->Sem Value}{g:Int->Int}
  (rule:∀(i:Int) (t:Tok) (s:Shared) (Q:VS) (E:VS),Q (.int (g i) s.toks) { s with toks:=s.toks+1 }->wpAny (model X.prog X.w) X.A (f (.int i t)) Q E s) :
  Ka X f (rU λi=>.int (g i)):=by
 intro qA s σ H x v Q I a h;obtain⟨i,rfl,q⟩:=h;obtain⟨t,rfl⟩:=a;exact rule i t s _ _ ⟨.int (g i),H,I.tok _,⟨_,rfl⟩,q⟩
theorem Nu:Ka X (unaryOp .USub) (rU λi=>.int (-i)):=Ur λ_ _ _ _ _ q=>neg_int q
end
section
variable{a b:Expr}{tc:TE}
theorem Nv{Q:VK}{k a:Bool}(I:Inv X qA σ H s)(q:Q (.bl k) H)(e:k=a):EP X qA σ Q (.bool a) s:=by
 subst e;exact⟨.bl k,H,I,rfl,q⟩
theorem IK:A1 X (compareOp .Lt) (CZ λi j=>.bl (decide (i<j))):=Kc λ_ _ _ _ _ _ _ q=>lt_int q
theorem IL:A1 X (compareOp .LtE) (CZ λi j=>.bl (decide (i<=j))):=Kc λ_ _ _ _ _ _ _ q=>le_int q
theorem GZ:A1 X (compareOp .Gt) (CZ λi j=>.bl (decide (j<i))):=Kc λ_ _ _ _ _ _ _ q=>gt_int q
theorem Nw:A1 X (compareOp .Is) (λx y H Q=>y=.non/\Q (.bl (decide (x=.non))) H):=by
 intro qA s σ H x y v u Q I a c h;obtain⟨rfl,q⟩:=h;cases c;refine is_none_gen (Nv I q ?_);cases x<;>first
  |(cases a;rfl)
  |(obtain⟨t,rfl⟩:=a;rfl)
theorem Nx:A1 X (compareOp .IsNot) (λx y H Q=>y=.non/\Q (.bl (!decide (x=.non))) H):=by
 intro qA s σ H x y v u Q I a c h;obtain⟨rfl,q⟩:=h;cases c;refine isnot_none_gen (Nv I q ?_);cases x<;>first
  |(cases a;rfl)
  |(obtain⟨t,rfl⟩:=a;rfl)
theorem A5(b:Expr){op:CmpOp}(h:op≠.In:=by decide)(h2:op≠.NotIn:=by decide):behindInMarks op b=false:=by
 have c:(op==CmpOp.In)=false:=by cases op<;>first|rfl|exact bS rfl h
 have a:(op==CmpOp.NotIn)=false:=by cases op<;>first|rfl|exact bS rfl h2
 cases b<;>simp[behindInMarks,c,a]
theorem Ut{op:CmpOp}{r:R2}(f:A1 X (compareOp op) r)(j:PE X a ta)(i:PE X b tb)(g:behindInMarks op b=false):PE X (.Compare a [op] [b] pos) (FS r ta tb):=by
 intro qA s σ H Q I h;exact wpAny_Compare1 (Kb j i I h λv u c x y H2 l e d q=>f qA c σ H2 x y v u Q l e d q) g
def Ny(t:TE):TT:=λσ H Q=>t σ H λx H'=>∃k,x=.bl k/\Q k H'
theorem FU{op:CmpOp}{r:R2}(p:A1 X (compareOp op) r)(A:PE X a ta)(w:PE X b tb)(q:behindInMarks op b=false):PT X (.Compare a [op] [b] pos) (Ny (FS r ta tb)):=by
 intro qA s σ H Q I h;refine wpAny_isTrue_Compare1 (AG (A qA s σ H _ I h) λv f ⟨x,H1,D,j,o⟩=>AG (w qA f σ H1 _ D o) λu d ⟨y,H2,C,i,n⟩ =>
  AG (p qA d σ H2 x y v u _ C j i n) λc G ⟨z,E,B,g,k,e,l⟩=>?_) q
 subst e;cases g;exact wpAny_truthy_bool ⟨E,B,l⟩
def Nz(r r':R2)(ta tb tc:TE):TE:=λσ H Q=>ta σ H λx H1=>tb σ H1 λy H2=>r x y H2 λz H3=>∃k,z=.bl k /\
 (if k=true then tc σ H3 λw' H4=>r' y w' H4 Q else Q (.bl false) H3)
theorem Uu{op f:CmpOp}{r r':R2}(M:A1 X (compareOp op) r)(g:A1 X (compareOp f) r')(U:PE X a ta)(T:PE X b tb)(O:PE X c tc)
  (N:lastMarks [op,f] [b,c]=false:=by with_unfolding_all rfl):PE X (.Compare a [op,f] [b,c] pos) (Nz r r' ta tb tc):=by
 intro qA s σ H Q I h;refine Compare_chain (AG (U qA s σ H _ I h) λv B ⟨x,H1,I1,E,L⟩=>chain_link (AG (T qA B σ H1 _ I1 L) λu A ⟨y,H2,I2,i,J⟩ =>
  AG (M qA A σ H2 x y v u _ I2 E i J) λd w ⟨z,n,l,D,k,e,j⟩=>?_)) N
 subst e;cases D;refine wpAny_truthy_bool ?_;cases k with
 |false=>exact ite_ff ⟨.bl false,n,l,rfl,j⟩
 |true=>exact ite_tt (chain_last (AG (O qA w σ n _ l j) λp q ⟨o,H4,Y,C,G⟩=>g qA q σ H4 y o u p Q Y i C G))
theorem Ep:(sizeLine:Nat)<2 ^ 63:=by rw[cT];decide
theorem N0:A1 X (binaryOp .Add) (λx y H Q=>∃i j,x=.str i/\y=.str j/\i.length+j.length<=sizeLine/\Q (.str (i++j)) H):=by
 intro qA s σ H x y v u Q I c a h;obtain⟨i,j,rfl,rfl,d,q⟩:=h;obtain⟨t,rfl⟩:=c;obtain⟨t',rfl⟩:=a;exact add_str (λt' tk=>⟨.str (i++j),H,I.tok _,⟨_,rfl⟩,q⟩) d
theorem IM{x:V}(r:AQ [x] us):∃u,us=[u]/\AH x u:=by
 cases r with
 |cons c a=>cases a;exact⟨_,rfl,c⟩
theorem N1{x y:V}(r:AQ [x,y] us):∃u w',us=[u,w']/\AH x u/\AH y w':=by
 cases r with
 |cons e d =>
  cases d with
  |cons c a=>cases a;exact⟨_,_,rfl,e,c⟩
theorem Uv(c:X.calm=true):BJ X (.builtin "min") (λxs H Q=>∃i j,xs=[.int i,.int j]/\Q (.int (if j<i then j else i)) H):=by
 intro qA s σ H xs us Q I r h;obtain⟨i,j,rfl,q⟩:=h;obtain⟨u,d,rfl,⟨t,rfl⟩,⟨t',rfl⟩⟩:=N1 r;refine min_two_ints (I.ok.hd c) λh' tk k=>⟨_,H,I.kept k,?_,q⟩;by_cases a:j<i
 ·rw[aC a,aC a];exact⟨_,rfl⟩
 ·rw[aB a,aB a];exact⟨_,rfl⟩
end
structure ObjM(h:Heap)(x dx C:Addr)(mA:Str->Ex):Prop where
 obj:h.get? x=some (PySem.W.instObj C dx)
 ns:h.Ns1 dx mA
 ne:dx≠x
theorem Uw{dx:Addr}{f:Str->Ex}(n:h.Ns1 dx f):∃d,h.get? dx=some d/\∀name,PySem.W.lookIn name d=some (f name):=by
 obtain⟨o,es,ep,i,p,l,_,j⟩:=n;refine⟨o,i,λname=>?_⟩;have e:=j name;unfold nsFind findBy at e;rw[<-Array.find?_toList]at e;unfold PySem.W.lookIn;rw[p];dsimp only;split
 ·rename_i y q;rw[q]at e;exact aT some e
 ·rename_i q;rw[q]at e;have a:es.toList.any (·.refKey)=false:=by
   rw[any_eq_false];intro y g;obtain⟨z,t,c⟩:=l y (Array.mem_toList_iff.mp g);simp[DictEntry.refKey,c]
  have r:¬es.toList.any (·.refKey)=true:=by rw[a];exact cH
  rw[aB r];exact aT some e
theorem ObjM.look{x dx C:Addr}{mA:Str->Ex}(I:ObjM h x dx C mA):∃od,PySem.W.InstAt h x (PySem.W.instObj C dx) C (some od)/\∀name,PySem.W.lookIn name od=some (mA name) :=
 let⟨od,a,c⟩:=Uw I.ns
 ⟨od,⟨I.obj,rfl,rfl,a⟩,c⟩
theorem Cn.some_of{o:Ex}(r:Cn (some v) o):∃u,o=some u/\AH v u:=by
 cases o with
 |none=>exact(show False from r).elim
 |some u=>exact⟨u,rfl,r⟩
section
variable{P:Program}{C dx:Addr}{fs fs':List (Str×V)}
theorem Ux(g:A7 P w H h)(e:H a=some (.ins C dx fs)):∃c,ObjM h a dx C c/\(∀f,Cn (fs.lookup f) (c f))/\PySem.Within c (fs.map (·.1))/\fs.length<=1000/\H dx=some (.own a):=by
 obtain⟨d,z,j,i,c,n,r,q⟩:=(show A4 P w H h a (.ins C dx fs)from g a _ e);exact⟨c,⟨i,n,j⟩,r,q,z,d⟩
end
structure Cls(K:Fg)(C:Addr):Prop where
 pg:PySem.W.plainGet K C Str.empty=true
 hd:PySem.W.hasDictIn K C=true
 po:PySem.W.plainOver K C=true
 sa:PySem.W.findIn K (.ref C) "__setattr__"=some (some (.builtin "object.__setattr__"))
theorem Cls.get{K:Fg}{C:Addr}(c:Cls K C)(f:Str):PySem.W.plainGet K C f=true:=c.pg
section
variable{c:Value}{b:Bool}
inductive TyOf(K:Fg)(H:Hp):V->Value->Prop where
 |non:TyOf K H .non (.type "NoneType")
 |bl (x:Bool):TyOf K H (.bl x) (.type "bool")
 |int (i:Int):TyOf K H (.int i) (.type "int")
 |str (x:Str):TyOf K H (.str x) (.type "str")
 |flt (x:UInt64):TyOf K H (.flt x) (.type "float")
 |lst {a:Addr} {xs:dG} (e:H a=some (.lst xs)):TyOf K H (.ref a) (.type "list")
 |frz {a:Addr} {o:Obj} {xs:dG} (e:H a=some (.frz o (.lst xs))):TyOf K H (.ref a) (.type "list")
 |tup {a:Addr} {xs:dG} (e:H a=some (.tup xs)):TyOf K H (.ref a) (.type "tuple")
 |dK {a:Addr} {qI:List (AO×V)} (e:H a=some (.dK qI)):TyOf K H (.ref a) (.type "dict")
 |dT {a:Addr} {qI:List (List AO×V)} (e:H a=some (.dT qI)):TyOf K H (.ref a) (.type "dict")
 |fT {a:Addr} {o:Obj} {qI:List (List AO×V)} (e:H a=some (.frz o (.dT qI))):TyOf K H (.ref a) (.type "dict")
 |ins {a C dx:Addr} {fs:List (Str×V)} (e:H a=some (.ins C dx fs)) (cl:Cls K C) (ha:PySem.W.findIn K (.ref C) "__class__"=some (some (.builtin "object.__class__")))
   (hn:PySem.W.specialIn K (.builtin "object.__class__") "__get__"=some (some (.builtin "getset_descriptor.__get__"))) (htk:PySem.W.takesIn K (.builtin "object.__class__")=some true)
   (hm:PySem.W.mroIn K C (.type "object")=some true):TyOf K H (.ref a) (.ref C)
theorem Uy{x:V}{t:Value}(I:Inv X qA σ H s)(f:AH x u)(ty:TyOf X.K H x t)(e:PySem.W.kitOne X.K t c=some b)(h:∀tk,Q (.bool b) { s with toks:=tk }) :
  wpAny (model X.prog X.w) A (call (.builtin "isinstance") [u,c]) Q E s:=by
 cases ty with
 |non=>cases(show u=Value.none from f);exact PySem.W.kia_one PySem.W.kitx_none I.kIn True.intro e (λz=>nomatch z) h
 |bl y=>cases(show u=Value.bool y from f);exact PySem.W.kia_one PySem.W.kitx_bool I.kIn True.intro e (λz=>nomatch z) h
 |int i=>obtain⟨t,q⟩:=(show∃t,u=Value.int i t from f);cases q;exact PySem.W.kia_one PySem.W.kitx_int I.kIn True.intro e (λz=>nomatch z) h
 |str y=>obtain⟨t,q⟩:=(show∃t,u=Value.str y t from f);cases q;exact PySem.W.kia_one PySem.W.kitx_str I.kIn True.intro e (λz=>nomatch z) h
 |flt y=>obtain⟨t,q⟩:=(show∃t,u=Value.float y t from f);cases q;exact PySem.W.kia_one PySem.W.kitx_float I.kIn True.intro e (λz=>nomatch z) h
 |@lst a xs d =>
  cases(show u=Value.ref a from f);obtain⟨_,_,n,_,h1⟩:=(show A4 X.prog X.w H s.heap a (.lst xs)from I.hok a _ d);exact PySem.W.kia_one PySem.W.kitx_list I.kIn ⟨_,h1,rfl⟩ e (λz=>nomatch z) h
 |@frz a g xs d =>
  cases(show u=Value.ref a from f);obtain⟨_,_,_,n,_,h1⟩:=(show A4 X.prog X.w H s.heap a (.frz g (.lst xs))from I.hok a _ d);exact PySem.W.kia_one PySem.W.kitx_list I.kIn ⟨_,h1,rfl⟩ e (λz=>nomatch z) h
 |@tup a xs d =>
  cases(show u=Value.ref a from f);obtain⟨_,_,_,p⟩:=(show A4 X.prog X.w H s.heap a (.tup xs)from I.hok a _ d);obtain⟨o,h1,h2,_⟩:=p;exact PySem.W.kia_one PySem.W.kitx_tuple I.kIn ⟨o,h1,h2⟩ e (λz=>nomatch z) h
 |@dK a qI d =>
  cases(show u=Value.ref a from f);obtain⟨_,_,vs,_,p⟩:=(show A4 X.prog X.w H s.heap a (.dK qI)from I.hok a _ d);obtain⟨o,es,ep,h1,h2,_⟩:=p;exact PySem.W.kia_one PySem.W.kitx_dict I.kIn ⟨o,h1,h2.1⟩ e (λz=>nomatch z) h
 |@dT a qI d =>
  cases(show u=Value.ref a from f);obtain⟨_,_,xs,_,o,es,ep,h1,h2,_⟩:=(show A4 X.prog X.w H s.heap a (.dT qI)from I.hok a _ d);exact PySem.W.kia_one PySem.W.kitx_dict I.kIn ⟨o,h1,h2.1⟩ e (λz=>nomatch z) h
 |@fT a g qI d =>
  cases(show u=Value.ref a from f);obtain⟨_,_,_,xs,_,o,es,ep,h1,h2,_⟩:=(show A4 X.prog X.w H s.heap a (.frz g (.dT qI))from I.hok a _ d);exact PySem.W.kia_one PySem.W.kitx_dict I.kIn ⟨o,h1,h2.1⟩ e (λz=>nomatch z) h
 |@ins a C dx fs d l B r j v =>
  cases(show u=Value.ref a from f);obtain⟨G,O,_⟩:=Ux I.hok d;obtain⟨D,J,_⟩:=O.look;exact PySem.W.kia_one (PySem.W.kitx_own (l.get _) l.hd B r j v) I.kIn J e (λz=>nomatch z) h
end
structure Room(k:Nat)(A:Around):Prop where
 hd:A.handled=none
 dp:A.depth+3 * k+5<recursionLimit
 un:A.units+16 * k+200<cLine
theorem Room.mono{k:Nat}(r:Room k A)(h:j<=k):Room j A:=⟨r.hd,by have:=r.dp;lia,by have:=r.un;lia⟩
theorem Room.m{j k:Nat}{A:Around}(h:Room k A)(e:j<=k:=by decide):Room j A:=h.mono e
theorem Room.deeper{k:Nat}(r:Room (k+1) A)(env:Env):Room k (A.deeper env) :=
 ⟨r.hd,by have:=r.dp;show A.depth+1+3 * k+5<_;lia,by have:=r.un;show A.units+3+16 * k+200<_;lia⟩
theorem Room.depth{k:Nat}(r:Room k A):A.depth<recursionLimit:=by have:=r.dp;lia
theorem Room.units{k:Nat}(r:Room k A):A.units+64<cLine:=by have:=r.un;lia
theorem Room.units0{k:Nat}(r:Room k A):A.units<cLine:=by have:=r.un;lia
def CB:TA:=λ_ H Q=>Q [] H
def CC(ta:TE)(tr:TA):TA:=λσ H Q=>ta σ H λx H1=>tr σ H1 λxs H2=>Q (x::xs) H2
section
variable{e:Expr}{t:TA}
theorem BE:PA X [] CB:=λ_ _ _ _ H Q I h=>Calls.spliced_nil ⟨[],H,I,.nil,h⟩
theorem Av(l:PE X e te)(j:PA X es t)(i:starEach (e::es) X.env=(false,eval e X.env)::starEach es X.env:=by rfl):PA X (e::es) (CC te t):=by
 intro pos qA s σ H Q I h;rw[i];show wpAny _ _ (spliced ((false,eval e X.env)::backTo pos (starEach es X.env))) _ _ s;refine Calls.spliced_cons (AG (l qA s σ H _ I h) λu a ⟨x,H1,o,d,g⟩=>?_);exact AG (j pos qA a σ H1 _ o g) λus p ⟨xs,H2,n,c,f⟩=>⟨x::xs,H2,n,.cons d c,f⟩
def Uz(t:TA):TE:=λσ H Q=>t σ H λxs H1=>xs.length<=sizeLine/\∀p,H1 p=none->Q (.ref p) (AD H1 p (.tup xs))
def Ke(t:TA):TE:=λσ H Q=>t σ H λxs H1=>xs.length<=sizeLine/\∀p,H1 p=none->Q (.ref p) (AD H1 p (.lst xs))
theorem U0{x1}(h:PA X es t):PE X (.Tuple es x1 pos) (Uz t):=by
 intro qA s σ H Q I d;refine wpAny_Tuple_spliced (AG (h pos qA s σ H _ I d) λus a ⟨xs,H1,c,r,z,q⟩=>⟨by rw[<-r.length];exact z,?_⟩);have f:H1 a.heap.objs.size=none:=c.hok.fresh (aQ _);refine⟨.ref a.heap.objs.size,AD H1 a.heap.objs.size (.tup xs),c.laid (t':=a.toks) (λb u e=>aS _ e) (aQ _) ?_,rfl,q _ f⟩;exact⟨z,us,r,DX.new _ _⟩
theorem Ga(h:PA X es t):PE X (.List es pos) (Ke t):=by
 intro qA s σ H Q I d;refine wpAny_List_spliced (AG (h pos qA s σ H _ I d) λus a ⟨xs,H1,c,r,z,q⟩=>⟨by rw[<-r.length];exact z,?_⟩);have f:H1 a.heap.objs.size=none:=c.hok.fresh (aQ _);refine⟨.ref a.heap.objs.size,AD H1 a.heap.objs.size (.lst xs),c.laid (t':=a.toks) (λb u e=>aS _ e) (aQ _) ?_,rfl,q _ f⟩;exact⟨z,us,0,r,bP _ rfl⟩
end
abbrev Sp:=dG->Hp->VK->XK->Prop
abbrev C3:=List Env->Hp->Shared->XK->Value->Shared->Prop
structure Env0(P:Program)(w:World)(K:Fg)(mg:Str->Ex)(base:Heap)(A:Around)(outer:List Env)(s:Shared)(H:Hp):Prop where
 frames:A.frames=some outer
 mod:Mod K mg base
 bs:∀b o,base.get? b=some o->s.heap.get? b=some o/\H b=none
 bsz:base.objs.size<=s.heap.objs.size
 funs:s.heap.FunFrames base outer
 frf:∀b∈CN outer,H b=none
 hok:A7 P w H s.heap
 bare:AllBare s.gens
def CE(outer:List Env)(P:Program)(w:World)(H:Hp)(s:Shared)(Q:VK)(u:Value)(s':Shared):Prop :=
 ∃v H',s'.os=s.os/\AllBare s'.gens/\Un (CN outer) [] H H' s.heap s'.heap/\A7 P w H' s'.heap/\AH v u/\Q v H'
def CR(CX:C3)(outer:List Env)(P:Program)(w:World)(H:Hp)(s:Shared)(Q:VK)(E:XK)(r:Result)(s':Shared):Prop :=
 match r with
 |.ok (.ret u)=>CE outer P w H s Q u s'
 |.ok _=>False
 |.error e=>CX outer H s E e s'
structure FnOk(P:Program)(w:World)(K:Fg)(mg:Str->Ex)(base:Heap)(CX:C3)(k:Nat)(f:Addr)(fd:FuncData)(ps:At)(sp:Sp):Prop where
 len:∀vs H Q E,sp vs H Q E->vs.length=ps.length
 run:∀(A:Around) (outer:List Env) (s:Shared) (H:Hp) (args:Args) (us:Do) (vs:dG) (Q:VK) (E:XK),Room k A->Env0 P w K mg base A outer s H->BindsTo s fd args (ps.zip us)->AQ vs us->sp vs H Q E ->
  codeAny (model P w) A (.call (.ref f) args) (CR CX outer P w H s Q E) s
theorem FnOk.imp{P:Program}{K:Fg}{CX:C3}{k:Nat}{f:Addr}{sp sp':Sp}(F:FnOk P w K mg base CX k f fd ps sp)
  (h:∀vs H Q E,sp' vs H Q E->sp vs H Q E):FnOk P w K mg base CX k f fd ps sp' :=
 ⟨λvs H Q E q=>F.len vs H Q E (h _ _ _ _ q),λA outer s H args us vs Q E d e hb a c=>F.run A outer s H args us vs Q E d e hb a (h _ _ _ _ c)⟩
section
variable{s':Shared}
theorem Inv.env0(I:Inv X qA σ H s):Env0 X.prog X.w X.K X.mg X.base X.A X.stack s H :=
 ⟨I.ok.frames,I.ok.mod,I.bs,aR I.ok.bsz I.sz,I.stack,I.stkFree,I.hok,I.bare⟩
theorem Inv.after{Q:VK}(I:Inv X qA σ H s)(h:CE X.stack X.prog X.w H s Q u s'):EP X qA σ Q u s':=by
 obtain⟨v,H',os,bare,un,hok,r,q⟩:=h;obtain⟨c,g,d,t,a⟩:=s';obtain rfl:a=s.os:=os;exact⟨v,H',I.call (h':=c) (g':=g) (d':=d) (t':=t) (ch:=[]) un hok bare (λb z=>bS z (by simp)),r,q⟩
end
def Gb(sp:Sp)(dvs:dG)(E:XK)(t:TA):TE:=λσ H Q=>t σ H λvs H1=>sp (vs++dvs) H1 Q E
def FV(K:Fg)(fd:FuncData)(ps:At)(ds:Do):Prop :=
 ∀(s:Shared) (us:Do),K.In s.heap->(us++ds).length=ps.length->BindsTo s fd ⟨us,[]⟩ (ps.zip (us++ds))
theorem FV.all{K:Fg}(h:∀us:Do,us.length=ps.length->bindArgs fd ⟨us,[]⟩=pure (ps.zip us)):FV K fd ps []:=λs us _ a=>by
 rw[cO]at a ⊢;exact .of_eq (h us a)
def Kg(CX:C3)(X:Cx)(E:XK):Prop:=∀(qA:List (Addr×Obj)) (σ:St) (H:Hp) (s:Shared) (e:Value) (s':Shared),Inv X qA σ H s->CX X.stack H s E e s'->X.xe e s'
section
variable{CX:C3}{k:Nat}{f C:Addr}{sp:Sp}{dvs:dG}{ds:Do}{E:XK}{m:Str}{p:Pos}{e o:Expr}{t:TA}
theorem U1{Q:VK}(F:FnOk X.prog X.w X.K X.mg X.base CX k f fd ps sp)(g:Room k X.A)(l:FV X.K fd ps ds)(j:AQ dvs ds)(d:Kg CX X E)
  (I:Inv X qA σ H s) (r:AQ vs us) (h:sp (vs++dvs) H Q E):wpAny (model X.prog X.w) X.A (call (.ref f) us) (EP X qA σ Q) X.xe s:=by
 have c:AQ (vs++dvs) (us++ds):=r.append j;have i:(us++ds).length=ps.length:=by rw[<-c.length];exact F.len _ _ _ _ h
 refine wpAny_call (codeAny_mono (F.run X.A X.stack s H ⟨us,[]⟩ (us++ds) (vs++dvs) Q E g I.env0 (l s us I.kIn i) c h) λr s' a=>?_);cases r with
 |error e=>exact d qA σ H s e s' I a
 |ok n =>
  cases n with
  |ret u=>exact I.after a
  |next=>exact False.elim a
  |brk=>exact False.elim a
  |cont=>exact False.elim a
theorem U2(F:FnOk X.prog X.w X.K X.mg X.base CX k f fd ps sp)(i:Room k X.A)(n:Gl X x)(j:X.mg x=some (.ref f))(l:PySem.W.keepIn X.K (.ref f)=true)(v:FV X.K fd ps ds)(u:AQ dvs ds)(g:Kg CX X E)
  (y:PA X (e::es) t) (c:(x==("__debug__":Str))=false:=by decide) (o:starEach (e::es) X.env=(false,eval e X.env)::starEach es X.env:=by rfl) (a:(backTo pos (starEach es X.env)).any (·.1)=false:=by rfl) :
  PE X (.Call (.Name x p) (e::es) [] pos) (Gb sp dvs E t):=by
 intro qA s σ H Q I h;refine wpAny_Call_Name_kw (UG I n j ?_ c);refine PySem.W.callWith_K (h₀:=X.base) I.ok.mod.kin l (AG (y pos qA s σ H _ I h) λus z ⟨vs,H1,d,r,q⟩=>⟨d.kIn,?_⟩) o a;exact U1 F i v u g d r q
end
def PK(X:Cx)(kws:List Keyword)(t:TA):Prop :=
 ∀(pos:Pos) (qA:List (Addr×Obj)) (s:Shared) (σ:St) (H:Hp) (Q:dG->Hp->Prop),Inv X qA σ H s->t σ H Q->wpAny (model X.prog X.w) X.A (evalAll ((backToKw pos (keywordEach kws X.env)).map (·.2))) (AP X qA σ Q) X.xe s
section
variable{CX:C3}{k:Nat}{f C:Addr}{ks:At}{sp:Sp}{E:XK}{m:Str}{p kpos:Pos}{e o:Expr}{kws:List Keyword}{t tk:TA}{nm:Option Str}
theorem U3:PK X [] CB:=λ_ _ _ _ H Q I h=>wpAny_evalAll_nil ⟨[],H,I,.nil,h⟩
theorem U4(j:PE X e te)(i:PK X kws t):PK X (⟨nm,e,kpos⟩::kws) (CC te t):=by
 intro pos qA s σ H Q I h;show wpAny _ _ (evalAll ((do let v <-eval e X.env;standAt pos;pure v)::(backToKw pos (keywordEach kws X.env)).map (·.2))) _ _ s;refine wpAny_evalAll_cons (wB (AG (j qA s σ H _ I h) λu a ⟨x,H1,n,d,g⟩=>wB (wpAny_standAt (wP ?_))));exact AG (i pos qA a σ H1 _ n g) λus o ⟨xs,H2,l,c,f⟩=>⟨x::xs,H2,l,.cons d c,f⟩
variable{g:Do->Do->Do}{gV:dG->dG->dG}
end
structure FnScope(N P:At)(sc:Scope):Prop where
 kind:sc.kind=.function
 co:sc.isCoroutine=false
 gen:sc.isGenerator=false
 nd:N.Nodup
 pre:N.take P.length=P
 par:∀x∈P,sc.names.lookup x=some .local\/sc.names.lookup x=some .cell
 nofree:∀y∈sc.names,y.2≠.free
theorem N2{kindOf:Str->Option NameKind}{x:Str}:∀{binds:List (Str×Value)} {m:Str->Ex},(∀v,(x,v)∉binds)->bindL kindOf binds m x=m x
 |[],_,_=>rfl
 |(n,v)::r,m,h=>by
  unfold bindL;rw[N2 λw a=>h w (bT _ a)];split
  ·have:x≠n:=by rintro rfl;exact h v cA
   simp[this]
  ·rfl
theorem N3{kindOf:Str->Option NameKind}{x:Str}:∀{binds:List (Str×Value)} {m:Str->Ex},(∀v,(x,v)∉binds)->bindC kindOf binds m x=m x
 |[],_,_=>rfl
 |(n,v)::r,m,h=>by
  unfold bindC;rw[N3 λw a=>h w (bT _ a)];split
  ·rfl
  ·have:x≠n:=by rintro rfl;exact h v cA
   simp[this]
theorem N4{kindOf:Str->Option NameKind}{x:Str}{v:Value}:∀{P:At} {vs:Do} {i:Nat} {m:Str->Ex},P.Nodup->P[i]?=some x->vs[i]?=some v->kindOf x=some .local ->
  bindL kindOf (P.zip vs) m x=some v
 |[],_,_,_,_,h,_,_=>by simp at h
 |_::_,[],_,_,_,_,h,_=>by simp at h
 |p::P,w::vs,0,m,a,h1,h2,c=>by
  simp at h1 h2;subst h1;subst h2;show bindL kindOf ((p,w)::P.zip vs) m p=_;unfold bindL;rw[N2 λv d=>(bC.mp a).1 (of_mem_zip d).1,aC c];simp
 |p::P,w::vs,i+1,m,a,h1,h2,c=>by
  show bindL kindOf ((p,w)::P.zip vs) m x=_;unfold bindL;exact N4 (i:=i) (bC.mp a).2 (by simpa using h1) (by simpa using h2) c
theorem N5{kindOf:Str->Option NameKind}{x:Str}{v:Value}:∀{P:At} {vs:Do} {i:Nat} {m:Str->Ex},P.Nodup->P[i]?=some x->vs[i]?=some v->kindOf x≠some .local ->
  bindC kindOf (P.zip vs) m x=some v
 |[],_,_,_,_,h,_,_=>by simp at h
 |_::_,[],_,_,_,_,h,_=>by simp at h
 |p::P,w::vs,0,m,a,h1,h2,c=>by
  simp at h1 h2;subst h1;subst h2;show bindC kindOf ((p,w)::P.zip vs) m p=_;unfold bindC;rw[N3 λv d=>(bC.mp a).1 (of_mem_zip d).1,aB c];simp
 |p::P,w::vs,i+1,m,a,h1,h2,c=>by
  show bindC kindOf ((p,w)::P.zip vs) m x=_;unfold bindC;exact N5 (i:=i) (bC.mp a).2 (by simpa using h1) (by simpa using h2) c
def Ca(N:At)(vs:dG):St:=vs.map some++replicate (N.length - vs.length) none
def EH(CX:C3)(P:Program)(w:World)(K:Fg)(mg:Str->Ex)(base:Heap)(N:At)(qual:Str)(scope:Scope)(f:Addr)(cd:Value)(A:Around)(outer:List Env)(s:Shared)(H:Hp)(E:XK):Cx where
 prog:=P
 w:=w
 K:=K
 mg:=mg
 base:=base
 A:=A.deeper (envOfC qual scope s.heap.objs.size f cd)
 N:=N
 s₀:=s
 H₀:=H
 env:=envOfC qual scope s.heap.objs.size f cd
 outer:=outer
 stack:=envOfC qual scope s.heap.objs.size f cd::outer
 ex:=[]
 calm:=true
 fn:=λ_=>true
 pn:=[]
 xe:=λe s'=>wpAny (model P w) (A.deeper (envOfC qual scope s.heap.objs.size f cd)) (leaving (envOfC qual scope s.heap.objs.size f cd) e) (λ_ s''=>CX outer H s E e s'') (λe' s''=>CX outer H s E e' s'') s'
theorem N6(h:sc.names.lookup x=some .cell):∃c,(cellsFrom n sc.names []).lookup x=some c:=by
 have q:=PySem.W.cellsFrom_some sc.names n [] (.inl h);exact Option.isSome_iff_exists.mp q
theorem U5{CX:C3}{P:Program}{K:Fg}{f:Addr}{o:Value}{outer:List Env}{s1:Shared}{E:XK}
  (S:FnScope N ps scope) (G:A.handled=none) (d:Env0 P w K mg base A outer s H) (J:vs.length=ps.length) (r:AQ vs us)
  (x:InCallC s s.heap.objs.size (bindL (envOfC qual scope s.heap.objs.size f o).kindOf (ps.zip us) λ_=>none) (cellsFrom (s.heap.objs.size+1) scope.names []) (bindC (envOfC qual scope s.heap.objs.size f o).kindOf (ps.zip us) λ_=>none) s1) :
  Inv (EH CX P w K mg base N qual scope f o A outer s H E) [] (Ca N vs) H s1:=by
 have D:ps.length<=N.length:=by have:=aT length S.pre;rw[aO]at this;lia
 obtain⟨h1,tk,rfl,C⟩:=x.done;have g:∀b:Addr,b∉(EH CX P w K mg base N qual scope f o A outer s H E).ex:=λb z=>bS (show b∈([]:Ha)from z) (by simp);refine⟨⟨d.mod,S.kind,rfl,rfl,aQ _,λy z c h1 h2=>?_,λy hy=>?_,λy c _ h=>?_,λ_=>G,Around.frames_deeper d.frames,.inr ⟨rfl,rfl⟩,λb z=>bS z (g b),d.bs,d.bsz,λb _ _=>g b,λb z=>bS z (g b),d.funs,d.frf⟩,
  rfl,d.bare,Un.kept C,⟨_,x.toInCall.ns,λi y v h1 h2 L=>?_⟩,λy c h=>⟨_,x.cell y c h⟩,d.hok.fresh (aQ _),λy c h=>?_,λp l=>bS (show p∈([]:List (Addr×Obj))from l) (by simp),d.hok.kept C,?_⟩
 ·exact name_of_addr x.apart (PySem.mem_of_lookup h1) (PySem.mem_of_lookup h2)
 ·have hy:scope.names.lookup y=some .cell\/scope.names.lookup y=some .free:=hy;rcases hy with hy|hy
  ·exact N6 hy
  ·exact bS rfl (S.nofree _ (PySem.mem_of_lookup hy))
 ·exact aY (x.above y c (PySem.mem_of_lookup h))
 ·have hi:i<vs.length:=by
   unfold Ca at h2;by_cases hi:i<vs.length
   ·exact hi
   ·rw[getElem?_append_right (by simpa using hi)]at h2;rw[getElem?_replicate]at h2;split at h2<;>cases h2
  have I:vs[i]?=some v:=by
   unfold Ca at h2;rw[getElem?_append_left (by simpa using hi),bO]at h2;cases e:vs[i]? with
   |none=>rw[e]at h2;cases h2
   |some a=>rw[e]at h2;cases h2;rfl
  obtain⟨u,B,rv⟩:=r.get I;have l:ps[i]?=some y:=by
   rw[<-S.pre,getElem?_take_of_lt ⋯];exact h1
  have j:ps.Nodup:=by rw[<-S.pre];exact S.nd.sublist (take_sublist _ _)
  refine⟨u,rv,?_⟩;rcases S.par y (aM l)with k|k
  ·exact .inl ⟨k,N4 j l B k⟩
  ·obtain⟨c,e⟩:=N6 (n:=s.heap.objs.size+1) k;refine .inr ⟨.inl k,c,e,?_⟩;have q:=x.cell y c e;rw[N5 j l B (by show scope.names.lookup y≠_;rw[k];decide)]at q;exact q
 ·exact d.hok.fresh (aY (x.above y c (PySem.mem_of_lookup h)))
 ·unfold Ca;show _=N.length;rw[aG,aA,length_replicate];lia
theorem U6{CX:C3}{P:Program}{K:Fg}{k:Nat}{f:Addr}{name:Str}{c:Arguments}{body:He}{G kV doc D a ct T:Value}{L O:Go}
  {p:Array Ex} {sp:Sp} (U:K.lookup f=some ⟨T,O,.func (PySem.W.fnOf name qual c body scope G kV doc D L a ct),p⟩) (C:PySem.W.codeIn K a qual=true) (S:FnScope N ps scope)
  (len:∀vs H Q E,sp vs H Q E->vs.length=ps.length)
  (g:∀(A:Around) (outer:List Env) (s:Shared) (H:Hp) (vs:dG) (Q:VK) (E:XK),Room k (A.deeper (envOfC qual scope s.heap.objs.size f a))->sp vs H Q E ->
   ∃t,Bf (EH CX P w K mg base N qual scope f a A outer s H E) body t/\t { nx:=λ_ H'=>Q .non H',rt:=Q } (Ca N vs) H) :
  FnOk P w K mg base CX (k+1) f (PySem.W.fnOf name qual c body scope G kV doc D L a ct) ps sp:=by
 refine⟨len,λA outer s H args us vs Q E B l hb r i=>?_⟩;have hl:=len _ _ _ _ i;have M:K.In s.heap:=l.mod.kin.keeps λb o e=>(l.bs b o e).1;have z:s.heap.NoLimit:=l.mod.nolimit.keeps λb o e=>(l.bs b o e).1;have d:∀y∈ps.zip us,scope.names.lookup y.1=some .local\/(scope.names.lookup y.1=some .cell/\((cellsFrom (s.heap.objs.size+1) scope.names []).lookup y.1).isSome=true):=λ⟨n,v⟩ Y=>by
  rcases S.par n (of_mem_zip Y).1 with q|q
  ·exact .inl q
  ·exact .inr ⟨q,PySem.W.cellsFrom_some _ _ _ (.inl q)⟩
 refine codeAny_call_function B.depth (M _ _ U) rfl S.co S.gen rfl (PySem.W.codeRec_of M C) (hb _ _ _ _ ?_);refine wpAny_newFunctionEnv_cells S.kind d λenv he s1 x=>?_;subst he;refine⟨z.keeps x.toInCall.keep,codeAny_func ?_⟩;obtain⟨t,ht,hq⟩:=g A outer s H vs Q E (B.deeper _) i;have I:Inv (EH CX P w K mg base N qual scope f a A outer s H E) [] (Ca N vs) H s1:=U5 S B.hd l hl r x;refine bL (ht [] s1 (Ca N vs) H _ I hq) (λfl s' h=>?_) λe s' h=>h;have j:∀{σ':St} {H':Hp} {v:V} {u:Value},Inv (EH CX P w K mg base N qual scope f a A outer s H E) [] σ' H' s'->AH v u->Q v H'->CE outer P w H s Q u s' :=
  λ{σ' H' v u} J rv q=>⟨v,H',J.os,J.bare,J.base,J.hok,rv,q⟩
 cases fl with
 |ret u =>
  obtain⟨v,σ',H',J,rv,q⟩:=h;exact j J rv q
 |next =>
  obtain⟨σ',H',J,q⟩:=h;exact j (v:=V.non) (u:=Value.none) J rfl q
 |brk =>
  obtain⟨_,_,_,q⟩:=h;exact False.elim q
 |cont =>
  obtain⟨_,_,_,q⟩:=h;exact False.elim q
section
variable{p:Pos}{e:Expr}{t:TA}{id T:String}{r:dG->Hp->VK->Prop}
def Da(r:dG->Hp->VK->Prop)(t:TA):TE:=λσ H Q=>t σ H λvs H1=>r vs H1 Q
theorem Er(q:BJ X (.builtin id) r)(n:Gl X x)(l:X.mg x=none)(i:bootBuiltins x=some (.builtin id))(u:PA X (e::es) t)(j:x≠"__name__":=by decide)(c:(x==("__debug__":Str))=false:=by decide)
  (o:starEach (e::es) X.env=(false,eval e X.env)::starEach es X.env:=by rfl) (a:(backTo pos (starEach es X.env)).any (·.1)=false:=by rfl):PE X (.Call (.Name x p) (e::es) [] pos) (Da r t):=by
 intro qA s σ H Q I h;refine wpAny_Call_Name_kw (ED I n l i ?_ j c);exact PyProof.Rows.callWith_builtin1 (AG (u pos qA s σ H _ I h) λus d ⟨vs,H1,v,f,g⟩=>q qA d σ H1 vs us Q v f g) o a
theorem Gc(q:BJ X (.type T) r)(n:Gl X x)(l:X.mg x=none)(i:bootBuiltins x=some (.type T))(u:PA X (e::es) t)(j:x≠"__name__":=by decide)(c:(x==("__debug__":Str))=false:=by decide)
  (o:starEach (e::es) X.env=(false,eval e X.env)::starEach es X.env:=by rfl) (a:(backTo pos (starEach es X.env)).any (·.1)=false:=by rfl):PE X (.Call (.Name x p) (e::es) [] pos) (Da r t):=by
 intro qA s σ H Q I h;refine wpAny_Call_Name_kw (ED I n l i ?_ j c);exact PyProof.Rows.callWith_type1 (AG (u pos qA s σ H _ I h) λus d ⟨vs,H1,v,f,g⟩=>q qA d σ H1 vs us Q v f g) o a
end
end L2
namespace HT
open PySem PyProof.Rows
def lexLt:By->By->Bool
 |[],[]=>false
 |[],_::_=>true
 |_::_,[]=>false
 |x::xs,y::ys=>if x=y then lexLt xs ys else decide (x<y)
theorem lexLt_cons(x y:Int)(xs ys:By):lexLt (x::xs) (y::ys)=if x=y then lexLt xs ys else decide (x<y):=rfl
theorem N7:lexLt [] []=false:=rfl
theorem N8(y:Int)(ys:By):lexLt [] (y::ys)=true:=rfl
theorem N9(x:Int)(xs:By):lexLt (x::xs) []=false:=rfl
theorem OA(A:Around)(s:Shared)(a:Int)(t:Tok)(c:Int)(u:Tok):∃e,SeqAt.EqAt A s (.int a t) (.int c u) e/\(e=true↔a=c) :=
 ⟨(a==c),SeqAt.EqAt.int_int a t c u,by simp⟩
theorem U7(A:Around)(s:Shared)(a:Int)(t:Tok)(c:Int)(u:Tok)(prog:Program)(w:World)(E:VS)(Q:VS)(h:Q (.bool (decide (a<c))) s) :
  wpAny (model prog w) A (richCompare .Lt (.int a t) (.int c u)) Q E s :=
 (PyProof.Rows.lt_int h:wpAny (model prog w) A (compareOp .Lt (.int a t) (.int c u)) Q E s)
section
open PySem.SeqAt
open PySem.AutoSeq1 (wpAny_loadPart')
open PySem.MeetsSeq PySem.MeetsSeq2 PySem.MeetsSeq3
theorem tuple_lt_ints(l b:Addr)(items f:FG)(n U:Nat)(dd N:Go)(T J:Array Ex)(ns ms:By)(hi:IntsAre items.toList ns)(Q:IntsAre f.toList ms) :
  Meets (Builtin.«tuple.__lt__» ⟨[.ref l,.ref b],[]⟩)
   (λ_ R s=>s.heap.get? l=some { cls:=.type "tuple",dict:=dd,data:=.seq items n,slots:=T }/\s.heap.get? b=some { cls:=.type "tuple",dict:=N,data:=.seq f U,slots:=J } /\
    R (.ok (.ret (.bool (lexLt ns ms)))) s) :=
 .of_wp λprog w A R s h=>by
  obtain⟨I,g,d,tk,os⟩:=s;obtain⟨hl,hb,h⟩:=h;have f2:=AutoSeq1.sub_tuple_tuple;have z1:items.size=ns.length:=by rw[<-hi.length];simp
  have z2:f.size=ms.length:=by rw[<-Q.length];simp
  wp_walk using wpAny_loadPart' hl,wpAny_loadPart' hb,wpAny_forIn_list _ (λqF b s'=>b.1=none/\s'=⟨I,g,d,tk,os⟩/\∃(vs H:Do) (j o:By),qF=vs.zip H /\
   IntsAre vs j/\IntsAre H o/\j.length+f.size=o.length+items.size/\R (.ok (.ret (.bool (lexLt j o)))) ⟨I,g,d,tk,os⟩) _
  case turn =>
   rintro⟨y,x⟩ qF b s' ⟨D,rfl,vs,H,j,o,p,B,r,i,z⟩;cases B with
   |nil=>rw[zip_nil_left]at p;cases p
   |cons a t G =>
    cases r with
    |nil=>rw[zip_nil_right]at p;cases p
    |cons c u E =>
     rw[zip_cons_cons]at p;injection p with L C
     injection L with Y hx
     subst Y hx;rw[lexLt_cons]at z;simp only[length_cons]at i;obtain⟨e,he,v⟩:=OA A.in1 ⟨I,g,d,tk,os⟩ a t c u;refine wB (he prog w _ _ ?_);cases e with
     |true =>
      rw[aC (v.mp rfl)]at z
      wp_walk
      exact⟨rfl,rfl,_,_,_,_,C,G,E,⋯,z⟩
     |false =>
      rw[aB (λq=>bS (v.mpr q) cH)]at z;have M:=U7 A.in1 ⟨I,g,d,tk,os⟩ a t c u prog w
      wp_walk using M
      exact⟨_,rfl,by simpa using z⟩
  case fin =>
   rintro⟨b1,b2⟩ s' ⟨D,rfl,vs,H,j,o,p,B,r,i,z⟩;simp only at D;subst D;have O:lexLt j o=decide (items.size<f.size):=by
    cases B with
    |nil =>
     cases r with
     |nil =>
      simp only[length_nil]at i;rw[N7];exact(cJ ⋯).symm
     |cons c u hw =>
      simp only[length_nil,length_cons]at i;rw[N8];exact(aK ⋯).symm
    |cons a t O =>
     cases r with
     |nil =>
      simp only[length_nil,length_cons]at i;rw[N9];exact(cJ ⋯).symm
     |cons c u hw =>
      rw[zip_cons_cons]at p;cases p
   rw[O]at z
   wp_walk
   exact⟨_,rfl,by simpa[Builtin.Tuple.tupleCompareSizes]using z⟩
  case h =>
   exact⟨rfl,rfl,items.toList,f.toList,ns,ms,rfl,hi,Q,⋯,h⟩
end
theorem lt_tupInts{l b:Addr}{items a:FG}{ns ms:By}(y:IsTup s.heap l items)(B:IsTup s.heap b a)(hi:IntsAre items.toList ns)(z:IntsAre a.toList ms)
  (v:A.units<cLine) (h:Q (.bool (lexLt ns ms)) s):wpAny (model prog w) A (compareOp .Lt (.ref l) (.ref b)) Q E s:=by
 obtain⟨⟨C,dd,p,r⟩,i,o,n,j⟩:=id y;obtain⟨⟨q,g,data2,f⟩,c,e,u,d⟩:=id B;simp only at o j e d;subst o j e d;exact richCompare_meets_room (op:=.Lt) ⟨_,i,rfl⟩ ⟨_,c,rfl⟩ PySem.F.slot_tuple_lt PySem.F.entry_tuple_lt (PySem.F.args_tuple_lt_2 _ _) (tuple_lt_ints l b items a n u dd g r f ns ms hi z)
  ⟨i,c,show Value.bool (lexLt ns ms)≠Value.notImplemented/\Q (.bool (lexLt ns ms)) s from⟨(λx=>nomatch x),h⟩⟩ v
theorem cat_tup{t b:Addr}{vs a:Do}(v:IsTup s.heap t vs.toArray)(x:IsTup s.heap b a.toArray)(p:vs≠[])
  (h1:a=[]->Q (.ref t) s) (h2:a≠[]->Q (.ref s.heap.objs.size) { s with heap:=s.heap.push { cls:=.type "tuple",data:=.seq (vs++a).toArray } })
  (hsz:vs.length+a.length<=sizeLine):wpAny (model prog w) A (binaryOp .Add (.ref t) (.ref b)) Q E s:=by
 obtain⟨⟨cls,dd,data,l⟩,j,r,n,q⟩:=id v;obtain⟨⟨u,h,data2,d⟩,c,g,o,f⟩:=id x;simp only at r q g f;subst r q g f;have e:vs.toArray++a.toArray=(vs++a).toArray:=by simp
 by_cases i:a=[]
 ·exact concat_meets ⟨_,j,rfl⟩ ⟨_,c,rfl⟩ noFill_tuple_add seq_tuple_add PySem.F.slot_tuple_add PySem.F.entry_tuple_add (PySem.F.args_tuple_add_2 _ _)
   (tuple_addW1 t b vs.toArray a.toArray n o dd h l d (by simpa using p) (by simp[i])) ⟨j,c,h1 i⟩
 ·refine concat_meets ⟨_,j,rfl⟩ ⟨_,c,rfl⟩ noFill_tuple_add seq_tuple_add PySem.F.slot_tuple_add PySem.F.entry_tuple_add (PySem.F.args_tuple_add_2 _ _)
   (tuple_addW2 t b vs.toArray a.toArray n o dd h l d (by simpa using p) (by simpa using i) (by rw[size_toArray,size_toArray];exact hsz)) ⟨j,c,?_⟩
  rw[e];exact h2 i
def sIx(n d:Nat):Option Int->Nat
 |none=>d
 |some v=>if v<0 then(v+(n:Int)).toNat else min v.toNat n
theorem U8(n d:Nat)(c:d<=n)(o:Option Int):sIx n d o<=n:=by
 cases o with
 |none=>exact c
 |some v =>
  show(if v<0 then(v+(n:Int)).toNat else min v.toNat n)<=n;by_cases a:v<0
  ·rw[aC a];lia
  ·rw[aB a];exact Nat.min_le_right _ _
theorem OB(v:Int)(n d:Nat):(if v<0 then max (v+(n:Int)) 0 else min v (n:Int))=((sIx n d (some v):Nat):Int):=by
 show(if v<0 then max (v+(n:Int)) 0 else min v (n:Int))=(((if v<0 then(v+(n:Int)).toNat else min v.toNat n):Nat):Int);by_cases a:v<0
 ·simp only[aC a];lia
 ·simp only[aB a];lia
theorem U9(lo hi:Option Int)(n:Nat):Builtin.Slice.sliceAdjust lo hi 1 (n:Int)=(((sIx n 0 lo:Nat):Int),((sIx n n hi:Nat):Int)):=by
 have h1:¬((1:Int)<0):=⋯;unfold Builtin.Slice.sliceAdjust;simp only[h1,if_false];refine Prod.ext ?_ ?_
 ·cases lo with
  |none=>rfl
  |some v=>exact OB v n 0
 ·cases hi with
  |none=>rfl
  |some v=>exact OB v n n
theorem VA(i j:Nat):Builtin.Slice.slicePlaces (i:Int) (j:Int) 1=j - i:=by
 unfold Builtin.Slice.slicePlaces;have h1:(1:Int) > 0:=⋯;simp only[h1,dC,Int.ediv_one];split<;>lia
theorem OC{v:Value}{o:Option Int}{Q:Option Int->Shared->Prop}(p:IsPart v o)(h:Q o s):wpAny (model prog w) A (Builtin.Slice.slicePartIndex v) Q E s:=by
 cases p with
 |none=>exact slicePart_none h
 |int i t=>exact slicePart_int h
theorem OD{f:Addr}{e d:Value}{lo hi:Option Int}{Q:Int×Int×Nat->Shared->Prop}(i:s.heap.IsSliceOf f e d .none)(pl:IsPart e lo)(g:IsPart d hi)
  (h:Q (((sIx n 0 lo:Nat):Int),1,sIx n n hi - sIx n 0 lo) s):wpAny (model prog w) A (Builtin.Slice.sliceApplied (.ref f) (pure (n:Int))) Q E s:=by
 obtain⟨os,a,j,c⟩:=id i;unfold Builtin.Slice.sliceApplied Builtin.Slice.sliceFields;refine wB (wB (wpAny_field a c (x:=e) rfl (wB (wpAny_field a c (x:=d) rfl (wB (wpAny_field a c (x:=.none) rfl (wP ?_)))))));refine wB (slicePart_none ?_);show wpAny _ _ (if((1:Int)==0)=true then _ else _) _ _ s;rw[aB (by decide)];refine wB (OC pl (wB (OC g (wB (wP ?_)))));show wpAny _ _ (match Builtin.Slice.sliceAdjust lo hi 1 (n:Int)with|(lo,hi)=>pure (lo,(1:Int),Builtin.Slice.slicePlaces lo hi 1)) _ _ s;rw[U9 lo hi n];show wpAny _ _ (pure (((sIx n 0 lo:Nat):Int),(1:Int),Builtin.Slice.slicePlaces ((sIx n 0 lo:Nat):Int) ((sIx n n hi:Nat):Int) 1)) _ _ s;rw[VA];exact wP h
theorem VB(xs:FG)(i k:Nat):((List.range k).filterMap λ(m:Nat)=>xs[((i:Int)+(m:Int) * 1).toNat]?).toArray=((xs.toList.drop i).take k).toArray:=by
 have e:(λ(m:Nat)=>xs[((i:Int)+(m:Int) * 1).toNat]?)=λm=>xs[i+m]?:=by
  funext m
  have:((i:Int)+(m:Int) * 1).toNat=i+m:=⋯;rw[this]
 rw[e];have:=pick_run xs i k;rw[filterMap_map]at this;have a:((λx=>xs[x]?) ∘ λx=>i+x)=λm=>xs[i+m]?:=rfl;rw[a]at this;rw[this]
theorem getItem_tuple_cut{t d:Addr}{items:FG}{l j:Value}{lo hi:Option Int}(c:IsTup s.heap t items)(n:s.heap.IsSliceOf d l j .none)(pl:IsPart l lo)(o:IsPart j hi)
  (hw:¬(sIx items.size 0 lo=0/\sIx items.size items.size hi=items.size))
  (h:Q (.ref s.heap.objs.size) { s with heap:=s.heap.push { cls:=.type "tuple",data:=.seq ((items.toList.drop (sIx items.size 0 lo)).take (sIx items.size items.size hi - sIx items.size 0 lo)).toArray } })
  (hsz:items.size<=sizeLine):wpAny (model prog w) A (getItem (.ref t) (.ref d)) Q E s:=by
 have a:sizeOk (.seq ((items.toList.drop (sIx items.size 0 lo)).take (sIx items.size items.size hi - sIx items.size 0 lo)).toArray):=by
  show((items.toList.drop (sIx items.size 0 lo)).take (sIx items.size items.size hi - sIx items.size 0 lo)).toArray.size<=sizeLine;rw[size_toArray,aO,length_drop,bR];lia
 have v:sIx items.size items.size hi<=items.size:=U8 _ _ (aQ _) hi;obtain⟨os,e,g,p⟩:=id n;have i:s.TypeIs (.ref d) "slice":=⟨os,e,g⟩;unfold getItem
 try with_reducible refine bM ?_
 first|refine wB (wP ?_)|skip
 refine wB (wpAny_sequenceKey c.typeIs (by decide) ?_);refine wB (wpAny_callSpecial?_slot (name:=Str.ofString "__getitem__") c.typeIs PyProof.Rows.slot_tuple_getitem
  (cP PyProof.Rows.slot_tuple_getitem c.typeIs entry_tuple_getitem ?_ (args_tuple_getitem _ _)))
 show wpAny _ _ (Builtin.Tuple.tupleItemsOf (.ref t) >>= _) _ _ s;refine wB (tupleItemsOf_ c ?_);refine wB (wpAny_typeOf i ?_);rw[aC (by decide)];refine wB (OD n pl o ?_);have f:¬((((sIx items.size 0 lo:Nat):Int)==0&&(1:Int)==1&&(sIx items.size items.size hi - sIx items.size 0 lo)==items.size)=true):=by
  intro q;rw[cB,cB]at q;have u:((sIx items.size 0 lo:Nat):Int)=0:=aV q.1.1;have r:sIx items.size items.size hi - sIx items.size 0 lo=items.size:=aV q.2;exact hw ⟨⋯,⋯⟩
 show wpAny _ _ (if(((sIx items.size 0 lo:Nat):Int)==0&&(1:Int)==1&&(sIx items.size items.size hi - sIx items.size 0 lo)==items.size)=true then _ else _) _ _ s;rw[aB f,VB]
 first
  |exact wB (m:=Builtin.Tuple.tupleExact _) (cG (wP ⟨_,rfl,wP h⟩) a)
  |exact wB (m:=Builtin.Tuple.tupleExact _) (cG (wB (wP (wP ⟨_,rfl,wP h⟩))) a)
  |exact wB (wB (m:=Builtin.Tuple.tupleExact _) (cG (wP (wP ⟨_,rfl,wP h⟩)) a))
  |exact wB (wB (m:=Builtin.Tuple.tupleExact _) (cG (wP ⟨_,rfl,wP h⟩) a))
end HT
namespace L2
open PySem PySem.Spec PyProof.Rows
abbrev TO:=St->Hp->(Option Int->Hp->Prop)->Prop
def PO(X:Cx)(e:Option Expr)(t:TO):Prop :=
 ∀(qA:List (Addr×Obj)) (s:Shared) (σ:St) (H:Hp) (Q:Option Int->Hp->Prop),Inv X qA σ H s->t σ H Q ->
  wpAny (model X.prog X.w) X.A (evalPart e X.env) (λu s'=>∃o H',Inv X qA σ H' s'/\IsPart u o/\Q o H') X.xe s
def VC:TO:=λ_ H Q=>Q none H
def VD(t:TE):TO:=λσ H Q=>t σ H λx H1=>∃i,x=.int i/\Q (some i) H1
theorem Es{ns:By}:∀{us:Do},AQ (ns.map V.int) us->IntsAre us ns:=by
 induction ns with
 |nil=>intro us r;rw[map_nil]at r;cases r;exact .nil
 |cons n ns d =>
  intro us r;rw[map_cons]at r;cases r with
  |cons c a =>
   obtain⟨t,e⟩:=c;subst e;exact .cons n t (d a)
section
variable{e:Expr}{lo hi:Option Expr}{tl th:TO}{p2:Pos}
theorem Gd:PO X none VC:=by
 intro qA s σ H Q I h;rw[evalPart_none];exact wP ⟨none,H,I,.none,h⟩
theorem Gf(h:PE X e te):PO X (some e) (VD te):=by
 intro qA s σ H Q I d;rw[evalPart_some];refine AG (h qA s σ H _ I d) λu g ⟨x,H1,f,a,c⟩=>?_;obtain⟨i,rfl,q⟩:=c;obtain⟨t,rfl⟩:=a;exact⟨some i,H1,f,.int i t,q⟩
def C4(X:Cx)(r:V->Option Int->Option Int->Hp->VK->Prop):Prop :=
 ∀(qA:List (Addr×Obj)) (s:Shared) (σ:St) (H:Hp) (x:V) (v vl vu:Value) (lo hi:Option Int) (sl:Addr) (Q:VK),Inv X qA σ H s->AH x v->s.heap.IsSliceOf sl vl vu .none->IsPart vl lo->IsPart vu hi->r x lo hi H Q ->
  ∃T id,typeLookup (.type T) "__getitem__"=pure (some (.builtin id))/\s.TypeIs v T/\wpAny (model X.prog X.w) X.A (getItem v (.ref sl)) (EP X qA σ Q) X.xe s
theorem C4.or{r r':V->Option Int->Option Int->Hp->VK->Prop}(h:C4 X r)(h':C4 X r'):C4 X (λx lo hi H Q=>r x lo hi H Q\/r' x lo hi H Q):=by
 intro qA s σ H x v vl a lo hi sl Q I c e pl d q;rcases q with q|q
 ·exact h qA s σ H x v vl a lo hi sl Q I c e pl d q
 ·exact h' qA s σ H x v vl a lo hi sl Q I c e pl d q
def OE(r:V->Option Int->Option Int->Hp->VK->Prop)(te:TE)(tl th:TO):TE:=λσ H Q=>te σ H λx H1=>tl σ H1 λl H2=>th σ H2 λu H3=>r x l u H3 Q
theorem Gg{r:V->Option Int->Option Int->Hp->VK->Prop}(C:C4 X r)(G:PE X e te)(D:PO X lo tl)(z:PO X hi th):PE X (.Subscript e (.Slice lo hi none p2) pos) (OE r te tl th):=by
 intro qA s σ H Q I h;refine Subscript_ (AG (G qA s σ H _ I h) λv i ⟨x,H1,O,j,p⟩=>?_);refine wpAny_Slice (AG (D qA i σ H1 _ O p) λd g ⟨l,H2,N,pl,o⟩=>AG (z qA g σ H2 _ N o) λc a ⟨u,f,M,y,n⟩=>?_);rw[evalPart_none];refine wP ?_;have L:Inv X qA σ f { a with heap:=a.heap.push { cls:=.type "slice",data:=.fields #[d,c,.none] } }:=M.kept (t':=a.toks) λb U q=>aS _ q;obtain⟨T,id,J,B,E⟩:=C qA { a with heap:=a.heap.push { cls:=.type "slice",data:=.fields #[d,c,.none] } } σ f x v d c l u a.heap.objs.size Q L j (Heap.IsSliceOf.new ..) pl y n;show wpAny (model X.prog X.w) X.A (subscriptTail e (.Slice lo hi none p2) v (.ref a.heap.objs.size)) (EP X qA σ Q) X.xe { a with heap:=a.heap.push { cls:=.type "slice",data:=.fields #[d,c,.none] } };exact tail_any (ops:=[.ref a.heap.objs.size,v]) B J E (by with_unfolding_all rfl)
def C5(xs:dG)(lo hi:Option Int):dG:=(xs.drop (HT.sIx xs.length 0 lo)).take (HT.sIx xs.length xs.length hi - HT.sIx xs.length 0 lo)
theorem OF(xs:dG)(lo hi:Option Int):(C5 xs lo hi).length<=xs.length:=by
 unfold C5;rw[aO,length_drop];lia
def VE(K:Fg):V->Option Int->Option Int->Hp->VK->Prop:=λx lo hi H Q=>∃a xs,x=.ref a/\B1 K H a xs /\
 ¬(HT.sIx xs.length 0 lo=0/\HT.sIx xs.length xs.length hi=xs.length)/\∀p,H p=none->Q (.ref p) (AD H p (.tup (C5 xs lo hi)))
theorem VF:C4 X (VE X.K):=by
 intro qA s σ H x v p n lo hi u Q I f l pl g h;obtain⟨a,xs,rfl,i,j,q⟩:=h;cases f;obtain⟨qH,r,e,d⟩:=I.tuple i;have c:qH.toArray.size=xs.length:=by rw[size_toArray];exact r.length.symm
 refine⟨"tuple",_,PyProof.Rows.slot_tuple_getitem.lookup,e.typeIs,?_⟩;refine HT.getItem_tuple_cut e l pl g (by rw[c];exact j) ?_ (by rw[c];exact d);rw[c];refine⟨.ref s.heap.objs.size,_,I.laid (t':=s.toks) (o:=.tup (C5 xs lo hi)) (λb w q=>aS _ q) (aQ _) ?_,rfl,q _ (I.hok.fresh (aQ _))⟩;exact⟨aR (OF xs lo hi) d,_,(r.drop (HT.sIx xs.length 0 lo)).take (HT.sIx xs.length xs.length hi - HT.sIx xs.length 0 lo),DX.new _ _⟩
def VG(K:Fg):R2:=λx y H Q=>∃a b xs ys,x=.ref a/\y=.ref b/\B1 K H a xs/\B1 K H b ys/\xs≠[]/\xs.length+ys.length<=sizeLine /\
 (ys=[]->Q (.ref a) H)/\(ys≠[]->∀p,H p=none->Q (.ref p) (AD H p (.tup (xs++ys))))
theorem AQ.nil_iff{xs:dG}(r:AQ xs us):us=[]↔xs=[]:=by
 cases r with
 |nil=>simp
 |cons _ _=>simp
theorem VH:A1 X (binaryOp .Add) (VG X.K):=by
 intro qA s σ H x y v u Q I i g h;obtain⟨a,b,xs,ys,rfl,rfl,r,p,n,f,l,j⟩:=h;cases i;cases g;obtain⟨qH,d,p1,_⟩:=I.tuple r;obtain⟨e,c,p2,_⟩:=I.tuple p;refine HT.cat_tup p1 p2 (λz=>n (d.nil_iff.mp z)) (λz=>⟨.ref a,H,I,rfl,l (c.nil_iff.mp z)⟩) (λz=>?_) (by rw[<-d.length,<-c.length];exact f);refine⟨.ref s.heap.objs.size,_,I.laid (t':=s.toks) (o:=.tup (xs++ys)) (λb A q=>aS _ q) (aQ _) ?_,rfl,j (λw=>z (c.nil_iff.mpr w)) _ (I.hok.fresh (aQ _))⟩;exact⟨by rw[aG];exact f,_,d.append c,DX.new _ _⟩
end
def Cp(n:Nat)(i:Int):Option Nat:=if 0<=i then(if i<n then some i.toNat else none)else if -(n:Int)<=i then some (i+n).toNat else none
def atI{α:Type}(xs:List α)(i:Int):Option α:=(Cp xs.length i).bind λj=>xs[j]?
theorem OG{i:Int}(h:Cp n i=some j):seqIndex? i n=some j/\j<n/\-(n:Int)<=i/\i<n:=by
 unfold Cp at h;by_cases a:0<=i
 ·rw[aC a]at h;by_cases h1:i<n
  ·rw[aC h1]at h;have e:i.toNat=j:=oI h;exact⟨by rw[seqIndex_of a h1,e],⋯,⋯,h1⟩
  ·rw[aB h1]at h;cases h
 ·rw[aB a]at h;by_cases h1:-(n:Int)<=i
  ·rw[aC h1]at h;have e:(i+n).toNat=j:=oI h;exact⟨by rw[seqIndex_neg ⋯ h1,e],⋯,h1,⋯⟩
  ·rw[aB h1]at h;cases h
theorem IN{α:Type}{xs:List α}{i:Int}{v:α}(h:atI xs i=some v):∃j,seqIndex? i xs.length=some j/\xs[j]?=some v/\j<xs.length/\-(xs.length:Int)<=i/\i<xs.length:=by
 unfold atI at h;cases e:Cp xs.length i with
 |none=>rw[e]at h;cases h
 |some j =>
  rw[e]at h;obtain⟨h1,h2,c,a⟩:=OG e;exact⟨j,h1,h,h2,c,a⟩
theorem BU{α:Type}{xs:List α}{v:α}(h:xs[j]?=some v):atI xs (j:Int)=some v:=by
 have a:j<xs.length:=(aI.mp h).1;have e:Cp xs.length (j:Int)=some j:=by
  unfold Cp;rw[aC ⋯,aC ⋯];simp
 unfold atI;rw[e];exact h
def OH(b:Expr):Prop:=∀o i,subscripted b false o i=operate [o,i] (getItem o i)
def Et(X:Cx)(r:R2):Prop :=
 ∀(value slice:Expr) (qA:List (Addr×Obj)) (s:Shared) (σ:St) (H:Hp) (x y:V) (v u:Value) (Q:VK),Inv X qA σ H s->AH x v->AH y u->r x y H Q ->
  subscripted slice false v u=operate [v,u] (getItem v u)->wpAny (model X.prog X.w) X.A (subscriptTail value slice v u) (EP X qA σ Q) X.xe s
def Gh(X:Cx)(id:String)(r:V->dG->Hp->VK->Prop):Prop :=
 ∀(qA:List (Addr×Obj)) (s:Shared) (σ:St) (H:Hp) (x:V) (xs:dG) (v:Value) (us:Do) (Q:VK),Inv X qA σ H s->AH x v->AQ xs us->r x xs H Q ->
  wpAny (model X.prog X.w) X.A (call (.builtin id) (v::us)) (EP X qA σ Q) X.xe s
section
variable{a b:Expr}
theorem CD{r:R2}(g:Et X r)(j:PE X a ta)(i:PE X b tb)(f:OH b):PE X (.Subscript a b pos) (FS r ta tb):=by
 intro qA s σ H Q I h;exact Subscript_ (Kb j i I h λv u c x y H2 l e d q=>g a b qA c σ H2 x y v u Q l e d q (f _ _))
def VI(K:Fg):R2:=λx y H Q=>∃p xs i v,x=.ref p/\y=.int i/\Aq K H p xs/\atI xs i=some v/\Q v H
def VJ(K:Fg):R2:=λx y H Q=>∃p xs i v,x=.ref p/\y=.int i/\B1 K H p xs/\atI xs i=some v/\Q v H
def OJ:R2:=λx y H Q=>∃z i c,x=.str z/\y=.int i/\z.length<=sizeLine/\atI z.cps.toList i=some c/\Q (.str ⟨#[c]⟩) H
theorem OK:Et X (VI X.K):=by
 intro value c qA s σ H x y v u Q I o n h f;obtain⟨p,xs,i,z,rfl,rfl,A,C,q⟩:=h;cases o;obtain⟨t,rfl⟩:=n;obtain⟨qH,r,pl,G⟩:=I.list A;obtain⟨j,h1,h2,L,E,D⟩:=IN C;obtain⟨w,l,d⟩:=r.get h2;have B:=r.length;have J:=Ep;have a:EP X qA σ Q w s:=⟨z,H,I,d,q⟩;by_cases g:0<=i
 ·have e:i.toNat=j:=by
   rw[seqIndex_of g D]at h1;exact oI h1
  exact item_listR pl.isList g ⋯ (by rw[e];simpa using l) a f
 ·have e:(i+(qH.toArray.size:Int)).toNat=j:=by
   rw[seqIndex_neg ⋯ E]at h1;rw[size_toArray,<-B];exact oI h1
  exact subscriptTail_builtinR (x:=w) pl.isList.typeIs slot_list_getitem.lookup
   (wpAny_getItem_list_neg (Q:=λr s'=>r=w/\EP X qA σ Q r s') pl.isList ⋯ (by rw[size_toArray]<;>lia) ⋯ (by rw[e];simpa using l) ⟨rfl,a⟩) f
theorem VL:Et X (VJ X.K):=by
 intro value a qA s σ H x y v u Q I f e h g;obtain⟨p,xs,i,z,rfl,rfl,l,o,q⟩:=h;cases f;obtain⟨t,rfl⟩:=e;obtain⟨qH,r,pl,B⟩:=I.tuple l;obtain⟨j,h1,h2,G,E,D⟩:=IN o;obtain⟨w,A,c⟩:=r.get h2;have n:=r.length;have C:=Ep;have d:EP X qA σ Q w s:=⟨z,H,I,c,q⟩;exact subscriptTail_builtinR (x:=w) pl.typeIs slot_tuple_getitem.lookup
  (getItem_tuple (j:=j) (Q:=λr s'=>r=w/\EP X qA σ Q r s') pl ⋯ ⋯ (by rw[size_toArray,<-n];exact h1) (by simpa using A) ⟨rfl,d⟩) g
theorem Kh:Et X OJ:=by
 intro value a qA s σ H x y v u Q I e d h f;obtain⟨z,i,c,rfl,rfl,w,l,q⟩:=h;obtain⟨t,rfl⟩:=e;obtain⟨t',rfl⟩:=d;obtain⟨j,h1,h2,B,o,n⟩:=IN l;have g:z.cps.toList.length=z.length:=by simp[Str.length]
 rw[g]at h1 o n;have A:=Ep;exact tail_any (typeIs_str s z t) slot_str_getitem.lookup (getItem_str (c:=c) (by
  have r:decide (i < -(2 ^ 63:Int))=false:=cJ ⋯;have p:decide (i≥2 ^ 63)=false:=cJ ⋯;rw[r,p,Bool.or_false]) (by rw[h1];simpa using h2) ⟨.str ⟨#[c]⟩,H,I.tok _,⟨_,rfl⟩,q⟩) f
theorem VM(qH:Do)(n j:Nat)(u:Value):Obj.mapSeq (·.setIfInBounds j u) { cls:=.type "list",data:=.seq qH.toArray n }={ cls:=.type "list",data:=.seq (qH.set j u).toArray n }:=by
 simp[Obj.mapSeq]
theorem Inv.lst{xs:dG}(I:Inv X qA σ H s)(h:H p=some (.lst xs)) :
  ∃(qH:Do) (n:Nat),AQ xs qH/\s.heap.get? p=some { cls:=.type "list",data:=.seq qH.toArray n }/\xs.length<=sizeLine:=by
 obtain⟨z,qH,n,r,e⟩:=I.hok p _ h;exact⟨qH,n,r,e,z⟩
theorem Inv.lstUpd{xs ys:dG}{qH its':Do}{a:Nat}{f:Obj->Obj}(I:Inv X qA σ H s)(h:H p=some (.lst xs))
  (d:s.heap.get? p=some { cls:=.type "list",data:=.seq qH.toArray n }) (c:f { cls:=.type "list",data:=.seq qH.toArray n }={ cls:=.type "list",data:=.seq its'.toArray a }) (r:AQ ys its') (hz:ys.length<=sizeLine) (t:Nat) :
  Inv X qA σ (AD H p (.lst ys)) { s with heap:=s.heap.update p f,toks:=t }:=by
 have e:(s.heap.update p f).get? p=some { cls:=.type "list",data:=.seq its'.toArray a }:=by
  rw[Heap.get?_update_self f d (by rw[c]<;>rfl),c]
 refine I.write (x:=p) (e:=p) (by rw[h];trivial) (.inl rfl) (λb u hb q=>(cL _ _ (Ne.symm hb)).trans q) ⟨_,e⟩ ?_;exact⟨hz,its',a,r,e⟩
def OL:V->V->V->Hp->(Hp->Prop)->Prop:=λo i v H Q=>∃p xs k j,o=.ref p/\i=.int k/\H p=some (.lst xs)/\Cp xs.length k=some j/\Q (AD H p (.lst (xs.set j v)))
theorem IP:KS X OL:=by
 intro qA s σ H o i v B C u Q I x y rv h;obtain⟨p,xs,k,j,rfl,rfl,e,A,q⟩:=h;cases x;obtain⟨t,rfl⟩:=y;obtain⟨qH,n,r,a,z⟩:=I.lst e;obtain⟨h1,h2,g,f⟩:=OG A;have c:=r.length;have D:=Ep;have w:Inv X qA σ (AD H p (.lst (xs.set j v))) { s with heap:=s.heap.update p (Obj.mapSeq (·.setIfInBounds j u)) } :=
  I.lstUpd e a (VM qH n j u) (r.set rv j) (by rw[length_set];exact z) s.toks
 by_cases l:0<=k
 ·have d:k.toNat=j:=by
   rw[seqIndex_of l f]at h1;exact oI h1
  exact PySem.W.ki_setAt a l ⋯ (by rw[size_toArray,<-c];exact f) (by rw[d];exact⟨_,w,q⟩)
 ·have d:(k+(qH.toArray.size:Int)).toNat=j:=by
   rw[seqIndex_neg ⋯ g]at h1;rw[size_toArray,<-c];exact oI h1
  exact PySem.W.ki_setBack a ⋯ (by rw[size_toArray,<-c];exact g) ⋯ (by rw[d];exact⟨_,w,q⟩)
theorem VN(lo hi:Option Int)(n:Nat):(sliceBounds lo hi none n).1=((HT.sIx n 0 lo:Nat):Int)/\(sliceBounds lo hi none n).2.1=((HT.sIx n n hi:Nat):Int)/\(sliceBounds lo hi none n).2.2=1:=by
 refine⟨?_,?_,rfl⟩
 ·cases lo with
  |none=>simp[sliceBounds,HT.sIx]
  |some i =>
   simp only[sliceBounds,HT.sIx,Option.getD_none,show(1:Int) > 0 by decide,dC];by_cases h:i<0
   ·simp only[h,dC]<;>lia
   ·simp only[h,if_false]<;>lia
 ·cases hi with
  |none=>simp[sliceBounds,HT.sIx]
  |some i =>
   simp only[sliceBounds,HT.sIx,Option.getD_none,show(1:Int) > 0 by decide,dC];by_cases h:i<0
   ·simp only[h,dC]<;>lia
   ·simp only[h,if_false]<;>lia
theorem VO(qH:Do)(lo hi:Option Int):slicePick qH.toArray lo hi none=((qH.drop (HT.sIx qH.length 0 lo)).take (HT.sIx qH.length qH.length hi - HT.sIx qH.length 0 lo)).toArray:=by
 obtain⟨h1,h2,a⟩:=VN lo hi qH.toArray.size;unfold slicePick;rw[h1,h2,a];simp only[sliceRange_one,pick_run,size_toArray]<;>rfl
def OM(K:Fg):V->Option Int->Option Int->Hp->VK->Prop:=λx lo hi H Q=>∃a xs,x=.ref a/\Aq K H a xs/\∀p,H p=none->Q (.ref p) (AD H p (.lst (C5 xs lo hi)))
theorem IQ:C4 X (OM X.K):=by
 intro qA s σ H x v n l lo hi p Q I e j pl f h;obtain⟨a,xs,rfl,i,q⟩:=h;cases e;obtain⟨qH,r,d,g⟩:=I.list i;have c:=r.length;refine⟨"list",_,slot_list_getitem.lookup,d.isList.typeIs,?_⟩;refine wpAny_getItem_list_slice d.isList j pl f .none (by simp) ?_ (by rw[size_toArray]<;>lia);rw[VO,<-c];refine⟨.ref s.heap.objs.size,_,I.laid (t':=s.toks) (o:=.lst (C5 xs lo hi)) (λb u q=>aS _ q) (aQ _) ?_,rfl,q _ (I.hok.fresh (aQ _))⟩;exact⟨aR (OF xs lo hi) g,_,0,(r.drop (HT.sIx xs.length 0 lo)).take (HT.sIx xs.length xs.length hi - HT.sIx xs.length 0 lo),bP _ rfl⟩
def Dv:V->Bool
 |.non=>true
 |.bl _=>true
 |.int _=>true
 |.str _=>true
 |_=>false
def Db:V->V->Bool
 |.non,.non=>true
 |.bl a,.bl b=>a==b
 |.bl a,.int b=>(if a then 1 else 0)==b
 |.int a,.bl b=>a==(if b then 1 else 0)
 |.int a,.int b=>a==b
 |.str a,.str b=>a==b
 |_,_=>false
theorem VP{y x:V}{v:Value}(d:AH y u)(c:AH x v)(f:Dv y=true)(e:Dv x=true):SeqAt.EqAt A s u v (Db y x):=by
 cases y with
 |non =>
  cases d;cases x with
  |non=>cases c;exact SeqAt.EqAt.same _
  |bl b=>cases c;exact SeqAt.EqAt.none_bool b
  |int b=>obtain⟨t,rfl⟩:=c;exact SeqAt.EqAt.none_int b t
  |str b=>obtain⟨t,rfl⟩:=c;exact SeqAt.EqAt.none_str b t
  |_=>exact bS (show false=true from e) cH
 |bl a =>
  cases d;cases x with
  |non=>cases c;exact SeqAt.EqAt.bool_none a
  |bl b=>cases c;exact SeqAt.EqAt.bool_bool a b
  |int b=>obtain⟨t,rfl⟩:=c;exact SeqAt.EqAt.bool_int a b t
  |str b=>obtain⟨t,rfl⟩:=c;exact SeqAt.EqAt.bool_str a b t
  |_=>exact bS (show false=true from e) cH
 |int a =>
  obtain⟨t',rfl⟩:=d;cases x with
  |non=>cases c;exact SeqAt.EqAt.int_none a t'
  |bl b=>cases c;exact SeqAt.EqAt.int_bool a t' b
  |int b=>obtain⟨t,rfl⟩:=c;exact SeqAt.EqAt.int_int a t' b t
  |str b=>obtain⟨t,rfl⟩:=c;exact SeqAt.EqAt.int_str a t' b t
  |_=>exact bS (show false=true from e) cH
 |str a =>
  obtain⟨t',rfl⟩:=d;cases x with
  |non=>cases c;exact SeqAt.EqAt.str_none a t'
  |bl b=>cases c;exact SeqAt.EqAt.str_bool a t' b
  |int b=>obtain⟨t,rfl⟩:=c;exact SeqAt.EqAt.str_int a t' b t
  |str b=>obtain⟨t,rfl⟩:=c;exact SeqAt.EqAt.str_str a t' b t
  |_=>exact bS (show false=true from e) cH
 |_=>exact bS (show false=true from f) cH
def Dw(x:V)(u:Value):Bool:=match u with
 |.none=>Db .non x
 |.bool b=>Db (.bl b) x
 |.int i _=>Db (.int i) x
 |.str z _=>Db (.str z) x
 |_=>false
theorem ON{x y:V}(r:AH y u)(f:Dv y=true):Dw x u=Db y x:=by
 cases y with
 |non=>cases r;rfl
 |bl b=>cases r;rfl
 |int i=>obtain⟨t,rfl⟩:=r;rfl
 |str z=>obtain⟨t,rfl⟩:=r;rfl
 |_=>exact bS (show false=true from f) cH
theorem Ki{x:V}:∀{xs:dG} {us:Do},AQ xs us->xs.all Dv=true->us.any (Dw x)=xs.any λy=>Db y x
 |_,_,.nil,_=>rfl
 |y::xs,u::us,.cons r t,f=>by
  rw[all_cons,cB]at f;rw[any_cons,any_cons,ON r f.1,Ki t f.2]
theorem Kj{A:Around}{s:Shared}{x:V}{v:Value}(a:AH x v)(c:Dv x=true):∀{xs:dG} {us:Do},AQ xs us->xs.all Dv=true->∀u∈us,SeqAt.EqAt A s u v (Dw x u)
 |_,_,.nil,_=>λu hu=>by cases hu
 |y::xs,u::us,.cons r t,f=>λu' hu=>by
  rw[all_cons,cB]at f;rcases aF.mp hu with rfl|hu
  ·rw[ON r f.1];exact VP r a f.1 c
  ·exact Kj a c t f.2 u' hu
def IR(x:V)(xs:dG):Bool:=xs.any λy=>Db y x
def VQ(K:Fg)(neg:Bool):R2:=λx y H Q=>∃p xs,y=.ref p/\(Aq K H p xs\/B1 K H p xs)/\Dv x=true/\xs.all Dv=true/\Q (.bl (if neg then !IR x xs else IR x xs)) H
theorem VR:A1 X (compareOp .In) (VQ X.K false):=by
 intro qA s σ H x y v u Q I c e h;obtain⟨p,xs,rfl,hq,d,fs,q⟩:=h;cases e;rcases hq with hq|hq
 ·obtain⟨qH,r,pl,f⟩:=I.list hq;refine SeqAt.in_listAt (Dw x) pl.isList (λw a=>Kj c d r fs w (by simpa using a)) ⟨.bl _,H,I,rfl,?_⟩;rw[show qH.toArray.any (Dw x)=qH.any (Dw x) by simp,Ki r fs];exact q
 ·obtain⟨qH,r,pl,f⟩:=I.tuple hq;refine SeqAt.in_tupleAt (Dw x) pl (λw a=>Kj c d r fs w (by simpa using a)) ⟨.bl _,H,I,rfl,?_⟩;rw[show qH.toArray.any (Dw x)=qH.any (Dw x) by simp,Ki r fs];exact q
theorem OO:BJ X (.builtin "len") (λxs H Q=>∃p ys,xs=[.ref p]/\(Aq X.K H p ys\/B1 X.K H p ys)/\Q (.int ys.length) H):=by
 intro qA s σ H xs us Q I r h;obtain⟨p,ys,rfl,hq,q⟩:=h;obtain⟨u,rfl,d⟩:=IM r;cases d;have f:=Ep;rcases hq with hq|hq
 ·obtain⟨qH,c,pl,e⟩:=I.list hq;have a:=c.length;exact Calls.call_len_list pl.isList (by simp only[size_toArray]<;>lia) ⟨.int ys.length,H,I.tok _,⟨s.toks+1,by rw[size_toArray,a]⟩,q⟩
 ·obtain⟨qH,c,pl,e⟩:=I.tuple hq;have a:=c.length;exact len_tuple pl (by simp only[size_toArray]<;>lia) ⟨.int ys.length,H,I.tok _,⟨s.toks+1,by rw[size_toArray,a]⟩,q⟩
theorem OP:BJ X (.builtin "len") (λxs H Q=>∃z,xs=[.str z]/\z.length<=sizeLine/\Q (.int z.length) H):=by
 intro qA s σ H xs us Q I r h;obtain⟨z,rfl,a,q⟩:=h;obtain⟨u,rfl,t,rfl⟩:=IM r;have c:=Ep;exact len_str ⋯ ⟨.int z.length,H,I.tok _,⟨_,rfl⟩,q⟩
theorem VT:BJ X (.type "list") (λxs H Q=>∃p ys,xs=[.ref p]/\(Aq X.K H p ys\/B1 X.K H p ys)/\∀l,H l=none->Q (.ref l) (AD H l (.lst ys))):=by
 intro qA s σ H xs us Q I r h;obtain⟨p,ys,rfl,hq,q⟩:=h;obtain⟨u,rfl,y⟩:=IM r;cases y;have i:∀(qH:Do),AQ ys qH->ys.length<=sizeLine->∀(h':Heap) (c:Nat),(∀b o',s.heap.get? b=some o'->h'.get? b=some o') ->
   h'.get? s.heap.objs.size=some { cls:=.type "list",dict:=none,data:=.seq qH.toArray c,slots:=#[] }->EP X qA σ Q (.ref s.heap.objs.size) { s with heap:=h' }:=λqH a f h' c d e =>
  ⟨.ref s.heap.objs.size,_,I.laid (t':=s.toks) d (aQ _) (show A4 X.prog X.w _ h' _ (.lst ys)from⟨f,qH,c,a,e⟩),rfl,q _ (I.hok.fresh (aQ _))⟩
 rcases hq with hq|hq
 ·obtain⟨qH,a,pl,f⟩:=I.list hq;have g:=a.length;obtain⟨o,j,x,n,v⟩:=pl.isList;exact call_list_seq p (.inl rfl) j x v (λh' c d e=>i qH a f h' c d e) (by simp only[size_toArray]<;>lia)
 ·obtain⟨qH,a,pl,f⟩:=I.tuple hq;have g:=a.length;obtain⟨o,j,x,n,v⟩:=pl;exact call_list_seq p (.inr rfl) j x v (λh' c d e=>i qH a f h' c d e) (by simp only[size_toArray]<;>lia)
theorem VU:BJ X (.type "tuple") (λxs H Q=>∃p ys,xs=[.ref p]/\((Aq X.K H p ys/\∀l,H l=none->Q (.ref l) (AD H l (.tup ys)))\/(B1 X.K H p ys/\Q (.ref p) H))):=by
 intro qA s σ H xs us Q I r h;obtain⟨p,ys,rfl,h⟩:=h;obtain⟨u,rfl,i⟩:=IM r;cases i;rcases h with⟨c,q⟩|⟨c,q⟩
 ·obtain⟨qH,a,pl,d⟩:=I.list c;have f:=a.length;refine call_tuple_list pl.isList (λh' j=>?_) (by simp only[size_toArray]<;>lia);have g:Inv X qA σ H { s with heap:=h' }:=I.kept (t':=s.toks) j;have n:Inv X qA σ (AD H h'.objs.size (.tup ys)) { s with heap:=h'.push { cls:=.type "tuple",data:=.seq qH.toArray } } :=
   g.laid (t':=s.toks) (λb o e=>aS _ e) (aQ _) (show A4 X.prog X.w _ _ _ (.tup ys)from⟨d,qH,a,DX.new _ _⟩)
  exact⟨.ref h'.objs.size,_,n,rfl,q _ (g.hok.fresh (aQ _))⟩
 ·obtain⟨qH,a,pl,d⟩:=I.tuple c;exact call_tuple_same pl ⟨.ref p,H,I,rfl,q⟩
def OQ(K:Fg)(T:String)(x:V)(H:Hp):Prop:=match x with
 |.str _=>T="str"
 |.int _=>T="int"
 |.ref p=>(T="list"/\∃xs,Aq K H p xs)\/(T="tuple"/\∃o,K.lookup p=some o/\o.cls=.type "tuple"/\o.dict=none) \/
   (T="dict"/\((∃qI,H p=some (.dK qI))\/∃qI,H p=some (.dT qI)))\/(T="set"/\∃S n,H p=some (.set S n))
 |_=>False
theorem VV{T:String}{x:V}{v:Value}(I:Inv X qA σ H s)(r:AH x v)(ty:OQ X.K T x H) :
  s.TypeIs v T/\∀a,v=.ref a->∃h,s.heap.get? a=some h/\h.dict=none:=by
 cases x with
 |str z =>
  obtain⟨t,rfl⟩:=r;cases(show T="str" from ty);exact⟨typeIs_str s z t,λ_ e=>nomatch e⟩
 |int i =>
  obtain⟨t,rfl⟩:=r;cases(show T="int" from ty);exact⟨typeIs_int s i t,λ_ e=>nomatch e⟩
 |ref p =>
  cases r;rcases ty with⟨rfl,xs,j⟩|⟨rfl,o,d,l,f⟩|⟨rfl,d⟩|⟨rfl,S,n,d⟩
  ·obtain⟨qH,_,pl,_⟩:=I.list j;refine⟨pl.isList.typeIs,λa e=>?_⟩;cases e;obtain⟨o,n,e,c,f,_⟩:=pl;exact⟨o,e,f⟩
  ·refine⟨⟨o,I.kIn p o d,l⟩,λa e=>?_⟩;cases e;exact⟨o,I.kIn _ o d,f⟩
  ·have z:∃o,s.heap.get? p=some o/\o.ExactDict:=by
    rcases d with⟨qI,d⟩|⟨qI,d⟩
    ·obtain⟨_,_,_,_,o,_,_,e,ex,_⟩:=I.hok p _ d;exact⟨o,e,ex⟩
    ·obtain⟨_,_,_,_,o,_,_,e,ex,_⟩:=I.hok p _ d;exact⟨o,e,ex⟩
   obtain⟨o,e,ex⟩:=z;refine⟨⟨o,e,ex.1⟩,λa g=>?_⟩;cases g;exact⟨o,e,ex.2.1⟩
  ·obtain⟨o,_,_,_,e,ex,_⟩:=I.hok p _ d;refine⟨⟨o,e,ex.1⟩,λa g=>?_⟩;cases g;exact⟨o,e,ex.2.1⟩
 |_=>exact False.elim ty
def Gi(K:Fg)(T:String)(r:V->dG->Hp->VK->Prop)(to:TE)(t:TA):TE:=λσ H Q=>to σ H λx H1=>OQ K T x H1/\t σ H1 λxs H2=>r x xs H2 Q
variable{o e:Expr}{to:TE}{t:TA}{name:Str}{T id:String}{r:V->dG->Hp->VK->Prop}
theorem Gj(pa:PlainAttrs T)(slot:Slot T name id)(g:typeOf (.builtin id)=pure (.type "method_descriptor"))(A:Gh X id r)(z:PE X o to)(B:PA X (e::es) t)
  (d:attributeBase o name X.env (eval o X.env)=eval o X.env:=by rfl)
  (f:((backTo qL (starEach (e::es) X.env)).all (λx=>!x.1)&&(backToKw qL (keywordEach [] X.env)).all (λx=>x.1.isSome)
   && decide ((e::es).length+([]:List Keyword).length+(if([]:List Keyword).isEmpty then 0 else 1)<30))=true:=by rfl)
  (c:(qM.endLine==qL.line)=true:=by rfl) (y:starEach (e::es) X.env=(false,eval e X.env)::starEach es X.env:=by rfl) (a:(backTo qL (starEach es X.env)).any (·.1)=false:=by rfl) :
  PE X (.Call (.Attribute o name qM) (e::es) [] qL) (Gi X.K T r to t):=by
 intro qA s σ H Q I h;refine wpAny_Call_method_late d f c rfl (AG (z qA s σ H _ I h) λv p ⟨x,H1,l,i,ty,w⟩=>?_);obtain⟨h1,h2⟩:=VV l i ty;refine⟨T,id,pa,slot,g,h1,h2,?_⟩;have j:=B qL qA p σ H1 _ l w;rw[y]at j ⊢;refine Calls.callWith_builtin (by show(false||(backTo qL (starEach es X.env)).any (·.1))=false;rw[a]<;>rfl) (Calls.evalArgs_plain ?_);exact AG j λus n ⟨vs,H2,C,q,u⟩=>A qA n σ H2 x vs v us Q C i q u
end
def VW(X:Cx)(id:String)(r:V->dG->Hp->VK->Prop):Prop :=
 ∀(qA:List (Addr×Obj)) (s:Shared) (σ:St) (H:Hp) (x:V) (xs:dG) (v:Value) (us:Do) (Q:VK),Inv X qA σ H s->AH x v->AQ xs us->r x xs H Q ->
  wpAny (model X.prog X.w) X.A (call (.builtin id) (v::us)) (EP X qA σ Q) X.xe s
theorem AQ.one{x:V}(h:AQ [x] us):∃u,us=[u]/\AH x u:=by
 cases h with
 |cons r h=>cases h;exact⟨_,rfl,r⟩
theorem AQ.two{x y:V}(h:AQ [x,y] us):∃u v,us=[u,v]/\AH x u/\AH y v:=by
 cases h with
 |cons r h=>obtain⟨v,rfl,q⟩:=AQ.one h;exact⟨_,_,rfl,r,q⟩
theorem AQ.eraseIdx:∀{xs:dG} {us:Do} (i:Nat),AQ xs us->AQ (xs.eraseIdx i) (us.eraseIdx i)
 |_,_,_,.nil=>.nil
 |_,_,0,.cons _ t=>t
 |_,_,i+1,.cons r t=>.cons r (AQ.eraseIdx i t)
theorem OR{α:Type}:∀(l:List α) (i:Nat),(l.eraseIdx i).length<=l.length
 |[],_=>aQ _
 |_::_,0=>cR _
 |_::r,i+1=>Nat.succ_le_succ (OR r i)
section
variable{l b:Addr}{xs ys zs:dG}
theorem Inv.lset{qH its':Do}{f:FG->FG}(I:Inv X qA σ H s)(g:H l=some (.lst xs))
  (e:s.heap.get? l=some { cls:=.type "list",data:=.seq qH.toArray n }) (d:f qH.toArray=its'.toArray) (a:AQ ys its') (hz:ys.length<=sizeLine) :
  Inv X qA σ (AD H l (.lst ys)) { s with heap:=s.heap.update l (Obj.mapSeq f),toks:=t' }:=by
 have q:=PySem.IsL.update e f;rw[d]at q;refine I.write (x:=l) (e:=l) (by rw[g];exact trivial) (.inl rfl) (λh u hb c=>(cL s.heap (Obj.mapSeq f) (Ne.symm hb)).trans c) ⟨_,q⟩ ?_;exact⟨hz,its',_,a,q⟩
theorem Inv.lnew{qH:Do}(I:Inv X qA σ H s)(a:AQ ys qH)(hz:ys.length<=sizeLine) :
  Inv X qA σ (AD H s.heap.objs.size (.lst ys)) { s with heap:=s.heap.push { cls:=.type "list",data:=.seq qH.toArray },toks:=t' } :=
 I.laid (λ_ _ q=>aS _ q) (aQ _) ⟨hz,qH,0,a,bP _ rfl⟩
theorem Inv.fresh(I:Inv X qA σ H s):H s.heap.objs.size=none:=I.hok.fresh (aQ _)
theorem Inv.lstM(I:Inv X qA σ H s)(a:H l=some (.lst xs)):xs.length<=sizeLine/\∃(qH:Do) (n:Nat),AQ xs qH/\xs.length=qH.length/\s.heap.get? l=some { cls:=.type "list",data:=.seq qH.toArray n }:=by
 obtain⟨z,qH,n,r,e⟩:=I.hok l _ a;exact⟨z,qH,n,r,r.length,e⟩
theorem notLongL(h:n<=sizeLine):Builtin.List.listTooLong n=false:=by
 unfold Builtin.List.listTooLong;exact cJ ⋯
end
def IS:V->dG->Hp->VK->Prop:=λx vs H Q=>∃l xs y,x=.ref l/\vs=[y]/\H l=some (.lst xs)/\xs.length<sizeLine/\Q .non (AD H l (.lst (xs++[y])))
theorem Gk:VW X "list.append" IS:=by
 intro qA s σ H x vs v us Q I c rv h;obtain⟨l,xs,y,rfl,rfl,a,f,q⟩:=h;cases c;obtain⟨u,rfl,d⟩:=rv.one;obtain⟨z,qH,n,r,g,e⟩:=I.lstM a;refine call_meets F.slot_list_append ⟨_,e,rfl⟩ F.entry_list_append (F.args_list_append_2 _ _) (PySem.list_append l qH.toArray n u (by rw[size_toArray];lia)) ⟨e,?_⟩;refine⟨.non,_,I.lset (its':=qH++[u]) a e (by simp) (r.append (.cons d .nil)) ?_,rfl,q⟩;rw[aG,length_singleton];lia
def VX:R2:=λx y H Q=>∃l b xs zs,x=.ref l/\y=.ref b/\H l=some (.lst xs)/\H b=some (.lst zs)/\xs.length+zs.length<=sizeLine/\∀p,H p=none->Q (.ref p) (AD H p (.lst (xs++zs)))
theorem VY:A1 X (binaryOp .Add) VX:=by
 intro qA s σ H x y v u Q I d c h;obtain⟨l,b,xs,zs,rfl,rfl,i,j,B,q⟩:=h;cases d;cases c;obtain⟨z,qH,n,r,C,e⟩:=I.lstM i;obtain⟨w,a,A,f,g,p⟩:=I.lstM j;refine PySem.P.add_list e p ?_ (by rw[size_toArray,size_toArray];lia);have o:qH.toArray++a.toArray=(qH++a).toArray:=by simp
 rw[o];exact⟨.ref _,_,I.lnew (t':=s.toks) (r.append f) (by rw[aG];lia),rfl,q _ I.fresh⟩
section
variable{κ:Type}[DecidableEq κ]
def BK(qI:List (κ×V))(k:κ):Option V:=(qI.find? λkv=>decide (kv.1=k)).map (·.2)
def BV(qI:List (κ×V))(k:κ)(v:V):List (κ×V) :=
 if(qI.any λkv=>decide (kv.1=k))=true then qI.map (λkv=>if kv.1=k then(kv.1,v)else kv)else qI++[(k,v)]
theorem Gm{p:κ×V}{r:List (κ×V)}{k:κ}(e:p.1=k):BK (p::r) k=some p.2:=by simp[BK,find?_cons,e]
theorem Kk{p:κ×V}{r:List (κ×V)}{k:κ}(e:¬p.1=k):BK (p::r) k=BK r k:=by simp[BK,find?_cons,e]
theorem OS(k:κ):∀qI:List (κ×V),(qI.any λa=>decide (a.1=k))=(BK qI k).isSome
 |[]=>rfl
 |p::r=>by
  rw[any_cons];by_cases e:p.1=k
  ·simp only[Gm e,aK e,Bool.true_or,Option.isSome_some]
  ·rw[Kk e,cJ e,Bool.false_or];exact OS k r
theorem Gn(qI:List (κ×V))(k:κ)(v:V):(BV qI k v).length<=qI.length+1:=by
 unfold BV;split
 ·rw[aA];lia
 ·rw[aG,length_cons,length_nil];lia
theorem Cn.isSome_eq{o:Option V}{u:Ex}(r:Cn o u):o.isSome=u.isSome:=by
 cases o with
 |none=>cases u with
  |none=>rfl
  |some _=>exact(show False from r).elim
 |some _=>cases u with
  |none=>exact(show False from r).elim
  |some _=>rfl
theorem Cn.getD{o:Option V}{u:Ex}{d:V}{d':Value}(r:Cn o u)(a:AH d d'):AH (o.getD d) (u.getD d'):=by
 cases o with
 |none=>cases u with
  |none=>exact a
  |some _=>exact(show False from r).elim
 |some _=>cases u with
  |none=>exact(show False from r).elim
  |some _=>exact r
theorem KV.val{qI:List (κ×V)}{vs:List (κ×Value)}(r:KV qI vs)(k:κ):Cn (BK qI k) (valueAt vs k):=by
 unfold KV at r
 induction r with
 |nil=>exact True.intro
 |@cons p q ps a h t d =>
  obtain⟨h1,h2⟩:=h;by_cases e:p.1=k
  ·have c:q.1=k:=h1.symm.trans e;have b:valueAt (q::a) k=some q.2:=by simp[valueAt,find?_cons,c]
   rw[Gm e,b];exact h2
  ·have c:¬q.1=k:=λz=>e (h1.trans z);have b:valueAt (q::a) k=valueAt a k:=by simp[valueAt,find?_cons,c]
   rw[Kk e,b];exact d
theorem KV.any{qI:List (κ×V)}{vs:List (κ×Value)}(r:KV qI vs)(k:κ):(qI.any λa=>decide (a.1=k))=vs.any λa=>decide (a.1=k):=by
 unfold KV at r
 induction r with
 |nil=>rfl
 |cons h t c=>rw[any_cons,any_cons,c,h.1]
theorem KV.repl{qI:List (κ×V)}{vs:List (κ×Value)}(r:KV qI vs)(k:κ){y:V}(c:AH y u) :
  KV (qI.map λa=>if a.1=k then(a.1,y)else a) (vs.map λa=>if a.1=k then(a.1,u)else a):=by
 unfold KV at r ⊢
 induction r with
 |nil=>exact .nil
 |@cons p q ps f h t d =>
  rw[map_cons,map_cons];refine .cons ?_ d;obtain⟨h1,h2⟩:=h;by_cases e:p.1=k
  ·rw[aC e,aC (h1.symm.trans e)];exact⟨h1,c⟩
  ·rw[aB e,aB (λz=>e (h1.trans z))];exact⟨h1,h2⟩
theorem KV.put{qI:List (κ×V)}{vs:List (κ×Value)}(r:KV qI vs)(k:κ){y:V}(a:AH y u):KV (BV qI k y) (stored vs k u):=by
 unfold BV stored;rw[r.any k];by_cases e:(vs.any λc=>decide (c.1=k))=true
 ·rw[aC e,aC e];exact r.repl k a
 ·rw[aB e,aB e];exact Paired.snoc r ⟨rfl,a⟩
theorem KV.length{qI:List (κ×V)}{vs:List (κ×Value)}(r:KV qI vs):qI.length=vs.length:=Paired.length r
end
theorem IT{P:Program}{k:AO}(r:AH (kV k) u):(B0 P w).is k u=true:=by
 cases k with
 |inl i=>obtain⟨t,e⟩:=(show∃t,u=Value.int i t from r);subst e;exact T6 P w i t
 |inr x=>obtain⟨t,e⟩:=(show∃t,u=Value.str x t from r);subst e;exact T7 P w x t
theorem OT{P:Program}{w:World}:∀{ks:List AO} {us:Do},AQ (ks.map kV) us->ItemsAre (B0 P w) ks us
 |[],_,r=>by rw[map_nil]at r;cases r;exact .nil
 |k::ks,_,r=>by
  rw[map_cons]at r;cases r with
  |cons h t=>exact .cons (IT h) (OT t)
abbrev KT(H:Hp):List (List AO×V)->List (List AO×Addr×Value)->Prop:=Paired λp q=>p.1=q.1/\H q.2.1=some (.tup (p.1.map kV))/\AH p.2 q.2.2
theorem KT.val{qI:List (List AO×V)}{xs:List (List AO×Addr×Value)}(r:KT H qI xs)(k:List AO):Cn (BK qI k) ((atKey xs k).map (·.2)):=by
 induction r with
 |nil=>exact True.intro
 |@cons p q ps a h t d =>
  obtain⟨h1,_,h2⟩:=h;by_cases e:p.1=k
  ·have c:q.1=k:=h1.symm.trans e;have b:atKey (q::a) k=some q.2:=by simp[atKey,find?_cons,c]
   rw[Gm e,b];exact h2
  ·have c:¬q.1=k:=λz=>e (h1.trans z);have b:atKey (q::a) k=atKey a k:=by simp[atKey,find?_cons,c]
   rw[Kk e,b];exact d
theorem KT.repl{qI:List (List AO×V)}{xs:List (List AO×Addr×Value)}(r:KT H qI xs)(k:List AO){y:V}(c:AH y u) :
  KT H (qI.map λa=>if a.1=k then(a.1,y)else a) (xs.map (putAt k u)):=by
 induction r with
 |nil=>exact .nil
 |@cons p q ps g h t d =>
  rw[map_cons,map_cons];refine .cons ?_ d;obtain⟨h1,h2,f⟩:=h;unfold putAt;by_cases e:p.1=k
  ·rw[aC e,aC (h1.symm.trans e)];exact⟨h1,h2,c⟩
  ·rw[aB e,aB (λz=>e (h1.trans z))];exact⟨h1,h2,f⟩
theorem KT.put{qI:List (List AO×V)}{xs:List (List AO×Addr×Value)}(r:KT H qI xs)(k:List AO){b:Addr}{y:V}(hb:H b=some (.tup (k.map kV)))(a:AH y u) :
  KT H (BV qI k y) (storedH xs k b u):=by
 have e:(qI.any λc=>decide (c.1=k))=(atKey xs k).isSome:=by
  rw[OS,(r.val k).isSome_eq,Option.isSome_map]
 unfold BV storedH;rw[e];by_cases q:(atKey xs k).isSome=true
 ·rw[aC q,aC q];exact r.repl k a
 ·rw[aB q,aB q];exact Paired.snoc r ⟨rfl,hb,a⟩
theorem KT.keeps{qI:List (List AO×V)}{xs:List (List AO×Addr×Value)}(r:KT H qI xs)(a:∀b ys,H b=some (.tup ys)->H' b=some (.tup ys)):KT H' qI xs :=
 Paired.mapP r λ_ _ z=>⟨z.1,a _ _ z.2.1,z.2.2⟩
section
variable{P:Program}
theorem OU{u:HO}(ok:A7 P w H h)(e:Rd H a u):A4 P w H h a u:=e.ok ok
theorem Gp{qI:List (AO×V)}(ok:A7 P w H h)(e:Rd H a (.dK qI)):qI.length<=sizeLine/\(a==sysModules)=false/\∃vs,KV qI vs/\h.DictOf (B0 P w) a vs :=
 show A4 P w H h a (.dK qI)from OU ok e
theorem VZ{qI:List (AO×V)}(ok:A7 P w H h)(e:H a=some (.dK qI)):qI.length<=sizeLine/\(a==sysModules)=false/\∃vs,KV qI vs/\h.DictOf (B0 P w) a vs:=Gp ok (.inl e)
theorem FW{ks:List AO}(ok:A7 P w H h)(e:H a=some (.tup (ks.map kV))):(tupleKind (B0 P w)).is h ks a:=by
 obtain⟨_,qH,r,o,h1,h2,⟨n,c⟩,_⟩:=(show A4 P w H h a (.tup (ks.map kV))from ok a _ e);exact⟨o,qH.toArray,n,h1,h2,c,by simpa using OT r⟩
theorem Gq{qI:List (List AO×V)}(ok:A7 P w H h)(e:Rd H a (.dT qI)):qI.length<=sizeLine/\(a==sysModules)=false /\
  ∃xs,KT H qI xs/\h.DictOfH (tupleKind (B0 P w)) a xs:=by
 obtain⟨z,y,xs,r,o,es,ep,h1,h2,i,g,f⟩:=(show A4 P w H h a (.dT qI)from OU ok e);refine⟨z,y,xs,r,o,es,ep,h1,h2,i,g,λx hx=>?_,f⟩;have all:∀{l:List (List AO×V)} {m:List (List AO×Addr×Value)},KT H l m->∀x∈m,(tupleKind (B0 P w)).is h x.1 x.2.1:=by
  intro l m q
  induction q with
  |nil=>intro x hx;exact nomatch hx
  |@cons p q ps j c t d =>
   intro x hx;rcases aF.mp hx with e|hx
   ·subst e;exact FW ok (by rw[<-c.1];exact c.2.1)
   ·exact d x hx
 exact all r x hx
theorem Kl{qI:List (List AO×V)}(ok:A7 P w H h)(e:H a=some (.dT qI)):qI.length<=sizeLine/\(a==sysModules)=false /\
  ∃xs,KT H qI xs/\h.DictOfH (tupleKind (B0 P w)) a xs:=Gq ok (.inl e)
end
def Cq(H:Hp)(a:Addr)(y:V)(r:Option V):Prop :=
 (∃qI k,Rd H a (.dK qI)/\y=kV k/\r=BK qI k)\/∃qI k b,Rd H a (.dT qI)/\y=.ref b/\H b=some (.tup (k.map kV))/\r=BK qI k
def EI(H:Hp)(a:Addr)(y v:V)(H':Hp):Prop :=
 (∃qI k,H a=some (.dK qI)/\y=kV k/\qI.length<sizeLine/\H'=AD H a (.dK (BV qI k v))) \/
 ∃qI k b,H a=some (.dT qI)/\y=.ref b/\H b=some (.tup (k.map kV))/\qI.length<sizeLine/\H'=AD H a (.dT (BV qI k v))
theorem Cq.k{qI:List (AO×V)}{k:AO}(e:H a=some (.dK qI)):Cq H a (kV k) (BK qI k):=.inl ⟨qI,k,.inl e,rfl,rfl⟩
theorem Cq.t{b:Addr}{qI:List (List AO×V)}{k:List AO}(e:H a=some (.dT qI))(c:H b=some (.tup (k.map kV))):Cq H a (.ref b) (BK qI k):=.inr ⟨qI,k,b,.inl e,rfl,c,rfl⟩
theorem EI.k{qI:List (AO×V)}{k:AO}(e:H a=some (.dK qI))(c:qI.length<sizeLine):EI H a (kV k) v (AD H a (.dK (BV qI k v))):=.inl ⟨qI,k,e,rfl,c,rfl⟩
theorem EI.t{b:Addr}{qI:List (List AO×V)}{k:List AO}(e:H a=some (.dT qI))(d:H b=some (.tup (k.map kV)))(c:qI.length<sizeLine) :
  EI H a (.ref b) v (AD H a (.dT (BV qI k v))):=.inr ⟨qI,k,b,e,rfl,d,c,rfl⟩
section
variable{y:V}{r:Value}{o:Option V}
theorem Inv.big(I:Inv X qA σ H s):sysModules<s.heap.objs.size:=by
 have h:mainGlobals<s.heap.objs.size:=(I.mod.glob.keeps I.bk).lt;exact Nat.lt_trans (by decide) h
theorem Va(n:A.units+1<cLine)(I:Inv X qA σ H s)(g:Cq H a y (some v))(j:AH y u)(h:∀w' s',Inv X qA σ H s'->AH v w'->Q w' s') :
  wpAny (model X.prog X.w) A (getItem (.ref a) u) Q E s:=by
 rcases g with⟨qI,k,e,i,l⟩|⟨qI,k,b,e,i,x,l⟩
 ·subst i;obtain⟨z,r,vs,rel,dd⟩:=Gp I.hok e;obtain⟨w',d,c⟩:=Cn.some_of (v:=v) (o:=valueAt vs k) (by rw[l];exact rel.val k);exact wpAny_getItem_of (IT j) dd.mapOf d (h w' _ (I.tok _) c)
 ·subst i;cases(show u=Value.ref b from j);obtain⟨z,r,xs,rel,dd⟩:=Gq I.hok e;obtain⟨w',d,c⟩:=Cn.some_of (v:=v) (o:=(atKey xs k).map (·.2)) (by rw[l];exact rel.val k);obtain⟨p,q,f⟩:=aJ.mp d;refine wpAny_getItem_heap (tupleKind_room_in1 n) (FW I.hok x) dd q ?_;rw[f];exact h w' _ (I.tok _) c
theorem Gr{c:HO}(I:Inv X qA σ H s)(d:GO (H a))(f:Heap.SameBut a s.heap h')(g:∃q,h'.get? a=some q)(new:A4 X.prog X.w (AD H a c) h' a c) :
  Inv X qA σ (AD H a c) { s with heap:=h',toks:=t' } :=
 I.write (x:=a) (e:=a) d (.inl rfl) (λb q h z=>(f.2 b h).trans z) g new
theorem Vb{P:Program}{qI:List (AO×V)}{vs:List (AO×Value)}(z:qI.length<=sizeLine)(c:(a==sysModules)=false)(rel:KV qI vs)(dd:h'.DictOf (B0 P w) a vs) :
  A4 P w H' h' a (.dK qI):=⟨z,c,vs,rel,dd⟩
theorem Vc{Q:Unit->Shared->Prop}(D:A.units+1<cLine)(I:Inv X qA σ H s)(g:EI H a y v H')(x:AH y u)(rv:AH v r)(h:∀s',Inv X qA σ H' s'->Q () s') :
  wpAny (model X.prog X.w) A (setItem (.ref a) u r) Q E s:=by
 rcases g with⟨qI,k,e,o,l,p⟩|⟨qI,k,b,e,o,C,l,p⟩
 ·subst o p;obtain⟨z,n,vs,rel,dd⟩:=VZ I.hok e;have f:vs.length<=sizeLine:=by rw[<-rel.length];exact z
  have j:(BV qI k v).length<=sizeLine:=by have:=Gn qI k v;lia
  refine wpAny_setItem_pairs (hsz:=f) (IT x) dd λh' dd' i=>h _ ?_;have G:∃q,h'.get? a=some q:=let⟨q,_,_,d,_⟩:=dd';⟨q,d⟩;exact Gr I (by rw[e];exact True.intro) i G (Vb j n (rel.put k rv) dd')
 ·subst o p;cases(show u=Value.ref b from x);obtain⟨z,n,xs,rel,dd⟩:=Kl I.hok e;have f:xs.length<=sizeLine:=by rw[<-Paired.length rel];exact z
  have j:(BV qI k v).length<=sizeLine:=by have:=Gn qI k v;lia
  refine wpAny_setItem_heap (hsz:=f) (tupleKind_room_in1 D) (FW I.hok C) dd λh' dd' i=>h _ ?_;obtain⟨q,es,ep,d,h2,M,L,_,J⟩:=dd';refine Gr I (by rw[e];exact True.intro) i ⟨q,d⟩ ⟨j,n,_,(rel.put k C rv).keeps λc ys B=>?_,q,es,ep,d,h2,M,L,J⟩;rw[AK (EC B e (λz=>nomatch z))];exact B
end
def Km(i:Expr):Prop:=∀ov iv,subscripted i false ov iv=operate [ov,iv] (getItem ov iv)
theorem Vd{value a:Expr}{T id:String}
  (n:typeLookup (.type T) "__getitem__"=pure (some (.builtin id))) (l:Km a)
  (h:wpAny (model prog w) A (eval value env) (λo s₁=>wpAny (model prog w) A (eval a env) (λi s₂=>s₂.TypeIs o T/\wpAny (model prog w) A (getItem o i) Q E s₂) E s₁) E s) :
  wpAny (model prog w) A (eval (.Subscript value a pos) env) Q E s:=by
 refine Subscript_ (bL h (λo s₁ g=>bL g (λi s₂ c=>?_) λ_ _ x=>x) λ_ _ x=>x);obtain⟨j,c⟩:=c;unfold subscriptTail;refine wB ?_;rw[getitemInPython_of_ne j.not_modules];refine wB (wpAny_specialOf j n ?_);have e:wpAny (model prog w) A (subscripted a false o i) (λr d=>wpAny (model prog w) A (letTemporaryGo value o r >>= λ_=>pure r) Q E d) E s₂:=by
  rw[l o i];exact wpAny_operating (bL c (λr d f=>wB (wpAny_letTemporaryGo (wP f))) λ_ _ x=>x)
 first
  |exact wP (wB e)
  |exact wB (wP (wB e))
  |exact wB e
theorem Ve{y:V}{o:Option V}(I:Inv X qA σ H s)(g:Cq H a y o):s.TypeIs (.ref a) "dict":=by
 rcases g with⟨qI,k,e,_,_⟩|⟨qI,k,b,e,_,_,_⟩
 ·obtain⟨_,_,vs,_,dd⟩:=Gp I.hok e;exact dd.typeIs
 ·obtain⟨_,_,xs,_,dd⟩:=Gq I.hok e;exact dd.typeIs
def Vf(td ty:TE):TE:=λσ H Q=>td σ H λx H1=>ty σ H1 λy H2=>∃a v,x=.ref a/\Cq H2 a y (some v)/\Q v H2
def OV(td ty tv:TE):TS:=λD σ H=>tv σ H λv H1=>td σ H1 λx H2=>ty σ H2 λy H3=>∃a H4,x=.ref a/\EI H3 a y v H4/\D.nx σ H4
section
variable{o i e value:Expr}{tpos:Pos}{td ty tv:TE}
theorem Vg(p:X.A.units+1<cLine)(r:PE X o td)(hi:PE X i ty)(q:Km i):PE X (.Subscript o i pos) (Vf td ty):=by
 intro qA s σ H Q I h;refine Vd PySem.F.slot_dict_getitem.lookup q (AG (r qA s σ H _ I h) λu e ⟨x,H1,z,j,n⟩=>AG (hi qA e σ H1 _ z n) λE D ⟨y,H2,d,f,a,v,ex,g,l⟩=>?_);subst ex;obtain rfl:u=Value.ref a:=j;exact⟨Ve d g,Va p d g f λB C w c=>⟨v,H2,w,c,l⟩⟩
theorem Vh(q:X.A.units+1<cLine)(z:PE X o td)(hi:PE X i ty)(p:PE X value tv)(w:swapsWith value (some (.Subscript o i pos')) pos.line X.env=pure false) :
  PS X (.Assign [.Subscript o i pos'] value pos) (OV td ty tv):=by
 intro qA s σ H D I h;refine wpAny_Assign_Subscript (AG (p qA s σ H _ I h) λr d ⟨v,H1,G,rv,n⟩=>AG (z qA d σ H1 _ G n) λu c ⟨x,H2,E,f,l⟩=>AG (hi qA c σ H2 _ E l) λN M ⟨y,O,C,e,a,J,ex,g,j⟩=>?_) w;subst ex;obtain rfl:u=Value.ref a:=f;exact Vc q C g e rv λL B=>⟨σ,J,B,j⟩
end
theorem OW{P:Program}(h:Heap)(a:sysModules<h.objs.size):A4 P w H (h.push { cls:=.type "dict",data:=.dict #[] }) h.objs.size (.dT []) :=
 ⟨cD _,beq_eq_false_iff_ne.mpr (Ne.symm (bX a)),[],.nil,_,#[],0,bP _ rfl,⟨rfl,rfl,rfl⟩,rfl,rfl,nodup_nil⟩
def Vi:TE:=λ_ H Q=>∀p,H p=none->Q (.ref p) (AD H p (.dT []))
theorem Vj:PE X (.Dict [] [] pos) Vi:=λqA s σ H Q I h =>
 wpAny_Dict_empty ⟨.ref s.heap.objs.size,_,I.laid (a:=s.heap.objs.size) (o:=.dT []) (t':=s.toks) (λ_ _ q=>aS _ q) (aQ _) (OW s.heap I.big),rfl,h _ (I.hok.fresh (aQ _))⟩
structure M2(X:Cx)(o:Expr)(m:Str)(qM:Pos)(e f:Expr)(qL:Pos):Prop where
 base:attributeBase o m X.env (eval o X.env)=eval o X.env
 few:((backTo qL (starEach [e,f] X.env)).all (λx=>!x.1)&&(backToKw qL (keywordEach [] X.env)).all (λx=>x.1.isSome)
  && decide (([e,f]:Hb).length+([]:List Keyword).length+(if([]:List Keyword).isEmpty then 0 else 1)<30))=true
 line:(qM.endLine==qL.line)=true
 trees:backTo qL (starEach [e,f] X.env)=[(false,eval e X.env),(false,eval f X.env)]
def IU(H:Hp)(a:Addr):Prop:=(∃qI,Rd H a (.dK qI))\/∃qI,Rd H a (.dT qI)
theorem OX(I:Inv X qA σ H s)(d:IU H a) :
  s.TypeIs (.ref a) "dict"/\(∀b,Value.ref a=.ref b->∃c,s.heap.get? b=some c/\c.dict=none)/\(a==sysModules)=false:=by
 rcases d with⟨qI,e⟩|⟨qI,e⟩
 ·obtain⟨_,f,vs,_,dd⟩:=Gp I.hok e;refine⟨dd.typeIs,λb q=>?_,f⟩;cases q;obtain⟨c,_,_,h1,h2,_⟩:=dd;exact⟨c,h1,h2.2.1⟩
 ·obtain⟨_,f,xs,_,dd⟩:=Gq I.hok e;refine⟨dd.typeIs,λb q=>?_,f⟩;cases q;obtain⟨c,_,_,h1,h2,_⟩:=dd;exact⟨c,h1,h2.2.1⟩
section
variable{y d:V}{r:Value}{o:Option V}
theorem Vk(n:A.units+1<cLine)(I:Inv X qA σ H s)(g:Cq H a y o)(i:AH y u)(j:AH d r)(h:∀w' s',Inv X qA σ H s'->AH (o.getD d) w'->Q w' s') :
  wpAny (model X.prog X.w) A (call (.builtin "dict.get") [.ref a,u,r]) Q E s:=by
 rcases g with⟨qI,k,e,f,l⟩|⟨qI,k,b,e,f,p,l⟩
 ·subst f;obtain⟨z,c,vs,rel,dd⟩:=Gp I.hok e;refine call_meetsIn PySem.F.slot_dict_get dd.typeIs PySem.F.entry_dict_get (PySem.F.args_dict_get_3 _ _ _) (meets_dict_get_default (B0 X.prog X.w) a (IT i) c r) ⟨_,dd.mapOf,h _ _ (I.tok _) ?_⟩;rw[l];exact(rel.val k).getD j
 ·subst f;cases(show u=Value.ref b from i);obtain⟨z,c,xs,rel,dd⟩:=Gq I.hok e;refine call_meetsIn PySem.F.slot_dict_get dd.typeIs PySem.F.entry_dict_get (PySem.F.args_dict_get_3 _ _ _) (meetsH_dict_get_default (tupleKind (B0 X.prog X.w)) a b c r) ⟨tupleKind_room_in1 n,k,xs,FW I.hok p,dd,h _ _ (I.tok _) ?_⟩;rw[l];exact(rel.val k).getD j
end
def Vl(td ty tx:TE):TE:=λσ H Q=>td σ H λx H1=>∃a,x=.ref a/\IU H1 a/\ty σ H1 λy H2=>tx σ H2 λz H3=>∃o,Cq H3 a y o/\Q (o.getD z) H3
section
variable{o e f:Expr}{td ty tx:TE}
theorem Vm(D:X.A.units+1<cLine)(E:PE X o td)(J:PE X e ty)(G:PE X f tx)(m:M2 X o "get" qM e f qL):PE X (.Call (.Attribute o "get" qM) [e,f] [] qL) (Vl td ty tx):=by
 intro qA s σ H Q I h;refine wpAny_Call_method m.base m.few m.line PySem.F.plainAttrs_dict PySem.F.slot_dict_get PySem.F.type_dict_get (AG (E qA s σ H _ I h) λu p ⟨x,H1,i,v,a,ex,d,C⟩=>?_);subst ex;obtain rfl:u=Value.ref a:=v;obtain⟨l,j,_⟩:=OX i d;refine⟨l,j,?_⟩;rw[m.trees];refine Calls.callWith_builtin rfl (Calls.evalArgs_plain (Calls.spliced_cons (AG (J qA p σ H1 _ i C) λiv n ⟨y,H2,N,r,B⟩ =>
  Calls.spliced_cons (AG (G qA n σ H2 _ N B) λfv Y ⟨z,O,M,q,ov,g,w⟩=>Calls.spliced_nil ?_))))
 exact Vk D M g r q λT U L c=>⟨_,O,L,c,w⟩
end
end L2
namespace Att
open PySem PySem.W PySem.Calls PyProof.Rows
theorem Vn{P:Params}:∀(ns:By) (vs:Do),WellAll P h vs (ns.map WData.int)->IntsAre vs ns:=by
 intro ns
 induction ns with
 |nil =>
  intro vs w;rw[map_nil]at w;cases w;exact .nil
 |cons n ns c =>
  intro vs w;rw[map_cons]at w;cases w with
  |cons a b =>
   cases a;exact .cons _ _ (c _ b)
theorem Vo{l:OpenLaw}(x:l.most=some n){P:Params}{args:List WData}{c:Do}
  (e:l.row.toRowW.claim.pre args=true) (o:WellAll P h c args) :
  ∃a vs ns,c=[Value.ref a]/\args=[WData.list (ns.map WData.int)]/\h.get? a=some { cls:=.type "list",data:=.seq vs.toArray }/\IntsAre vs ns/\ns.length<=n:=by
 have p:WShape.hasAll [] args [.list .int]=true:=(pre_splitW e).1;have s:l.pre.holds [] { args:=args }=true:=(pre_splitW e).2;obtain⟨d,r,rfl,h1,h2⟩:=hasAllW_cons p;obtain rfl:=hasAllW_nil h2;obtain⟨xs,rfl,y⟩:=hasW_list h1;obtain⟨ns,rfl⟩:=items_int y;have f:ns.length<=n:=by
  unfold OpenLaw.pre at s;have j:(WTm.not (.lt (.lit (.int (n:Int))) (.len (.arg 0)))).holds [] { args:=[.list (ns.map .int)] }=true:=by
   have j:=(holds_andW s).1;rw[x]at j;exact j
  have i:=condW_of j (w_not (w_lt w_lit (w_len_list (w_arg rfl))));rw[aA]at i;refine Nat.le_of_not_lt λq=>?_;have q':(n:Int)<((ns.length:Nat):Int):=⋯
  first
   |(rw[aK q']at i;exact bS i (by decide))
   |(simp at i;lia)
 cases o with
 |cons v u =>
  cases u;cases v with
  |list w g=>exact⟨_,_,ns,rfl,rfl,w,Vn ns _ g,f⟩
theorem Vp(l:OpenLaw)(args:List WData):l.row.toRowW.claim.post args (.bool true) args=true :=
 postW_of (r:=l.row.toRowW) (X:=(true==true))
  (show WShape.has [] (.bool true) .bool=true by first|rfl|decide|simp[WShape.has,WShape.arms,WShape.armsAll])
  (show(WTm.eq .res (.lit (.bool true))).value [] { args:=args,res:=some (.bool true),after:=args }=some (.bool (true==true))from w_eq_bool (w_res rfl) w_lit) rfl
theorem attach_call{l:OpenLaw}{q:Program}{c:At}{H:(Str->Ex)->Heap->Prop}{E:World->Heap->Prop}{d:DefRec}
  (M:l.most=some n) (z:d.params.defaults=[])
  (call:∀(w:World) (s₀ s₁:Shared) (mg v:Str->Ex) (j:Addr) (o:Obj) (u p doc:Value) (a:Addr) (vs:Do) (ns:By),
   Ground q c [] H w s₀ mg v s₁.heap->E w s₁.heap ->
   s₁.heap.get? j=some o->o.data=.func (docDef d.name d.params d.body d.scope u p doc)->s₁.heap.CodeRec p d.name->mg d.name=some (.ref j) ->
   s₁.heap.get? a=some { cls:=.type "list",data:=.seq vs.toArray }->IntsAre vs ns->ns.length<=n->s₁.gens=#[] ->
   codeAny (model l.prog w) callerA (.call (.ref j) ⟨[.ref a],[]⟩) (λr s'=>r=.ok (.ret (.bool true))/\OldK s₁.heap s'.heap/\s'.os=s₁.os/\AllBare s'.gens) s₁) :
  WalkO q c H E l.row.toRowW d [] (λf vs=>PySem.call f vs):=by
 intro w s₀ s₁ mg v G Y j o u p doc dV kV L T A D y Q args B as g C I x O;obtain rfl:dV=.none:=Dflts.none D z;obtain rfl:kV=.none:=Dflts.noKw D;obtain⟨a,vs,ns,rfl,rfl,h,e,i⟩:=Vo M g x;refine enter_call (codeAny_mono (call w s₀ s₁ mg v j o u p doc a vs ns G Y L (fd_plain T) A y h e i Q) λr s' J=>?_);obtain⟨rfl,h2,h3,U⟩:=J;exact⟨.inl ⟨.bool true,.bool true,[],rfl,λ_=>rfl,.bool true,Vp l _,λ_=>⟨List.Pairwise.nil,λ_ N=>(nomatch N)⟩⟩,h2,h3,U⟩
section
variable{K:Frag}
def noObjs(h:Heap):Heap:={ h with objs:=#[] }
theorem noObjs_get(h:Heap)(b:Addr):(noObjs h).get? b=none:=by
 cases e:(noObjs h).get? b with
 |none=>rfl
 |some o=>exact bS (bN e) (Nat.not_lt_zero _)
theorem fr_all{L:Addr}{m:Str->Ex}(n:h.Ns L m):Fr (noObjs h) L h m :=
 ⟨n,λb o e=>(by rw[noObjs_get]at e;cases e),cD _⟩
end
end Att
namespace L2
open PySem PySem.Spec PyProof.Rows
theorem OY:∀{vs:Do} {ns:By},IntsAre vs ns->AQ (ns.map V.int) vs
 |_,_,.nil=>.nil
 |_,_,.cons n t h=>.cons ⟨t,rfl⟩ (OY h)
def Kn(H:Hp):Prop:=∀b,H b=none\/∃o xs,H b=some (.frz o (.lst xs))
theorem Vq{P:Program}{K:Fg}{J:Str->Ex}{CX:C3}{k:Nat}{Q:Addr}{sp:Sp}{s₁:Shared}{vs:Do}{ns:By}
  (KX:K.In s₁.heap) (B:s₁.heap.Ns mainGlobals mg) (f:s₁.heap.Ns builtinsNs J) (N:∀x:Str,x≠"__name__"->J x=bootBuiltins x) (C:s₁.heap.NoLimit) (hg:s₁.gens=#[])
  (G:s₁.heap.get? a=some { cls:=.type "list",data:=.seq vs.toArray }) (hi:IntsAre vs ns) (U:ns.length<=sizeLine) (hr:Room k callerA)
  (F:∀base:Heap,K.In base->base.Ns mainGlobals mg->FnOk P w K mg base CX k Q fd [x] sp) (j:∀(s:Shared) (u:Value),BindsTo s fd ⟨[u],[]⟩ [(x,u)])
  (L:∀H:Hp,Kn H->Aq K H a (ns.map V.int)->sp [.ref a] H (λv _=>v=.bl true) λ_ _ _=>False)
  (O:∀H e s',CX [] H s₁ (λ_ _ _=>False) e s'->False) :
  codeAny (model P w) callerA (.call (.ref Q) ⟨[.ref a],[]⟩) (λr s'=>r=.ok (.ret (.bool true))/\OldK s₁.heap s'.heap/\s'.os=s₁.os/\AllBare s'.gens) s₁:=by
 have rv:=OY hi;have p:=hi.length;have i:∀H:Hp,Kn H->Aq K H a (ns.map V.int)->A7 P w H s₁.heap->(∀b,H b≠none->b=a)->(H a≠none->K.lookup a=none) ->
   codeAny (model P w) callerA (.call (.ref Q) ⟨[.ref a],[]⟩) (λr s'=>r=.ok (.ret (.bool true))/\OldK s₁.heap s'.heap/\s'.os=s₁.os/\AllBare s'.gens) s₁:=by
  intro H Y hS A hA hK;have c:∀{b:Addr} {o:Obj},s₁.heap.get? b=some o->H b=none->(Dt s₁.heap H).get? b=some o:=λe n=>T9 e n;have I:∀{b:Addr} {o:Obj} {es:Array DictEntry} {ep:Nat},s₁.heap.get? b=some o->o.data=.dict es ep->H b=none:=λ{b o es ep} e d=>by
   cases q:H b with
   |none=>rfl
   |some u =>
    have T:b=a:=hA b (by rw[q];simp);subst T;rw[G]at e;cases e;have d':Data.seq vs.toArray _=Data.dict es ep:=d;cases d'
  have g:∀{b:Addr} {m:Str->Ex},s₁.heap.Ns b m->(Dt s₁.heap H).Ns b m:=λ{b m} ⟨o,es,ep,e,d,r⟩=>⟨o,es,ep,c e (I e d),d,r⟩;have D:K.In (Dt s₁.heap H):=λb o e=>c (KX b o e) (by
   cases q:H b with
   |none=>rfl
   |some u =>
    have T:b=a:=hA b (by rw[q];simp);subst T;rw[hK (by rw[q];simp)]at e;cases e)
  have hM:Mod K mg (Dt s₁.heap H):=⟨D,g B,⟨J,g f,N⟩,let⟨mc,h1,h2⟩:=C;⟨mc,g h1,h2⟩⟩;have e0:Env0 P w K mg (Dt s₁.heap H) callerA [] s₁ H:=⟨rfl,hM,λb o e=>UA e,Nat.le_of_eq (T8 _ _),trivial,λb f=>bS (show b∈([]:Ha)from f) (by simp),A,.of_eq hg⟩;refine codeAny_mono ((F _ D (g B)).run callerA [] s₁ H ⟨[.ref a],[]⟩ [.ref a] [.ref a] _ _ hr e0 (j s₁ (.ref a)) (.cons rfl .nil) (L H Y hS)) λr s' h=>?_;cases r with
  |error e=>exact(O H e s' h).elim
  |ok fl =>
   cases fl with
   |next=>exact False.elim h
   |brk=>exact False.elim h
   |cont=>exact False.elim h
   |ret u =>
    obtain⟨v,H',os,E,un,y,r',q⟩:=h;have q':v=.bl true:=q;subst q';obtain rfl:u=Value.bool true:=r';refine⟨rfl,OldK.of_keep λb o e=>?_,os,E⟩;cases q:H b with
    |none=>exact un.keep b o e q (by intro z;exact bS (show b∈([]:Ha)from z) (by simp)) (by simp)
    |some u =>
     rcases Y b with z|⟨ob,xs,z⟩
     ·rw[q]at z;cases z
     ·have z2:=un.frzs b ob _ z;obtain⟨e1,_⟩:=A b _ z;obtain⟨e2,_⟩:=y b _ z2;rw[e]at e1;cases e1;exact e2
 cases M:K.lookup a with
 |some o =>
  have e:=KX a o M;rw[G]at e;cases e;refine i (λ_=>none) (λ_=>.inl rfl) (.inr ⟨_,vs.toArray,_,M,rfl,rfl,rfl,by rw[size_toArray,p];exact U,by simpa using rv⟩) (λb u z=>by have l:(none:Option HO)=some u:=z;cases l) (λb z=>bS rfl z) λz=>bS rfl z
 |none =>
  refine i (λb=>if b=a then some (.frz { cls:=.type "list",data:=.seq vs.toArray } (.lst (ns.map V.int)))else none) (λb=>?_) (.inl (.inr ⟨{ cls:=.type "list",data:=.seq vs.toArray },aC rfl⟩)) (λb u z=>?_) (λb z=>?_) λ_=>M
  ·by_cases f:b=a
   ·exact .inr ⟨_,_,aC f⟩
   ·exact .inl (aB f)
  ·by_cases f:b=a
   ·have l:=(aC f).symm.trans z;cases l;subst f;exact⟨G,by rw[aA];exact U,vs,_,rv,G⟩
   ·have l:=(aB f).symm.trans z;cases l
  ·by_cases f:b=a
   ·exact f
   ·exact bS (aB f) z
theorem walk_of{l:PySem.W.OpenLaw}{k:Nat}{q:Program}{i:At}{XP:(Str->Ex)->Heap->Prop}{I:World->Heap->Prop}{d:DefRec}{K:Params->Fg}{CX:World->C3}{sp:World->Sp}
  (M:l.most=some n) (A:n<=sizeLine) (C:d.params.defaults=[]) (L:Room k callerA)
  (U:∀(w:World) (h:Heap),I w h->(K w.params).In h)
  (F:∀(w:World) (mg:Str->Ex) (y:Addr) (h:Heap),(K w.params).In h->h.Ns mainGlobals mg->mg d.name=some (.ref y) ->
   ∃fd:FuncData,(∀(s:Shared) (u:Value),BindsTo s fd ⟨[u],[]⟩ [(x,u)]) /\
    ∀base:Heap,(K w.params).In base->base.Ns mainGlobals mg->FnOk l.prog w (K w.params) mg base (CX w) k y fd [x] (sp w))
  (z:∀(w:World) (H:Hp) (a:Addr) (ns:By),ns.length<=n->Kn H->Aq (K w.params) H a (ns.map V.int)->sp w [.ref a] H (λv _=>v=.bl true) λ_ _ _=>False)
  (D:∀(w:World) (H:Hp) (s:Shared) (e:Value) (s':Shared),CX w [] H s (λ_ _ _=>False) e s'->False) :
  PySem.W.WalkO q i XP I l.row.toRowW d [] (λf vs=>PySem.call f vs):=by
 refine Att.attach_call M C λw E p mg mb y o pm cd doc a vs ns G Y ho hd O B r j c N=>?_;have J:=U w _ Y;obtain⟨fd,Q,hF⟩:=F w mg y _ J G.T.g B;exact Vq J G.T.g G.T.b G.T.builtins G.T.nolimit N r j (aR c A) L hF Q (λH hO hS=>z w H a ns c hO hS) λH e s'=>D w H p e s'
def Dc(s:Stmt):Arguments:=match s with
 |.FunctionDef _ a _ _ _ _ _ _ _ _=>a
 |_=>{ posonlyargs:=[],args:=[],vararg:=none,kwonlyargs:=[],kw_defaults:=[],kwarg:=none,defaults:=[] }
def Cr(s:Stmt):He:=match s with
 |.FunctionDef _ _ b _ _ _ _ _ _ _=>b
 |_=>[]
def AR(s:Stmt):Scope:=match s with
 |.FunctionDef _ _ _ _ _ _ sc _ _ _=>sc
 |_=>{ kind:=.function,names:=[],isGenerator:=false,isCoroutine:=false }
abbrev Dd:C3:=λ_ _ _ _ _ _=>False
abbrev E0:XK:=λ_ _ _=>False
theorem Vr:Kg Dd X E0:=λ_ _ _ _ _ _ _ h=>h.elim
structure Fun(K:Fg)(x qual:Str)(st:Stmt)(f:Addr)(fd:FuncData):Prop where
 ex:∃(oc:Value) (od:Go) (kV doc pm:Value) (an:Go) (cdv ct:Value) (osl:Array Ex),
  fd=PySem.W.fnOf x qual (Dc st) (Cr st) (AR st) .none kV doc pm an cdv ct/\K.lookup f=some ⟨oc,od,.func fd,osl⟩/\PySem.W.codeIn K cdv qual=true
 kp:PySem.W.keepIn K (.ref f)=true
section
variable{P:Program}{K:Fg}
theorem Fun.ok{st:Stmt}{f:Addr}{k:Nat}{sp:Sp}(F:Fun K x qual st f fd)(S:FnScope N ps (AR st))(len:∀vs H Q E,sp vs H Q E->vs.length=ps.length)
  (a:∀(cdv:Value) (A:Around) (outer:List Env) (s:Shared) (H:Hp) (vs:dG) (Q:VK) (E:XK),Room k (A.deeper (envOfC qual (AR st) s.heap.objs.size f cdv))->sp vs H Q E ->
   ∃t,Bf (EH Dd P w K mg base N qual (AR st) f cdv A outer s H E).nox (Cr st) t/\t { nx:=λ_ H'=>Q .non H',rt:=Q } (Ca N vs) H):FnOk P w K mg base Dd (k+1) f fd ps sp:=by
 obtain⟨oc,od,kV,doc,pm,an,cdv,ct,osl,rfl,e,d⟩:=F.ex;refine U6 e d S len λA outer s H vs Q E g c=>?_;obtain⟨t,h,q⟩:=a cdv A outer s H vs Q E g c;exact⟨t,h.nox,q⟩
theorem Fun.binds{st:Stmt}{f:Addr}(F:Fun K x qual st f fd)
  (h:∀(kV doc pm:Value) (an:Go) (cdv ct:Value) (us:Do),us.length=ps.length->bindArgs (PySem.W.fnOf x qual (Dc st) (Cr st) (AR st) .none kV doc pm an cdv ct) ⟨us,[]⟩=pure (ps.zip us)):FV K fd ps []:=by
 obtain⟨oc,od,kV,doc,pm,an,cdv,ct,osl,rfl,c,a⟩:=F.ex;exact .all (h kV doc pm an cdv ct)
theorem OZ{st:Stmt}{f:Addr}{i:Value}{h g:Go}{d:Array Ex}{kV doc e a ct:Value}(l:K.lookup f=some ⟨i,h,.func (PySem.W.fnOf x qual (Dc st) (Cr st) (AR st) .none kV doc e g a ct),d⟩)
  (c:PySem.W.codeIn K a qual=true) (k:PySem.W.keepIn K (.ref f)=true):Fun K x qual st f (PySem.W.fnOf x qual (Dc st) (Cr st) (AR st) .none kV doc e g a ct):=⟨⟨i,h,kV,doc,e,g,a,ct,d,rfl,l,c⟩,k⟩
end
theorem EJ{k:Nat}(a:Room k A):A.units+1<cLine:=Nat.lt_of_le_of_lt (Nat.add_le_add_left (by decide:1<=64) _) a.units
theorem Dx(h:n<=1000):n<sizeLine:=Nat.lt_of_le_of_lt h (by decide)
theorem pv(i:Nat)(e:X.N[i]?=some x:=by rfl)(c:C2 X.env.scope x:=by trivial)(d:(x==("__debug__":Str))=false:=by decide)
  (a:(x==("__classdict__":Str))=false:=by decide):PE X (.Name x pos) (CH i):=Du e c d a
theorem Bj{c A B:Prop}[Decidable c](h1:c->A)(h2:¬c->B):if c then A else B:=by
 by_cases h:c
 ·rw[aC h];exact h1 h
 ·rw[aB h];exact h2 h
def CP(H H':Hp):Prop:=∀b o,H b=some o->H' b=some o
theorem CP.trans(a:CP H H1)(b:CP H1 H2):CP H H2:=λc o h=>b c o (a c o h)
theorem CP.free(e:CP H H'){l:Addr}(h:H' l=Option.none):H l=Option.none:=by
 cases q:H l with
 |none=>rfl
 |some o =>
  rw[e l o q]at h;cases h
theorem CP.seq{K:Fg}{xs:dG}(e:CP H H')(h:Aq K H a xs):Aq K H' a xs:=by
 rcases h with(h|⟨o,h⟩)|h
 ·exact .inl (.inl (e _ _ h))
 ·exact .inl (.inr ⟨o,e _ _ h⟩)
 ·exact .inr h
section
variable{κ:Type}[DecidableEq κ]
theorem Oa:∀{l:List κ} {k:κ},l.Nodup->¬k∈l->(l++[k]).Nodup
 |[],k,_,_=>by simp
 |a::r,k,h,c=>by
  obtain⟨h1,h2⟩:=bC.mp h;show(a::(r++[k])).Nodup;refine bC.mpr ⟨λm=>?_,Oa h2 λm=>c (aF.mpr (Or.inr m))⟩;rcases bA.mp m with q|q
  ·exact h1 q
  ·exact c (aF.mpr (Or.inl (bI.mp q).symm))
end
def BO(cells:List (Str×Addr)):List (Str×NameKind)->List (Str×Addr)->List (Str×Addr)
 |[],cs=>cs
 |(n,k)::r,cs=>BO cells r (if(k==.free)=true then(match cells.lookup n with|some c=>(n,c)::cs|none=>cs)else cs)
theorem Ob(h:∀y∈scope.names,y.2=NameKind.free->∃c,env.cells.lookup y.1=some c):closureFor scope env=pure (BO env.cells scope.names []):=by
 simp only[closureFor];have all:∀(l:List (Str×NameKind)) (f:List (Str×Addr)),(∀y∈l,y.2=NameKind.free->∃c,env.cells.lookup y.1=some c) ->
   (forIn l f λ(x:Str×NameKind) (r:List (Str×Addr))=>if(x.2==NameKind.free)=true then do let a <-cellOf env x.1;pure (ForInStep.yield ((x.1,a)::r))else pure (ForInStep.yield r))=(pure (BO env.cells l f):Sem _):=by
  intro l
  induction l with
  |nil=>intro f _;rfl
  |cons y r i =>
   intro f j;obtain⟨n,k⟩:=y;have o:∀y∈r,y.2=NameKind.free->∃c,env.cells.lookup y.1=some c:=λy m=>j y (bT _ m);rw[forIn_cons];by_cases g:(k==NameKind.free)=true
   ·obtain⟨c,d⟩:=j (n,k) cA (by simpa using g);have d:env.cells.lookup n=some c:=d;have e:cellOf env n=pure c:=by unfold cellOf;rw[d]
    simp only[g,dC,e,BO,d];exact i _ o
   ·simp only[g,BO];exact i _ o
 exact(aT (λz=>z >>= λr=>(pure r:Sem (List (Str×Addr)))) (all scope.names [] h)).trans rfl
theorem Gs{a:List (Str×Addr)}{x:Str}{c:Addr}:∀{names:List (Str×NameKind)} {cs:List (Str×Addr)},(BO a names cs).lookup x=some c->a.lookup x=some c\/cs.lookup x=some c
 |[],cs,h=>.inr h
 |(n,k)::r,cs,h=>by
  unfold BO at h;rcases Gs (names:=r) h with q|q
  ·exact .inl q
  ·split at q
   ·cases f:a.lookup n with
    |none=>rw[f]at q;exact .inr q
    |some g =>
     rw[f]at q;dsimp only at q;rw[lookup_cons]at q;cases d:x==n with
     |true =>
      rw[d]at q;have e:x=n:=by simpa using d
      subst e;exact .inl (f.trans q)
     |false=>rw[d]at q;exact .inr q
   ·exact .inr q
theorem Oc{a:List (Str×Addr)}{x:Str}:∀{names:List (Str×NameKind)} {cs:List (Str×Addr)},(cs.lookup x).isSome=true->((BO a names cs).lookup x).isSome=true
 |[],_,h=>h
 |(n,k)::r,cs,h=>by
  unfold BO;refine Oc (names:=r) ?_;split
  ·cases d:a.lookup n with
   |none=>exact h
   |some e =>
    dsimp only;rw[lookup_cons];cases c:x==n<;>first|exact h|rfl
  ·exact h
theorem Gu{a:List (Str×Addr)}{x:Str}{c:Addr}(d:a.lookup x=some c):∀{names:List (Str×NameKind)} {cs:List (Str×Addr)},(x,NameKind.free)∈names->((BO a names cs).lookup x).isSome=true
 |(n,k)::r,cs,h=>by
  unfold BO;rcases aF.mp h with e|h
  ·cases e;refine Oc (names:=r) ?_;rw[aC (by rfl),d];dsimp only;rw[lookup_cons,beq_self_eq_true];rfl
  ·exact Gu d (names:=r) h
theorem Od{env:Env}{x:Str}:∀{names:List (Str×NameKind)},(∀y∈names,y.2≠NameKind.cell) ->
  let l:=(names.map λ(n,k)=>if(k==NameKind.free&&env.scope.kind==.function&&env.kindOf n==some .cell)then(n,NameKind.cell)else(n,k)).lookup x
  (l=some .cell\/l=some .free)->(x,NameKind.free)∈names
 |[],_,h=>by rcases h with h|h<;>simp at h
 |(n,k)::r,f,h=>by
  have d:=@Od env x r λy m=>f y (bT _ m);simp only[map_cons]at h d;by_cases c:(k==NameKind.free&&env.scope.kind==.function&&env.kindOf n==some .cell)=true
  ·rw[aC c,lookup_cons]at h;have g:k=.free:=by
    rw[Bool.and_assoc,cB]at c;simpa using c.1
   cases a:x==n with
   |true =>
    have e:x=n:=by simpa using a
    subst e;rw[g];exact cA
   |false=>rw[a]at h;exact bT _ (d h)
  ·rw[aB c,lookup_cons]at h;cases a:x==n with
   |true =>
    have e:x=n:=by simpa using a
    subst e;rw[a]at h;rcases h with h|h
    ·exact bS (oI h) (f (x,k) cA)
    ·rw[oI h];exact cA
   |false=>rw[a]at h;exact bT _ (d h)
theorem Ko{env:Env}:∀{names:List (Str×NameKind)} {x:Str},names.lookup x=some .free ->
  let l:=(names.map λ(n,k)=>if(k==NameKind.free&&env.scope.kind==.function&&env.kindOf n==some .cell)then(n,NameKind.cell)else(n,k)).lookup x
  (l=some .cell\/l=some .free)
 |[],_,h=>by simp at h
 |(n,k)::r,x,h=>by
  have c:=@Ko env r x;simp only[map_cons]at c ⊢;by_cases d:(k==NameKind.free&&env.scope.kind==.function&&env.kindOf n==some .cell)=true
  ·rw[aC d,lookup_cons];cases a:x==n with
   |true=>exact .inl rfl
   |false =>
    rw[lookup_cons,a]at h;exact c h
  ·rw[aB d,lookup_cons];cases a:x==n with
   |true =>
    rw[lookup_cons,a]at h;exact .inr h
   |false =>
    rw[lookup_cons,a]at h;exact c h
structure CompP where
 cl:List (Str×Addr)
 C:Addr
 s:Shared
 H:Hp
 fp:Ha
 qA:List (Addr×Obj)
def Cx.comp(X:Cx)(N':At)(scope:Scope)(p:CompP):Cx where
 prog:=X.prog
 w:=X.w
 K:=X.K
 mg:=X.mg
 base:=X.base
 A:=X.A
 N:=N'
 s₀:=p.s
 H₀:=p.H
 env:=compEnvC scope p.cl p.C X.env
 outer:=X.stack
 stack:=X.stack
 ex:=p.fp
 fn:=λ_=>false
 calm:=X.calm
 pn:=X.pn++p.qA
 xe:=λ_ _=>False
structure CompScope(N:At)(sc:Scope)(N':At)(qD:List (Option Nat))(scope:Scope):Prop where
 kind:scope.kind=.function
 nocell:∀y∈scope.names,y.2≠NameKind.cell
 names:∀y∈scope.names,y.2=NameKind.local->scope.names.lookup y.1=some .local
 free:∀y∈scope.names,y.2=NameKind.free->scope.names.lookup y.1=some .free
 has:∀y∈scope.names,y.2=NameKind.free->(sc.names.lookup y.1=some .cell\/sc.names.lookup y.1=some .free)
 len:qD.length=N'.length
 cap:∀q∈qD.zip N',q.1=none\/(N[q.1.getD 0]?=some q.2/\(q.2,NameKind.free)∈scope.names)
def picked(σ:St)(qD:List (Option Nat)):St:=qD.map λo=>match o with|none=>none|some j=>(σ[j]?).join
def EK(X:Cx)(ifs:Hb)(t:TT):Prop :=
 ∀(qA:List (Addr×Obj)) (s:Shared) (σ:St) (H:Hp) (Q:Bool->Hp->Prop),Inv X qA σ H s->t σ H Q ->
  wpAny (model X.prog X.w) X.A (forIn ifs true λc r=>if r=true then do let ok <-isTrue c X.env (eval c X.env);pure (ForInStep.yield ok)else pure (ForInStep.yield r)) (TP X qA σ Q) X.xe s
def Vs:TT:=λ_ H Q=>Q true H
theorem Oe:EK X [] Vs:=λqA s σ H Q I h=>wpAny_tests_nil ⟨H,I,h⟩
theorem Vt{t:TT}(h:PT X c t):EK X [c] t:=λqA s σ H Q I q=>wpAny_tests_one (h qA s σ H Q I q)
theorem Vu{R:Result->Shared->Prop}{a:Expr}{it cg:Value}(I:Nat->Shared->Prop)
  (turn:∀n s,I n s->wpAny (model prog w) A (pyNext it) (λr s₁=>match r with
   |none=>R (.ok .next) s₁
   |some v=>wpAny (model prog w) A (letOwnedTupleGo a it v) (λ_ e=>wpAny (model prog w) A (assign a env v) (λ_ s₂ =>
     wpAny (model prog w) A (forIn ifs true λc r=>if r=true then do let ok <-isTrue c env (eval c env);pure (ForInStep.yield ok)else pure (ForInStep.yield r)) (λok d =>
      if ok=true then wpAny (model prog w) A (eval ce env) (λx g =>
       wpAny (model prog w) A (call (.builtin "list.append") [cg,x]) (λ_ f=>∃m,m<n/\I m f) (λ_ _=>False) g) (λ_ _=>False) d
      else∃m,m<n/\I m d) (λ_ _=>False) s₂) (λ_ _=>False) e) (λ_ _=>False) s₁) (λ_ _=>False) s)
  (n:Nat) (h:I n s) :
  codeAny (model prog w) A (.compLoop (.ListComp ce [⟨a,iter,ifs,0⟩] scope pos) 0 it cg env) R s:=by
 refine codeAny_loop rfl I (λn s u=>?_) n h;show wpAny _ A ((compTurn (.ListComp ce [⟨a,iter,ifs,0⟩] scope pos) 0 it cg env).onRaise (λx=>do noteFrame x env;theTreesLotGoes x)) _ _ s;refine wpAny_noted ?_;rw[compTurn_list];refine wB (wpAny_standAt (wB (bL (turn n s u) (λr s₁ j=>?_) λ_ _ h'=>h'.elim)));cases r with
 |none=>exact wP j
 |some v =>
  refine wB (bL j (λ_ e l=>?_) λ_ _ h'=>h'.elim);refine wB (bL l (λ_ s₂ q=>wB (bL q (λok d i=>?_) λ_ _ h'=>h'.elim)) λ_ _ h'=>h'.elim);cases ok with
  |false=>exact wP ⟨rfl,i⟩
  |true =>
   exact wB (wB (bL i (λx g p=>wB (bL p (λ_ f o=>wP (wP ⟨rfl,o⟩)) λ_ _ h'=>h'.elim)) λ_ _ h'=>h'.elim))
def Kp(J:It)(qD:List (Option Nat))(g:TG)(tt:TT)(te:TE)(σ:St)(Q:VK)(H1:Hp):Prop:=∀D,H1 D=none->∃W:Nat->Nat->dG->Hp->Prop,(∃m,W 0 m [] (AD H1 D (.lst []))) /\
 ∀i m ys H2,W i m ys H2->H2 D=some (.lst ys)/\((J.stop i H2/\Q (.ref D) H2)\/(J.go i H2/\∃M:dG->Hp->Prop,(∀zs H',M zs H'->∃m',m'<m/\W (i+1) m' zs H')/\∀x H3,J.yld i H2 x H3->g x (L2.picked σ qD) H3 λσ4 H4=>tt σ4 H4 λb H5 =>
  if b=true then te σ4 H5 λy H6=>H6 D=some (.lst ys)/\ys.length<sizeLine/\M (ys++[y]) (AD H6 D (.lst (ys++[y])))
  else M ys H5))
def FX(wi:TI)(qD:List (Option Nat))(g:TG)(tt:TT)(te:TE):TE:=λσ H Q=>wi σ H λJ H1=>Kp J qD g tt te σ Q H1
def EL(qD:List (Option Nat))(g:TG):Prop:=∀(σ:St) (x:V) (H:Hp) (Q:St->Hp->Prop),g x (L2.picked σ qD) H Q->g x (L2.picked σ qD) H λσ' H'=>Q σ' H'/\∀(k:Nat) v,(L2.picked σ qD)[k]?=some (some v)->σ'[k]?=some (some v)
theorem Eu(h:qD[i]?=some none):(L2.picked σ qD)[i]?=some none:=by
 unfold L2.picked;rw[bO,h];rfl
theorem Og(h:qD[i]?=some none):EL qD (CI i):=λσ x H Q q=>⟨q,λk v e=>by
 have a:i≠k:=λz=>by subst z;rw[Eu h]at e;cases e
 rw[bV a];exact e⟩
theorem Vv{K:Fg}(h:qD[i]?=some none)(h':qD[j]?=some none):EL qD (Em K 2 (IF (CI i) (IF (CI j) KU))):=by
 rintro σ x H Q ⟨a,xs,rfl,f,g,v,r,rfl,v',l,rfl,rfl,q⟩;refine⟨a,_,rfl,f,g,v,_,rfl,v',_,rfl,rfl,q,λk v e=>?_⟩;have d:i≠k:=λz=>by subst z;rw[Eu h]at e;cases e
 have c:j≠k:=λz=>by subst z;rw[Eu h']at e;cases e
 rw[bV c,bV d];exact e
theorem De:∀(names:List (Str×NameKind)) (n:Nat) (cg:List (Str×Addr)),cellsFrom n names cg=cellsFrom n names []++cg
 |[],n,cg=>rfl
 |(x,k)::r,n,cg=>by
  unfold cellsFrom;split
  ·rw[De r (n+1) ((x,n)::cg),De r (n+1) [(x,n)],bK];rfl
  ·exact De r n cg
theorem IV{x:Str}:∀{names:List (Str×NameKind)} {n:Nat},(x,NameKind.cell)∈names->∃c,(x,c)∈cellsFrom n names []
 |(y,k)::r,n,h=>by
  unfold cellsFrom;split
  ·rw[De];rcases aF.mp h with e|h
   ·cases e;exact⟨n,cC _ cA⟩
   ·obtain⟨c,d⟩:=IV (n:=n+1) h;exact⟨c,mem_append_left _ d⟩
  ·rename_i a;rcases aF.mp h with e|h
   ·cases e;exact bS rfl a
   ·exact IV h
theorem Kq{x:Str}{c:Addr}:∀{names:List (Str×NameKind)} {n:Nat},(x,c)∈cellsFrom n names []->(x,NameKind.cell)∈names
 |[],n,h=>by cases h
 |(y,k)::r,n,h=>by
  unfold cellsFrom at h;split at h
  ·rename_i a;rw[De]at h;rcases bA.mp h with h|h
   ·exact bT _ (Kq h)
   ·rw[bI]at h;cases h;have:k=.cell:=by simpa using a
    rw[this];exact cA
  ·exact bT _ (Kq h)
theorem EM{α f:Type}[BEq α][LawfulBEq α]{l:List (α×f)}{x:α}{c:f}(h:l.lookup x=some c):(x,c)∈l:=by
 induction l with
 |nil=>cases h
 |cons q r g =>
  obtain⟨a,b⟩:=q;rw[lookup_cons]at h;cases d:x==a with
  |true =>
   rw[d]at h;have e:x=a:=by simpa using d
   subst e;injection h with h
   subst h;exact cA
  |false=>rw[d]at h;exact bT _ (g h)
theorem Oh{α d:Type}[BEq α][LawfulBEq α]{l:List (α×d)}{x:α}{c:d}(h:(x,c)∈l):(l.lookup x).isSome=true:=by
 induction l with
 |nil=>cases h
 |cons q r f =>
  obtain⟨a,b⟩:=q;rw[lookup_cons];cases g:x==a with
  |true=>rfl
  |false =>
   rcases aF.mp h with e|h
   ·cases e;simp at g
   ·exact f h
theorem Gv{α c:Type}[BEq α]{l r:List (α×c)}{x:α}:(l++r).lookup x=(l.lookup x).or (r.lookup x):=by
 induction l with
 |nil=>simp
 |cons q l d =>
  obtain⟨a,b⟩:=q;rw[cons_append,lookup_cons,lookup_cons,d];cases x==a<;>rfl
section
variable{M:Model}
theorem Vw{globals:Addr}{cl:List (Str×Addr)}{outer:Env}{Q:Env->Shared->Prop}
  (f:Q (newEnv scope s.heap.objs.size globals (cellsFrom (s.heap.objs.size+1) scope.names cl) qual none .none (some outer) builtinsNs) { s with heap:=pushCells (s.heap.push { cls:=.type "dict",data:=.dict #[] }) scope.names }) :
  wpAny M A (newFunctionEnv scope globals cl [] qual none .none (some outer)) Q E s:=by
 simp only[newFunctionEnv,Option.isSome_some,dC];refine wB (wpAny_alloc (wB (wpAny_layCells _ (λname a d=>by cases c:a==NameKind.cell<;>simp[c]) _ _ _ _ ?_)));refine wB (wP (wP ?_));have e:(s.heap.push { cls:=.type "dict",data:=.dict #[] }).objs.size=s.heap.objs.size+1:=Heap.size_push ..;rw[<-e]at f;exact f
end
def Cx.compC(X:Cx)(N':At)(scope:Scope)(p:CompP):Cx:={ X.comp N' scope p with fn:=λx=>scope.names.lookup x==some .cell }
structure CompScopeC(N:At)(sc:Scope)(N':At)(qD:List (Option Nat))(scope:Scope):Prop where
 kind:scope.kind=.function
 cell:∀y∈scope.names,y.2=NameKind.cell->scope.names.lookup y.1=some .cell
 names:∀y∈scope.names,y.2=NameKind.local->scope.names.lookup y.1=some .local
 free:∀y∈scope.names,y.2=NameKind.free->scope.names.lookup y.1=some .free
 has:∀y∈scope.names,y.2=NameKind.free->(sc.names.lookup y.1=some .cell\/sc.names.lookup y.1=some .free)
 len:qD.length=N'.length
 cap:∀q∈qD.zip N',q.1=none\/(N[q.1.getD 0]?=some q.2/\(q.2,NameKind.free)∈scope.names)
theorem Vx{env:Env}{x:Str}{names:List (Str×NameKind)} :
  let l:=(names.map λ(n,k)=>if(k==NameKind.free&&env.scope.kind==.function&&env.kindOf n==some .cell)then(n,NameKind.cell)else(n,k)).lookup x
  (l=some .cell\/l=some .free)->(x,NameKind.free)∈names\/(x,NameKind.cell)∈names:=by
 intro l h;have a:∃k,(x,k)∈(names.map λ(n,k)=>if(k==NameKind.free&&env.scope.kind==.function&&env.kindOf n==some .cell)then(n,NameKind.cell)else(n,k))/\(k=.cell\/k=.free):=by
  rcases h with h|h
  ·exact⟨_,EM h,.inl rfl⟩
  ·exact⟨_,EM h,.inr rfl⟩
 obtain⟨k,a,d⟩:=a;obtain⟨⟨n,k0⟩,h1,h2⟩:=bU.mp a;dsimp only at h2;split at h2
 ·rename_i c;cases h2;rw[Bool.and_assoc,cB]at c;have:k0=.free:=by simpa using c.1
  subst this;exact .inl h1
 ·cases h2;rcases d with rfl|rfl
  ·exact .inr h1
  ·exact .inl h1
theorem Vy{s4:Shared}{m:Str->Ex}
  (S:CompScopeC N sc N' qD scope) (hN:X.N=N) (M:X.env.scope=sc) (I:Inv X qA σ H s) (hf:∀b∈fp,Bq X qA H b) (T:∀b∈fp,∃o,s.heap.get? b=some o)
  (Q:∀b o,s.heap.get? b=some o->s4.heap.get? b=some o) (hn:s4.heap.Ns s.heap.objs.size m) (ho:s4.os=s.os) (hg:s4.gens=s.gens) (co:CellsOk s4.heap (s.heap.objs.size+1) (cellsFrom (s.heap.objs.size+1) scope.names [])) :
  Inv (X.compC N' scope ⟨cellsFrom (s.heap.objs.size+1) scope.names (BO X.env.cells scope.names []),s.heap.objs.size,s,H,fp,qA⟩) [] (L2.picked σ qD) H s4:=by
 have hC:s.heap.objs.size<=s.heap.objs.size:=aQ _;have ok:=I.ok;have Y:∀y,(y,NameKind.free)∈scope.names->∃c,X.env.cells.lookup y=some c:=λy hy=>by
  have q:=S.has (y,.free) hy rfl;rw[<-M]at q;exact ok.has y q
 have A:∀y c,(BO X.env.cells scope.names []).lookup y=some c->X.env.cells.lookup y=some c:=λy c e=>by
  rcases Gs e with q|q
  ·exact q
  ·simp at q
 have a0:∀x c,X.env.cells.lookup x=some c->c<s.heap.objs.size:=λx c e=>by
  obtain⟨v,q⟩:=I.cell x c e;exact q.lt
 have two:∀y c,(cellsFrom (s.heap.objs.size+1) scope.names (BO X.env.cells scope.names [])).lookup y=some c->(y,c)∈cellsFrom (s.heap.objs.size+1) scope.names []\/X.env.cells.lookup y=some c:=λy c e=>by
  rw[De,Gv]at e;cases h:(cellsFrom (s.heap.objs.size+1) scope.names []).lookup y with
  |some d=>rw[h]at e;injection e with e;subst e;exact .inl (EM h)
  |none=>rw[h]at e;exact .inr (A y c e)
 have f:∀y c,(y,c)∈cellsFrom (s.heap.objs.size+1) scope.names []->s.heap.objs.size+1<=c:=λy c e=>(co.empty y c e).2;refine⟨⟨ok.mod,S.kind,ok.glob,ok.blt,hC,λx y c e1 g=>?_,λx hx=>?_,λx c z e=>?_,ok.hd,ok.frames,.inl rfl,
   λb C=>⟨λz=>?_,λx c e=>?_⟩,I.bs,aR ok.bsz I.sz,λb o e C=>?_,λb C z=>?_,I.stack,I.stkFree⟩,
  ho,by rw[hg];exact I.bare,Un.kept Q,⟨m,hn,λi x v e1 g e3=>?_⟩,λx c e=>?_,I.hok.fresh hC,λx c e=>?_,λp hp=>?_,I.hok.kept Q,?_⟩
 ·rcases two x c e1 with a1|a1<;>rcases two y c g with a2|a2
  ·exact name_of_addr co.apart a1 a2
  ·exact bS (aU (a0 y c a2) (aR (cR _) (f x c a1))) (aX _)
  ·exact bS (aU (a0 x c a1) (aR (cR _) (f y c a2))) (aX _)
  ·exact ok.inj x y c a1 a2
 ·have hx':(x,NameKind.free)∈scope.names\/(x,NameKind.cell)∈scope.names:=Vx hx;show∃c,(cellsFrom (s.heap.objs.size+1) scope.names (BO X.env.cells scope.names [])).lookup x=some c;rw[De,Gv];rcases hx' with hx'|hx'
  ·obtain⟨c,G⟩:=Y x hx';obtain⟨c',w⟩:=Option.isSome_iff_exists.mp (Gu (cs:=[]) G hx');cases(cellsFrom (s.heap.objs.size+1) scope.names []).lookup x with
   |some d=>exact⟨d,rfl⟩
   |none=>exact⟨c',w⟩
  ·obtain⟨c,G⟩:=IV (n:=s.heap.objs.size+1) hx';obtain⟨d,B⟩:=Option.isSome_iff_exists.mp (Oh G);rw[B];exact⟨d,rfl⟩
 ·have z:(scope.names.lookup x==some NameKind.cell)=true:=z;have hz:(x,NameKind.cell)∈scope.names:=EM (by simpa using z);have e:(cellsFrom (s.heap.objs.size+1) scope.names (BO X.env.cells scope.names [])).lookup x=some c:=e;obtain⟨c0,a7⟩:=IV (n:=s.heap.objs.size+1) hz;obtain⟨d,B⟩:=Option.isSome_iff_exists.mp (Oh a7);rw[De,Gv,B]at e;injection e with e
  subst e;exact aR (cR _) (f x d (EM B))
 ·obtain⟨o,e⟩:=T b C;have e':b=s.heap.objs.size:=z;exact bS (bN e) (by rw[e'];exact aX _)
 ·rcases two x c e with a1|a1
  ·obtain⟨o,eo⟩:=T b C;exactλz=>bS (aU (bN eo) (aR (cR _) (f x c a1))) (by rw[z];exact aX _)
  ·exact(hf b C).2.2.2.2.1 x c a1
 ·rcases(hf b C).2.2.2.1 with q|q
  ·exact ok.noex b o e q
  ·exact bS (aU (bN e) (aR ok.bsz q)) (aX _)
 ·rcases aF.mp (I.stkSub b z)with q|q
  ·exact(hf b C).2.1 q
  ·exact(hf b C).2.2.1 q
 ·-- a J name
  have hi:i<qD.length:=by
   rcases cE i qD.length with q|q
   ·exact q
   ·unfold L2.picked at g;rw[bQ (by simpa using q)]at g;cases g
  obtain⟨o,O⟩:∃o,qD[i]?=some o:=⟨qD[i],by simp[hi]⟩;unfold L2.picked at g;rw[bO,O]at g;cases o with
  |none=>cases g
  |some j =>
   have g:some ((σ[j]?).join)=some (some v):=g;have e1:N'[i]?=some x:=e1;have hz:(some j,x)∈qD.zip N':=by
    refine aM (i:=i) ?_;rw[getElem?_zip_eq_some];exact⟨O,e1⟩
   obtain⟨c1,c2⟩:=(S.cap _ hz).resolve_left (λz=>nomatch z);have c1:N[j]?=some x:=c1;have e3:σ[j]?=some (some v):=by
    have q:=oI g;cases L:σ[j]? with
    |none=>rw[L]at q;cases q
    |some y=>rw[L]at q;exact aT some q
   rw[<-hN]at c1;obtain⟨m0,a9,a5⟩:=I.loc;have kq:=S.has (x,.free) c2 rfl;rw[<-M]at kq;obtain⟨u,r,l⟩:=a5 j x v c1 e3 (kq.elim (λz=>.inr (.inl z)) λz=>.inr (.inr z));refine⟨u,r,?_⟩;obtain⟨c,G⟩:=Y x c2;obtain⟨c',w⟩:=Option.isSome_iff_exists.mp (Gu (cs:=[]) G c2);have a8:c'=c:=oI ((A x c' w).symm.trans G);subst a8;have a6:(cellsFrom (s.heap.objs.size+1) scope.names (BO X.env.cells scope.names [])).lookup x=some c':=by
    rw[De,Gv];cases hl:(cellsFrom (s.heap.objs.size+1) scope.names []).lookup x with
    |none=>exact w
    |some d =>
     have q1:=S.cell _ (Kq (EM hl)) rfl;have q2:=S.free (x,.free) c2 rfl;rw[q1]at q2;cases q2
   have a3:(compEnvC scope (cellsFrom (s.heap.objs.size+1) scope.names (BO X.env.cells scope.names [])) s.heap.objs.size X.env).kindOf x=some .cell\/(compEnvC scope (cellsFrom (s.heap.objs.size+1) scope.names (BO X.env.cells scope.names [])) s.heap.objs.size X.env).kindOf x=some .free:=by
    exact Ko (S.free (x,.free) c2 rfl)
   rcases l with⟨k,_⟩|⟨_,aa,U,E⟩
   ·exfalso;have k:X.env.scope.names.lookup x=some .local:=k;rcases kq with z|z
    ·rw[k]at z;cases z
    ·rw[k]at z;cases z
   ·rw[G]at U;cases U;obtain⟨oc,D,B⟩:=E;exact .inr ⟨a3,c',a6,oc,Q _ _ D,B⟩
 ·rcases two x c e with a1|a1
  ·exact⟨none,(co.empty x c a1).1⟩
  ·obtain⟨v,oc,D,B⟩:=I.cell x c a1;exact⟨v,oc,Q _ _ D,B⟩
 ·rcases two x c e with a1|a1
  ·exact I.hok.fresh (aR (cR _) (f x c a1))
  ·exact I.freeC x c a1
 ·have a4:p∈X.pn++qA:=by
   have hp:p∈(X.pn++qA)++[]:=hp;simpa using hp
  obtain⟨e,n,ne,nf,d⟩:=I.pin p a4;refine⟨Q _ _ e,n,λz=>?_,λz=>?_,d⟩
  ·have z:p.1=s.heap.objs.size:=z;exact bS (bN e) (by rw[z];exact aX _)
  ·rcases aF.mp (I.stkSub _ z)with q|q
   ·exact ne q
   ·exact nf q
 ·unfold L2.picked;rw[aA];exact S.len
theorem Oi{Q:VK}{a0:Option (Value->Sem Unit)}{QQ:VS}
  (S:CompScopeC N sc N' qD scope) (hN:X.N=N) (a9:X.env.scope=sc) (hc:X.calm=true) (hi:PI X tg iter wi) (hk:EL qD g)
  (hg:∀p,PG (X.compC N' scope p) tg g) (ht:∀p,EK (X.compC N' scope p) ifs tt) (he:∀p,PE (X.compC N' scope p) ce te) (hs:∀x,foldedSetIterable iter X.env x=pure x)
  (I:Inv X qA σ H s) (h:FX wi qD g tt te σ H Q)
  (fin:∀(D C:Addr) (H':Hp) (s':Shared) (m:Str->Ex),Inv X qA σ H' s'->Q (.ref D) H'->H' C=none->C≠X.env.locals->X.s₀.heap.objs.size<=C->(∀x c,X.env.cells.lookup x=some c->c≠C)->(∀p∈X.pn++qA,p.1≠C)->s'.heap.Ns C m ->
   compPost (model X.prog X.w) X.A X.xe a0 QQ (.ref D) C (.ok .next) s') :
  wpAny (model X.prog X.w) X.A (comprehension (.ListComp ce [⟨tg,iter,ifs,0⟩] scope pos) scope X.env (firstIterPos [⟨tg,iter,ifs,0⟩] pos) (newList []) false (eval iter X.env) a0) QQ X.xe s:=by
 have aa:∀y∈scope.names,y.2=NameKind.free->∃c,X.env.cells.lookup y.1=some c:=λy hy e=>by
  have q:=S.has y hy e;rw[<-a9]at q;exact I.ok.has y.1 q
 refine wpAny_comprehension_free rfl hs (Ob aa) S.kind S.names (AG (hi qA s σ H _ I h) λv s1 h1=>AG h1 λau f h2=>?_);obtain⟨it,fp,tn,J,H2,e,Y,T,a2,E,q⟩:=h2;subst e;have ae:H2 f.heap.objs.size=none:=Y.fresh;obtain⟨W,⟨m0,w0⟩,a5⟩:=q f.heap.objs.size ae;refine cG (T:="list") (Vw ?_);dsimp only;have I3:Inv X qA σ (AD H2 f.heap.objs.size (.lst [])) { f with heap:=f.heap.push { cls:=.type "list",dict:=none,data:=.seq ([]:Do).toArray } } :=
  Y.lnew (t':=f.toks) (qH:=[]) .nil (cD _)
 generalize O:f.heap.push { cls:=.type "list",dict:=none,data:=.seq ([]:Do).toArray }=G3 at I3 ⊢;have f3:∀b∈fp,Bq X qA (AD H2 f.heap.objs.size (.lst [])) b:=λb a=>by
  obtain⟨o,e,_⟩:=T.obj _ _ a2 b a;refine⟨?_,(E b a).2⟩;rw[AK (bX (bN e))];exact(E b a).1
 have a4:∀b∈fp,∃o,G3.get? b=some o:=λb a=>by
  obtain⟨o,e,_⟩:=T.obj _ _ a2 b a;exact⟨o,O▸aS _ e⟩
 have a3:∀b o,G3.get? b=some o->(pushCells (G3.push { cls:=.type "dict",data:=.dict #[] }) scope.names).get? b=some o:=λb o e=>pushCells_keeps _ _ b o (aS _ e);have j:(pushCells (G3.push { cls:=.type "dict",data:=.dict #[] }) scope.names).Ns G3.objs.size (λ_=>none):=(Heap.Ns.new G3 (.type "dict")).keeps (pushCells_keeps _ _);have co:CellsOk (pushCells (G3.push { cls:=.type "dict",data:=.dict #[] }) scope.names) (G3.objs.size+1) (cellsFrom (G3.objs.size+1) scope.names []):=by
  have e:(G3.push { cls:=.type "dict",data:=.dict #[] }).objs.size=G3.objs.size+1:=Heap.size_push ..;have:=cellsFrom_ok scope.names (G3.push { cls:=.type "dict",data:=.dict #[] }) (G3.objs.size+1) [] ⟨λ_ _ hm=>(nomatch hm),List.Pairwise.nil⟩ (by rw[e];exact aQ _)
  rwa [e]at this
 generalize av:pushCells (G3.push { cls:=.type "dict",data:=.dict #[] }) scope.names=h₁ at a3 j co ⊢;have I4:=Vy (s4:={ f with heap:=h₁ }) S hN a9 I3 f3 a4 a3 j rfl rfl co;have a8:tn 0 h₁:=T.keep _ _ _ a2 λb a o e=>a3 b o (O▸aS _ e);have L:f.heap.objs.size<=G3.objs.size:=by rw[<-O,Heap.size_push];exact cR _
 generalize B:(⟨cellsFrom (G3.objs.size+1) scope.names (BO X.env.cells scope.names []),G3.objs.size,{ f with heap:=G3 },AD H2 f.heap.objs.size (.lst []),fp,qA⟩:CompP)=p at I4;have al:∀b∈fp,∀y c,(X.compC N' scope p).env.cells.lookup y=some c->c≠b:=λb a y c e=>by
  subst B;have e:(cellsFrom (G3.objs.size+1) scope.names (BO X.env.cells scope.names [])).lookup y=some c:=e;rw[De,Gv]at e;cases h:(cellsFrom (G3.objs.size+1) scope.names []).lookup y with
  |some d =>
   rw[h]at e;injection e with e
   subst e;obtain⟨o,eo⟩:=a4 b a;exactλz=>bS (aU (bN eo) (aR (cR _) (co.empty y d (EM h)).2)) (by rw[z];exact aX _)
  |none =>
   rw[h]at e;rcases Gs (cs:=[]) e with q|q
   ·exact(E b a).2.2.2.2.1 y c q
   ·simp at q
 have l:∀{H':Hp},(∀b∈fp,H' b=none)->∀b∈fp,Bq (X.compC N' scope p) [] H' b:=λhn b a=>by
  refine⟨hn b a,λz=>?_,λz=>?_,.inl (by subst B;exact a),λx c e=>al b a x c e,λq hq=>?_⟩
  ·subst B;obtain⟨o,e⟩:=a4 b a;have z:b=G3.objs.size:=z;exact bS (bN e) (by rw[z];exact aX _)
  ·subst B;rcases aF.mp (Y.stkSub b z)with q|q
   ·exact(E b a).2.1 q
   ·exact(E b a).2.2.1 q
  ·refine(E b a).2.2.2.2.2 q ?_;subst B;have hq:q∈(X.pn++qA)++[]:=hq;simpa using hq
 have U:codeAny (model X.prog X.w) X.A (.compLoop (.ListComp ce [⟨tg,iter,ifs,0⟩] scope pos) 0 (.ref it) (.ref f.heap.objs.size) (X.compC N' scope p).env)
   (compPost (model X.prog X.w) X.A X.xe a0 QQ (.ref f.heap.objs.size) G3.objs.size) { f with heap:=h₁ }:=by
  refine Vu (λn s'=>∃i ys H',Inv (X.compC N' scope p) [] (L2.picked σ qD) H' s'/\tn i s'.heap/\(∀b∈fp,H' b=none)/\W i n ys H') ?_ m0 ⟨0,[],_,I4,a8,λb a=>(f3 b a).1,w0⟩;rintro n s5 ⟨i,ys,H5,I5,a7,ac,w5⟩;obtain⟨hD,am⟩:=a5 i n ys H5 w5;rcases am with⟨a6,qn⟩|⟨go,M,hM,step⟩
  ·refine AG (T.done (X.compC N' scope p) rfl rfl rfl hc i [] s5 _ H5 _ I5 (l ac) a7 a6) λr s6 ⟨hr,I6⟩=>?_;subst hr;obtain⟨m6,aj,_⟩:=I6.loc;have un:Un (CN X.stack) fp H2 H5 f.heap s6.heap:=by
    have u1:Un (CN X.stack) fp H2 (AD H2 f.heap.objs.size (.lst [])) f.heap G3:=Un.laid (λb o e=>O▸aS _ e) (aQ _) ae;have u2:=I6.base;subst B;exact u1.trans u2
   have IO:Inv X qA σ H5 s6:=Y.call' (by have e:=I6.os;subst B;exact e) un (by have e:=I6.hok;subst B;exact e) I6.bare λb a=>⟨(E b a).2.2.2.1,(E b a).2.1,(E b a).2.2.2.2.1,(E b a).2.2.2.2.2⟩;refine fin _ _ H5 s6 m6 IO qn ?_ ?_ ?_ ?_ ?_ ?_
   ·have e:=I6.free;subst B;exact e
   ·exact Nat.ne_of_gt (aU Y.lt L)
   ·exact aR Y.sz L
   ·intro x c e z;obtain⟨v,q⟩:=Y.cell x c e;exact bS (aU q.lt L) (by rw[z];exact aX _)
   ·intro q hq z;exact bS (aU (bN (Y.pin q hq).1) L) (by rw[z];exact aX _)
   ·subst B;exact aj
  ·refine AG (T.item (X.compC N' scope p) rfl rfl rfl hc i [] s5 _ H5 _ I5 (l ac) a7 go) λr s6 ⟨u,hr,h6⟩=>?_;subst hr;refine AG h6 λ_ s7 ⟨x,H7,I7,r7,y7,a1,ak⟩=>?_;have an:=I7.pinned (l ak) (T.obj _ _ a1);refine AG (hg p _ s7 _ H7 x u _ an r7 (hk σ x H7 _ (step x H7 y7))) λ_ s8 ⟨G,H8,I8,q8,w8⟩=>?_;refine AG (ht p _ s8 G H8 _ I8 q8) λok s9 ⟨H9,I9,q9⟩=>?_;have back:∀{H':Hp} {s':Shared},Inv (X.compC N' scope p) ([]++EF fp s7.heap) G H' s'->∀{k:Nat} {zs:dG},M zs H' ->
     ∃m,m<n/\∃i ys H'',Inv (X.compC N' scope p) [] (L2.picked σ qD) H'' s'/\tn i s'.heap/\(∀b∈fp,H'' b=none)/\W i m ys H'':=λ{H' s'} I' {k zs} mz=>by
    obtain⟨m',hm,w'⟩:=hM _ _ mz;refine⟨m',hm,i+1,zs,H',?_,T.keep _ _ _ a1 λb a o e=>(I'.pin (b,o) (cC _ (cC _ (EG a e)))).1,λb a=>?_,w'⟩
    ·refine(I'.unpinned).weak ?_ w8;rw[(I'.unpinned).len,I7.len]
    ·obtain⟨o,e,d⟩:=T.obj _ _ a1 b a;exact(I'.pin (b,o) (cC _ (cC _ (EG a e)))).2.1
   cases ok with
   |false=>exact back I9 (k:=0) q9
   |true =>
    refine AG (he p _ s9 G H9 _ I9 q9) λv af ⟨y,aq,ap,ag,ab,hz,ai⟩=>?_;refine AG (Gk (X:=X.compC N' scope p) _ af G aq (.ref f.heap.objs.size) [y] _ [v] (λ_ H'=>M (ys++[y]) H') ap rfl (.cons ag .nil) ⟨_,ys,y,rfl,rfl,ab,hz,ai⟩) λw ar ⟨z,aw,ao,as,ah⟩=>?_;exact back ao (k:=0) ah
 subst B;exact codeAny_compStart_list U (T.self _ 0 _ _ _ a8 U)
theorem Vz{s4:Shared}{C:Addr}{m:Str->Ex}
  (S:CompScope N sc N' qD scope) (hN:X.N=N) (G:X.env.scope=sc) (I:Inv X qA σ H s) (Y:∀b∈fp,Bq X qA H b) (a3:∀b∈fp,∃o,s.heap.get? b=some o)
  (hC:s.heap.objs.size<=C) (L:∀b o,s.heap.get? b=some o->s4.heap.get? b=some o) (hn:s4.heap.Ns C m) (ho:s4.os=s.os) (hg:s4.gens=s.gens) :
  Inv (X.comp N' scope ⟨BO X.env.cells scope.names [],C,s,H,fp,qA⟩) [] (L2.picked σ qD) H s4:=by
 have ok:=I.ok;have T:∀y,(y,NameKind.free)∈scope.names->∃c,X.env.cells.lookup y=some c:=λy hy=>by
  have q:=S.has (y,.free) hy rfl;rw[<-G]at q;exact ok.has y q
 have sub:∀y c,(BO X.env.cells scope.names []).lookup y=some c->X.env.cells.lookup y=some c:=λy c e=>by
  rcases Gs e with q|q
  ·exact q
  ·simp at q
 have a6:∀x c,X.env.cells.lookup x=some c->c<s.heap.objs.size:=λx c e=>by
  obtain⟨v,q⟩:=I.cell x c e;exact q.lt
 refine⟨⟨ok.mod,S.kind,ok.glob,ok.blt,hC,λx y c U f=>ok.inj x y c (sub x c U) (sub y c f),λx hx=>?_,λx c z _=>(nomatch (show false=true from z)),ok.hd,ok.frames,.inl rfl,
   λb A=>⟨λz=>?_,λx c e=>(Y b A).2.2.2.2.1 x c (sub x c e)⟩,I.bs,aR ok.bsz I.sz,λb o e A=>?_,λb A z=>?_,I.stack,I.stkFree⟩,
  ho,by rw[hg];exact I.bare,Un.kept L,⟨m,hn,λi x v U f e3=>?_⟩,λx c e=>?_,I.hok.fresh hC,λx c e=>I.freeC x c (sub x c e),λp hp=>?_,I.hok.kept L,?_⟩
 ·have E:=Od S.nocell hx;obtain⟨c,Q⟩:=T x E;exact Option.isSome_iff_exists.mp (Gu Q E)
 ·obtain⟨o,e⟩:=a3 b A;have e':b=C:=z;exact bS (aU (bN e) (e'▸hC)) (aX _)
 ·rcases(Y b A).2.2.2.1 with q|q
  ·exact ok.noex b o e q
  ·exact bS (aU (bN e) (aR ok.bsz q)) (aX _)
 ·rcases aF.mp (I.stkSub b z)with q|q
  ·exact(Y b A).2.1 q
  ·exact(Y b A).2.2.1 q
 ·-- a B name
  have hi:i<qD.length:=by
   rcases cE i qD.length with q|q
   ·exact q
   ·unfold L2.picked at f;rw[bQ (by simpa using q)]at f;cases f
  obtain⟨o,J⟩:∃o,qD[i]?=some o:=⟨qD[i],by simp[hi]⟩;unfold L2.picked at f;rw[bO,J]at f;cases o with
  |none=>cases f
  |some j =>
   have f:some ((σ[j]?).join)=some (some v):=f;have U:N'[i]?=some x:=U;have hz:(some j,x)∈qD.zip N':=by
    refine aM (i:=i) ?_;rw[getElem?_zip_eq_some];exact⟨J,U⟩
   obtain⟨c1,c2⟩:=(S.cap _ hz).resolve_left (λz=>nomatch z);have c1:N[j]?=some x:=c1;have e3:σ[j]?=some (some v):=by
    have q:=oI f;cases D:σ[j]? with
    |none=>rw[D]at q;cases q
    |some y=>rw[D]at q;exact aT some q
   rw[<-hN]at c1;obtain⟨m0,a5,a2⟩:=I.loc;have kq:=S.has (x,.free) c2 rfl;rw[<-G]at kq;obtain⟨u,r,l⟩:=a2 j x v c1 e3 (kq.elim (λz=>.inr (.inl z)) λz=>.inr (.inr z));refine⟨u,r,?_⟩;obtain⟨c,Q⟩:=T x c2;obtain⟨c',O⟩:=Option.isSome_iff_exists.mp (Gu (cs:=[]) Q c2);have a4:c'=c:=oI ((sub x c' O).symm.trans Q);subst a4;have a0:(compEnvC scope (BO X.env.cells scope.names []) C X.env).kindOf x=some .cell\/(compEnvC scope (BO X.env.cells scope.names []) C X.env).kindOf x=some .free:=by
    exact Ko (S.free (x,.free) c2 rfl)
   rcases l with⟨k,_⟩|⟨_,a7,M,w⟩
   ·exfalso;have k:X.env.scope.names.lookup x=some .local:=k;rcases kq with z|z
    ·rw[k]at z;cases z
    ·rw[k]at z;cases z
   ·rw[Q]at M;cases M;obtain⟨oc,g,hd⟩:=w;exact .inr ⟨a0,c',O,oc,L _ _ g,hd⟩
 ·obtain⟨v,oc,g,hd⟩:=I.cell x c (sub x c e);exact⟨v,oc,L _ _ g,hd⟩
 ·have a1:p∈X.pn++qA:=by
   have hp:p∈(X.pn++qA)++[]:=hp;simpa using hp
  obtain⟨e,n,ne,nf,d⟩:=I.pin p a1;refine⟨L _ _ e,n,λz=>?_,λz=>?_,d⟩
  ·have z:p.1=C:=z;exact bS (aU (bN e) (z▸hC)) (aX _)
  ·rcases aF.mp (I.stkSub _ z)with q|q
   ·exact ne q
   ·exact nf q
 ·unfold L2.picked;rw[aA];exact S.len
theorem Oj{Q:VK}{a:Option (Value->Sem Unit)}{QQ:VS}
  (S:CompScope N sc N' qD scope) (u:X.N=N) (d:X.env.scope=sc) (r:X.calm=true) (hi:PI X tg iter wi) (l:EL qD g)
  (n:∀p,PG (X.comp N' scope p) tg g) (i:∀p,EK (X.comp N' scope p) ifs tt) (o:∀p,PE (X.comp N' scope p) ce te) (j:∀x,foldedSetIterable iter X.env x=pure x)
  (I:Inv X qA σ H s) (h:FX wi qD g tt te σ H Q)
  (fin:∀(D C:Addr) (H':Hp) (s':Shared) (m:Str->Ex),Inv X qA σ H' s'->Q (.ref D) H'->H' C=none->C≠X.env.locals->X.s₀.heap.objs.size<=C->(∀x c,X.env.cells.lookup x=some c->c≠C)->(∀p∈X.pn++qA,p.1≠C)->s'.heap.Ns C m ->
   compPost (model X.prog X.w) X.A X.xe a QQ (.ref D) C (.ok .next) s') :
  wpAny (model X.prog X.w) X.A (comprehension (.ListComp ce [⟨tg,iter,ifs,0⟩] scope pos) scope X.env (firstIterPos [⟨tg,iter,ifs,0⟩] pos) (newList []) false (eval iter X.env) a) QQ X.xe s:=by
 have e:∀p,X.compC N' scope p=X.comp N' scope p:=λp=>by
  have:(λx=>scope.names.lookup x==some NameKind.cell)=λ_=>false:=funext λx=>by
   cases h:scope.names.lookup x==some NameKind.cell with
   |false=>rfl
   |true=>exact bS rfl (S.nocell _ (EM (aV h)))
  unfold Cx.compC;rw[this];rfl
 exact Oi ⟨S.kind,λy f q=>bS q (S.nocell y f),S.names,S.free,S.has,S.len,S.cap⟩ u d r hi l (λp=>e p▸n p) (λp=>e p▸i p) (λp=>e p▸o p) j I h fin
theorem Ol(S:CompScope N sc N' qD scope)(z:X.calm=true)(hi:PI X tg iter wi)(v:EL qD g)
  (w:∀p,PG (X.comp N' scope p) tg g) (n:∀p,EK (X.comp N' scope p) ifs tt) (y:∀p,PE (X.comp N' scope p) ce te) (B:X.N=N:=by rfl) (a:X.env.scope=sc:=by rfl) (r:∀x,foldedSetIterable iter X.env x=pure x:=by intro _;rfl) :
  PE X (.ListComp ce [⟨tg,iter,ifs,0⟩] scope pos) (FX wi qD g tt te):=by
 intro qA s σ H Q I h;rw[eval_ListComp];refine Oj S B a z hi v w n y r I h λD C H' s' m IO q l j i f d u=>?_;exact⟨m,u,λh' c=>⟨.ref D,H',IO.turned (t':=s'.toks) (λb o A e=>(c.2 b A).trans e) l (Ne.symm (Ne.symm j)) (.inr i) f d,rfl,q⟩⟩
theorem V0{c:Pos}(S:CompScope N sc N' qD scope)(n:X.N.Nodup)(r:X.N[i]?=some x)(J:CA X.env.scope x)(hc:X.calm=true)(hi:PI X tg iter wi)(T:EL qD g)
  (U:∀p,PG (X.comp N' scope p) tg g) (L:∀p,EK (X.comp N' scope p) ifs tt) (he:∀p,PE (X.comp N' scope p) ce te) (hN:X.N=N:=by rfl) (f:X.env.scope=sc:=by rfl)
  (d:swapsWith (.ListComp ce [⟨tg,iter,ifs,0⟩] scope pos) (some (.Name x pos')) c.line X.env=pure true:=by rfl) (M:∀x,foldedSetIterable iter X.env x=pure x:=by intro _;rfl)
  (Y:X.fn x=true\/X.env.scope.names.lookup x=some .local:=by trivial) :
  PS X (.Assign [.Name x pos'] (.ListComp ce [⟨tg,iter,ifs,0⟩] scope pos) c) (En (FX wi qD g tt te) (CI i)):=by
 intro qA s σ H D I h;rw[exec_Assign_Name_used _ _ _ _ d];refine wB (wpAny_standAt (wB ?_));show wpAny _ _ (do let _ <-comprehension (.ListComp ce [⟨tg,iter,ifs,0⟩] scope pos) scope X.env _ (newList []) false (eval iter X.env) (some (assign (.Name x pos') X.env))) _ _ s;refine wB (AG (Oj (QQ:=λ_ s'=>SP X qA D .next s') S hN f hc hi T U L he M I h λD' C H' s' m IO q G w E u B Q=>?_) λ_ s' O=>wP (wP O));refine wpAny_assign_Name (NZ (v:=V.ref D') IO n r J rfl (λy I2 ⟨a,j,ha⟩=>?_) Y);have A:C≠a:=by
  rcases ha with e|e
  ·rw[e];exact w
  ·exactλz=>u _ _ e z.symm
 refine⟨m,Q.sameBut j A,λh' l=>⟨_,H',I2.turned (t':=y.toks) (λb o hb e=>(l.2 b hb).trans e) G w (.inr E) u B,q⟩⟩
section
variable{K:Fg}{xs:dG}{Q:VK}{J:It}
theorem V1{y:Nat->V->Prop}(Pv:Addr->Nat->dG->Hp->Prop)(A:∀D,H D=none->Pv D 0 [] (AD H D (.lst [])))(w:∀D i ys H2,H D=none->i<=n->Pv D i ys H2->H2 D=some (.lst ys))
  (h:∀D i ys H2,H D=none->i<n->Pv D i ys H2->J.go i H2) (c:∀D ys H2,H D=none->Pv D n ys H2->J.stop n H2) (s:∀D i ys H2 x l,H D=none->i<n->Pv D i ys H2->J.yld i H2 x l->y i x/\l=H2)
  (u:∀D,H D=none->∀i x ys H2,i<n->y i x->Pv D i ys H2->g x (L2.picked σ qD) H2 λf B=>tt f B λb H5=>if b=true then te f H5 λy j=>j D=some (.lst ys)/\ys.length<sizeLine/\Pv D (i+1) (ys++[y]) (AD j D (.lst (ys++[y])))else Pv D (i+1) ys H5)
  (v:∀D ys H2,H D=none->Pv D n ys H2->Q (.ref D) H2):Kp J qD g tt te σ Q H:=by
 intro D d;refine⟨λi m ys H2=>m=n - i/\i<=n/\Pv D i ys H2,⟨n,by simp,cD _,A D d⟩,?_⟩;rintro i m ys H2 ⟨rfl,hi,p⟩;refine⟨w D i ys H2 d hi p,?_⟩;by_cases a:i<n
 ·refine .inr ⟨h D i ys H2 d a p,Pv D (i+1),λzs H' r=>⟨n - (i+1),⋯,rfl,a,r⟩,λx H' z=>?_⟩;obtain⟨q,o⟩:=s D i ys H2 x H' d a p z;subst o;exact u D d i x ys _ a q p
 ·have e:i=n:=⋯;subst e;exact .inl ⟨c D ys H2 d p,v D ys H2 d p⟩
theorem V2{lo:Int}(Pv:Addr->Nat->dG->Hp->Prop)(l:∀D,H D=none->Pv D 0 [] (AD H D (.lst [])))(j:∀D i ys H2,H D=none->i<=n->Pv D i ys H2->H2 D=some (.lst ys))
  (f:∀D,H D=none->∀(i:Nat) ys H2,i<n->Pv D i ys H2->g (.int (lo+i)) (L2.picked σ qD) H2 λa o=>tt a o λb H5=>if b=true then te a H5 λy d=>d D=some (.lst ys)/\ys.length<sizeLine/\Pv D (i+1) (ys++[y]) (AD d D (.lst (ys++[y])))else Pv D (i+1) ys H5)
  (h:∀D ys H2,H D=none->Pv D n ys H2->Q (.ref D) H2):Kp (DJ lo n) qD g tt te σ Q H :=
 V1 (n:=n) (y:=λi x=>x=.int (lo+i)) Pv l j (λD i ys H2 c hi p=>hi) (λD ys H2 c p=>aQ _) (λD i ys H2 x q c hi p z=>⟨z.2,z.1⟩)
  (λD c i x ys H2 hi e p=>by subst e;exact f D c i ys H2 hi p) h
end
def Om:V->Option Int->Option Int->Hp->VK->Prop:=λx lo hi H Q=>∃z,x=.str z/\z.length<=sizeLine/\Q (.str (Txt.slice z lo hi)) H
theorem Oo{v:Value}{o:Option Int}(h:IsPart v o):∃l:Option (Int×Tok),l.map (·.1)=o/\partValue l=v:=by
 cases h with
 |none=>exact⟨none,rfl,rfl⟩
 |int i t=>exact⟨some (i,t),rfl,rfl⟩
theorem Op:C4 X Om:=by
 intro qA s σ H x v g f lo hi i Q I a e pl c h;obtain⟨z,rfl,d,q⟩:=h;obtain⟨t,rfl⟩:=a;obtain⟨l,rfl,rfl⟩:=Oo pl;obtain⟨u,rfl,rfl⟩:=Oo c;refine⟨"str",_,F.slot_str_getitem.lookup,typeIs_str _ _ _,wpAny_getItem_str_slice (l:=l) (u:=u) (st:=none) e rfl ?_⟩;exact post_val_or_str ⟨aR (Txt.slice_le z _ _) d,λt' k=>⟨.str (Txt.slice z _ _),H,I.tok k,⟨t',rfl⟩,q⟩⟩
theorem Gw:∀{ys:At} {us:Do},AQ (ys.map V.str) us->StrsAre us ys
 |[],_,.nil=>.nil
 |y::ys,_,.cons ⟨t,e⟩ r=>by subst e;exact .cons y t (Gw r)
def V3(K:Fg):V->dG->Hp->VK->Prop:=λx vs H Q=>∃z p ys,x=.str z/\vs=[.ref p]/\Aq K H p (ys.map V.str)/\(ys.map (·.length)).sum+ys.length * z.length<=16777216/\Q (.str (Txt.join z ys)) H
theorem V4:Gh X "str.join" (V3 X.K):=by
 intro qA s σ H x vs v us Q I c rv h;obtain⟨z,p,ys,rfl,rfl,e,a,q⟩:=h;obtain⟨t,rfl⟩:=c;obtain⟨u,rfl,d⟩:=rv.one;cases d;obtain⟨qH,r,pl,f⟩:=I.list e;exact join_list pl.isList (Gw (by simpa using r)) a λt' k=>⟨.str _,H,I.tok k,⟨t',rfl⟩,q⟩
theorem Kr:∀{bs:List Bool} {us:Do},AQ (bs.map V.bl) us->LSm.BoolsAre us bs
 |[],_,.nil=>.nil
 |b::bs,_,.cons e r=>by cases e;exact .cons b (Kr r)
theorem IW(n:X.calm=true):BJ X (.builtin "all") (λxs H Q=>∃(p:Addr) (bs:List Bool),xs=[.ref p]/\Aq X.K H p (bs.map V.bl)/\Q (.bl (bs.all id)) H):=by
 intro qA s σ H xs us Q I r h;obtain⟨p,bs,rfl,j,q⟩:=h;obtain⟨u,rfl,g⟩:=r.one;cases g;obtain⟨qH,r,pl,w⟩:=I.list j;have d:=Kr r;have c:=pl.isList;have a:p<s.heap.objs.size:=by obtain⟨_,e,_⟩:=c;exact bN e
 refine call_all_walk (wpAny_pyIter_list c ?_);refine⟨s.heap.objs.size,[s.heap.objs.size,p],[s.heap.objs.size],qH.toArray.size,_,_,λi=>(bs[i]?).getD true,rfl,Walks.list (A:=X.A.in1) (I.ok.hd n) _ p (bX a) qH.toArray,
  ⟨⟨_,bP _ rfl,rfl,rfl⟩,c.push _⟩,λi v s' x y o f=>?_,λh' tk l=>?_⟩
 ·obtain⟨b,e,rfl⟩:=d.get i v (by simpa using o);simp only[e,Option.getD_some]at f;exact wpAny_truthy_bool f
 ·have e:((List.range qH.toArray.size).all λi=>(bs[i]?).getD true)=bs.all id:=by
   rw[size_toArray,d.length];exact LSm.range_all bs
  rw[e];exact⟨.bl _,H,I.kept (t':=tk) (LSm.kept_iter l),rfl,q⟩
theorem V5:BJ X (.builtin "isinstance") (λxs H Q=>∃x t n b,xs=[x,.ty n]/\TyOf X.K H x t/\PySem.W.kitOne X.K t (.type n)=some b/\Q (.bl b) H):=by
 intro qA s σ H xs us Q I r h;obtain⟨x,t,n,b,rfl,ty,e,q⟩:=h;obtain⟨u,v,rfl,a,rv⟩:=r.two;cases(show v=Value.type n from rv);exact Uy I a ty e λtk=>⟨.bl b,H,I.tok tk,rfl,q⟩
theorem Oq:A1 X (binaryOp .FloorDiv) (rI (λ_ j=>0<j/\j<2 ^ 64) λi j=>.int (i / j)):=II λi j t u s E Q a q=>by
 have e:i.fdiv j=i / j:=Int.fdiv_eq_ediv_of_nonneg _ (Int.le_of_lt a.1);refine floordiv_int (Int.ne_of_gt a.1) (by rw[e];exact q) (.inl (PyProof.noPylong_of_log2 ?_));have h:j.natAbs<2 ^ 64:=by have:=a.2;lia
 have c:j.natAbs≠0:=by have:=a.1;lia
 exact aU ((Nat.log2_lt c).mpr h) (by decide)
def Ks:R2:=λx y H Q=>∃p i xs,x=.ref p/\y=.int i/\H p=some (.lst xs)/\∃v,atI xs i=some v/\Q v H
theorem Cb:Et X Ks:=λvalue a qA s σ H x y v u Q I d c ⟨p,i,xs,j,g,h,w,e,q⟩ f=>OK value a qA s σ H x y v u Q I d c ⟨p,xs,i,w,j,g,.of h,e,q⟩ f
theorem Os:Nf X Ks:=by
 intro qA s σ H o i A B Q I g l h;obtain⟨p,k,xs,rfl,rfl,n,z,v,q⟩:=h;cases g;obtain⟨t,rfl⟩:=l;obtain⟨qH,r,pl,C⟩:=I.list (.of n);obtain⟨j,h1,h2,E,y,x⟩:=IN v;obtain⟨w,f,c⟩:=r.get h2;have u:=r.length;have D:=Ep;have a:EP X qA σ Q w s:=⟨z,H,I,c,q⟩;by_cases e:0<=k
 ·have d:k.toNat=j:=by
   rw[seqIndex_of e x]at h1;exact oI h1
  exact wpAny_getItem_list pl.isList e ⋯ (by rw[d];simpa using f) a
 ·have d:(k+(qH.toArray.size:Int)).toNat=j:=by
   rw[seqIndex_neg ⋯ y]at h1;rw[size_toArray,<-u];exact oI h1
  exact wpAny_getItem_list_neg pl.isList ⋯ (by rw[size_toArray]<;>lia) ⋯ (by rw[d];simpa using f) a
theorem Kt:BJ X (.builtin "len") (λxs H Q=>∃p ys,xs=[.ref p]/\H p=some (.lst ys)/\Q (.int ys.length) H):=by
 intro qA s σ H xs us Q I r h;obtain⟨p,ys,rfl,a,q⟩:=h;exact OO qA s σ H _ us Q I r ⟨p,ys,rfl,.inl (.of a),q⟩
def Fn(P:Program)(w:World)(K:Fg)(mg:Str->Ex)(base:Heap)(x:Str)(k:Nat)(ps:At)(sp:Sp):Prop :=
 ∃(f:Addr) (fd:FuncData),FnOk P w K mg base Dd k f fd ps sp/\mg x=some (.ref f)/\PySem.W.keepIn K (.ref f)=true/\FV K fd ps []
theorem Ev{k:Nat}{sp:Sp}{p:Pos}{e:Expr}{t:TA}(G:Fn X.prog X.w X.K X.mg X.base x k ps sp)(d:Room k X.A)(i:Gl X x)
  (n:PA X (e::es) t) (c:(x==("__debug__":Str))=false:=by decide +kernel) (j:starEach (e::es) X.env=(false,eval e X.env)::starEach es X.env:=by rfl) (a:(backTo pos (starEach es X.env)).any (·.1)=false:=by rfl) :
  PE X (.Call (.Name x p) (e::es) [] pos) (Gb sp [] E0 t):=by
 obtain⟨f,fd,F,g,h,l⟩:=G;exact U2 F d i g h l .nil Vr n c j a
def Aw(K:Fg)(mg:Str->Ex)(x:Str)(st:Stmt):Prop:=∃(f:Addr) (fd:FuncData),Fun K x x st f fd/\mg x=some (.ref f)
theorem FY{P:Program}{K:Fg}{st:Stmt}{k:Nat}{sp:Sp}(D:Aw K mg x st)(S:FnScope N ps (AR st))
  (g:∀(kV doc d:Value) (h:Go) (a ct:Value) (us:Do),us.length=ps.length->bindArgs (PySem.W.fnOf x x (Dc st) (Cr st) (AR st) .none kV doc d h a ct) ⟨us,[]⟩=pure (ps.zip us))
  (len:∀vs H Q E,sp vs H Q E->vs.length=ps.length)
  (c:∀(f:Addr) (a:Value) (A:Around) (outer:List Env) (s:Shared) (H:Hp) (vs:dG) (Q:VK) (E:XK),Room k (A.deeper (PyProof.Rows.envOfC x (AR st) s.heap.objs.size f a))->sp vs H Q E ->
   ∃t,Bf (EH Dd P w K mg base N x (AR st) f a A outer s H E).nox (Cr st) t/\t { nx:=λ_ H'=>Q .non H',rt:=Q } (Ca N vs) H):Fn P w K mg base x (k+1) ps sp:=by
 obtain⟨f,fd,F,e⟩:=D;exact⟨f,fd,F.ok S len (c f),e,F.kp,F.binds g⟩
theorem Ew:BJ X (.type "list") (λxs H Q=>∃p ys,xs=[.ref p]/\(H p=some (.lst ys)\/H p=some (.tup ys))/\∀l,H l=none->Q (.ref l) (AD H l (.lst ys))):=by
 intro qA s σ H xs us Q I r h;obtain⟨p,ys,rfl,a,q⟩:=h;exact VT qA s σ H _ us Q I r ⟨p,ys,rfl,a.elim (λz=>.inl (.of z)) (λz=>.inr (.of z)),q⟩
theorem EN:BJ X (.type "tuple") (λxs H Q=>∃p ys,xs=[.ref p]/\H p=some (.lst ys)/\∀l,H l=none->Q (.ref l) (AD H l (.tup ys))):=by
 intro qA s σ H xs us Q I r h;obtain⟨p,ys,rfl,a,q⟩:=h;exact VU qA s σ H _ us Q I r ⟨p,ys,rfl,.inl ⟨.of a,q⟩⟩
theorem V6{k:Nat}(h:k<=x.length):(Txt.slice x none (some (k:Int))).cps.toList=x.cps.toList.take k:=by
 have e:=beq_iff_eq.mp (slice_closes_to (x:=x) (j:=(k:Int)) ⟨⋯,by have:x.cps.toList.length=x.length:=bR;lia⟩);rw[e];simp
theorem V7:∀ys:At,(Txt.join ⟨#[]⟩ ys).cps.toList=(ys.map (·.cps.toList)).flatten:=by
 have c:∀ys:At,(Str.join ⟨#[]⟩ ys).cps.toList=(ys.map (·.cps.toList)).flatten:=by
  intro ys
  induction ys with
  |nil=>rfl
  |cons y r a =>
   cases r with
   |nil=>simp[Str.join]
   |cons z r =>
    have e:Str.join ⟨#[]⟩ (y::z::r)=y++⟨#[]⟩++Str.join ⟨#[]⟩ (z::r):=rfl;rw[e];show((y.cps++#[])++(Str.join ⟨#[]⟩ (z::r)).cps).toList=_;rw[cI,a];simp
 intro ys;have e:=beq_iff_eq.mp (join_plain_closes ⟨#[]⟩ ys);rw[e];exact c ys
theorem Ku:∀{ys:At} {us:Do},StrsAre us ys->AQ (ys.map V.str) us
 |_,_,.nil=>.nil
 |_,_,.cons y t r=>.cons ⟨t,rfl⟩ (Ku r)
theorem V8(_:True):BJ X (.builtin "sorted") (λxs H Q=>∃(p:Addr) (ss:At),xs=[.ref p]/\H p=some (.lst (ss.map V.str))/\ss.length<64/\∀(l:Addr) (a:At),H l=none->a.Perm ss->sortedS a=true->Q (.ref l) (AD H l (.lst (a.map V.str)))):=by
 intro qA s σ H xs us Q I r h;obtain⟨p,ss,rfl,d,j,q⟩:=h;obtain⟨u,rfl,c⟩:=r.one;cases c;obtain⟨qH,r,pl,v⟩:=I.list (.of d);have i:=Gw r;have f:=r.length;rw[aA]at f;refine sorted_strs pl.isList i ⋯ λout a h1 h2 n=>?_;obtain⟨e,g⟩:=sortedAll_at s.heap qH out;refine⟨.ref (s.heap.objs.size+1),_,I.laid (t':=s.toks) (o:=.lst (a.map V.str)) (λb o q=>sortedAll_old q) (cR _) ?_,rfl,q _ a (I.hok.fresh (cR _)) h2 n⟩;refine⟨?_,out.toList,e,Ku h1,g⟩;rw[aA,h2.length_eq];exact aY (Dx ⋯)
theorem Ot(z:Str):∀xs:At,IR (.str z) (xs.map V.str)=decide (z∈xs)
 |[]=>rfl
 |x::r=>by
  have a:=Ot z r;unfold IR at a ⊢;rw[map_cons,any_cons,a];by_cases e:x=z
  ·subst e;simp[Db]
  ·have c:¬z=x:=λh=>e h.symm;simp[Db,e,c]
theorem Ou:∀xs:At,(xs.map V.str).all Dv=true
 |[]=>rfl
 |x::r=>by rw[map_cons,all_cons,Ou r];rfl
theorem V9:A1 X (compareOp .In) (λx y H Q=>∃(z:Str) (p:Addr) (xs:At),x=.str z/\y=.ref p/\(H p=some (.lst (xs.map V.str))\/H p=some (.tup (xs.map V.str)))/\Q (.bl (decide (z∈xs))) H):=by
 intro qA s σ H x y v u Q I c a h;obtain⟨z,p,xs,rfl,rfl,d,q⟩:=h;refine VR qA s σ H _ _ v u Q I c a ⟨p,xs.map V.str,rfl,d.elim (λz=>.inl (.of z)) (λz=>.inr (.of z)),rfl,Ou xs,?_⟩;rw[Ot];exact q
open PySem.Builtin PySem.Builtin.Str in
theorem Kv(h:0<x.length):(Txt.slice x none (some (-1))).cps.toList=x.cps.toList.take (x.length - 1):=by
 have e:Txt.slice x none (some (-1))=Txt.slice x none (some (((x.length - 1:Nat)):Int)):=by
  unfold Txt.slice;have a:strSliceIndices none (some (-1)) 1 x.length=strSliceIndices none (some (((x.length - 1:Nat)):Int)) 1 x.length:=by
   unfold strSliceIndices;have d:(-1:Int)<0:=by decide
   have c:¬(((x.length - 1:Nat)):Int)<0:=⋯;simp only[d,c,dC,if_false,show(1:Int) > 0 by decide]
   congr 1
   lia
  rw[a]
 rw[e];exact V6 ⋯
theorem Bf.weak{st:He}{u m:TS}(h:Bf X st u)(hw:∀D σ H,m D σ H->u D σ H):Bf X st m:=λqA s σ H D I q=>h qA s σ H D I (hw D σ H q)
end L2
namespace HT
open PySem PySem.Spec PyProof.Rows
theorem getItem_tuple_whole{t c:Addr}{items:FG}{i g:Value}{lo hi:Option Int}(a:IsTup s.heap t items)(j:s.heap.IsSliceOf c i g .none)(pl:IsPart i lo)(l:IsPart g hi)
  (hw:sIx items.size 0 lo=0/\sIx items.size items.size hi=items.size) (h:Q (.ref t) s):wpAny (model prog w) A (getItem (.ref t) (.ref c)) Q E s:=by
 obtain⟨os,d,e,n⟩:=id j;have f:s.TypeIs (.ref c) "slice":=⟨os,d,e⟩;unfold getItem
 try with_reducible refine bM ?_
 first|refine wB (wP ?_)|skip
 refine wB (wpAny_sequenceKey a.typeIs (by decide) ?_);refine wB (wpAny_callSpecial?_slot (name:=Str.ofString "__getitem__") a.typeIs PyProof.Rows.slot_tuple_getitem
  (cP PyProof.Rows.slot_tuple_getitem a.typeIs entry_tuple_getitem ?_ (args_tuple_getitem _ _)))
 show wpAny _ _ (Builtin.Tuple.tupleItemsOf (.ref t) >>= _) _ _ s;refine wB (tupleItemsOf_ a (wB (wpAny_typeOf f ?_)));rw[aC (by decide)];refine wB (OD j pl l ?_);show wpAny _ _ (if(((sIx items.size 0 lo:Nat):Int)==0&&(1:Int)==1&&(sIx items.size items.size hi - sIx items.size 0 lo)==items.size)=true then _ else _) _ _ s;rw[aC (by rw[hw.1,hw.2];simp)];unfold Builtin.Tuple.tupleIsExact;refine wB (wB (wpAny_typeOf a.typeIs (wP ?_)));simp only[beq_self_eq_true,dC]
 first
  |exact wB (wpAny_rule (wP ⟨_,rfl,wP h⟩))
  |exact wB (wpAny_rule (wB (wP (wP ⟨_,rfl,wP h⟩))))
  |exact wB (wB (wpAny_rule (wP (wP ⟨_,rfl,wP h⟩))))
end HT
namespace L2
open PySem PySem.Spec PyProof.Rows
theorem Inv.turnedL{ch:Ha}(I:Inv X qA σ H s)(k:∀b o,b∉ch->s.heap.get? b=some o->h'.get? b=some o)(d:∀b∈ch,Bq X qA H b):Inv X qA σ H { s with heap:=h',toks:=t' }:=by
 have f:∀b u,H b=some u->b∉ch:=λb u e z=>by rw[(d b z).1]at e;cases e
 refine I.step (g':=s.gens) (d':=s.drawn) (ch:=ch) (λb hb=>⟨(d b hb).2.2.2.1,(d b hb).2.1,(d b hb).2.2.2.2.1,(d b hb).2.2.2.2.2⟩) (λb o _ _ a e _=>k b o a e) (λb o _ _ a e _=>⟨o.slots,k b o a e⟩) (λ_ _ _ _ n=>n)
  (λb o a e=>⟨o,k b o a e⟩) (λ_ _ e=>e) (λ_ _ _ e=>e) (λb ps e=>⟨#[],by rw[e];simp⟩) (λm hm=>?_) (λb u e=>?_) I.bare
 ·obtain⟨o,es,ep,g,r⟩:=hm;exact⟨o,es,ep,k _ o (λz=>(d _ z).2.1 rfl) g,r⟩
 ·refine(I.hok b u e).stay (λc v a q=>k c v ?_ q) (λ_ q=>q) λ_ _ q=>q;rcases a with z|z
  ·rw[z];exact f b u e
  ·exact f c _ z
theorem WA:bootBuiltins "zip"=some (.type "zip"):=by decide +kernel
def Ov:V->Option Int->Option Int->Hp->VK->Prop:=λx lo hi H Q=>∃a xs,x=.ref a/\H a=some (.tup xs) /\
 ((HT.sIx xs.length 0 lo=0/\HT.sIx xs.length xs.length hi=xs.length)->Q (.ref a) H) /\
 (¬(HT.sIx xs.length 0 lo=0/\HT.sIx xs.length xs.length hi=xs.length)->∀p,H p=none->Q (.ref p) (AD H p (.tup (C5 xs lo hi))))
theorem WC:C4 X Ov:=by
 intro qA s σ H x v n l lo hi o Q I e j pl f h;obtain⟨a,xs,rfl,g,h1,h2⟩:=h;by_cases d:HT.sIx xs.length 0 lo=0/\HT.sIx xs.length xs.length hi=xs.length
 ·cases e;obtain⟨qH,r,i,p⟩:=I.tuple (.of g);have c:qH.toArray.size=xs.length:=by rw[size_toArray];exact r.length.symm
  exact⟨"tuple",_,PyProof.Rows.slot_tuple_getitem.lookup,i.typeIs,HT.getItem_tuple_whole i j pl f (by rw[c];exact d) ⟨.ref a,H,I,rfl,h1 d⟩⟩
 ·exact VF qA s σ H _ v n l lo hi o Q I e j pl f ⟨a,xs,rfl,.of g,d,h2 d⟩
end L2
namespace L2
open PySem PySem.Spec PyProof.Rows PySem.W
def ev{α:Type}(lt:Nat->Nat->Bool):KasT α->α
 |.ret a=>a
 |.ask i j k=>ev lt (k (lt i j))
theorem FZ:∀a:By,HT.lexLt a a=false
 |[]=>rfl
 |x::r=>by rw[HT.lexLt_cons,aC rfl];exact FZ r
theorem Gx:∀a b c:By,HT.lexLt a b=true->HT.lexLt b c=true->HT.lexLt a c=true
 |[],[],c,h,_=>by simp[HT.lexLt]at h
 |[],_::_,[],_,h=>by simp[HT.lexLt]at h
 |[],_::_,_::_,_,_=>rfl
 |_::_,[],_,h,_=>by simp[HT.lexLt]at h
 |_::_,_::_,[],_,h=>by simp[HT.lexLt]at h
 |x::xs,y::ys,z::zs,h1,h2=>by
  rw[HT.lexLt_cons]at h1 h2 ⊢;by_cases e:x=y
  ·subst e;rw[aC rfl]at h1;by_cases d:x=z
   ·subst d;rw[aC rfl]at h2 ⊢;exact Gx xs ys zs h1 h2
   ·rw[aB d]at h2 ⊢;exact h2
  ·rw[aB e]at h1;have h1:=aL h1;by_cases d:y=z
   ·subst d;rw[aB e];exact aK h1
   ·rw[aB d]at h2;have h2:=aL h2;rw[aB ⋯];exact aK ⋯
theorem Fa:∀a b:By,HT.lexLt a b=false->HT.lexLt b a=false->a=b
 |[],[],_,_=>rfl
 |[],_::_,h,_=>by simp[HT.lexLt]at h
 |_::_,[],_,h=>by simp[HT.lexLt]at h
 |x::xs,y::ys,h1,h2=>by
  rw[HT.lexLt_cons]at h1 h2;by_cases c:x=y
  ·subst c;rw[aC rfl]at h1 h2;rw[Fa xs ys h1 h2]
  ·rw[aB c]at h1;rw[aB (λz=>c z.symm)]at h2;have h1:=of_decide_eq_false h1;have h2:=of_decide_eq_false h2;lia
theorem Kw(a b c:By)(h:HT.lexLt a c=true):HT.lexLt a b=true\/HT.lexLt b c=true:=by
 cases h1:HT.lexLt a b
 ·cases h2:HT.lexLt b c
  ·exfalso;cases d:HT.lexLt b a
   ·rw[Fa a b h1 d,h2]at h;cases h
   ·have:=Gx b a c d h;rw[h2]at this;cases this
  ·exact .inr rfl
 ·exact .inl rfl
def Df:KeyOrd:=⟨By,HT.lexLt,FZ,Gx,Kw,Fa⟩
theorem Ox{prog:Program}{w:World}{A:Around}{s:Shared}{Q:Bool->Shared->Prop}:∀{us vs:Do} {ns ms:By} (i:Nat),IntsAre us ns->IntsAre vs ms->ns.length=ms.length->Q (HT.lexLt ns ms) s->KatLex prog w A true false Q (us.zip vs) i s
 |_,_,_,_,i,.nil,.nil,_,q=>q
 |_,_,_,_,i,.nil,.cons _ _ _,d,_=>by simp at d
 |_,_,_,_,i,.cons _ _ _,.nil,d,_=>by simp at d
 |_,_,_,_,i,.cons a t g,.cons c u f,d,q=>by
  rw[zip_cons_cons];refine kat_cons (SeqAt.EqAt.int_int a t c u prog w _ _ ?_);rw[HT.lexLt_cons]at q;by_cases e:a=c
  ·rw[aC e]at q;rw[show(a==c)=true by simpa using e];exact kat_yes (Ox (i+1) g f (by simpa using d) q)
  ·rw[aB e]at q;rw[show(a==c)=false by simpa using e];refine kat_no ?_;by_cases hi:i=0
   ·subst hi;exact kat_lt_int (E:=λ_ _=>False) q
   ·rw[show(true&&i==0)=false by simp[hi]];exact kat_one _ _ (lt_int (E:=λ_ _=>False) q)
end L2
namespace L2
open PySem PySem.Spec PyProof.Rows
abbrev Dy(a:Addr)(i c z:Int):HO:=.lst [.ref a,.int i,.int c,.int z]
structure Bag(H:Hp)(b a:Addr):Prop where
 ob:∃(ns:By) (i c z:Int),H b=some (Dy a i c z)/\H a=some (.lst (ns.map V.int))/\0<=i/\a≠b
structure Step(b a:Addr)(H H':Hp):Prop where
 bag:Bag H' b a
 same:∀p o,p≠b->H p=some o->H' p=some o
section
variable{b D:Addr}
theorem Step.refl(h:Bag H b a):Step b a H H:=⟨h,λ_ _ _ e=>e⟩
theorem Step.trans(x:Step b a H H1)(y:Step b a H1 H2):Step b a H H2:=⟨y.bag,λp o n e=>y.same p o n (x.same p o n e)⟩
theorem Bag.put(h:Bag H b a)(nb:p≠b)(na:p≠a):Bag (AD H p o) b a:=by
 obtain⟨ns,i,c,z,h1,h2,r⟩:=h;exact⟨ns,i,c,z,by rw[AK nb.symm];exact h1,by rw[AK na.symm];exact h2,r⟩
theorem Bag.atb(h:Bag H b a):∃l,H b=some (.lst l):=by
 obtain⟨ns,i,c,z,h1,_⟩:=h;exact⟨_,h1⟩
theorem Bag.ata(h:Bag H b a):∃l,H a=some (.lst l):=by
 obtain⟨ns,i,c,z,h1,h2,_⟩:=h;exact⟨_,h2⟩
theorem Bag.nb(h:Bag H b a)(n:H p=none):p≠b:=by
 obtain⟨l,h1⟩:=h.atb;exact(A2 h1 n).symm
theorem Bag.na(h:Bag H b a)(n:H p=none):p≠a:=by
 obtain⟨l,h1⟩:=h.ata;exact(A2 h1 n).symm
theorem Bag.new(h:Bag H b a)(n:H p=none):Bag (AD H p o) b a:=h.put (h.nb n) (h.na n)
theorem Step.new(h:Bag H b a)(n:H p=none):Step b a H (AD H p o):=⟨h.new n,λq u _ e=>by rw[AK (A2 e n)];exact e⟩
theorem Bag.neT(h:Bag H b a){xs:dG}(e:H p=some (.tup xs)):p≠b/\p≠a:=by
 obtain⟨ns,i,c,z,h1,h2,_⟩:=h;exact⟨EC e h1 (λz=>by cases z),EC e h2 (λz=>by cases z)⟩
theorem Step.free(s:Step b a H H1)(n:H1 p=none):H p=none:=by
 cases e:H p with
 |none=>rfl
 |some o =>
  rw[s.same p o (s.bag.nb n) e]at n;cases n
end
abbrev AY(r:By):List AO:=r.map Sum.inl
abbrev Dz(x:Str):AO:=Sum.inr x
inductive P where
 |non|bl (b:Bool)|int (i:Int)|str (x:Str)|bag
 |tup (xs:List P)|lst (xs:List P)
 |dT (ks:List By) (vs:List P)|dK (ks:At) (vs:List P)
 |fT (ks:List By) (vs:List P)
abbrev dH:=List P
mutual
def P.imm:P->Bool
 |.lst _=>false|.dT _ _=>false|.dK _ _=>false|.fT _ _=>false
 |.tup xs=>P.imms xs
 |.non=>true|.bl _=>true|.int _=>true|.str _=>true|.bag=>true
def P.imms:dH->Bool
 |[]=>true
 |x::r=>x.imm&&P.imms r
end
def P.mut:P->Bool
 |.lst _=>true|.dT _ _=>true|.dK _ _=>true|.fT _ _=>true|_=>false
theorem WD{x:P}(h:x.mut=true):x.imm=false:=by cases x<;>simp_all [P.mut,P.imm]
def P.items:P->Option dH
 |.lst xs=>some xs|.tup xs=>some xs|_=>none
def Fz(H:Hp)(p:Addr)(qI:List (List AO×V)):Prop:=∃o,H p=some (.frz o (.dT qI))
theorem Fz.map{qI:List (List AO×V)}(h:Fz H p qI)(k:∀o,H p=some o->H' p=some o):Fz H' p qI:=let⟨o,e⟩:=h;⟨o,k _ e⟩
mutual
def Rp(b:Addr)(Z:Addr->Prop)(H:Hp):P->V->Prop
 |.non,v=>v=.non
 |.bl k,v=>v=.bl k
 |.int i,v=>v=.int i
 |.str x,v=>v=.str x
 |.bag,v=>v=.ref b
 |.tup xs,v=>∃p vs,v=.ref p/\H p=some (.tup vs)/\AB b Z H xs vs
 |.lst xs,v=>∃p vs,v=.ref p/\¬Z p/\H p=some (.lst vs)/\AB b Z H xs vs
 |.dT ks xs,v=>∃p vs,v=.ref p/\¬Z p/\H p=some (.dT ((ks.map AY).zip vs))/\ks.length=xs.length/\AB b Z H xs vs
 |.fT ks xs,v=>∃p vs,v=.ref p/\¬Z p/\Fz H p ((ks.map AY).zip vs)/\ks.length=xs.length/\AB b Z H xs vs
 |.dK ks xs,v=>∃p vs,v=.ref p/\¬Z p/\H p=some (.dK ((ks.map Dz).zip vs))/\ks.length=xs.length/\AB b Z H xs vs
def AB(b:Addr)(Z:Addr->Prop)(H:Hp):dH->dG->Prop
 |[],vs=>vs=[]
 |x::xs,vs=>∃v r,vs=v::r/\Rp b Z H x v/\AB b Z H xs r
end
def Rc(b:Addr)(Z:Addr->Prop)(H:Hp):P->Addr->Prop
 |.lst xs,p=>∃vs,H p=some (.lst vs)/\AB b Z H xs vs
 |.dT ks xs,p=>∃vs,H p=some (.dT ((ks.map AY).zip vs))/\ks.length=xs.length/\AB b Z H xs vs
 |.fT ks xs,p=>∃vs,Fz H p ((ks.map AY).zip vs)/\ks.length=xs.length/\AB b Z H xs vs
 |.dK ks xs,p=>∃vs,H p=some (.dK ((ks.map Dz).zip vs))/\ks.length=xs.length/\AB b Z H xs vs
 |_,_=>False
section
variable{b:Addr}{Z':Addr->Prop}
mutual
theorem Rp.keep(a:∀p o,¬Z p->H p=some o->¬Z' p/\H' p=some o)(e:∀p vs,H p=some (.tup vs)->H' p=some (.tup vs)):∀{x:P} {v:V},Rp b Z H x v->Rp b Z' H' x v
 |.non,_,h=>h
 |.bl _,_,h=>h
 |.int _,_,h=>h
 |.str _,_,h=>h
 |.bag,_,h=>h
 |.tup xs,v,h=>by
  obtain⟨p,vs,h1,h2,c⟩:=h;exact⟨p,vs,h1,e p vs h2,AB.keep a e c⟩
 |.lst xs,v,h=>by
  obtain⟨p,vs,h1,h2,c,d⟩:=h;exact⟨p,vs,h1,(a p _ h2 c).1,(a p _ h2 c).2,AB.keep a e d⟩
 |.dT ks xs,v,h=>by
  obtain⟨p,vs,h1,h2,c,f,d⟩:=h;exact⟨p,vs,h1,(a p _ h2 c).1,(a p _ h2 c).2,f,AB.keep a e d⟩
 |.fT ks xs,v,h=>by
  obtain⟨p,vs,h1,h2,⟨o,c⟩,f,d⟩:=h;exact⟨p,vs,h1,(a p _ h2 c).1,⟨o,(a p _ h2 c).2⟩,f,AB.keep a e d⟩
 |.dK ks xs,v,h=>by
  obtain⟨p,vs,h1,h2,c,f,d⟩:=h;exact⟨p,vs,h1,(a p _ h2 c).1,(a p _ h2 c).2,f,AB.keep a e d⟩
theorem AB.keep(c:∀p o,¬Z p->H p=some o->¬Z' p/\H' p=some o)(a:∀p vs,H p=some (.tup vs)->H' p=some (.tup vs)):∀{xs:dH} {vs:dG},AB b Z H xs vs->AB b Z' H' xs vs
 |[],_,h=>h
 |x::xs,vs,h=>by
  obtain⟨v,r,h1,h2,d⟩:=h;exact⟨v,r,h1,Rp.keep c a h2,AB.keep c a d⟩
end
mutual
theorem Rp.imm:∀{x:P} {v:V},x.imm=true->Rp b Z H x v->Rp b Z' H x v
 |.non,_,_,h=>h
 |.bl _,_,_,h=>h
 |.int _,_,_,h=>h
 |.str _,_,_,h=>h
 |.bag,_,_,h=>h
 |.tup xs,v,hi,h=>by
  obtain⟨p,vs,h1,h2,a⟩:=h;exact⟨p,vs,h1,h2,AB.imm (by simpa[P.imm]using hi) a⟩
 |.lst _,_,hi,_=>by simp[P.imm]at hi
 |.dT _ _,_,hi,_=>by simp[P.imm]at hi
 |.fT _ _,_,hi,_=>by simp[P.imm]at hi
 |.dK _ _,_,hi,_=>by simp[P.imm]at hi
theorem AB.imm:∀{xs:dH} {vs:dG},P.imms xs=true->AB b Z H xs vs->AB b Z' H xs vs
 |[],_,_,h=>h
 |x::xs,vs,hi,h=>by
  obtain⟨v,r,h1,h2,a⟩:=h;rw[P.imms,cB]at hi;exact⟨v,r,h1,Rp.imm hi.1 h2,AB.imm hi.2 a⟩
end
theorem AB.length:∀{xs:dH} {vs:dG},AB b Z H xs vs->xs.length=vs.length
 |[],_,h=>by rw[show _=[]from h];rfl
 |x::xs,vs,h=>by
  obtain⟨v,r,h1,h2,a⟩:=h;rw[h1,length_cons,length_cons,AB.length a]
theorem AB.get:∀{xs:dH} {vs:dG} {i:Nat} {x:P},AB b Z H xs vs->xs[i]?=some x->∃v,vs[i]?=some v/\Rp b Z H x v
 |[],_,_,_,_,e=>by simp at e
 |y::xs,vs,0,x,h,e=>by
  obtain⟨v,r,h1,h2,a⟩:=h;simp at e;subst e;subst h1;exact⟨v,rfl,h2⟩
 |y::xs,vs,i+1,x,h,e=>by
  obtain⟨v,r,h1,h2,a⟩:=h;subst h1;obtain⟨u,d,c⟩:=AB.get (i:=i) a (by simpa using e);exact⟨u,by simpa using d,c⟩
theorem AB.app:∀{xs ys:dH} {vs us:dG},AB b Z H xs vs->AB b Z H ys us->AB b Z H (xs++ys) (vs++us)
 |[],_,_,_,h,g=>by rw[show _=[]from h];exact g
 |x::xs,ys,vs,us,h,g=>by
  obtain⟨v,r,h1,h2,a⟩:=h;subst h1;exact⟨v,r++us,rfl,h2,AB.app a g⟩
theorem AB.take:∀{xs:dH} {vs:dG} (n:Nat),AB b Z H xs vs->AB b Z H (xs.take n) (vs.take n)
 |_,_,0,_=>rfl
 |[],_,_+1,h=>by rw[show _=[]from h];rfl
 |x::xs,vs,n+1,h=>by
  obtain⟨v,r,h1,h2,a⟩:=h;subst h1;exact⟨v,r.take n,rfl,h2,AB.take n a⟩
theorem AB.drop:∀{xs:dH} {vs:dG} (n:Nat),AB b Z H xs vs->AB b Z H (xs.drop n) (vs.drop n)
 |_,_,0,h=>h
 |[],_,_+1,h=>by rw[show _=[]from h];rfl
 |x::xs,vs,n+1,h=>by
  obtain⟨v,r,h1,h2,a⟩:=h;subst h1;exact AB.drop n a
theorem AB.set{x:P}{v:V}(c:Rp b Z H x v):∀{xs:dH} {vs:dG} (n:Nat),AB b Z H xs vs->AB b Z H (xs.set n x) (vs.set n v)
 |[],_,_,h=>by rw[show _=[]from h];rfl
 |y::xs,vs,0,h=>by
  obtain⟨u,r,h1,h2,a⟩:=h;subst h1;exact⟨v,r,rfl,c,a⟩
 |y::xs,vs,n+1,h=>by
  obtain⟨u,r,h1,h2,a⟩:=h;subst h1;exact⟨u,r.set n v,rfl,h2,AB.set c n a⟩
theorem AB.snoc{xs:dH}{x:P}(h:AB b Z H xs vs)(g:Rp b Z H x v):AB b Z H (xs++[x]) (vs++[v]):=h.app ⟨v,[],rfl,g,rfl⟩
theorem AB.ints:∀{ns:By} {vs:dG},AB b Z H (ns.map P.int) vs↔vs=ns.map V.int
 |[],vs=>Iff.rfl
 |n::ns,vs=>by
  constructor
  ·rintro⟨v,r,h1,h2,a⟩;rw[h1,show v=.int n from h2,AB.ints.mp a];rfl
  ·intro h;exact⟨.int n,ns.map V.int,h,rfl,AB.ints.mpr rfl⟩
theorem AB.strs:∀{ns:At} {vs:dG},AB b Z H (ns.map P.str) vs↔vs=ns.map V.str
 |[],vs=>Iff.rfl
 |n::ns,vs=>by
  constructor
  ·rintro⟨v,r,h1,h2,a⟩;rw[h1,show v=.str n from h2,AB.strs.mp a];rfl
  ·intro h;exact⟨.str n,ns.map V.str,h,rfl,AB.strs.mpr rfl⟩
theorem AB.bls:∀{ns:List Bool} {vs:dG},AB b Z H (ns.map P.bl) vs↔vs=ns.map V.bl
 |[],vs=>Iff.rfl
 |n::ns,vs=>by
  constructor
  ·rintro⟨v,r,h1,h2,a⟩;rw[h1,show v=.bl n from h2,AB.bls.mp a];rfl
  ·intro h;exact⟨.bl n,ns.map V.bl,h,rfl,AB.bls.mpr rfl⟩
end
@[simp] theorem WE(i:Int):(P.int i).imm=true:=rfl
@[simp] theorem WF(i:Str):(P.str i).imm=true:=rfl
@[simp] theorem WG(i:Bool):(P.bl i).imm=true:=rfl
@[simp] theorem WH:P.non.imm=true:=rfl
@[simp] theorem WI:P.bag.imm=true:=rfl
@[simp] theorem WJ(xs:dH):(P.lst xs).imm=false:=rfl
@[simp] theorem WK(ks:List By)(xs:dH):(P.dT ks xs).imm=false:=rfl
@[simp] theorem WL(ks:At)(xs:dH):(P.dK ks xs).imm=false:=rfl
@[simp] theorem WM(xs:dH):(P.tup xs).imm=P.imms xs:=by simp[P.imm]
@[simp] theorem WN:P.imms []=true:=by simp[P.imms]
@[simp] theorem IX(x:P)(xs:dH):P.imms (x::xs)=(x.imm&&P.imms xs):=by simp[P.imms]
theorem Ky{xs:dH}:P.imms xs=true↔∀x∈xs,x.imm=true:=by
 induction xs with
 |nil=>simp
 |cons x r a=>simp[a]
@[simp] theorem WO(xs ys:dH):P.imms (xs++ys)=(P.imms xs&&P.imms ys):=by
 induction xs with
 |nil=>simp
 |cons x r a=>simp[a,Bool.and_assoc]
theorem Ey{α:Type}{f:α->P}(h:∀a,(f a).imm=true)(xs:List α):P.imms (xs.map f)=true:=by
 rw[Ky];intro x c;obtain⟨a,_,rfl⟩:=bU.mp c;exact h a
@[simp] theorem IY(ns:By):P.imms (ns.map P.int)=true:=Ey dE ns
@[simp] theorem Kz(ns:At):P.imms (ns.map P.str)=true:=Ey dE ns
@[simp] theorem WQ(ns:List Bool):P.imms (ns.map P.bl)=true:=Ey dE ns
@[simp] theorem WR(xs:dH):(P.lst xs).mut=true:=rfl
@[simp] theorem WS(ks:List By)(xs:dH):(P.dT ks xs).mut=true:=rfl
@[simp] theorem WT(ks:At)(xs:dH):(P.dK ks xs).mut=true:=rfl
@[simp] theorem WU(xs:dH):(P.tup xs).mut=false:=rfl
@[simp] theorem WV(xs:dH):(P.lst xs).items=some xs:=rfl
@[simp] theorem WW(xs:dH):(P.tup xs).items=some xs:=rfl
inductive S where
 |emp|sh (x:P)|fr (x:P)|own (x:P)
abbrev dI:=List S
inductive Fl where
 |nw|fr|cl|bo|rf|an
 deriving DecidableEq
def Fl.el:Fl->Fl
 |.nw=>.fr|.fr=>.fr|.bo=>.fr|.cl=>.cl|.rf=>.rf|.an=>.an
def Fl.top:Fl->Fl
 |.nw=>.nw|.fr=>.nw|.bo=>.nw|.cl=>.cl|.rf=>.rf|.an=>.an
def Fl.join:Fl->Fl->Fl
 |.nw,g=>g|f,.nw=>f
 |.cl,.cl=>.cl|.rf,.rf=>.rf|_,_=>.an
def Bb(f:Fl)(xs:dH):Fl:=if P.imms xs=true then .nw else f.top
structure Wd where
 b:Addr
 a:Addr
 H₀:Hp
 F:Hp
 O:Addr->Prop
end L2
variable{xs ys:List L2.P}{y:L2.P}{f:L2.Fl}{W:L2.Wd}{ρ ρ':List L2.S}
namespace L2
open PySem PySem.Spec PyProof.Rows
def Ae(ρ:dI)(σ:St)(p:Addr):Prop:=∃(i:Nat) (x:P),ρ[i]?=some (.own x)/\σ[i]?=some (some (.ref p))
def Ow(W:Wd)(ρ:dI)(σ:St)(p:Addr):Prop:=W.O p\/Ae ρ σ p
def AC(W:Wd)(ρ:dI)(σ:St):Fl->Addr->Prop
 |.cl,p=>p=W.b\/Ow W ρ σ p
 |.rf,p=>p=W.b\/W.H₀ p≠none
 |.an,p=>p=W.b
 |_,p=>p=W.b\/Ow W ρ σ p\/W.H₀ p≠none
abbrev Zf(W:Wd)(ρ:dI)(σ:St):Addr->Prop:=AC W ρ σ .fr
abbrev Zc(W:Wd)(ρ:dI)(σ:St):Addr->Prop:=AC W ρ σ .cl
def B2(W:Wd)(ρ:dI)(σ:St)(H:Hp):S->Option V->Prop
 |.emp,_=>True
 |.sh x,o=>∃v,o=some v/\Rp W.b (Zc W ρ σ) H x v
 |.fr x,o=>∃v,o=some v/\Rp W.b (Zf W ρ σ) H x v
 |.own x,o=>∃p,o=some (.ref p)/\W.H₀ p=none/\W.F p=none/\p≠W.b/\p≠W.a/\Rc W.b (Zf W ρ σ) H x p
structure Ok(W:Wd)(ρ:dI)(σ:St)(H:Hp):Prop where
 bag:Bag H W.b W.a
 fb:W.F W.b=none
 old:∀p o,p≠W.b->W.H₀ p=some o->H p=some o
 frm:∀p o,W.F p=some o->H p=some o
 oo:∀p,W.O p->W.H₀ p=none/\W.F p=none/\p≠W.b/\p≠W.a/\∃o,H p=some o/\∀ys,o≠.tup ys
 len:σ.length=ρ.length
 slot:∀(i:Nat) s,ρ[i]?=some s->∃o,σ[i]?=some o/\B2 W ρ σ H s o
 uniq:∀(i j:Nat) x y,ρ[i]?=some (S.own x)->ρ[j]?=some (S.own y)->σ[i]?=σ[j]?->i=j
def RF(W:Wd)(ρ:dI)(σ:St)(Hs:Hp):Fl->Hp->P->V->Prop
 |.bo,H,x,v=>∃p,v=.ref p/\Ae ρ σ p/\Rc W.b (Zf W ρ σ) H x p
 |.nw,H,x,v=>Rp W.b (Zf W ρ σ) H x v/\(x.mut=true->∃p,v=.ref p/\Hs p=none)
 |f,H,x,v=>Rp W.b (AC W ρ σ f) H x v
section
variable{x:P}
theorem Rc.cell{b:Addr}(h:Rc b Z H x p):∃o,H p=some o/\∀ys,o≠.tup ys:=by
 cases x with
 |lst xs=>obtain⟨vs,h1,_⟩:=h;exact⟨_,h1,λ_ z=>nomatch z⟩
 |dT ks xs=>obtain⟨vs,h1,_⟩:=h;exact⟨_,h1,λ_ z=>nomatch z⟩
 |fT ks xs=>obtain⟨vs,⟨o,h1⟩,_⟩:=h;exact⟨_,h1,λ_ z=>nomatch z⟩
 |dK ks xs=>obtain⟨vs,h1,_⟩:=h;exact⟨_,h1,λ_ z=>nomatch z⟩
 |_=>exact h.elim
theorem Ok.ow(ok:Ok W ρ σ H)(h:Ow W ρ σ p):W.H₀ p=none/\W.F p=none/\p≠W.b/\p≠W.a/\∃o,H p=some o/\∀ys,o≠.tup ys:=by
 rcases h with h|⟨i,x,h1,h2⟩
 ·exact ok.oo p h
 obtain⟨o,c,q,l,j,g,f,e,d⟩:=ok.slot i _ h1;rw[h2]at c;cases c;cases l;exact⟨j,g,f,e,d.cell⟩
theorem Ok.dom(ok:Ok W ρ σ H)(h:AC W ρ σ f p):H p≠none:=by
 have hb:p=W.b->H p≠none:=λe=>by
  obtain⟨l,q⟩:=ok.bag.atb;rw[e,q];exactλz=>nomatch z
 have a:Ow W ρ σ p->H p≠none:=λe=>by
  obtain⟨_,_,_,_,o,q,_⟩:=ok.ow e;rw[q];exactλz=>nomatch z
 have c:W.H₀ p≠none->H p≠none:=λe z=>by
  by_cases d:p=W.b
  ·exact hb d z
  ·cases q:W.H₀ p with
   |none=>exact e q
   |some o=>rw[ok.old p o d q]at z;cases z
 cases f<;>simp only[AC]at h
 ·exact h.elim hb λh=>h.elim a c
 ·exact h.elim hb λh=>h.elim a c
 ·exact h.elim hb a
 ·exact h.elim hb λh=>h.elim a c
 ·exact h.elim hb c
 ·exact hb h
theorem AC.b:AC W ρ σ f W.b:=by
 cases f<;>simp[AC]
theorem Rp.step(h:Rp W.b (AC W ρ σ f) H x v)(s:Step W.b W.a H H')(hb:Bag H W.b W.a):Rp W.b (AC W ρ σ f) H' x v :=
 h.keep (λp o c e=>⟨c,s.same p o (λz=>c (z▸AC.b)) e⟩) λp vs e=>s.same p _ (hb.neT e).1 e
theorem AB.step(h:AB W.b (AC W ρ σ f) H xs vs)(s:Step W.b W.a H H')(hb:Bag H W.b W.a):AB W.b (AC W ρ σ f) H' xs vs :=
 h.keep (λp o c e=>⟨c,s.same p o (λz=>c (z▸AC.b)) e⟩) λp vs e=>s.same p _ (hb.neT e).1 e
theorem Rc.step(h:Rc W.b (Zf W ρ σ) H x p)(s:Step W.b W.a H H')(hb:Bag H W.b W.a)(d:p≠W.b):Rc W.b (Zf W ρ σ) H' x p:=by
 cases x with
 |lst xs=>obtain⟨vs,h1,h2⟩:=h;exact⟨vs,s.same p _ d h1,h2.step s hb⟩
 |dT ks xs=>obtain⟨vs,h1,c,h2⟩:=h;exact⟨vs,s.same p _ d h1,c,h2.step s hb⟩
 |fT ks xs=>obtain⟨vs,h1,c,h2⟩:=h;exact⟨vs,h1.map λ_ e=>s.same p _ d e,c,h2.step s hb⟩
 |dK ks xs=>obtain⟨vs,h1,c,h2⟩:=h;exact⟨vs,s.same p _ d h1,c,h2.step s hb⟩
 |_=>exact h.elim
theorem B2.step{s:S}{o:Option V}(h:B2 W ρ σ H s o)(st:Step W.b W.a H H')(hb:Bag H W.b W.a):B2 W ρ σ H' s o:=by
 cases s with
 |emp=>trivial
 |sh x=>obtain⟨v,h1,h2⟩:=h;exact⟨v,h1,h2.step st hb⟩
 |fr x=>obtain⟨v,h1,h2⟩:=h;exact⟨v,h1,h2.step st hb⟩
 |own x=>obtain⟨p,h1,h2,f,c,e,d⟩:=h;exact⟨p,h1,h2,f,c,e,d.step st hb c⟩
theorem Ok.step(ok:Ok W ρ σ H)(st:Step W.b W.a H H'):Ok W ρ σ H' where
 bag:=st.bag
 fb:=ok.fb
 old:=λp o c e=>st.same p o c (ok.old p o c e)
 frm:=λp o e=>st.same p o (λz=>by rw[z,ok.fb]at e;cases e) (ok.frm p o e)
 oo:=λp h=>let⟨h1,h2,d,j,o,g,f⟩:=ok.oo p h;⟨h1,h2,d,j,o,st.same p o d g,f⟩
 len:=ok.len
 slot:=λi s e=>let⟨o,h1,h2⟩:=ok.slot i s e;⟨o,h1,h2.step st ok.bag⟩
 uniq:=ok.uniq
theorem RF.step(h:RF W ρ σ Hs f H x v)(ok:Ok W ρ σ H)(s:Step W.b W.a H H'):RF W ρ σ Hs f H' x v:=by
 cases f with
 |bo =>
  obtain⟨p,h1,h2,c⟩:=h;exact⟨p,h1,h2,c.step s ok.bag (ok.ow (.inr h2)).2.2.1⟩
 |nw=>exact⟨h.1.step (f:=.fr) s ok.bag,h.2⟩
 |fr=>exact Rp.step (f:=.fr) h s ok.bag
 |cl=>exact Rp.step (f:=.cl) h s ok.bag
 |rf=>exact Rp.step (f:=.rf) h s ok.bag
 |an=>exact Rp.step (f:=.an) h s ok.bag
theorem RF.back(h:RF W ρ σ H1 f H x v)(s:Step W.b W.a Hs H1):RF W ρ σ Hs f H x v:=by
 cases f with
 |nw=>exact⟨h.1,λm=>let⟨p,e,n⟩:=h.2 m;⟨p,e,s.free n⟩⟩
 |_=>exact h
theorem RF.any(h:RF W ρ σ Hs f H x v)(ok:Ok W ρ σ H):Rp W.b (AC W ρ σ .an) H x v:=by
 have k:∀{g:Fl},Rp W.b (AC W ρ σ g) H x v->Rp W.b (AC W ρ σ .an) H x v:=λ{g} h=>h.keep (λp o j e=>⟨λz=>j (by rw[show p=W.b from z];exact AC.b),e⟩) λp vs e=>e;cases f with
 |bo =>
  obtain⟨p,h1,h2,d⟩:=h;have nb:=(ok.ow (.inr h2)).2.2.1;have k2:∀{xs:dH} {vs:dG},AB W.b (Zf W ρ σ) H xs vs->AB W.b (AC W ρ σ .an) H xs vs:=λh=>h.keep (λp o j e=>⟨λz=>j (by rw[show p=W.b from z];exact AC.b),e⟩) λp vs e=>e;cases x with
  |lst xs=>obtain⟨vs,c,a⟩:=d;exact⟨p,vs,h1,nb,c,k2 a⟩
  |dT ks xs=>obtain⟨vs,c,i,a⟩:=d;exact⟨p,vs,h1,nb,c,i,k2 a⟩
  |fT ks xs=>obtain⟨vs,c,i,a⟩:=d;exact⟨p,vs,h1,nb,c,i,k2 a⟩
  |dK ks xs=>obtain⟨vs,c,i,a⟩:=d;exact⟨p,vs,h1,nb,c,i,k2 a⟩
  |_=>exact d.elim
 |nw=>exact k (g:=.fr) h.1
 |fr=>exact k (g:=.fr) h
 |cl=>exact k (g:=.cl) h
 |rf=>exact k (g:=.rf) h
 |an=>exact h
theorem RF.items(h:RF W ρ σ Hs f H x v)(c:x.items=some xs):∃p vs,v=.ref p/\(H p=some (.lst vs)\/H p=some (.tup vs))/\AB W.b (AC W ρ σ f) H xs vs:=by
 have k:∀{g:Fl},Rp W.b (AC W ρ σ g) H x v->∃p vs,v=.ref p/\(H p=some (.lst vs)\/H p=some (.tup vs))/\AB W.b (AC W ρ σ g) H xs vs:=λ{g} h=>by
  cases x<;>simp only[P.items]at c<;>try cases c
  ·obtain⟨p,vs,h1,h2,a⟩:=h;exact⟨p,vs,h1,.inr h2,a⟩
  ·obtain⟨p,vs,h1,i,h2,a⟩:=h;exact⟨p,vs,h1,.inl h2,a⟩
 cases f with
 |bo =>
  obtain⟨p,h1,h2,a⟩:=h;cases x<;>simp only[P.items]at c<;>try cases c
  ·exact a.elim
  ·obtain⟨vs,e,d⟩:=a;exact⟨p,vs,h1,.inl e,d⟩
 |nw=>exact k (g:=.fr) h.1
 |fr=>exact k (g:=.fr) h
 |cl=>exact k (g:=.cl) h
 |rf=>exact k (g:=.rf) h
 |an=>exact k (g:=.an) h
theorem RF.ofEl(h:Rp W.b (AC W ρ σ f) H x v):RF W ρ σ Hs f.el H x v:=by
 cases f<;>exact h
theorem RF.ofImm{g:Addr->Prop}(hi:x.imm=true)(h:Rp W.b g H x v):RF W ρ σ Hs .fr H x v:=h.imm hi
theorem RF.immAny(hi:x.imm=true)(ok:Ok W ρ σ H)(h:RF W ρ σ Hs f H x v){g:Fl}(hg:g≠.bo):RF W ρ σ Hs g H x v:=by
 have k:=h.any ok;cases g with
 |bo=>exact bS rfl hg
 |nw=>exact⟨k.imm hi,λm=>by rw[WD m]at hi;cases hi⟩
 |fr=>exact k.imm hi
 |cl=>exact k.imm hi
 |rf=>exact k.imm hi
 |an=>exact k.imm hi
theorem RF.newL(ok:Ok W ρ σ H)(st:Step W.b W.a Hs H)(c:AB W.b (AC W ρ σ f) H xs vs)(d:H p=none):RF W ρ σ Hs (Bb f xs) (AD H p (.lst vs)) (.lst xs) (.ref p):=by
 have e:∀g,¬AC W ρ σ g p:=λg z=>ok.dom z d;have k:∀g,AB W.b (AC W ρ σ g) H xs vs->Rp W.b (AC W ρ σ g) (AD H p (.lst vs)) (.lst xs) (.ref p):=λg h=>⟨p,vs,rfl,e g,Aa,h.step (Step.new ok.bag d) ok.bag⟩;unfold Bb;split
 ·exact⟨k .fr (c.imm ‹_›),λ_=>⟨p,rfl,st.free d⟩⟩
 ·cases f with
  |nw=>exact⟨k .fr c,λ_=>⟨p,rfl,st.free d⟩⟩
  |fr=>exact⟨k .fr c,λ_=>⟨p,rfl,st.free d⟩⟩
  |bo=>exact⟨k .fr c,λ_=>⟨p,rfl,st.free d⟩⟩
  |cl=>exact k .cl c
  |rf=>exact k .rf c
  |an=>exact k .an c
theorem RF.newT(ok:Ok W ρ σ H)(a:AB W.b (AC W ρ σ f) H xs vs)(c:H p=none):RF W ρ σ Hs (Bb f xs) (AD H p (.tup vs)) (.tup xs) (.ref p):=by
 have k:∀g,AB W.b (AC W ρ σ g) H xs vs->Rp W.b (AC W ρ σ g) (AD H p (.tup vs)) (.tup xs) (.ref p):=λg h=>⟨p,vs,rfl,Aa,h.step (Step.new ok.bag c) ok.bag⟩;unfold Bb;split
 ·exact⟨k .fr (a.imm ‹_›),λm=>by simp at m⟩
 ·cases f with
  |nw=>exact⟨k .fr a,λm=>by simp at m⟩
  |fr=>exact⟨k .fr a,λm=>by simp at m⟩
  |bo=>exact⟨k .fr a,λm=>by simp at m⟩
  |cl=>exact k .cl a
  |rf=>exact k .rf a
  |an=>exact k .an a
end
abbrev pE:=dI->(P->Fl->Prop)->Prop
end L2
variable{pe:L2.pE}
namespace L2
open PySem PySem.Spec PyProof.Rows
abbrev pT:=dI->(Bool->Prop)->Prop
abbrev pA:=dI->(List (P×Fl)->Prop)->Prop
def BH(t:TE)(p:pE):Prop:=∀(W:Wd) (ρ:dI) (σ:St) (H:Hp) (Q:VK) (K:P->Fl->Prop),Ok W ρ σ H->p ρ K->(∀x f v H',K x f->Step W.b W.a H H'->RF W ρ σ H f H' x v->Q v H')->t σ H Q
def Gy(t:TT)(p:pT):Prop:=∀(W:Wd) (ρ:dI) (σ:St) (H:Hp) (Q:Bool->Hp->Prop) (K:Bool->Prop),Ok W ρ σ H->p ρ K->(∀c H',K c->Step W.b W.a H H'->Q c H')->t σ H Q
def Bg(W:Wd)(ρ:dI)(σ:St)(Hs H:Hp):List (P×Fl)->dG->Prop
 |[],vs=>vs=[]
 |(x,f)::r,vs=>∃v t,vs=v::t/\RF W ρ σ Hs f H x v/\Bg W ρ σ Hs H r t
def K0(t:TA)(p:pA):Prop:=∀(W:Wd) (ρ:dI) (σ:St) (H:Hp) (Q:dG->Hp->Prop) (K:List (P×Fl)->Prop),Ok W ρ σ H->p ρ K->(∀xs vs H',K xs->Step W.b W.a H H'->Bg W ρ σ H H' xs vs->Q vs H')->t σ H Q
section
variable{ι:Type}
def QE(Xs:ι->Cx)(e:Expr)(p:pE):Prop:=∃t,(∀i,PE (Xs i) e t)/\BH t p
def QT(Xs:ι->Cx)(e:Expr)(p:pT):Prop:=∃t,(∀i,PT (Xs i) e t)/\Gy t p
def QW(Xs:ι->Cx)(e:Expr)(p:pT):Prop:=∃t,(∀i,PW (Xs i) e t)/\Gy t p
def QA(Xs:ι->Cx)(es:Hb)(p:pA):Prop:=∃t,(∀i,PA (Xs i) es t)/\K0 t p
end
abbrev p2:=P->Fl->P->Fl->(P->Fl->Prop)->Prop
def BM(r:R2)(pr:p2):Prop:=∀(W:Wd) (ρ:dI) (σ:St) (Hs H:Hp) (Q:VK) (K:P->Fl->Prop) (x y:P) (f g:Fl) (v u:V),Ok W ρ σ H->Step W.b W.a Hs H->RF W ρ σ Hs f H x v->RF W ρ σ Hs g H y u->pr x f y g K ->
 (∀z h v' H',K z h->Step W.b W.a H H'->RF W ρ σ Hs h H' z v'->Q v' H')->r v u H Q
abbrev pC:=List (P×Fl)->(P->Fl->Prop)->Prop
def B3(r:dG->Hp->VK->Prop)(pr:pC):Prop:=∀(W:Wd) (ρ:dI) (σ:St) (Hs H:Hp) (Q:VK) (K:P->Fl->Prop) (xs:List (P×Fl)) (vs:dG),Ok W ρ σ H->Step W.b W.a Hs H->Bg W ρ σ Hs H xs vs->pr xs K ->
 (∀z h v' H',K z h->Step W.b W.a H H'->RF W ρ σ Hs h H' z v'->Q v' H')->r vs H Q
section
variable{x:P}{ar:List (P×Fl)}
theorem Bg.back:∀{ar:List (P×Fl)} {vs:dG},Bg W ρ σ H1 H ar vs->Step W.b W.a Hs H1->Bg W ρ σ Hs H ar vs
 |[],_,h,_=>h
 |(x,f)::r,vs,h,st=>by
  obtain⟨v,t,h1,h2,c⟩:=h;exact⟨v,t,h1,h2.back st,Bg.back c st⟩
theorem Bg.any:∀{ar:List (P×Fl)} {vs:dG},Bg W ρ σ Hs H ar vs->Ok W ρ σ H->AB W.b (AC W ρ σ .an) H (ar.map (·.1)) vs
 |[],_,h,_=>h
 |(x,f)::r,vs,h,ok=>by
  obtain⟨v,t,h1,h2,a⟩:=h;exact⟨v,t,h1,h2.any ok,Bg.any a ok⟩
theorem Bg.length:∀{ar:List (P×Fl)} {vs:dG},Bg W ρ σ Hs H ar vs->vs.length=ar.length
 |[],_,h=>by rw[show _=[]from h];rfl
 |(x,f)::r,vs,h=>by
  obtain⟨v,t,h1,h2,a⟩:=h;rw[h1,length_cons,length_cons,Bg.length a]
end
def Gz(k:Nat):pE:=λρ K=>match ρ[k]? with
 |some (.sh x)=>K x .cl
 |some (.fr x)=>K x .fr
 |some (.own x)=>K x .bo
 |_=>False
def pK(x:P):pE:=λ_ K=>K x .fr
def Fb(pr:p2)(pa pb:pE):pE:=λρ K=>pa ρ λx f=>pb ρ λy g=>pr x f y g K
def Oy:pA:=λ_ K=>K []
def Oz(pa:pE)(pr:pA):pA:=λρ K=>pa ρ λx f=>pr ρ λxs=>K ((x,f)::xs)
def Fc(pr:pC)(pa:pA):pE:=λρ K=>pa ρ λxs=>pr xs K
section
variable{ι:Type}{Xs:ι->Cx}{a b:Expr}{pa pb pc:pE}
theorem Ok.var(ok:Ok W ρ σ H){k:Nat}{K:P->Fl->Prop}(h:Gz k ρ K):∃x f v,K x f/\σ[k]?=some (some v)/\RF W ρ σ H f H x v:=by
 unfold Gz at h;cases e:ρ[k]? with
 |none=>rw[e]at h;exact h.elim
 |some s =>
  rw[e]at h;obtain⟨o,h1,h2⟩:=ok.slot k s e;cases s with
  |emp=>exact h.elim
  |sh x=>obtain⟨v,rfl,a⟩:=h2;exact⟨x,_,v,h,h1,a⟩
  |fr x=>obtain⟨v,rfl,a⟩:=h2;exact⟨x,_,v,h,h1,a⟩
  |own x=>obtain⟨p,rfl,a,i,g,d,c⟩:=h2;exact⟨x,_,_,h,h1,p,rfl,⟨k,x,e,h1⟩,c⟩
theorem WX(k:Nat):BH (CH k) (Gz k):=λW ρ σ H Q K ok h q=>by
 obtain⟨x,f,v,h1,h2,a⟩:=ok.var h;exact⟨v,h2,q x f v H h1 (Step.refl ok.bag) a⟩
theorem qv(k:Nat)(e:∀i,(Xs i).N[k]?=some x:=by intro _;rfl)(c:∀i,C2 (Xs i).env.scope x:=by intro _;trivial)(d:(x==("__debug__":Str))=false:=by decide)
  (a:(x==("__classdict__":Str))=false:=by decide):QE Xs (.Name x pos) (Gz k):=⟨_,λi=>Du (e i) (c i) d a,WX k⟩
theorem IZ{x:P}(hi:x.imm=true)(h:∀W H,Rp W (λ_=>False) H x v):BH (tC v) (pK x):=λW ρ σ H Q K ok a q=>q x .fr v H a (Step.refl ok.bag) ((h W.b H).imm hi)
theorem AS{i j}:QE Xs (.Constant (.int i) j pos) (pK (.int i)):=⟨_,λ_=>An,IZ rfl λ_ _=>rfl⟩
theorem Cs{b j}:QE Xs (.Constant (.bool b) j pos) (pK (.bl b)):=⟨_,λ_=>UE,IZ rfl λ_ _=>rfl⟩
theorem Ez{j}:QE Xs (.Constant .none j pos) (pK .non):=⟨_,λ_=>UF,IZ rfl λ_ _=>rfl⟩
theorem G4{x j}:QE Xs (.Constant (.str x) j pos) (pK (.str x)):=⟨_,λ_=>IC,IZ rfl λ_ _=>rfl⟩
theorem Ia{r:R2}{pr:p2}(l:BM r pr)(o:BH ta pa)(n:BH tb pb):BH (FS r ta tb) (Fb pr pa pb):=λW ρ σ H Q K ok h q =>
 o W ρ σ H _ _ ok h λx f v H1 h1 a j=>n W ρ σ H1 _ _ (ok.step a) h1 λy g u H2 h2 c i =>
  l W ρ σ H H2 Q K x y f g v u ((ok.step a).step c) (a.trans c) (j.step (ok.step a) c) (i.back a) h2 λz h v' H' p d e=>q z h v' H' p ((a.trans c).trans d) e
theorem C6{op:Operator}{r:R2}{pr:p2}(h:∀i,A1 (Xs i) (binaryOp op) r)(g:BM r pr)(l:QE Xs a pa)(j:QE Xs b pb):QE Xs (.BinOp a op b pos) (Fb pr pa pb):=by
 obtain⟨ta,f,e⟩:=l;obtain⟨tb,d,c⟩:=j;exact⟨_,λi=>Ba (h i) (f i) (d i),Ia g e c⟩
theorem K1{op:CmpOp}{r:R2}{pr:p2}(h:∀i,A1 (Xs i) (compareOp op) r)(g:BM r pr)(n:QE Xs a pa)(l:QE Xs b pb)(j:behindInMarks op b=false):QE Xs (.Compare a [op] [b] pos) (Fb pr pa pb):=by
 obtain⟨ta,f,e⟩:=n;obtain⟨tb,d,c⟩:=l;exact⟨_,λi=>Ut (h i) (f i) (d i) j,Ia g e c⟩
theorem Ai{r:R2}{pr:p2}(j:∀i,Et (Xs i) r)(h:BM r pr)(n:QE Xs a pa)(l:QE Xs b pb)(g:OH b):QE Xs (.Subscript a b pos) (Fb pr pa pb):=by
 obtain⟨ta,f,e⟩:=n;obtain⟨tb,d,c⟩:=l;exact⟨_,λi=>CD (j i) (f i) (d i) g,Ia h e c⟩
theorem AE:QA Xs [] Oy:=⟨_,λ_=>BE,λW ρ σ H Q K ok h q=>q [] [] H h (Step.refl ok.bag) rfl⟩
theorem AA{pr:pA}(s:QE Xs a pa)(r:QA Xs es pr)(p:∀i,starEach (a::es) (Xs i).env=(false,eval a (Xs i).env)::starEach es (Xs i).env:=by intro _;rfl):QA Xs (a::es) (Oz pa pr):=by
 obtain⟨ta,j,g⟩:=s;obtain⟨u,e,d⟩:=r;refine⟨_,λi=>Av (j i) (e i) (p i),λW ρ σ H Q K ok h q=>?_⟩;exact g W ρ σ H _ _ ok h λx f v H1 h1 c o=>d W ρ σ H1 _ _ (ok.step c) h1 λxs vs H2 h2 l n =>
  q _ _ H2 h2 (c.trans l) ⟨v,vs,rfl,o.step (ok.step c) l,n.back c⟩
theorem Ib{r:dG->Hp->VK->Prop}{pr:pC}{t:TA}{p:pA}(f:B3 r pr)(g:K0 t p):BH (Da r t) (Fc pr p):=λW ρ σ H Q K ok h q =>
 g W ρ σ H _ _ ok h λxs vs H1 h1 a e=>f W ρ σ H H1 Q K xs vs (ok.step a) a e h1 λz h v' H' i c d=>q z h v' H' i (a.trans c) d
theorem BP{id:String}{r:dG->Hp->VK->Prop}{pr:pC}{p:pA}{p1:Pos}(n:∀i,BJ (Xs i) (.builtin id) r)(f:B3 r pr)(h:∀i,(Xs i).mg x=none)(e:bootBuiltins x=some (.builtin id))(o:QA Xs (a::es) p)
  (j:∀i,Gl (Xs i) x:=by intro _;rfl) (g:x≠"__name__":=by decide +kernel) (d:(x==("__debug__":Str))=false:=by decide +kernel) (l:∀i,starEach (a::es) (Xs i).env=(false,eval a (Xs i).env)::starEach es (Xs i).env:=by intro _;rfl) (c:∀i,(backTo pos (starEach es (Xs i).env)).any (·.1)=false:=by intro _;rfl) :
  QE Xs (.Call (.Name x p1) (a::es) [] pos) (Fc pr p):=by
 obtain⟨t,h1,h2⟩:=o;exact⟨_,λi=>Er (n i) (j i) (h i) e (h1 i) g d (l i) (c i),Ib f h2⟩
theorem Bv{T:String}{r:dG->Hp->VK->Prop}{pr:pC}{p:pA}{p1:Pos}(n:∀i,BJ (Xs i) (.type T) r)(f:B3 r pr)(h:∀i,(Xs i).mg x=none)(e:bootBuiltins x=some (.type T))(o:QA Xs (a::es) p)
  (j:∀i,Gl (Xs i) x:=by intro _;rfl) (g:x≠"__name__":=by decide +kernel) (d:(x==("__debug__":Str))=false:=by decide +kernel) (l:∀i,starEach (a::es) (Xs i).env=(false,eval a (Xs i).env)::starEach es (Xs i).env:=by intro _;rfl) (c:∀i,(backTo pos (starEach es (Xs i).env)).any (·.1)=false:=by intro _;rfl) :
  QE Xs (.Call (.Name x p1) (a::es) [] pos) (Fc pr p):=by
 obtain⟨t,h1,h2⟩:=o;exact⟨_,λi=>Gc (n i) (j i) (h i) e (h1 i) g d (l i) (c i),Ib f h2⟩
end
def A8:P->Fl->Fl
 |x,.bo=>if x.imm=true then .nw else .rf
 |x,.nw=>.nw
 |x,.fr=>.nw
 |x,.cl=>if x.imm=true then .nw else .cl
 |x,.rf=>if x.imm=true then .nw else .rf
 |x,.an=>if x.imm=true then .nw else .an
def C7:List (P×Fl)->Fl
 |[]=>.nw
 |(x,f)::r=>(A8 x f).join (C7 r)
def O0(p:pA):pE:=λρ K=>p ρ λxs=>K (.tup (xs.map (·.1))) (C7 xs)
def O1(p:pA):pE:=λρ K=>p ρ λxs=>K (.lst (xs.map (·.1))) (C7 xs)
section
variable{x:P}{g:Fl}{ar:List (P×Fl)}
theorem K2(ok:Ok W ρ σ H)(h2:RF W ρ σ Hs f H x v):A8 x f≠.bo/\A8 x f≠.fr/\Rp W.b (AC W ρ σ (A8 x f)) H x v:=by
 by_cases hi:x.imm=true
 ·have e:A8 x f=.nw:=by cases f<;>simp[A8,hi]
  rw[e];exact⟨by simp,by simp,(h2.any ok).imm hi⟩
 ·cases f with
  |nw=>exact⟨by simp[A8],by simp[A8],h2.1⟩
  |fr=>exact⟨by simp[A8],by simp[A8],h2⟩
  |cl=>simp only[A8,aB hi];exact⟨by simp,by simp,h2⟩
  |rf=>simp only[A8,aB hi];exact⟨by simp,by simp,h2⟩
  |an=>simp only[A8,aB hi];exact⟨by simp,by simp,h2⟩
  |bo =>
   simp only[A8,aB hi];refine⟨by simp,by simp,?_⟩;obtain⟨p,i,q,d⟩:=h2;have n:=ok.ow (.inr q);have j:¬AC W ρ σ .rf p:=by
    simp only[AC,not_or,Classical.not_not];exact⟨n.2.2.1,n.1⟩
   have l:∀{xs:dH} {vs:dG},AB W.b (Zf W ρ σ) H xs vs->AB W.b (AC W ρ σ .rf) H xs vs:=λh=>h.keep (λp o r e=>⟨λz=>r (z.elim .inl λz=>.inr (.inr z)),e⟩) λp vs e=>e;cases x with
   |lst xs=>obtain⟨us,c,a⟩:=d;exact⟨p,us,i,j,c,l a⟩
   |dT ks xs=>obtain⟨us,c,g,a⟩:=d;exact⟨p,us,i,j,c,g,l a⟩
   |fT ks xs=>obtain⟨us,c,g,a⟩:=d;exact⟨p,us,i,j,c,g,l a⟩
   |dK ks xs=>obtain⟨us,c,g,a⟩:=d;exact⟨p,us,i,j,c,g,l a⟩
   |_=>exact d.elim
theorem O2{g j:Fl}(h1:g≠.bo)(h2:g≠.fr)(c:j≠.bo)(a:j≠.fr)(p:Addr)(z:AC W ρ σ (g.join j) p):AC W ρ σ g p/\AC W ρ σ j p:=by
 cases g<;>cases j<;>simp_all [Fl.join,AC]<;>rcases z with z|z<;>simp_all
theorem K3{g j:Fl}(h1:g≠.bo)(h2:g≠.fr)(c:j≠.bo)(a:j≠.fr):g.join j≠.bo/\g.join j≠.fr:=by
 cases g<;>cases j<;>simp_all [Fl.join]
theorem Bg.items:∀{ar:List (P×Fl)} {vs:dG},Ok W ρ σ H->Bg W ρ σ Hs H ar vs->C7 ar≠.bo/\C7 ar≠.fr/\AB W.b (AC W ρ σ (C7 ar)) H (ar.map (·.1)) vs
 |[],_,_,h=>⟨by simp[C7],by simp[C7],h⟩
 |(x,f)::r,vs,ok,h=>by
  obtain⟨v,t,h1,h2,q⟩:=h;obtain⟨g,d,n⟩:=Bg.items ok q;obtain⟨c,a,l⟩:=K2 ok h2;have j:=O2 (W:=W) (ρ:=ρ) (σ:=σ) c a g d;exact⟨(K3 c a g d).1,(K3 c a g d).2,v,t,h1,l.keep (λp o i e=>⟨λz=>i (j p z).1,e⟩) (λp vs e=>e),n.keep (λp o i e=>⟨λz=>i (j p z).2,e⟩) (λp vs e=>e)⟩
theorem RF.topped{g:Fl}(hb:g≠.bo)(a:g≠.fr):g.top=g:=by cases g<;>simp_all [Fl.top]
end
section
variable{ι:Type}{Xs:ι->Cx}{a b:Expr}{pa pb pc:pE}
theorem K4:∀{xs:List (P×Fl)},P.imms (xs.map (·.1))=true->C7 xs=.nw
 |[],_=>rfl
 |(x,f)::r,hi=>by
  simp only[map_cons,IX,cB]at hi;rw[C7,K4 hi.2];have:A8 x f=.nw:=by cases f<;>simp[A8,hi.1]
  rw[this];rfl
theorem C8{x1}{p:pA}(h:QA Xs es p)(r:es.length=n:=by rfl)(hz:n<=sizeLine:=by decide):QE Xs (.Tuple es x1 pos) (O0 λρ K=>p ρ λxs=>xs.length=n/\K xs):=by
 obtain⟨t,h1,h2⟩:=h;refine⟨_,λi=>U0 (h1 i),λW ρ σ H Q K ok l q=>?_⟩;refine h2 W ρ σ H _ _ ok l λxs vs H1 ⟨j,k1⟩ a c=>⟨by rw[c.length,j];exact hz,λp d=>?_⟩;obtain⟨g,f,e⟩:=Bg.items (ok.step a) c;have st:=a.trans (Step.new (o:=.tup vs) a.bag d);refine q _ _ (.ref p) _ k1 st ?_;have:=RF.newT (Hs:=H) (ok.step a) e d;unfold Bb at this;split at this
 ·rename_i hi;rw[K4 hi];exact this
 ·rw[RF.topped g f]at this;exact this
theorem D0{p:pA}(h:QA Xs es p)(r:es.length=n:=by rfl)(hz:n<=sizeLine:=by decide):QE Xs (.List es pos) (O1 λρ K=>p ρ λxs=>xs.length=n/\K xs):=by
 obtain⟨t,h1,h2⟩:=h;refine⟨_,λi=>Ga (h1 i),λW ρ σ H Q K ok l q=>?_⟩;refine h2 W ρ σ H _ _ ok l λxs vs H1 ⟨j,k1⟩ a c=>⟨by rw[c.length,j];exact hz,λp d=>?_⟩;obtain⟨g,f,e⟩:=Bg.items (ok.step a) c;have st:=a.trans (Step.new (o:=.lst vs) a.bag d);refine q _ _ (.ref p) _ k1 st ?_;have:=RF.newL (ok.step a) a e d;unfold Bb at this;split at this
 ·rename_i hi;rw[K4 hi];exact this
 ·rw[RF.topped g f]at this;exact this
end
def K5(k:List AO):By:=k.map λx=>match x with|.inl i=>i|.inr _=>0
def O3(k:AO):Str:=match k with|.inr x=>x|.inl _=>⟨#[]⟩
theorem K6(r:By):K5 (AY r)=r:=by simp[K5,bZ,Function.comp_def]
theorem O4{ks':List By}(h:ks.map AY=ks'.map AY):ks=ks':=by
 have:=aT (map K5) h;simpa[bZ,Function.comp_def,K6]using this
theorem WY{ks ks':At}(h:ks.map Dz=ks'.map Dz):ks=ks':=by
 have:=aT (map O3) h;simpa[bZ,Function.comp_def,O3]using this
theorem K7{α c:Type}{ks ks':List α}{vs vs':List c}(h1:ks.length=vs.length)(h2:ks'.length=vs'.length)(h:ks.zip vs=ks'.zip vs'):ks=ks'/\vs=vs':=by
 have a:=aT (map Prod.fst) h;have b:=aT (map Prod.snd) h;rw[map_fst_zip ⋯,map_fst_zip ⋯]at a;rw[map_snd_zip ⋯,map_snd_zip ⋯]at b;exact⟨a,b⟩
section
variable{b:Addr}{Z':Addr->Prop}
mutual
theorem Rp.fun(hz:Z b)(hb:∀vs,H b≠some (.tup vs)):∀{x y:P} {v:V},Rp b Z H x v->Rp b Z H y v->x=y
 |.non,y,v,h1,h2=>by
  rw[show v=_ from h1]at h2;cases y<;>simp_all [Rp]
 |.bl _,y,v,h1,h2=>by
  rw[show v=_ from h1]at h2;cases y<;>simp_all [Rp]
 |.int _,y,v,h1,h2=>by
  rw[show v=_ from h1]at h2;cases y<;>simp_all [Rp]
 |.str _,y,v,h1,h2=>by
  rw[show v=_ from h1]at h2;cases y<;>simp_all [Rp]
 |.bag,y,v,h1,h2=>by
  rw[show v=_ from h1]at h2;cases y<;>simp_all [Rp]
 |.tup xs,y,v,h1,h2=>by
  obtain⟨p,vs,rfl,e,f⟩:=h1;cases y with
  |tup ys =>
   obtain⟨q,us,c,a,d⟩:=h2;cases c;rw[e]at a;cases a;rw[AB.fun hz hb f d]
  |lst ys=>obtain⟨q,us,c,_,a,d⟩:=h2;cases c;rw[e]at a;cases a
  |dT ks ys=>obtain⟨q,us,c,_,a,d⟩:=h2;cases c;rw[e]at a;cases a
  |fT ks ys=>obtain⟨q,us,c,_,⟨o,a⟩,d⟩:=h2;cases c;rw[e]at a;cases a
  |dK ks ys=>obtain⟨q,us,c,_,a,d⟩:=h2;cases c;rw[e]at a;cases a
  |bag=>cases(show V.ref p=V.ref b from h2);exact bS e (hb vs)
  |_=>cases h2
 |.lst xs,y,v,h1,h2=>by
  obtain⟨p,vs,rfl,i,e,f⟩:=h1;cases y with
  |lst ys =>
   obtain⟨q,us,c,_,a,d⟩:=h2;cases c;rw[e]at a;cases a;rw[AB.fun hz hb f d]
  |tup ys=>obtain⟨q,us,c,a,d⟩:=h2;cases c;rw[e]at a;cases a
  |dT ks ys=>obtain⟨q,us,c,_,a,d⟩:=h2;cases c;rw[e]at a;cases a
  |fT ks ys=>obtain⟨q,us,c,_,⟨o,a⟩,d⟩:=h2;cases c;rw[e]at a;cases a
  |dK ks ys=>obtain⟨q,us,c,_,a,d⟩:=h2;cases c;rw[e]at a;cases a
  |bag=>cases(show V.ref p=V.ref b from h2);exact bS hz i
  |_=>cases h2
 |.dT ks xs,y,v,h1,h2=>by
  obtain⟨p,vs,rfl,i,e,el,f⟩:=h1;cases y with
  |dT h ys =>
   obtain⟨q,us,c,_,a,l,d⟩:=h2;cases c;rw[e]at a;obtain⟨g,j⟩:=K7 (by rw[aA];exact el.trans f.length) (by rw[aA];exact l.trans d.length) (HO.dT.inj (oI a));have g:=O4 g;subst g;subst j;rw[AB.fun hz hb f d]
  |fT h ys=>obtain⟨q,us,c,_,⟨o,a⟩,d⟩:=h2;cases c;rw[e]at a;cases a
  |tup ys=>obtain⟨q,us,c,a,d⟩:=h2;cases c;rw[e]at a;cases a
  |lst ys=>obtain⟨q,us,c,_,a,d⟩:=h2;cases c;rw[e]at a;cases a
  |dK ks ys=>obtain⟨q,us,c,_,a,d⟩:=h2;cases c;rw[e]at a;cases a
  |bag=>cases(show V.ref p=V.ref b from h2);exact bS hz i
  |_=>cases h2
 |.fT ks xs,y,v,h1,h2=>by
  obtain⟨p,vs,rfl,i,⟨o,e⟩,el,f⟩:=h1;cases y with
  |fT h ys =>
   obtain⟨q,us,c,_,⟨o',a⟩,l,d⟩:=h2;cases c;rw[e]at a;have a:=(HO.frz.inj (oI a)).2;obtain⟨g,j⟩:=K7 (by rw[aA];exact el.trans f.length) (by rw[aA];exact l.trans d.length) (HO.dT.inj a);have g:=O4 g;subst g;subst j;rw[AB.fun hz hb f d]
  |tup ys=>obtain⟨q,us,c,a,d⟩:=h2;cases c;rw[e]at a;cases a
  |lst ys=>obtain⟨q,us,c,_,a,d⟩:=h2;cases c;rw[e]at a;cases a
  |dT ks ys=>obtain⟨q,us,c,_,a,d⟩:=h2;cases c;rw[e]at a;cases a
  |dK ks ys=>obtain⟨q,us,c,_,a,d⟩:=h2;cases c;rw[e]at a;cases a
  |bag=>cases(show V.ref p=V.ref b from h2);exact bS hz i
  |_=>cases h2
 |.dK ks xs,y,v,h1,h2=>by
  obtain⟨p,vs,rfl,i,e,el,f⟩:=h1;cases y with
  |dK h ys =>
   obtain⟨q,us,c,_,a,l,d⟩:=h2;cases c;rw[e]at a;obtain⟨g,j⟩:=K7 (by rw[aA];exact el.trans f.length) (by rw[aA];exact l.trans d.length) (HO.dK.inj (oI a));have g:=WY g;subst g;subst j;rw[AB.fun hz hb f d]
  |tup ys=>obtain⟨q,us,c,a,d⟩:=h2;cases c;rw[e]at a;cases a
  |lst ys=>obtain⟨q,us,c,_,a,d⟩:=h2;cases c;rw[e]at a;cases a
  |dT ks ys=>obtain⟨q,us,c,_,a,d⟩:=h2;cases c;rw[e]at a;cases a
  |fT ks ys=>obtain⟨q,us,c,_,⟨o,a⟩,d⟩:=h2;cases c;rw[e]at a;cases a
  |bag=>cases(show V.ref p=V.ref b from h2);exact bS hz i
  |_=>cases h2
theorem AB.fun(hz:Z b)(hb:∀vs,H b≠some (.tup vs)):∀{xs ys:dH} {vs:dG},AB b Z H xs vs->AB b Z H ys vs->xs=ys
 |[],ys,vs,h1,h2=>by
  rw[show vs=[]from h1]at h2;cases ys with
  |nil=>rfl
  |cons y r=>obtain⟨v,t,e,_⟩:=h2;cases e
 |x::xs,ys,vs,h1,h2=>by
  obtain⟨v,r,rfl,g,f⟩:=h1;cases ys with
  |nil=>cases(show v::r=[]from h2)
  |cons y ys =>
   obtain⟨u,t,d,c,a⟩:=h2;cases d;rw[Rp.fun hz hb g c,AB.fun hz hb f a]
end
mutual
theorem Rp.avoid(hz:Z b)(hb:∀vs,H b≠some (.tup vs)){x:P}{p:Addr}(c:Rp b Z H x (.ref p)):∀{y:P} {v:V},sizeOf y<sizeOf x->Rp b Z H y v->Rp b (λq=>Z q\/q=p) H y v
 |.non,_,_,h=>h
 |.bl _,_,_,h=>h
 |.int _,_,_,h=>h
 |.str _,_,_,h=>h
 |.bag,_,_,h=>h
 |.tup ys,v,a,h=>by
  obtain⟨q,vs,f,e,d⟩:=h;exact⟨q,vs,f,e,AB.avoid hz hb c (by simp at a ⊢;lia) d⟩
 |.lst ys,v,a,h=>by
  obtain⟨q,vs,rfl,f,e,d⟩:=id h;refine⟨q,vs,rfl,λz=>z.elim f λz=>?_,e,AB.avoid hz hb c (by simp at a ⊢;lia) d⟩;subst z;rw[Rp.fun hz hb c h]at a;exact aX _ a
 |.dT ks ys,v,a,h=>by
  obtain⟨q,vs,rfl,f,e,el,d⟩:=id h;refine⟨q,vs,rfl,λz=>z.elim f λz=>?_,e,el,AB.avoid hz hb c (by simp at a ⊢;lia) d⟩;subst z;rw[Rp.fun hz hb c h]at a;exact aX _ a
 |.fT ks ys,v,a,h=>by
  obtain⟨q,vs,rfl,f,e,el,d⟩:=id h;refine⟨q,vs,rfl,λz=>z.elim f λz=>?_,e,el,AB.avoid hz hb c (by simp at a ⊢;lia) d⟩;subst z;rw[Rp.fun hz hb c h]at a;exact aX _ a
 |.dK ks ys,v,a,h=>by
  obtain⟨q,vs,rfl,f,e,el,d⟩:=id h;refine⟨q,vs,rfl,λz=>z.elim f λz=>?_,e,el,AB.avoid hz hb c (by simp at a ⊢;lia) d⟩;subst z;rw[Rp.fun hz hb c h]at a;exact aX _ a
theorem AB.avoid(hz:Z b)(hb:∀vs,H b≠some (.tup vs)){x:P}{p:Addr}(a:Rp b Z H x (.ref p)):∀{ys:dH} {vs:dG},sizeOf ys<sizeOf x->AB b Z H ys vs->AB b (λq=>Z q\/q=p) H ys vs
 |[],_,_,h=>h
 |y::ys,vs,c,h=>by
  obtain⟨v,r,f,e,d⟩:=h;exact⟨v,r,f,Rp.avoid hz hb a (by simp at c ⊢;lia) e,AB.avoid hz hb a (by simp at c ⊢;lia) d⟩
end
theorem Rp.toRc(hz:Z b)(hb:∀vs,H b≠some (.tup vs)){x:P}(hm:x.mut=true)(a:Rp b Z H x (.ref p)):¬Z p/\Rc b (λq=>Z q\/q=p) H x p:=by
 cases x with
 |lst xs =>
  obtain⟨q,vs,f,e,d,c⟩:=id a;cases f;exact⟨e,vs,d,AB.avoid hz hb a (by simp) c⟩
 |dT ks xs =>
  obtain⟨q,vs,f,e,d,el,c⟩:=id a;cases f;exact⟨e,vs,d,el,AB.avoid hz hb a (by simp;lia) c⟩
 |fT ks xs =>
  obtain⟨q,vs,f,e,d,el,c⟩:=id a;cases f;exact⟨e,vs,d,el,AB.avoid hz hb a (by simp;lia) c⟩
 |dK ks xs =>
  obtain⟨q,vs,f,e,d,el,c⟩:=id a;cases f;exact⟨e,vs,d,el,AB.avoid hz hb a (by simp;lia) c⟩
 |_=>simp[P.mut]at hm
end
def BQ(k:Nat)(x:P)(f:Fl)(ρ:dI)(K:dI->Prop):Prop :=
 if x.imm=true then K (ρ.set k (.sh x))else match f with
 |.nw=>K (ρ.set k (if x.mut=true then .own x else .fr x))
 |.fr=>K (ρ.set k (.fr x))
 |.cl=>K (ρ.set k (.sh x))
 |_=>False
section
variable{x:P}{k:Nat}
theorem Ok.nt(ok:Ok W ρ σ H):∀vs,H W.b≠some (.tup vs):=λvs e=>(ok.bag.neT e).1 rfl
theorem K8(st:Step W.b W.a Hs H)(c:∀p,Ae ρ' σ' p->Ae ρ σ p\/Hs p=none)(p:Addr)(o:HO)(hz:¬AC W ρ σ f p)(e:Hs p=some o):¬AC W ρ' σ' f p/\H p=some o:=by
 refine⟨λz=>hz ?_,st.same p o (λz=>hz (z▸AC.b)) e⟩;have k:Ow W ρ' σ' p->Ow W ρ σ p:=λz=>z.elim .inl λz=>(c p z).elim .inr λz=>by rw[e]at z;cases z
 cases f<;>simp only[AC]at z ⊢
 ·exact z.elim .inl λz=>.inr (z.elim (λz=>.inl (k z)) .inr)
 ·exact z.elim .inl λz=>.inr (z.elim (λz=>.inl (k z)) .inr)
 ·exact z.elim .inl λz=>.inr (k z)
 ·exact z.elim .inl λz=>.inr (z.elim (λz=>.inl (k z)) .inr)
 ·exact z
 ·exact z
theorem Rp.move(hb:Bag Hs W.b W.a)(st:Step W.b W.a Hs H)(hn:∀p,Ae ρ' σ' p->Ae ρ σ p\/Hs p=none)(h:Rp W.b (AC W ρ σ f) Hs x v):Rp W.b (AC W ρ' σ' f) H x v :=
 h.keep (K8 st hn) λp vs e=>st.same p _ (hb.neT e).1 e
theorem AB.move(hb:Bag Hs W.b W.a)(st:Step W.b W.a Hs H)(hn:∀p,Ae ρ' σ' p->Ae ρ σ p\/Hs p=none)(h:AB W.b (AC W ρ σ f) Hs xs vs):AB W.b (AC W ρ' σ' f) H xs vs :=
 h.keep (K8 st hn) λp vs e=>st.same p _ (hb.neT e).1 e
theorem Rc.move(hb:Bag Hs W.b W.a)(st:Step W.b W.a Hs H)(d:p≠W.b)(hn:∀p,Ae ρ' σ' p->Ae ρ σ p\/Hs p=none)(h:Rc W.b (Zf W ρ σ) Hs x p):Rc W.b (Zf W ρ' σ') H x p:=by
 cases x with
 |lst xs=>obtain⟨vs,h1,h2⟩:=h;exact⟨vs,st.same p _ d h1,h2.move hb st hn⟩
 |dT ks xs=>obtain⟨vs,h1,c,h2⟩:=h;exact⟨vs,st.same p _ d h1,c,h2.move hb st hn⟩
 |fT ks xs=>obtain⟨vs,h1,c,h2⟩:=h;exact⟨vs,h1.map λ_ e=>st.same p _ d e,c,h2.move hb st hn⟩
 |dK ks xs=>obtain⟨vs,h1,c,h2⟩:=h;exact⟨vs,st.same p _ d h1,c,h2.move hb st hn⟩
 |_=>exact h.elim
theorem B2.move{s:S}{o:Option V}(hb:Bag Hs W.b W.a)(st:Step W.b W.a Hs H)(hn:∀p,Ae ρ' σ' p->Ae ρ σ p\/Hs p=none)(h:B2 W ρ σ Hs s o):B2 W ρ' σ' H s o:=by
 cases s with
 |emp=>trivial
 |sh x=>obtain⟨v,h1,h2⟩:=h;exact⟨v,h1,h2.move hb st hn⟩
 |fr x=>obtain⟨v,h1,h2⟩:=h;exact⟨v,h1,h2.move hb st hn⟩
 |own x=>obtain⟨p,h1,h2,f,c,e,d⟩:=h;exact⟨p,h1,h2,f,c,e,d.move hb st c hn⟩
theorem Ok.put{s:S}(ok:Ok W ρ σ Hs)(st:Step W.b W.a Hs H)(h:k<ρ.length)(hn:∀p,Ae (ρ.set k s) (σ.set k (some v)) p->Ae ρ σ p\/Hs p=none)
  (E:B2 W (ρ.set k s) (σ.set k (some v)) H s (some v)) (D:∀y,s=.own y->∃p,v=.ref p/\Hs p=none):Ok W (ρ.set k s) (σ.set k (some v)) H where
 bag:=st.bag
 fb:=ok.fb
 old:=λp o u e=>st.same p o u (ok.old p o u e)
 frm:=λp o e=>st.same p o (λz=>by rw[z,ok.fb]at e;cases e) (ok.frm p o e)
 oo:=(ok.step st).oo
 len:=by rw[length_set,length_set];exact ok.len
 slot:=λi s' e=>by
  by_cases hi:k=i
  ·subst hi;rw[bY h]at e;cases e;exact⟨some v,bY (by rw[ok.len];exact h),E⟩
  ·rw[bV hi]at e;obtain⟨o,h1,h2⟩:=ok.slot i s' e;exact⟨o,by rw[bV hi];exact h1,h2.move ok.bag st hn⟩
 uniq:=λi j x y h1 h2 c=>by
  have old:∀i x,k≠i->(ρ.set k s)[i]?=some (.own x)->∃p o,σ[i]?=some (some (.ref p))/\Hs p=some o:=λi x hi e=>by
   rw[bV hi]at e;obtain⟨o,C,p,B,_,_,_,_,A⟩:=ok.slot i _ e;obtain⟨o',w,_⟩:=A.cell;exact⟨p,o',by rw[C,B],w⟩
  have new:∀i x,k=i->(ρ.set k s)[i]?=some (.own x)->∃p,v=.ref p/\Hs p=none:=λi x hi e=>by
   subst hi;rw[bY h]at e;cases e;exact D x rfl
  have f:k<σ.length:=by rw[ok.len];exact h
  by_cases hi:k=i<;>by_cases d:k=j
  ·exact hi.symm.trans d
  ·exfalso;obtain⟨p,r,n⟩:=new i x hi h1;obtain⟨q,o,l,g⟩:=old j y d h2;rw[<-hi,bY f,bV d,l,r]at c;cases c;rw[n]at g;cases g
  ·exfalso;obtain⟨p,r,n⟩:=new j y d h2;obtain⟨q,o,l,g⟩:=old i x hi h1;rw[<-d,bY f,bV hi,l,r]at c;cases c;rw[n]at g;cases g
  ·rw[bV hi]at h1 c;rw[bV d]at h2 c;exact ok.uniq i j x y h1 h2 c
theorem Fd{s:S}(a:∀x,s≠.own x):∀p,Ae (ρ.set k s) (σ.set k (some v)) p->Ae ρ σ p:=λp ⟨i,x,h1,h2⟩=>by
 by_cases hi:k=i
 ·subst hi;rcases cE k ρ.length with q|q
  ·rw[bY q]at h1;exact bS (oI h1) (a x)
  ·rw[bQ (by rw[length_set];exact q)]at h1;cases h1
 ·rw[bV hi]at h1 h2;exact⟨i,x,h1,h2⟩
theorem Ok.set{K:dI->Prop}(ok:Ok W ρ σ Hs)(st:Step W.b W.a Hs H)(r:RF W ρ σ Hs f H x v)(h:BQ k x f ρ K):∃ρ',K ρ'/\Ok W ρ' (σ.set k (some v)) H:=by
 by_cases d:ρ.length<=k
 ·have M:∀s,ρ.set k s=ρ:=λs=>set_eq_of_length_le d;have L:σ.set k (some v)=σ:=set_eq_of_length_le (by rw[ok.len];exact d);rw[L];refine⟨ρ,?_,ok.step st⟩;unfold BQ at h;simp only[M]at h;split at h
  ·exact h
  ·cases f<;>first|exact h|exact h.elim
 have d:k<ρ.length:=Nat.lt_of_not_le d;have c:=ok.step st;have k1:∀(s:S),(∀x,s≠.own x)->B2 W (ρ.set k s) (σ.set k (some v)) H s (some v)->Ok W (ρ.set k s) (σ.set k (some v)) H:=λs D A =>
  ok.put st d (λp z=>.inl (Fd D p z)) A λy e=>bS e (D y)
 have k2:∀{s:S} {g:Fl},(∀x,s≠.own x)->Rp W.b (AC W ρ σ g) H x v->Rp W.b (AC W (ρ.set k s) (σ.set k (some v)) g) H x v:=λ{s g} D A =>
  Rp.move c.bag (Step.refl c.bag) (λp z=>.inl (Fd D p z)) A
 unfold BQ at h;split at h
 ·rename_i hi;exact⟨_,h,k1 _ (λ_ z=>nomatch z) ⟨v,rfl,(r.any c).imm hi⟩⟩
 ·cases f with
  |nw =>
   dsimp only at h;by_cases hm:x.mut=true
   ·rw[aC hm]at h;refine⟨_,h,?_⟩;obtain⟨p,rfl,B⟩:=r.2 hm;have hn:∀q,Ae (ρ.set k (.own x)) (σ.set k (some (.ref p))) q->Ae ρ σ q\/Hs q=none:=λq ⟨i,y,h1,h2⟩=>by
     by_cases hi:k=i
     ·subst hi;rw[bY (by rw[ok.len];exact d)]at h2;cases h2;exact .inr B
     ·rw[bV hi]at h1 h2;exact .inl ⟨i,y,h1,h2⟩
    obtain⟨E,n⟩:=Rp.toRc (b:=W.b) (Z:=Zf W ρ σ) AC.b c.nt hm r.1;have w:p≠W.b/\W.H₀ p=none:=by
     simp only[AC,not_or,Classical.not_not]at E;exact⟨E.1,E.2.2⟩
    have J:W.F p=none:=by
     cases q:W.F p with
     |none=>rfl
     |some o=>rw[ok.frm p o q]at B;cases B
    have ha:p≠W.a:=ok.bag.na B;have G:∀q,¬(Zf W ρ σ q\/q=p)->¬Zf W (ρ.set k (.own x)) (σ.set k (some (.ref p))) q:=λq A z=>A (by
     simp only[AC]at z ⊢;rcases z with z|z|z
     ·exact .inl (.inl z)
     ·rcases z with z|z
      ·exact .inl (.inr (.inl (.inl z)))
      ·obtain⟨i,y,h1,h2⟩:=z;by_cases hi:k=i
       ·subst hi;rw[bY (by rw[ok.len];exact d)]at h2;cases h2;exact .inr rfl
       ·rw[bV hi]at h1 h2;exact .inl (.inr (.inl (.inr ⟨i,y,h1,h2⟩)))
     ·exact .inl (.inr (.inr z)))
    have C:∀{xs:dH} {vs:dG},AB W.b (λq=>Zf W ρ σ q\/q=p) H xs vs->AB W.b (Zf W (ρ.set k (.own x)) (σ.set k (some (.ref p)))) H xs vs:=λh=>h.keep (λq o I e=>⟨G q I,e⟩) λq us e=>e;refine ok.put st d hn ⟨p,rfl,w.2,J,w.1,ha,?_⟩ λy e=>⟨p,rfl,B⟩;cases x with
    |lst xs=>obtain⟨us,l,j⟩:=n;exact⟨us,l,C j⟩
    |dT ks xs=>obtain⟨us,l,u,j⟩:=n;exact⟨us,l,u,C j⟩
    |fT ks xs=>obtain⟨us,l,u,j⟩:=n;exact⟨us,l,u,C j⟩
    |dK ks xs=>obtain⟨us,l,u,j⟩:=n;exact⟨us,l,u,C j⟩
    |_=>exact n.elim
   ·rw[aB hm]at h;exact⟨_,h,k1 _ (λ_ z=>nomatch z) ⟨v,rfl,k2 (g:=.fr) (λ_ z=>nomatch z) r.1⟩⟩
  |fr=>exact⟨_,h,k1 _ (λ_ z=>nomatch z) ⟨v,rfl,k2 (g:=.fr) (λ_ z=>nomatch z) r⟩⟩
  |cl=>exact⟨_,h,k1 _ (λ_ z=>nomatch z) ⟨v,rfl,k2 (g:=.cl) (λ_ z=>nomatch z) r⟩⟩
  |_=>exact h.elim
end
def Ic(p:pE):pT:=λρ K=>p ρ λx _=>∃k,x=.bl k/\K k
def O5(p q:pT):pT:=λρ K=>p ρ λc=>if c=true then q ρ K else K false
def O6(p q:pT):pT:=λρ K=>p ρ λc=>if c=true then K true else q ρ K
def O7(p:pT):pT:=λρ K=>p ρ λc=>K (!c)
def O8(p q:pE):pE:=λρ K=>p ρ λx _=>∃c,x=.bl c/\if c=true then q ρ K else K (.bl false) .fr
def O9(p:pE):pE:=λρ K=>p ρ λx _=>∃c,x=.bl c/\K (.bl (!c)) .fr
def K9(r r':p2)(pa pb pc:pE):pE:=λρ K=>pa ρ λx f=>pb ρ λy g=>r x f y g λz _=>∃k,z=.bl k/\if k=true then pc ρ λw h=>r' y g w h K else K (.bl false) .fr
section
variable{ι:Type}{Xs:ι->Cx}{a b:Expr}{qF:Hb}{pa pb pc:pE}{p q:pT}
theorem Ie{k:Bool}(ok:Ok W ρ σ H)(r:RF W ρ σ Hs f H (.bl k) v):v=.bl k:=r.any ok
theorem Bw{k:Int}(ok:Ok W ρ σ H)(r:RF W ρ σ Hs f H (.int k) v):v=.int k:=r.any ok
theorem E1{k:Str}(ok:Ok W ρ σ H)(r:RF W ρ σ Hs f H (.str k) v):v=.str k:=r.any ok
theorem PB{t:TE}(h:BH t pa):Gy (Ny t) (Ic pa):=λW ρ σ H Q K ok d q =>
 h W ρ σ H _ _ ok d λx f v H1 ⟨k,e,h1⟩ a c=>by
  subst e;exact⟨k,Ie (ok.step a) c,q k H1 h1 a⟩
theorem BB{op:CmpOp}{r:R2}{pr:p2}(h:∀i,A1 (Xs i) (compareOp op) r)(g:BM r pr)(n:QE Xs a pa)(l:QE Xs b pb)(j:behindInMarks op b=false):QT Xs (.Compare a [op] [b] pos) (Ic (Fb pr pa pb)):=by
 obtain⟨ta,f,e⟩:=n;obtain⟨tb,d,c⟩:=l;exact⟨_,λi=>FU (h i) (f i) (d i) j,PB (Ia g e c)⟩
theorem Cu(h:QE Xs a pa)(f:∀i,∀c,isTrue a (Xs i).env c=(do let v <-c;standAt a.pos;holding [v] (truthy v)):=by intro _ _;rfl):QT Xs a (Ic pa):=by
 obtain⟨ta,e,d⟩:=h;exact⟨tB ta,λi=>UI (e i) (f i),PB d⟩
theorem DK(h:QT Xs a p):QT Xs (.UnaryOp .Not a pos) (O7 p):=by
 obtain⟨ta,e,d⟩:=h;exact⟨_,λi=>UO (e i),λW ρ σ H Q K ok g q=>d W ρ σ H _ _ ok g λc H1 h1 f=>q _ H1 h1 f⟩
theorem QW.pt(h:QW Xs a p):QT Xs a p:=let⟨t,h1,h2⟩:=h;⟨t,λi=>(h1 i).pt,h2⟩
theorem PC(h:QT Xs a p):QW Xs (.BoolOp .And [a] pos) p:=let⟨t,h1,h2⟩:=h;⟨t,λi=>UM (h1 i),h2⟩
theorem G5(h:QT Xs a p):QW Xs (.BoolOp .Or [a] pos) p:=let⟨t,h1,h2⟩:=h;⟨t,λi=>Na (h1 i),h2⟩
theorem PD(r:QT Xs a p)(o:QW Xs (.BoolOp .And (b::qF) pos) q):QW Xs (.BoolOp .And (a::b::qF) pos) (O5 p q):=by
 obtain⟨ta,j,h⟩:=r;obtain⟨tb,g,f⟩:=o;refine⟨_,λi=>UN (j i) (g i),λW ρ σ H Q K ok n q=>h W ρ σ H _ _ ok n λc H1 h1 e=>?_⟩;cases c with
 |true=>exact f W ρ σ H1 _ _ (ok.step e) h1 λd H2 h2 l=>q d H2 h2 (e.trans l)
 |false=>exact q false H1 h1 e
theorem Dg(r:QT Xs a p)(o:QW Xs (.BoolOp .Or (b::qF) pos) q):QW Xs (.BoolOp .Or (a::b::qF) pos) (O6 p q):=by
 obtain⟨ta,j,h⟩:=r;obtain⟨tb,g,f⟩:=o;refine⟨_,λi=>Nb (j i) (g i),λW ρ σ H Q K ok n q=>h W ρ σ H _ _ ok n λc H1 h1 e=>?_⟩;cases c with
 |false=>exact f W ρ σ H1 _ _ (ok.step e) h1 λd H2 h2 l=>q d H2 h2 (e.trans l)
 |true=>exact q true H1 h1 e
theorem WZ{op}(h:QE Xs a pa):QE Xs (.BoolOp op [a] pos) pa:=let⟨t,h1,h2⟩:=h;⟨t,λi=>UR (h1 i),h2⟩
theorem C9{k:Bool}:RF W ρ σ Hs .fr H (.bl k) (.bl k):=rfl
theorem EO{k:Int}:RF W ρ σ Hs .fr H (.int k) (.int k):=rfl
theorem PF{k:Str}:RF W ρ σ Hs .fr H (.str k) (.str k):=rfl
theorem Wa(w:QE Xs a pa)(u:QE Xs (.BoolOp .And (b::qF) pos) pb):QE Xs (.BoolOp .And (a::b::qF) pos) (O8 pa pb):=by
 obtain⟨ta,n,l⟩:=w;obtain⟨tb,j,h⟩:=u;refine⟨_,λi=>US (n i) (j i),λW ρ σ H Q K ok s q=>l W ρ σ H _ _ ok s λx f v H1 ⟨c,e,h1⟩ g r=>?_⟩;subst e;refine⟨c,Ie (ok.step g) r,?_⟩;cases c with
 |true=>exact h W ρ σ H1 _ _ (ok.step g) h1 λd f v H2 h2 o p=>q d f v H2 h2 (g.trans o) (p.back g)
 |false=>exact q _ _ _ H1 h1 g C9
theorem Wc(n:QE Xs a pa):QE Xs (.UnaryOp .Not a pos) (O9 pa):=by
 obtain⟨ta,g,d⟩:=n;refine⟨_,λi=>UT (g i),λW ρ σ H Q K ok l q=>d W ρ σ H _ _ ok l λx f v H1 ⟨c,e,h1⟩ h j=>?_⟩;subst e;exact⟨c,Ie (ok.step h) j,q _ _ _ H1 h1 h C9⟩
theorem Wf{r r':R2}{pr i:p2}{tc:TE}(C:BM r pr)(p:BM r' i)(G:BH ta pa)(E:BH tb pb)(D:BH tc pc):BH (Nz r r' ta tb tc) (K9 pr i pa pb pc):=λW ρ σ H Q K ok h q =>
 G W ρ σ H _ _ ok h λx f v H1 h1 c B=>E W ρ σ H1 _ _ (ok.step c) h1 λy g u H2 h2 d s =>
  C W ρ σ H H2 _ _ x y f g v u ((ok.step c).step d) (c.trans d) (B.step (ok.step c) d) (s.back c) h2 λz h v' w ⟨k,e,n⟩ l o=>by
   subst e;have a:=(c.trans d).trans l;refine⟨k,Ie (ok.step a) o,?_⟩;cases k with
   |false=>exact q _ _ _ w n a C9
   |true=>exact D W ρ σ w _ _ (ok.step a) n λz J u' L I j A=>p W ρ σ H L Q K y z g J u u' (ok.step (a.trans j)) (a.trans j) ((s.back c).step (ok.step (c.trans d)) (l.trans j)) (A.back a) I λz h v' H' n l o=>q z h v' H' n ((a.trans j).trans l) o
theorem Wg{op d:CmpOp}{r r':R2}{pr e:p2}(s:∀i,A1 (Xs i) (compareOp op) r)(q:BM r pr)(g:∀i,A1 (Xs i) (compareOp d) r')(f:BM r' e)(x:QE Xs a pa)(w:QE Xs b pb)(v:QE Xs c pc)
  (u:lastMarks [op,d] [b,c]=false:=by with_unfolding_all rfl):QE Xs (.Compare a [op,d] [b,c] pos) (K9 pr e pa pb pc):=by
 obtain⟨ta,p,o⟩:=x;obtain⟨tb,n,l⟩:=w;obtain⟨tc,j,h⟩:=v;exact⟨_,λi=>Uu (s i) (g i) (p i) (n i) (j i) u,Wf q f o l h⟩
end
inductive Xn where
 |nm (x:Str)|vl (x f:Str) (v:P)
instance:Coe Str Xn:=⟨Xn.nm⟩
instance:Coe String Xn:=⟨λx=>Xn.nm (Str.ofString x)⟩
structure PEnds where
 nx:dI->Prop
 rt:P->Prop
 bk:dI->Prop:=λ_=>False
 ct:dI->Prop:=λ_=>False
 ex:Xn->(Xn->Hp->Prop)->Prop:=λ_ _=>False
abbrev pS:=PEnds->dI->Prop
def PH(W:Wd)(H:Hp)(x:P)(v:V):Prop:=Bag H W.b W.a/\(∀p o,p≠W.b->W.H₀ p=some o->H p=some o)/\Rp W.b (λp=>W.H₀ p≠none) H x v
structure RelD(W:Wd)(E:PEnds)(D:Ends):Prop where
 nx:∀ρ σ H,E.nx ρ->Ok W ρ σ H->D.nx σ H
 rt:∀x v H,E.rt x->PH W H x v->D.rt v H
 bk:∀ρ σ H,E.bk ρ->Ok W ρ σ H->D.bk σ H
 ct:∀ρ σ H,E.ct ρ->Ok W ρ σ H->D.ct σ H
 noO:∀p,¬W.O p
 ex:∀n H EX,E.ex n EX->Bag H W.b W.a->(∀p o,p≠W.b->W.H₀ p=some o->H p=some o)->EX n H
def EQ(t:TS)(p:pS):Prop:=∀(W:Wd) (ρ:dI) (σ:St) (H:Hp) (D:Ends) (E:PEnds),Ok W ρ σ H->p E ρ->RelD W E D->t D σ H
def QS{ι:Type}(Xs:ι->Cx)(st:Stmt)(p:pS):Prop:=∃t,(∀i,PS (Xs i) st t)/\EQ t p
def Ay{ι:Type}(Xs:ι->Cx)(st:He)(p:pS):Prop:=∃t,(∀i,Bf (Xs i) st t)/\EQ t p
def PJ:pS:=λE ρ=>E.nx ρ
def PL(p q:pS):pS:=λE ρ=>p { E with nx:=q E } ρ
def PM:pS:=λ_ _=>False
def D1(x:P)(f:Fl):Bool:=x.imm||(match f with|.cl=>false|.an=>false|_=>true)
def AW(p:pE):pS:=λE ρ=>p ρ λx f=>D1 x f=true/\E.rt x
def PN(c:pT)(p q:pS):pS:=λE ρ=>c ρ λb=>if b=true then p E ρ else q E ρ
def Ig(p:pE)(k:Nat):pS:=λE ρ=>p ρ λx f=>BQ k x f ρ E.nx
section
variable{ι:Type}{Xs:ι->Cx}{st:Stmt}{qF:He}{p q:pS}{a:Expr}{pa:pE}
theorem Bc:Ay Xs [] PJ:=⟨_,λ_=>GQ,λW ρ σ H D E ok h r=>r.nx ρ σ H h ok⟩
theorem AV(h:QS Xs st p):Ay Xs [st] p:=let⟨t,h1,h2⟩:=h;⟨t,λi=>Co (h1 i),h2⟩
theorem AN(h:QS Xs st p)(g:Ay Xs qF q):Ay Xs (st::qF) (PL p q):=by
 obtain⟨t,h1,h2⟩:=h;obtain⟨u,d,c⟩:=g;exact⟨_,λi=>Bp (h1 i) (d i),λW ρ σ H D E ok h r=>h2 W ρ σ H _ _ ok h ⟨λρ' σ' H' e a=>c W ρ' σ' H' D E a e r,r.rt,r.bk,r.ct,r.noO,r.ex⟩⟩
theorem Ay.weak{p m:pS}(h:Ay Xs qF p)(hw:∀E ρ,m E ρ->p E ρ):Ay Xs qF m:=let⟨t,h1,h2⟩:=h;⟨t,h1,λW ρ σ H D E ok h r=>h2 W ρ σ H D E ok (hw E ρ h) r⟩
theorem PP:QS Xs st PM:=⟨_,λ_=>Ua,λ_ _ _ _ _ _ _ h _=>h.elim⟩
theorem RF.ret{x:P}(ok:Ok W ρ σ H)(h:RF W ρ σ Hs f H x v)(l:D1 x f=true):PH W H x v:=by
 refine⟨ok.bag,ok.old,?_⟩;by_cases hi:x.imm=true
 ·exact(h.any ok).imm hi
 ·have k:∀{g:Fl},(∀p,W.H₀ p≠none->AC W ρ σ g p)->Rp W.b (AC W ρ σ g) H x v->Rp W.b (λp=>W.H₀ p≠none) H x v:=λ{g} hg h=>h.keep (λp o j e=>⟨λz=>j (hg p z),e⟩) λp vs e=>e;cases f with
  |nw=>exact k (g:=.fr) (λp z=>.inr (.inr z)) h.1
  |fr=>exact k (g:=.fr) (λp z=>.inr (.inr z)) h
  |rf=>exact k (g:=.rf) (λp z=>.inr z) h
  |cl=>simp[D1,hi]at l
  |an=>simp[D1,hi]at l
  |bo =>
   obtain⟨p,h1,h2,d⟩:=h;have nb:=(ok.ow (.inr h2)).1;have k2:∀{xs:dH} {vs:dG},AB W.b (Zf W ρ σ) H xs vs->AB W.b (λp=>W.H₀ p≠none) H xs vs:=λh=>h.keep (λp o j e=>⟨λz=>j (.inr (.inr z)),e⟩) λp vs e=>e;cases x with
   |lst xs=>obtain⟨vs,c,a⟩:=d;exact⟨p,vs,h1,λz=>z nb,c,k2 a⟩
   |dT ks xs=>obtain⟨vs,c,i,a⟩:=d;exact⟨p,vs,h1,λz=>z nb,c,i,k2 a⟩
   |fT ks xs=>obtain⟨vs,c,i,a⟩:=d;exact⟨p,vs,h1,λz=>z nb,c,i,k2 a⟩
   |dK ks xs=>obtain⟨vs,c,i,a⟩:=d;exact⟨p,vs,h1,λz=>z nb,c,i,k2 a⟩
   |_=>exact d.elim
theorem Al(h:QE Xs a pa):QS Xs (.Return (some a) pos) (AW pa):=by
 obtain⟨t,h1,h2⟩:=h;exact⟨_,λi=>FP (h1 i),λW ρ σ H D E ok h r=>h2 W ρ σ H _ _ ok h λx f v H1 ⟨k0,k⟩ c d=>r.rt x v H1 k (d.ret (ok.step c) k0)⟩
theorem Bd{pc:pT}{l j:He}(s:QT Xs c pc)(v:Ay Xs l p)(u:Ay Xs j q):QS Xs (.If c l j pos) (PN pc p q):=by
 obtain⟨tc,d,a⟩:=s;obtain⟨ta,h,g⟩:=v;obtain⟨tb,f,e⟩:=u;refine⟨_,λi=>GR (d i) (h i) (f i),λW ρ σ H D E ok o r=>a W ρ σ H _ _ ok o λc H1 h1 n=>?_⟩;cases c with
 |true=>exact g W ρ σ H1 D E (ok.step n) h1 r
 |false=>exact e W ρ σ H1 D E (ok.step n) h1 r
theorem PQ{t:TE}{k:Nat}(h2:BH t pa):EQ (En t (CI k)) (Ig pa k):=λW ρ σ H D E ok h r =>
 h2 W ρ σ H _ _ ok h λx f v H1 g c d=>by
  obtain⟨ρ',e,a⟩:=Ok.set ok c d g;exact r.nx ρ' _ H1 e a
theorem Am{k:Nat}(f:∀i,(Xs i).N.Nodup)(h:QE Xs a pa)(hi:∀i,(Xs i).N[k]?=some x:=by intro _;rfl)(c:∀i,CA (Xs i).env.scope x:=by intro _;trivial)
  (d:∀i,swapsWith a (some (.Name x pos')) pos.line (Xs i).env=pure false:=by intro _;rfl) (e:∀i,(Xs i).fn x=true\/(Xs i).env.scope.names.lookup x=some .local:=by intro _;trivial):QS Xs (.Assign [.Name x pos'] a pos) (Ig pa k):=by
 obtain⟨t,h1,h2⟩:=h;exact⟨_,λi=>CO (f i) (hi i) (c i) (h1 i) (d i) (e i),PQ h2⟩
end
abbrev pG:=P->Fl->dI->(dI->Prop)->Prop
end L2
variable{pg:L2.pG}
namespace L2
open PySem PySem.Spec PyProof.Rows
def G6(g:TG)(p:pG):Prop:=∀(W:Wd) (ρ:dI) (σ:St) (Hs H:Hp) (x:P) (f:Fl) (v:V) (Q:St->Hp->Prop) (K:dI->Prop),Ok W ρ σ Hs->Step W.b W.a Hs H->RF W ρ σ Hs f H x v->p x f ρ K->(∀ρ' σ',K ρ'->Ok W ρ' σ' H->Q σ' H)->g v σ H Q
def QG{ι:Type}(Xs:ι->Cx)(tg:Expr)(p:pG):Prop:=∃g,(∀i,PG (Xs i) tg g)/\G6 g p
def G7:Ge->dH->Fl->dI->(dI->Prop)->Prop
 |[],[],_,ρ,K=>K ρ
 |k::ks,x::xs,f,ρ,K=>BQ k x f ρ λρ'=>G7 ks xs f ρ' K
 |_,_,_,_,_=>False
def E2(ks:Ge):pG:=λx f ρ K=>∃xs,x=.tup xs/\xs.length=ks.length/\G7 ks xs f.el ρ K
def DL:Ge->EE
 |[]=>KU
 |k::ks=>IF (CI k) (DL ks)
section
variable{ι:Type}{Xs:ι->Cx}
theorem PR(k:Nat):G6 (CI k) (λx f ρ K=>BQ k x f ρ K):=λW ρ σ Hs H x f v Q K ok st r h q=>by
 obtain⟨ρ',e,a⟩:=Ok.set ok st r h;exact q ρ' _ e a
theorem ER{k:Nat}(d:∀i,(Xs i).N.Nodup)(hi:∀i,(Xs i).N[k]?=some x:=by intro _;rfl)(a:∀i,CA (Xs i).env.scope x:=by intro _;trivial)
  (c:∀i,(Xs i).fn x=true\/(Xs i).env.scope.names.lookup x=some .local:=by intro _;trivial):QG Xs (.Name x pos) (BQ k):=⟨_,λi=>BD (d i) (hi i) (a i) (c i),PR k⟩
theorem Wi{x:P}{k:Nat}{K:dI->Prop}(ok:Ok W ρ σ H)(r:Rp W.b (AC W ρ σ f) H x v)(h:BQ k x f.el ρ K) :
  ∃ρ',K ρ'/\Ok W ρ' (σ.set k (some v)) H/\∀p,Ae ρ' (σ.set k (some v)) p->Ae ρ σ p:=by
 unfold BQ at h;split at h
 ·rename_i hi;obtain⟨ρ',e,a⟩:=Ok.set (K:=λρ'=>ρ'=ρ.set k (.sh x)) ok (Step.refl ok.bag) (RF.ofEl (Hs:=H) r) (by unfold BQ;rw[aC hi]);subst e;exact⟨_,h,a,Fd λ_ z=>nomatch z⟩
 ·rename_i hi;have k1:∀(s:S),(∀x,s≠.own x)->K (ρ.set k s)->BQ k x f.el ρ (λρ'=>ρ'=ρ.set k s)->∃ρ',K ρ'/\Ok W ρ' (σ.set k (some v)) H/\∀p,Ae ρ' (σ.set k (some v)) p->Ae ρ σ p:=λs c g d=>by
   obtain⟨ρ',e,a⟩:=Ok.set ok (Step.refl ok.bag) (RF.ofEl (Hs:=H) r) d;subst e;exact⟨_,g,a,Fd c⟩
  cases f with
  |nw=>exact k1 (.fr x) (λ_ z=>nomatch z) h (by unfold BQ;rw[aB hi];rfl)
  |fr=>exact k1 (.fr x) (λ_ z=>nomatch z) h (by unfold BQ;rw[aB hi];rfl)
  |bo=>exact k1 (.fr x) (λ_ z=>nomatch z) h (by unfold BQ;rw[aB hi];rfl)
  |cl=>exact k1 (.sh x) (λ_ z=>nomatch z) h (by unfold BQ;rw[aB hi];rfl)
  |_=>exact h.elim
theorem PU{W:Wd}{H:Hp}{f:Fl}{Q:St->Hp->Prop}{K:dI->Prop}:∀{ks:Ge} {xs:dH} {vs:dG} {ρ:dI} {σ:St},Ok W ρ σ H->AB W.b (AC W ρ σ f) H xs vs->G7 ks xs f.el ρ K->(∀ρ' σ',K ρ'->Ok W ρ' σ' H->Q σ' H)->DL ks vs σ H Q
 |[],[],vs,ρ,σ,ok,r,h,q=>⟨r,q ρ σ h ok⟩
 |[],_::_,_,_,_,_,_,h,_=>h.elim
 |_::_,[],_,_,_,_,_,h,_=>h.elim
 |k::ks,x::xs,vs,ρ,σ,ok,r,h,q=>by
  obtain⟨v,t,g,d,c⟩:=r;subst g;obtain⟨ρ',e,a,sub⟩:=Wi ok d h;exact⟨v,t,rfl,PU a (AB.move ok.bag (Step.refl ok.bag) (λp z=>.inl (sub p z)) c) e q⟩
theorem PV{K:Fg}{ks:Ge}(d:ks.length=n):G6 (Em K n (DL ks)) (E2 ks):=λW ρ σ Hs H x f v Q K ok st r h q=>by
 obtain⟨xs,rfl,e,h⟩:=h;obtain⟨p,vs,rfl,hc,a⟩:=r.items rfl;have hc:H p=some (.tup vs):=by
  obtain⟨j,c,i,g,_⟩:=r.any (ok.step st);cases i;rcases hc with hc|hc
  ·rw[g]at hc;cases hc
  ·exact hc
 exact⟨p,vs,rfl,.of hc,by rw[<-a.length,e,d],PU (ok.step st) a h q⟩
theorem G8{k1:Nat}{ks:Ge}(e:∀i,(Xs i).calm=true)(f:∀i,(Xs i).K=Kf)(h:∀i,El (Xs i) es (DL ks))(d:ks.length=n)
  (c:∀i,(assignEach es (Xs i).env).length=n:=by intro _;rfl) (a:∀i,(assignEach es (Xs i).env).findIdx? (·.1)=none:=by intro _;rfl):QG Xs (.Tuple es k1 pos) (E2 ks) :=
 ⟨Em Kf n (DL ks),λi=>by have:=KW (k:=k1) (pos:=pos) (e i) (h i) (c i) (a i);rw[f i]at this;exact this,PV d⟩
theorem Wj{a:Expr}{pa:pE}(p:QE Xs a pa)(o:QG Xs tg pg)(l:∀i,swapsWithSole [tg] a pos.line (Xs i).env=pure false:=by intro _;rfl)(hw:∀i,swappedStores [tg] a (Xs i).env=pure none:=by intro _;rfl)
  (h1:∀i,(assignEach [tg] (Xs i).env).map (·.2)=[assign tg (Xs i).env]:=by intro _;rfl):QS Xs (.Assign [tg] a pos) (λE ρ=>pa ρ λx f=>pg x f ρ E.nx):=by
 obtain⟨t,w,u⟩:=p;obtain⟨g,s,q⟩:=o;exact⟨_,λi=>KY (w i) (s i) (l i) (hw i) (h1 i),λW ρ σ H D E ok h r=>u W ρ σ H _ _ ok h λx f v H1 n d j=>q W ρ σ H H1 x f v _ _ ok d j n λρ' σ' e c=>r.nx ρ' σ' H1 e c⟩
end
abbrev pF:=dH->(P->Prop)->Prop
def AM(f:pF):Sp:=λvs H Q _=>∃(b a:Addr) (xs:dH) (K:P->Prop),Bag H b a/\AB b (λp=>p=b) H xs vs/\f xs K/\∀x v H',K x->Step b a H H'->Rp b (λp=>H p≠none) H' x v->Q v H'
def E3(n:Nat)(xs:dH):dI:=xs.map S.sh++replicate (n - xs.length) S.emp
def LA(f:pF)(pa:pA):pE:=λρ K=>pa ρ λxs=>f (xs.map (·.1)) λz=>K z .nw
theorem Wk(h:vs[i]?=some v):(Ca N vs)[i]?=some (some v):=by
 unfold Ca;have hi:i<vs.length:=by
  rcases cE i vs.length with q|q
  ·exact q
  ·rw[bQ q]at h;cases h
 rw[getElem?_append_left (by rw[aA];exact hi),bO,h];rfl
theorem PX{x:P}:(E3 n xs)[i]?≠some (.own x):=by
 intro h;have a:=aM h;unfold E3 at a;rcases bA.mp a with z|z
 ·obtain⟨y,_,e⟩:=bU.mp z;cases e
 ·cases(mem_replicate.mp z).2
theorem Wl{b:Addr}(g:Bag H b a)(r:AB b (λp=>p=b) H xs vs)(n:xs.length<=N.length) :
  Ok ⟨b,a,H,λ_=>none,λ_=>False⟩ (E3 N.length xs) (Ca N vs) H where
 bag:=g
 fb:=rfl
 old:=λ_ _ _ e=>e
 frm:=λ_ _ e=>nomatch e
 oo:=λ_ z=>z.elim
 len:=by
  have:=r.length;simp only[Ca,E3,aG,aA,length_replicate];lia
 slot:=λi s e=>by
  have c:=r.length;unfold E3 at e;rcases cE i xs.length with q|q
  ·rw[getElem?_append_left (by rw[aA];exact q),bO]at e;obtain⟨v,h1,h2⟩:=r.get (i:=i) (x:=xs[i]) (by simp[q]);simp only[aH q,Option.map_some]at e;cases e;refine⟨some v,Wk h1,v,rfl,h2.keep (λp o d e=>⟨λz=>d ?_,e⟩) λp vs e=>e⟩;rcases z with z|z
   ·exact z
   ·rcases z with z|⟨j,y,h,_⟩
    ·exact z.elim
    ·exact bS h PX
  ·rw[getElem?_append_right (by rw[aA];exact q),aA]at e;have f:=aM e;have l:=(mem_replicate.mp f).2;subst l;have hi:i - xs.length<N.length - xs.length:=by
    rcases cE (i - xs.length) (N.length - xs.length)with z|z
    ·exact z
    ·rw[bQ (by rw[length_replicate];exact z)]at e;cases e
   refine⟨none,?_,trivial⟩;unfold Ca;rw[getElem?_append_right (by rw[aA,<-c];exact q),aA,<-c,getElem?_replicate,aC hi]
 uniq:=λi j x y h1=>bS h1 PX
section
variable{K:Fg}
theorem BC{st:Stmt}{k:Nat}{f:pF}(D:Aw K mg x st)(S:FnScope N ps (AR st))
  (B:∀(kV doc q:Value) (I:Go) (c ct:Value) (us:Do),us.length=ps.length->bindArgs (PySem.W.fnOf x x (Dc st) (Cr st) (AR st) .none kV doc q I c ct) ⟨us,[]⟩=pure (ps.zip us))
  (len:∀xs K,f xs K->xs.length=ps.length) (C:ps.length<=N.length)
  (d:∀(j:Addr) (c:Value) (A:Around) (outer:List Env) (s:Shared) (H:Hp) (E:XK),Room k (A.deeper (PyProof.Rows.envOfC x (AR st) s.heap.objs.size j c)) ->
   ∃p,Ay (λ_:Unit=>(EH Dd P' w K mg base N x (AR st) j c A outer s H E).nox) (Cr st) p/\∀xs K,f xs K->p { nx:=λ_=>K .non,rt:=K } (E3 N.length xs)):Fn P' w K mg base x (k+1) ps (AM f):=by
 refine FY D S B (λvs H Q E h=>?_) (λj c A outer s H vs Q E u h=>?_)
 ·obtain⟨b,a,xs,K,_,r,i,_⟩:=h;rw[<-r.length];exact len xs K i
 ·obtain⟨b,a,xs,o,g,r,i,n⟩:=h;obtain⟨p,⟨t,h1,h2⟩,G⟩:=d j c A outer s H E u;refine⟨t,h1 (),h2 _ _ _ H _ _ (Wl g r (by rw[len xs o i];exact C)) (G xs o i) ⟨λρ σ H' e ok=>?_,λy v H' e l=>?_,λ_ _ _ e=>e.elim,λ_ _ _ e=>e.elim,λ_ z=>z,λ_ _ _ e=>e.elim⟩⟩
  ·exact n _ _ H' e ⟨ok.bag,ok.old⟩ rfl
  ·exact n y v H' e ⟨l.1,l.2.1⟩ l.2.2
theorem Fn.imp{k:Nat}{sp sp':Sp}(F:Fn P' w K mg base x k ps sp)(h:∀vs H Q E,sp' vs H Q E->sp vs H Q E):Fn P' w K mg base x k ps sp':=by
 obtain⟨f,fd,F,r⟩:=F;exact⟨f,fd,F.imp h,r⟩
end
section
variable{ι:Type}{Xs:ι->Cx}
theorem Wm{f:pF}{t:TA}{pa:pA}(h2:K0 t pa):BH (Gb (AM f) [] E0 t) (LA f pa):=λW ρ σ H Q K ok l q =>
 h2 W ρ σ H _ _ ok l λxs vs H1 h1 g i=>by
  have d:=ok.step g;show AM f (vs++[]) H1 Q E0;rw[cO];refine⟨W.b,W.a,_,_,g.bag,(i.any d),h1,λx v H' k1 h c=>q x .nw v H' k1 (g.trans h) ⟨c.keep (λp o j e=>⟨λz=>j (d.dom z),e⟩) λp vs e=>e,λm=>?_⟩⟩;have k2:∀p,¬H1 p≠none->H p=none:=λp z=>g.free (Classical.not_not.mp z);cases x with
  |lst xs=>obtain⟨p,us,e,z,_⟩:=c;exact⟨p,e,k2 p z⟩
  |dT ks xs=>obtain⟨p,us,e,z,_⟩:=c;exact⟨p,e,k2 p z⟩
  |fT ks xs=>obtain⟨p,us,e,z,_⟩:=c;exact⟨p,e,k2 p z⟩
  |dK ks xs=>obtain⟨p,us,e,z,_⟩:=c;exact⟨p,e,k2 p z⟩
  |_=>simp[P.mut]at m
theorem Ad{k:Nat}{f:pF}{p:Pos}{e:Expr}{pa:pA}(G:∀i,Fn (Xs i).prog (Xs i).w (Xs i).K (Xs i).mg (Xs i).base x k ps (AM f))(d:∀i,Room k (Xs i).A)
  (j:QA Xs (e::es) pa) (g:∀i,Gl (Xs i) x:=by intro _;rfl) (c:(x==("__debug__":Str))=false:=by decide +kernel) (h:∀i,starEach (e::es) (Xs i).env=(false,eval e (Xs i).env)::starEach es (Xs i).env:=by intro _;rfl) (a:∀i,(backTo pos (starEach es (Xs i).env)).any (·.1)=false:=by intro _;rfl) :
  QE Xs (.Call (.Name x p) (e::es) [] pos) (LA f pa):=by
 obtain⟨t,h1,h2⟩:=j;exact⟨_,λi=>Ev (G i) (d i) (g i) (h1 i) c (h i) (a i),Wm h2⟩
end
open Classical in
def frz(W:Wd)(ρ:dI)(σ:St)(H:Hp):Hp:=λp=>if p=W.b\/Ow W ρ σ p then none else H p
abbrev Wd.frz(W:Wd)(ρ:dI)(σ:St)(H:Hp):Wd:={ W with F:=L2.frz W ρ σ H }
abbrev Fe(W:Wd)(ρ:dI)(σ:St)(H1:Hp):(Addr->Prop)->dI->St->Hp->Prop:=λO' ρ' σ' H'=>O'=W.O/\Ok (W.frz ρ σ H1) ρ' σ' H'
abbrev Ff(W:Wd)(ρ:dI)(σ:St)(H1:Hp):(Addr->Prop)->dI->St->Hp->Prop:=λO' ρ' σ' H'=>(∀p,O' p->W.O p\/H1 p=none)/\ρ'=ρ/\σ'=σ/\Ok W ρ σ H'/\Step W.b W.a H1 H'
def Cv(W:Wd)(Lt:(Addr->Prop)->dI->St->Hp->Prop)(J:It)(xs:dH)(f:Fl):Prop:=∀O' ρ' σ' H',Lt O' ρ' σ' H'->∀i,(i<xs.length->J.go i H')/\(xs.length<=i->J.stop i H') /\
 ∀v H'',J.yld i H' v H''->∀x,xs[i]?=some x->Step W.b W.a H' H''/\RF { W with O:=O' } ρ' σ' H' f H'' x v
abbrev pI:=dI->(dH->Fl->Bool->Prop)->Prop
def Ih(wi:TI)(p:pI):Prop:=∀(W:Wd) (ρ:dI) (σ:St) (H:Hp) (R:It->Hp->Prop) (K:dH->Fl->Bool->Prop),Ok W ρ σ H->p ρ K ->
 (∀xs f st J H1,K xs f st->Step W.b W.a H H1->Cv W (Ff W ρ σ H1) J xs f->(st=true->Cv W (Fe W ρ σ H1) J xs f)->R J H1)->wi σ H R
def QI{ι:Type}(Xs:ι->Cx)(tg e:Expr)(p:pI):Prop:=∃wi,(∀i,PI (Xs i) tg e wi)/\Ih wi p
section
variable{x:P}{k:Nat}
theorem G9(hz:¬(p=W.b\/Ow W ρ σ p)):frz W ρ σ H p=H p:=by unfold frz;rw[aB hz]
theorem Ii(hz:p=W.b\/Ow W ρ σ p):frz W ρ σ H p=none:=by unfold frz;rw[aC hz]
theorem Wn(h:frz W ρ σ H p=some o):H p=some o/\p≠W.b/\¬Ow W ρ σ p:=by
 by_cases a:p=W.b\/Ow W ρ σ p
 ·rw[Ii a]at h;cases h
 ·rw[G9 a]at h;exact⟨h,λz=>a (.inl z),λz=>a (.inr z)⟩
theorem Ok.frz(ok:Ok W ρ σ H):Ok (W.frz ρ σ H) ρ σ H where
 bag:=ok.bag
 fb:=Ii (.inl rfl)
 old:=ok.old
 frm:=λp o e=>(Wn e).1
 oo:=λp h=>let⟨h1,h2,n,l,j⟩:=ok.oo p h;⟨h1,Ii (.inr (.inl h)),n,l,j⟩
 len:=ok.len
 slot:=λi s e=>by
  obtain⟨o,h1,h2⟩:=ok.slot i s e;refine⟨o,h1,?_⟩;cases s with
  |emp=>trivial
  |sh x=>exact h2
  |fr x=>exact h2
  |own x =>
   obtain⟨p,a,g,q,f,d,c⟩:=h2;exact⟨p,a,g,Ii (.inr (.inr ⟨i,x,e,by rw[h1,a]⟩)),f,d,c⟩
 uniq:=ok.uniq
theorem Ok.thaw(a:Ok W ρ σ H)(ok:Ok (W.frz ρ σ H) ρ' σ' H'):Ok W ρ' σ' H' where
 bag:=ok.bag
 fb:=a.fb
 old:=ok.old
 frm:=λp o e=>by
  have hb:p≠W.b:=λz=>by rw[z,a.fb]at e;cases e
  have d:¬Ow W ρ σ p:=λz=>by rw[(a.ow z).2.1]at e;cases e
  exact ok.frm p o ((G9 λz=>z.elim hb d).trans (a.frm p o e))
 oo:=λp h=>let⟨h1,h2,w,v,r⟩:=ok.oo p h;⟨h1,(a.oo p h).2.1,w,v,r⟩
 len:=ok.len
 slot:=λi s e=>by
  obtain⟨o,h1,h2⟩:=ok.slot i s e;refine⟨o,h1,?_⟩;cases s with
  |emp=>trivial
  |sh x=>exact h2
  |fr x=>exact h2
  |own x =>
   obtain⟨p,q,n,c,g,l,j⟩:=h2;refine⟨p,q,n,?_,g,l,j⟩;cases f:W.F p with
   |none=>rfl
   |some u =>
    have hb:p≠W.b:=g;have d:¬Ow W ρ σ p:=λz=>by rw[(a.ow z).2.1]at f;cases f
    have c:L2.frz W ρ σ H p=none:=c;rw[G9 (λz=>z.elim hb d),a.frm p u f]at c;cases c
 uniq:=ok.uniq
theorem Fh(ok:Ok W ρ σ H)(c:Ok (W.frz ρ σ H) ρ' σ' H')(l:f=.nw\/f=.fr\/f=.cl):(∀p o,¬AC W ρ σ f p->H p=some o->¬AC W ρ' σ' f p/\H' p=some o)/\∀p vs,H p=some (.tup vs)->H' p=some (.tup vs):=by
 have c:Ok (W.frz ρ σ H) ρ' σ' H':=c;have q:∀p,¬AC W ρ σ f p->p≠W.b:=λp z e=>z (e▸AC.b);have j:∀p,¬AC W ρ σ f p->¬Ow W ρ σ p:=λp z e=>z (by rcases l with rfl|rfl|rfl<;>simp[AC,e]);refine⟨λp o a e=>?_,λp vs e=>?_⟩
 ·have d:L2.frz W ρ σ H p=some o:=(G9 λz=>z.elim (q p a) (j p a)).trans e;have g:¬Ae ρ' σ' p:=λz=>by
   have:=(c.ow (.inr z)).2.1;have this:L2.frz W ρ σ H p=none:=this;rw[d]at this;cases this
  refine⟨λz=>?_,c.frm p o d⟩;have h:¬W.O p:=λz=>j p a (.inl z);rcases l with rfl|rfl|rfl<;>simp only[AC,not_or]at z a
  ·rcases z with z|(z|z)|z
   ·exact a.1 z
   ·exact h z
   ·exact g z
   ·exact a.2.2 z
  ·rcases z with z|(z|z)|z
   ·exact a.1 z
   ·exact h z
   ·exact g z
   ·exact a.2.2 z
  ·rcases z with z|(z|z)
   ·exact a.1 z
   ·exact h z
   ·exact g z
 ·refine c.frm p _ ((G9 λz=>z.elim (ok.bag.neT e).1 λz=>?_).trans e);obtain⟨_,_,_,_,o,i,n⟩:=ok.ow z;rw[e]at i;cases i;exact n vs rfl
theorem LB{O':Addr->Prop}(st:Step W.b W.a H H')(c:∀p,O' p->W.O p\/H p=none)(p:Addr)(o:HO)(hz:¬AC W ρ σ f p)(e:H p=some o):¬AC { W with O:=O' } ρ σ f p/\H' p=some o:=by
 refine⟨λz=>hz ?_,st.same p o (λz=>hz (z▸AC.b)) e⟩;have k:Ow { W with O:=O' } ρ σ p->Ow W ρ σ p:=λz=>z.elim (λz=>(c p z).elim .inl λz=>by rw[e]at z;cases z) .inr;cases f<;>simp only[AC]at z ⊢
 ·exact z.elim .inl λz=>.inr (z.elim (λz=>.inl (k z)) .inr)
 ·exact z.elim .inl λz=>.inr (z.elim (λz=>.inl (k z)) .inr)
 ·exact z.elim .inl λz=>.inr (k z)
 ·exact z.elim .inl λz=>.inr (z.elim (λz=>.inl (k z)) .inr)
 ·exact z
 ·exact z
def B4(f:Fl):Bool:=match f with|.nw=>true|.fr=>true|.cl=>true|_=>false
theorem Fi(h:B4 f=true):f=.nw\/f=.fr\/f=.cl:=by cases f<;>simp_all [B4]
theorem PY{K:Fg}(ok:Ok W ρ σ H)(r:RF W ρ σ Hs f H (.lst xs) (.ref p))(w:H p=some (.lst vs))(rv:AB W.b (AC W ρ σ f) H xs vs) :
  Cv W (Ff W ρ σ H) (DI K p) xs f.el/\(B4 f=true->Cv W (Fe W ρ σ H) (DI K p) xs f.el):=by
 have l:p≠W.b:=by
  obtain⟨q,us,j,c,_⟩:=r.any ok;cases j;exact c
 have h:∀O' ρ' σ' H',H' p=some (.lst vs)->AB W.b (AC { W with O:=O' } ρ' σ' f) H' xs vs->Bag H' W.b W.a->∀i,(i<xs.length->(DI K p).go i H')/\(xs.length<=i->(DI K p).stop i H') /\
   ∀v d,(DI K p).yld i H' v d->∀x,xs[i]?=some x->Step W.b W.a H' d/\RF { W with O:=O' } ρ' σ' H' f.el d x v:=λO' ρ' σ' H' e o D i=>by
  have g:=o.length;refine⟨λhi=>⟨vs,vs[i]'⋯,.of e,by simp[<-g,hi]⟩,λhi=>⟨vs,.of e,⋯⟩,λv d y x C=>?_⟩;obtain⟨c,y⟩:=y;subst c;obtain⟨u,I,G⟩:=o.get C;have z:=y vs (.of e);rw[I]at z;cases z;exact⟨Step.refl D,RF.ofEl (W:={ W with O:=O' }) G⟩
 refine⟨λO' ρ' σ' H' g i=>?_,λs O' ρ' σ' H' g i=>?_⟩
 ·obtain⟨E,rfl,rfl,A,st⟩:=g;exact h _ _ _ H' (st.same p _ l w) (rv.keep (LB st E) λq us e=>st.same q _ (ok.bag.neT e).1 e) st.bag i
 ·obtain⟨rfl,g⟩:=g;have n:=Fh ok g (Fi s);have B:¬AC W ρ σ f p:=by
   cases f with
   |nw=>obtain⟨q,us,j,c,_⟩:=r.1;cases j;exact c
   |fr=>obtain⟨q,us,j,c,_⟩:=r;cases j;exact c
   |cl=>obtain⟨q,us,j,c,_⟩:=r;cases j;exact c
   |_=>simp[B4]at s
  exact h _ _ _ H' (n.1 p _ B w).2 (rv.keep n.1 n.2) g.bag i
theorem Wo{K:Fg}(ok:Ok W ρ σ H)(j:H p=some (.tup vs))(rv:AB W.b (AC W ρ σ f) H xs vs) :
  Cv W (Ff W ρ σ H) (Eo K p) xs f.el/\(B4 f=true->Cv W (Fe W ρ σ H) (Eo K p) xs f.el):=by
 have g:∀O' ρ' σ' H',H' p=some (.tup vs)->AB W.b (AC { W with O:=O' } ρ' σ' f) H' xs vs->Bag H' W.b W.a->∀i,(i<xs.length->(Eo K p).go i H')/\(xs.length<=i->(Eo K p).stop i H') /\
   ∀v c,(Eo K p).yld i H' v c->∀x,xs[i]?=some x->Step W.b W.a H' c/\RF { W with O:=O' } ρ' σ' H' f.el c x v:=λO' ρ' σ' H' e l w i=>by
  have d:=l.length;refine⟨λhi=>⟨vs,vs[i]'⋯,.of e,by simp[<-d,hi]⟩,λhi=>⟨vs,.of e,⋯⟩,λv c y x r=>?_⟩;obtain⟨C,y⟩:=y;subst C;obtain⟨u,B,A⟩:=l.get r;have n:=y vs (.of e);rw[B]at n;cases n;exact⟨Step.refl w,RF.ofEl (W:={ W with O:=O' }) A⟩
 refine⟨λO' ρ' σ' H' d i=>?_,λs O' ρ' σ' H' d i=>?_⟩
 ·obtain⟨z,rfl,rfl,o,st⟩:=d;exact g _ _ _ H' (st.same p _ (ok.bag.neT j).1 j) (rv.keep (LB st z) λq us e=>st.same q _ (ok.bag.neT e).1 e) st.bag i
 ·obtain⟨rfl,d⟩:=d;have h:=Fh ok d (Fi s);exact g _ _ _ H' (h.2 p _ j) (rv.keep h.1 h.2) d.bag i
end
def PZ(p:pE):pI:=λρ K=>p ρ λx f=>∃xs,x=.lst xs/\K xs f.el (B4 f)
def Pa(p:pE):pI:=λρ K=>p ρ λx f=>∃xs,x=.tup xs/\K xs f.el (B4 f)
def DM(lo:Int)(n:Nat):dH:=(List.range n).map λ(k:Nat)=>P.int (lo+k)
def Pb(p:pA):pI:=λρ K=>p ρ λxs=>∃j f,xs=[(P.int j,f)]/\-(2 ^ 62)<=j/\j<2 ^ 62/\K (DM 0 j.toNat) .fr true
def Pc(p:pA):pI:=λρ K=>p ρ λxs=>∃i j f g,xs=[(P.int i,f),(P.int j,g)]/\(-(2 ^ 62)<=i/\i<2 ^ 62/\-(2 ^ 62)<=j/\j<2 ^ 62)/\K (DM i (j - i).toNat) .fr true
theorem D2(lo:Int)(n:Nat):(DM lo n).length=n:=by simp[DM]
theorem HA{lo:Int}{x:P}(h:(DM lo n)[i]?=some x):i<n/\x=.int (lo+i):=by
 unfold DM at h;rw[bO]at h;rcases cE i n with q|q
 ·rw[getElem?_range q]at h;exact⟨q,(oI h).symm⟩
 ·rw[bQ (by rw[bG];exact q)]at h;cases h
section
variable{ι:Type}{Xs:ι->Cx}{a:Expr}{pa:pE}
theorem Bk(s:∀i,(Xs i).K=Kf)(h:QE Xs a pa):QI Xs tg a (PZ pa):=by
 obtain⟨t,h1,h2⟩:=h;refine⟨Nj Kf t,λi=>by have:=Nk (tg:=tg) (h1 i);rw[s i]at this;exact this,λW ρ σ H R K ok r q=>h2 W ρ σ H _ _ ok r λx f v H1 ⟨xs,e,k1⟩ g d=>?_⟩;subst e;have c:=ok.step g;obtain⟨p,vs,y,w,u⟩:=d.items rfl;subst y;have l:H1 p=some (.lst vs):=by
  obtain⟨q,us,o,A,n,_⟩:=d.any c;cases o;rcases w with z|z
  ·exact z
  ·rw[n]at z;cases z
 have j:=PY (K:=Kf) c d l u;exact⟨p,rfl,⟨vs,.of l⟩,q xs _ _ _ H1 k1 g j.1 j.2⟩
theorem E4(s:∀i,(Xs i).K=Kf)(h:QE Xs a pa):QI Xs tg a (Pa pa):=by
 obtain⟨t,h1,h2⟩:=h;refine⟨IG Kf t,λi=>by have:=Nl (tg:=tg) (h1 i);rw[s i]at this;exact this,λW ρ σ H R K ok r q=>h2 W ρ σ H _ _ ok r λx f v H1 ⟨xs,e,k1⟩ d g=>?_⟩;subst e;have c:=ok.step d;obtain⟨p,vs,y,w,u⟩:=g.items rfl;subst y;have l:H1 p=some (.tup vs):=by
  obtain⟨q,us,o,n,_⟩:=g.any c;cases o;rcases w with z|z
  ·rw[n]at z;cases z
  ·exact z
 have j:=Wo (K:=Kf) c l u;exact⟨p,rfl,⟨vs,.of l⟩,q xs _ _ _ H1 k1 d j.1 j.2⟩
theorem Pd{d:(Addr->Prop)->dI->St->Hp->Prop}{J:It}(c:∀O' ρ' σ' H',d O' ρ' σ' H'->Bag H' W.b W.a)(n:∀i H',i<xs.length->J.go i H')(h:∀i H',xs.length<=i->J.stop i H')
  (f:∀i H' v H'' x,J.yld i H' v H''->xs[i]?=some x->H''=H'/\x.imm=true/\∀(b:Addr) (Z:Addr->Prop),Rp b Z H' x v):Cv W d J xs .fr:=λO' ρ' σ' H' l i=>⟨n i H',h i H',λv H'' y x g=>by
 obtain⟨e,hi,j⟩:=f i H' v H'' x y g;subst e;exact⟨Step.refl (c _ _ _ _ l),j _ _⟩⟩
theorem Ij{lo:Int}:Cv W (Ff W ρ σ H) (DJ lo n) (DM lo n) .fr/\(true=true->Cv W (Fe W ρ σ H) (DJ lo n) (DM lo n) .fr):=by
 have d:∀i H' v a x,(DJ lo n).yld i H' v a->(DM lo n)[i]?=some x->a=H'/\x.imm=true/\∀(b:Addr) (Z:Addr->Prop),Rp b Z H' x v:=λi H' v a x y e=>by
  obtain⟨j,g⟩:=y;obtain⟨_,f⟩:=HA e;subst f;exact⟨j,rfl,λ_ _=>g⟩
 exact⟨Pd (λ_ _ _ _ c=>c.2.2.2.1.bag) (λi H' h=>by rw[D2]at h;exact h) (λi H' h=>by rw[D2]at h;exact h) d,
  λ_=>Pd (λ_ _ _ _ c=>c.2.bag) (λi H' h=>by rw[D2]at h;exact h) (λi H' h=>by rw[D2]at h;exact h) d⟩
theorem HB{p:Pos}{pr:pA}(h:∀i,(Xs i).mg "range"=none)(o:QA Xs [a] pr)(n:∀i,Gl (Xs i) "range":=by intro _;rfl)(g:∀i,starEach [a] (Xs i).env=[(false,eval a (Xs i).env)]:=by intro _;rfl):QI Xs tg (.Call (.Name "range" p) [a] [] pos) (Pb pr):=by
 obtain⟨t,h1,h2⟩:=o;refine⟨_,λi=>IH (n i) (h i) (h1 i) (g i),λW ρ σ H R K ok l q=>h2 W ρ σ H _ _ ok l λxs vs H1 ⟨j,f,e,x,w,k1⟩ c d=>?_⟩;subst e;obtain⟨v,t,u,s,r⟩:=d;subst u;cases(show t=[]from r);cases Bw (ok.step c) s;exact⟨j,rfl,x,w,q _ _ _ _ H1 k1 c Ij.1 Ij.2⟩
theorem Wp{b:Expr}{p:Pos}{pr:pA}(r:∀i,(Xs i).mg "range"=none)(w:QA Xs [a,b] pr)(u:∀i,Gl (Xs i) "range":=by intro _;rfl)(o:∀i,starEach [a,b] (Xs i).env=[(false,eval a (Xs i).env),(false,eval b (Xs i).env)]:=by intro _;rfl)(d:∀i,starEach [b] (Xs i).env=[(false,eval b (Xs i).env)]:=by intro _;rfl):QI Xs tg (.Call (.Name "range" p) [a,b] [] pos) (Pc pr):=by
 obtain⟨t,h1,h2⟩:=w;refine⟨_,λi=>Ul (u i) (r i) (h1 i) (o i) (d i),λW ρ σ H R K ok s q=>h2 W ρ σ H _ _ ok s λxs vs H1 ⟨j,n,f,g,e,C,k1⟩ c l=>?_⟩;subst e;obtain⟨v,t,B,A,D,h,z,y,x⟩:=l;subst B;subst z;cases(show h=[]from x);cases Bw (ok.step c) A;cases Bw (ok.step c) y;exact⟨j,n,rfl,C,q _ _ _ _ H1 k1 c Ij.1 Ij.2⟩
end
def Pe(pi:pI)(pg:pG)(pb:pS):pS:=λE ρ=>pi ρ λxs f st=>st=true/\∃I:Nat->dI->Prop,I 0 ρ/\(∀i ρ' x,xs[i]?=some x->I i ρ'->pg x f ρ' λρ2=>pb { E with nx:=I (i+1),ct:=I (i+1),bk:=E.nx } ρ2)/\∀ρ',I xs.length ρ'->E.nx ρ'
def Pf(c:pT)(pb:pS):pS:=λE ρ=>∃I:Nat->dI->Prop,(∃m,I m ρ)/\∀m ρ',I m ρ'->c ρ' λb=>if b=true then∃N:dI->Prop,(∀ρ2,N ρ2->∃m',m'<m/\I m' ρ2)/\pb { E with nx:=N,ct:=N,bk:=E.nx } ρ' else E.nx ρ'
section
variable{ι:Type}{Xs:ι->Cx}{a:Expr}{pi:pI}{pb:pS}{pc:pT}{body:He}
theorem RelD.frz{E:PEnds}{D:Ends}(a:Ok W ρ σ H)(r:RelD W E D):RelD (W.frz ρ σ H) E D :=
 ⟨λρ' σ' H' e ok=>r.nx ρ' σ' H' e (a.thaw ok),r.rt,λρ' σ' H' e ok=>r.bk ρ' σ' H' e (a.thaw ok),λρ' σ' H' e ok=>r.ct ρ' σ' H' e (a.thaw ok),r.noO,r.ex⟩
theorem DA(hp:∀i,PassesOwn (model (Xs i).prog (Xs i).w) (Xs i).A (Xs i).env (Xs i).xe)(hc:∀i,(Xs i).calm=true)(hi:QI Xs tg a pi)(hg:QG Xs tg pg)(hb:Ay Xs body pb)
  (hs:∀i,∀x,foldedSetIterable a (Xs i).env x=pure x:=by intro _ _;rfl):QS Xs (.For tg a body [] pos) (Pe pi pg pb):=by
 obtain⟨wi,i1,i2⟩:=hi;obtain⟨g,g1,g2⟩:=hg;obtain⟨tb,b1,b2⟩:=hb;refine⟨_,λi=>GW (hp i) (hc i) (i1 i) (g1 i) (b1 i) (hs i),λW ρ σ H D E ok h r=>i2 W ρ σ H _ _ ok h λxs f st J H1 ⟨G,I,h0,p,u⟩ Y _ C=>?_⟩;have C:=C G;have s:=ok.step Y;have z:=r.frz s;refine⟨λi m σ' H'=>m=xs.length - i/\i<=xs.length/\∃ρ',I i ρ'/\Ok (W.frz ρ σ H1) ρ' σ' H',⟨xs.length,by simp,cD _,ρ,h0,s.frz⟩,?_⟩;rintro i m σ' H' ⟨rfl,hi,ρ',Q,o⟩;obtain⟨q1,q2,q3⟩:=C W.O ρ' σ' H' ⟨rfl,o⟩ i;by_cases q:i<xs.length
 ·refine .inr ⟨q1 q,λl H2=>∃c,I (i+1) c/\Ok (W.frz ρ σ H1) c l H2,λl H2 ⟨c,e1,L⟩=>⟨xs.length - (i+1),⋯,rfl,q,c,e1,L⟩,λv H2 y=>?_⟩;have N:xs[i]?=some xs[i]:=by simp[q]
  obtain⟨U,T⟩:=q3 v H2 y _ N;refine g2 (W.frz ρ σ H1) ρ' σ' H' H2 _ f v _ _ o U T (p i ρ' _ N Q) λc l L B=>?_;exact b2 (W.frz ρ σ H1) c l H2 _ _ B L ⟨λd n M e j=>⟨d,e,j⟩,z.rt,λd n M e j=>z.nx d n M e j,λd n M e j=>⟨d,e,j⟩,r.noO,r.ex⟩
 ·have e:i=xs.length:=⋯;subst e;exact .inl ⟨q2 (aQ _),z.nx ρ' σ' H' (u ρ' Q) o⟩
theorem Pg(x:∀i,PassesOwn (model (Xs i).prog (Xs i).w) (Xs i).A (Xs i).env (Xs i).xe)(y:QT Xs c pc)(n:Ay Xs body pb):QS Xs (.While c body [] pos) (Pf pc pb):=by
 obtain⟨tc,M,L⟩:=y;obtain⟨tb,Q,O⟩:=n;refine⟨_,λi=>Uf (x i) (M i) (Q i),λW ρ σ H D E ok h r=>?_⟩;obtain⟨I,⟨u,C⟩,p⟩:=h;refine⟨λm σ' H'=>∃ρ',I m ρ'/\Ok W ρ' σ' H',⟨u,ρ,C,ok⟩,?_⟩;rintro m σ' H' ⟨ρ',B,j⟩;refine L W ρ' σ' H' _ _ j (p m ρ' B) λb H1 n s=>?_;cases b with
 |false=>exact r.nx ρ' σ' H1 n (j.step s)
 |true =>
  obtain⟨N,z,n⟩:=n;refine⟨λo H2=>∃d,N d/\Ok W d o H2,λo H2 ⟨d,J,G⟩=>let⟨v,l,h⟩:=z d J;⟨v,l,d,h,G⟩,?_⟩;exact O W ρ' σ' H1 _ _ (j.step s) n ⟨λa g q e f=>⟨a,e,f⟩,r.rt,λa g q e f=>r.nx a g q e f,λa g q e f=>⟨a,e,f⟩,r.noO,r.ex⟩
end
def DN(ρ:dI)(qD:List (Option Nat)):dI:=qD.map λo=>match o with|none=>.emp|some j=>(ρ[j]?).getD .emp
abbrev Fj(qD:List (Option Nat)):Prop:=qD.Pairwise λa b=>a=none\/a≠b
def A3(xs:dH)(step:P->(Option (P×Fl)->Prop)->Prop)(K:P->Fl->Prop):Prop:=∃(g:Fl) (I:Nat->dH->Prop),(g=.nw\/g=.cl)/\I 0 [] /\
 (∀i x ys,xs[i]?=some x->I i ys->step x λo=>match o with|some (y,h)=>(A8 y h).join g=g/\I (i+1) (ys++[y])|none=>I (i+1) ys)/\∀ys,I xs.length ys->K (.lst ys) g
def HC(pi:pI)(qD:List (Option Nat))(pg:pG)(pt:pT)(pe:pE):pE:=λρ K=>pi ρ λxs f _=>f≠.bo/\xs.length<=16777216 /\
 A3 xs (λx M=>pg x f (DN ρ qD) λρ'=>pt ρ' λc=>if c=true then pe ρ' λy h=>M (some (y,h))else M none) K
section
variable{Wb:Wd}{ρb:dI}{σb:St}{x:P}{D:Addr}{k:Nat}
theorem B2.mv{s:S}{o:Option V}(hb:Wb.b=W.b)(ha:Wb.a=W.a)(y:Wb.H₀=W.H₀)(r:Wb.F=W.F)(i:∀f p o,¬AC W ρ σ f p->H1 p=some o->¬AC Wb ρb σb f p/\H2 p=some o)(g:∀p vs,H1 p=some (.tup vs)->H2 p=some (.tup vs))
  (q:∀p o,p≠W.b->H1 p=some o->H2 p=some o) (h:B2 W ρ σ H1 s o):B2 Wb ρb σb H2 s o:=by
 cases s with
 |emp=>trivial
 |sh x=>obtain⟨v,h1,h2⟩:=h;exact⟨v,h1,by rw[hb];exact h2.keep (i .cl) g⟩
 |fr x=>obtain⟨v,h1,h2⟩:=h;exact⟨v,h1,by rw[hb];exact h2.keep (i .fr) g⟩
 |own x =>
  obtain⟨p,h1,h2,w,n,u,l⟩:=h;refine⟨p,h1,by rw[y];exact h2,by rw[r];exact w,by rw[hb];exact n,by rw[ha];exact u,?_⟩;rw[hb];cases x with
  |lst xs=>obtain⟨vs,d,c⟩:=l;exact⟨vs,q p _ n d,c.keep (i .fr) g⟩
  |dT ks xs=>obtain⟨vs,d,j,c⟩:=l;exact⟨vs,q p _ n d,j,c.keep (i .fr) g⟩
  |fT ks xs=>obtain⟨vs,d,j,c⟩:=l;exact⟨vs,d.map λ_ e=>q p _ n e,j,c.keep (i .fr) g⟩
  |dK ks xs=>obtain⟨vs,d,j,c⟩:=l;exact⟨vs,q p _ n d,j,c.keep (i .fr) g⟩
  |_=>exact l.elim
theorem Ik{s:S}(h:(DN ρ qD)[i]?=some s):∃o,qD[i]?=some o/\s=(match o with|none=>.emp|some j=>(ρ[j]?).getD .emp):=by
 unfold DN at h;rw[bO]at h;cases e:qD[i]? with
 |none=>rw[e]at h;cases h
 |some o=>rw[e]at h;exact⟨o,rfl,(oI h).symm⟩
theorem Wq(d:Fj qD){i':Nat}(h:qD[i]?=some (some j))(h':qD[i']?=some (some j)):i=i':=by
 have hi:i<qD.length:=by
  rcases cE i qD.length with q|q
  ·exact q
  ·rw[bQ q]at h;cases h
 have a:i'<qD.length:=by
  rcases cE i' qD.length with q|q
  ·exact q
  ·rw[bQ q]at h';cases h'
 rw[aH hi]at h;rw[aH a]at h';have c:=pairwise_iff_getElem.mp d;rcases Nat.lt_trichotomy i i' with q|q|q
 ·rcases c i i' hi a q with z|z
  ·rw[oI h]at z;cases z
  ·exact bS ((oI h).trans (oI h').symm) z
 ·exact q
 ·rcases c i' i a hi q with z|z
  ·rw[oI h']at z;cases z
  ·exact bS ((oI h').trans (oI h).symm) z
theorem Il(h:qD[i]?=some (some j)):(L2.picked σ qD)[i]?=some ((σ[j]?).join):=by
 unfold L2.picked;rw[bO,h];rfl
theorem Ph(ok:Ok W ρ σ H)(h:Ae (DN ρ qD) (L2.picked σ qD) p):Ae ρ σ p:=by
 obtain⟨i,x,h1,h2⟩:=h;obtain⟨o,e,a⟩:=Ik h1;cases o with
 |none=>cases a
 |some j =>
  rw[Il e]at h2;dsimp only at a;cases c:ρ[j]? with
  |none=>rw[c]at a;cases a
  |some s =>
   rw[c]at a;cases a;obtain⟨o,d,f⟩:=ok.slot j _ c;rw[d]at h2;exact⟨j,x,c,by rw[d];exact aT some (oI h2)⟩
abbrev Wd.blk(W:Wd)(ρ:dI)(σ:St)(D:Addr):Wd:={ W with O:=λp=>W.O p\/Ae ρ σ p\/p=D }
theorem Wr(a:Ae ρb σb p->Ae ρ σ p\/H1 p=none)(c:H1 D=none)(h:AC (W.blk ρ σ D) ρb σb f p):AC W ρ σ f p\/H1 p=none:=by
 have k:Ow (W.blk ρ σ D) ρb σb p->Ow W ρ σ p\/H1 p=none:=λz=>by
  rcases z with(z|z|z)|z
  ·exact .inl (.inl z)
  ·exact .inl (.inr z)
  ·subst z;exact .inr c
  ·exact(a z).elim (λz=>.inl (.inr z)) .inr
 cases f<;>simp only[AC]at h ⊢
 ·rcases h with h|h|h
  ·exact .inl (.inl h)
  ·exact(k h).elim (λz=>.inl (.inr (.inl z))) .inr
  ·exact .inl (.inr (.inr h))
 ·rcases h with h|h|h
  ·exact .inl (.inl h)
  ·exact(k h).elim (λz=>.inl (.inr (.inl z))) .inr
  ·exact .inl (.inr (.inr h))
 ·rcases h with h|h
  ·exact .inl (.inl h)
  ·exact(k h).elim (λz=>.inl (.inr z)) .inr
 ·rcases h with h|h|h
  ·exact .inl (.inl h)
  ·exact(k h).elim (λz=>.inl (.inr (.inl z))) .inr
  ·exact .inl (.inr (.inr h))
 ·exact .inl h
 ·exact .inl h
theorem Ws{l:dG}(ok:Ok W ρ σ H1)(w:Fj qD)(r:H1 D=none)(st:Step W.b W.a H1 H2)(e:H2 D=some (.lst l)):Ok (W.blk ρ σ D) (DN ρ qD) (L2.picked σ qD) H2 where
 bag:=st.bag
 fb:=ok.fb
 old:=λp o w e=>st.same p o w (ok.old p o w e)
 frm:=λp o e=>st.same p o (λz=>by rw[z,ok.fb]at e;cases e) (ok.frm p o e)
 oo:=λp h=>by
  have k:Ow W ρ σ p->W.H₀ p=none/\W.F p=none/\p≠W.b/\p≠W.a/\∃o,H2 p=some o/\∀ys,o≠.tup ys:=λz=>by
   obtain⟨v,E,I,Q,o,O,N⟩:=ok.ow z;exact⟨v,E,I,Q,o,st.same p o I O,N⟩
  rcases h with h|h|h
  ·exact k (.inl h)
  ·exact k (.inr h)
  ·subst h;have nb:=ok.bag.nb r;refine⟨?_,?_,nb,ok.bag.na r,_,e,λ_ z=>nomatch z⟩
   ·cases q:W.H₀ p with
    |none=>rfl
    |some o=>rw[ok.old p o nb q]at r;cases r
   ·cases q:W.F p with
    |none=>rfl
    |some o=>rw[ok.frm p o q]at r;cases r
 len:=by simp[L2.picked,DN]
 slot:=λi s h=>by
  obtain⟨o,C,c⟩:=Ik h;cases o with
  |none =>
   dsimp only at c;subst c;refine⟨none,?_,trivial⟩;unfold L2.picked;rw[bO,C];rfl
  |some j =>
   dsimp only at c;refine⟨_,Il C,?_⟩;cases n:ρ[j]? with
   |none=>rw[n]at c;subst c;trivial
   |some s' =>
    rw[n]at c;have c:s=s':=c;subst c;obtain⟨o,v,E⟩:=ok.slot j _ n;rw[v];show B2 _ _ _ _ s o;refine B2.mv (W:=W) (Wb:=W.blk ρ σ D) (ρ:=ρ) (σ:=σ) rfl rfl rfl rfl (λf p u J M=>⟨λz=>?_,st.same p u (λz=>J (z▸AC.b)) M⟩) (λp us e=>st.same p _ (ok.bag.neT e).1 e) (λp o w e=>st.same p o w e) E;rcases Wr (H1:=H1) (λz=>.inl (Ph ok z)) r z with z|z
    ·exact J z
    ·rw[M]at z;cases z
 uniq:=λi Y x y h1 h2 L=>by
  obtain⟨o,C,c⟩:=Ik h1;obtain⟨o',B,d⟩:=Ik h2;cases o with
  |none=>cases c
  |some j =>
   cases o' with
   |none=>cases d
   |some G =>
    dsimp only at c d;cases n:ρ[j]? with
    |none=>rw[n]at c;cases c
    |some s =>
     cases g:ρ[G]? with
     |none=>rw[g]at d;cases d
     |some s' =>
      rw[n]at c;rw[g]at d;cases c;cases d;obtain⟨o,v,E⟩:=ok.slot j _ n;obtain⟨o',A,T⟩:=ok.slot G _ g;rw[Il C,Il B,v,A]at L;have U:o=o':=oI L;subst U;have:=ok.uniq j G x y n g (by rw[v,A]);subst this;exact Wq w C B
theorem Wt{h g:Fl}{i:Hp}(ok:Ok (W.blk ρ σ D) ρ' σ' H2)(c:g=.nw\/g=.cl)(r:RF (W.blk ρ σ D) ρ' σ' i h H2 y v)(n:(A8 y h).join g=g):Rp W.b (λq=>AC W ρ σ g q\/q=D) H2 y v:=by
 obtain⟨l,j,d⟩:=K2 ok r;have hi:A8 y h=.nw\/A8 y h=.cl:=by
  rcases c with rfl|rfl<;>cases e:A8 y h<;>simp_all [Fl.join]
 refine d.keep (λq o f e=>⟨λz=>f ?_,e⟩) λq us e=>e;have ow:(Ow W ρ σ q\/q=D)->Ow (W.blk ρ σ D) ρ' σ' q:=λz=>.inl (z.elim (λz=>z.elim .inl λz=>.inr (.inl z)) λz=>.inr (.inr z));rcases c with rfl|rfl
 ·have a:A8 y h=.nw:=by rcases hi with z|z<;>simp_all [Fl.join]
  rw[a];simp only[AC]at z ⊢;rcases z with(z|z|z)|z
  ·exact .inl z
  ·exact .inr (.inl (ow (.inl z)))
  ·exact .inr (.inr z)
  ·exact .inr (.inl (ow (.inr z)))
 ·rcases hi with z'|z'<;>rw[z']<;>simp only[AC]at z ⊢
  ·rcases z with(z|z)|z
   ·exact .inl z
   ·exact .inr (.inl (ow (.inl z)))
   ·exact .inr (.inl (ow (.inr z)))
  ·rcases z with(z|z)|z
   ·exact .inl z
   ·exact .inr (ow (.inl z))
   ·exact .inr (ow (.inr z))
theorem LC{pi:pI}{pt:pT}(hp:Fj qD)(hi:Ih wi pi)(hg:G6 g pg)(ht:Gy tt pt)(he:BH te pe):BH (FX wi qD g tt te) (HC pi qD pg pt pe):=by
 intro W ρ σ H Q K ok hk q;refine hi W ρ σ H _ _ ok hk λxs f _ J H1 ⟨a5,a7,G,I,a1,h0,U,a2⟩ s1 jC _=>?_;have d:=ok.step s1;have a0:∀{D H2},H1 D=none->Step W.b W.a H1 H2->∀{o},Step W.b W.a H1 (AD H2 D o):=λ{D H2} r s {o}=>⟨s.bag.put (d.bag.nb r) (d.bag.na r),λp u hp e=>by rw[AK (A2 e r)];exact s.same p u hp e⟩;intro D r;refine⟨λi m ys H2=>m=xs.length - i/\i<=xs.length/\∃ps,I i ps/\H2 D=some (.lst ys)/\AB W.b (λq=>AC W ρ σ G q\/q=D) H2 ps ys/\Step W.b W.a H1 H2/\ps.length<=i,⟨xs.length,by simp,cD _,[],h0,Aa,rfl,a0 r (Step.refl d.bag),aQ _⟩,?_⟩;rintro i m ys H2 ⟨rfl,hi,ps,hI,L,B,s2,a9⟩;refine⟨L,?_⟩;have N:=d.step s2;have a4:=d.bag.nb r;have a8:=d.bag.na r;obtain⟨j1,j2,j3⟩:=jC (λp=>W.O p\/p=D) ρ σ H2 ⟨λp z=>z.elim .inl λz=>.inr (z▸r),rfl,rfl,N,s2⟩ i;by_cases Y:i<xs.length
 ·refine .inr ⟨j1 Y,λzs H'=>∃ps,I (i+1) ps/\H' D=some (.lst zs)/\AB W.b (λq=>AC W ρ σ G q\/q=D) H' ps zs/\Step W.b W.a H1 H'/\ps.length<=i+1,λzs H' ⟨ps,z⟩=>⟨xs.length - (i+1),⋯,rfl,Y,ps,z⟩,λv H3 y=>?_⟩;have hx:xs[i]?=some xs[i]:=by simp[Y]
  obtain⟨y1,y2⟩:=j3 v H3 y _ hx;have a3:=Ws d hp r s2 L;have y3:RF (W.blk ρ σ D) (DN ρ qD) (L2.picked σ qD) H2 f H3 xs[i] v:=by
   have sub:∀{f:Fl} {q:Addr},AC (W.blk ρ σ D) (DN ρ qD) (L2.picked σ qD) f q->AC { W with O:=λp=>W.O p\/p=D } ρ σ f q:=λ{f q} z=>by
    have k:Ow (W.blk ρ σ D) (DN ρ qD) (L2.picked σ qD) q->Ow { W with O:=λp=>W.O p\/p=D } ρ σ q:=λz=>by
     rcases z with(z|z|z)|z
     ·exact .inl (.inl z)
     ·exact .inr z
     ·exact .inl (.inr z)
     ·exact .inr (Ph d z)
    cases f<;>simp only[AC]at z ⊢
    ·exact z.elim .inl λz=>.inr (z.elim (λz=>.inl (k z)) .inr)
    ·exact z.elim .inl λz=>.inr (z.elim (λz=>.inl (k z)) .inr)
    ·exact z.elim .inl λz=>.inr (k z)
    ·exact z.elim .inl λz=>.inr (z.elim (λz=>.inl (k z)) .inr)
    ·exact z
    ·exact z
   have kp:∀{f:Fl},Rp W.b (AC { W with O:=λp=>W.O p\/p=D } ρ σ f) H3 xs[i] v->Rp W.b (AC (W.blk ρ σ D) (DN ρ qD) (L2.picked σ qD) f) H3 xs[i] v:=λ{f} h=>h.keep (λq o l e=>⟨λz=>l (sub z),e⟩) λq us e=>e;cases f with
   |bo=>exact bS rfl a5
   |nw=>exact⟨kp (f:=.fr) y2.1,y2.2⟩
   |fr=>exact kp (f:=.fr) y2
   |cl=>exact kp (f:=.cl) y2
   |rf=>exact kp (f:=.rf) y2
   |an=>exact kp (f:=.an) y2
  have j:∀{n w:Hp},Step W.b W.a n w->n D=some (.lst ys)->w D=some (.lst ys):=λs e=>s.same D _ a4 e;have T:∀{n w:Hp} {o:HO},Bag n W.b W.a->n D=some (.lst ys)->Step W.b W.a n w->AB W.b (λq=>AC W ρ σ G q\/q=D) n ps ys->AB W.b (λq=>AC W ρ σ G q\/q=D) (AD w D o) ps ys:=λ{n w o} hb a6 s h =>
   h.keep (λq u l e=>⟨l,by rw[AK (λz=>l (.inr z))];exact s.same q u (λz=>l (.inl (z▸AC.b))) e⟩) λq us e=>by
    rw[AK (λz=>by rw[z,a6]at e;cases e)];exact s.same q _ (hb.neT e).1 e
  have C:∀{n w:Hp},Bag n W.b W.a->Step W.b W.a n w->AB W.b (λq=>AC W ρ σ G q\/q=D) n ps ys->AB W.b (λq=>AC W ρ σ G q\/q=D) w ps ys:=λ{n w} hb s h =>
   h.keep (λq u l e=>⟨l,s.same q u (λz=>l (.inl (z▸AC.b))) e⟩) λq us e=>s.same q _ (hb.neT e).1 e
  refine hg (W.blk ρ σ D) _ _ H2 H3 _ f v _ _ a3 y1 y3 (U i _ ps hx hI) λρ4 σ4 k4 M=>?_;refine ht (W.blk ρ σ D) ρ4 σ4 H3 _ _ M k4 λc H5 k5 s5=>?_;have A:=y1.trans s5;cases c with
  |false=>exact⟨ps,k5,j A L,C N.bag A B,s2.trans A,⋯⟩
  |true =>
   refine he (W.blk ρ σ D) ρ4 σ4 H5 _ _ (M.step s5) k5 λy h u H6 ⟨k6,k7⟩ s6 r6=>?_;have x:=A.trans s6;refine⟨j x L,?_,ps++[y],k7,Aa,?_,a0 r (s2.trans x),by rw[aG];simp;lia⟩
   ·have:=B.length;have aa:sizeLine=16777216:=rfl;lia
   ·refine(T N.bag L x B).snoc ?_;have r7:=Wt (D:=D) (M.step (s5.trans s6)) a1 r6 k6;refine r7.keep (λq u l e=>⟨l,by rw[AK (λz=>l (.inr z))];exact e⟩) λq us e=>by
     rw[AK (λz=>by rw[z,j x L]at e;cases e)];exact e
 ·have e:i=xs.length:=⋯;subst e;refine .inl ⟨j2 (aQ _),q _ G _ H2 (a2 ps hI) (s1.trans s2) ?_⟩;have nz:∀g,¬AC W ρ σ g D:=λg z=>d.dom z r;have E:AB W.b (AC W ρ σ G) H2 ps ys:=B.keep (λq o l e=>⟨λz=>l (.inl z),e⟩) λq us e=>e;rcases a1 with rfl|rfl
  ·exact⟨⟨D,ys,rfl,nz .fr,L,E⟩,λ_=>⟨D,rfl,s1.free r⟩⟩
  ·exact⟨D,ys,rfl,nz .cl,L,E⟩
end
section
variable{ι:Type}{Xs:ι->Cx}{pi:pI}{pt:pT}
abbrev Cc(Xs:ι->Cx)(N':At)(scope:Scope):ι×CompP->Cx:=λq=>(Xs q.1).comp N' scope q.2
def HD(Xs:ι->Cx)(qD:List (Option Nat))(tg:Expr)(p:pG):Prop:=∃g,(∀i,PG (Xs i) tg g)/\G6 g p/\EL qD g
def HE(Xs:ι->Cx)(ifs:Hb)(p:pT):Prop:=∃t,(∀i,EK (Xs i) ifs t)/\Gy t p
def Pj:pT:=λ_ K=>K true
theorem CJ:HE Xs [] Pj:=⟨_,λ_=>Oe,λW ρ σ H Q K ok h q=>q true H h (Step.refl ok.bag)⟩
theorem ES(h:QT Xs c pt):HE Xs [c] pt:=let⟨t,h1,h2⟩:=h;⟨t,λi=>Vt (h1 i),h2⟩
theorem Br{k:Nat}(c:qD[k]?=some none)(e:∀i,(Xs i).N.Nodup)(hi:∀i,(Xs i).N[k]?=some x:=by intro _;rfl)(a:∀i,CA (Xs i).env.scope x:=by intro _;trivial)
  (d:∀i,(Xs i).fn x=true\/(Xs i).env.scope.names.lookup x=some .local:=by intro _;trivial):HD Xs qD (.Name x pos) (BQ k):=⟨_,λi=>BD (e i) (hi i) (a i) (d i),PR k,Og c⟩
theorem Im{k1:Nat}(d:qD[i]?=some none)(c:qD[j]?=some none)(f:∀i,(Xs i).calm=true)(g:∀i,(Xs i).K=Kf)(h:∀q,El (Xs q) es (DL [i,j]))
  (e:∀i,(assignEach es (Xs i).env).length=2:=by intro _;rfl) (a:∀i,(assignEach es (Xs i).env).findIdx? (·.1)=none:=by intro _;rfl):HD Xs qD (.Tuple es k1 pos) (E2 [i,j]) :=
 ⟨Em Kf 2 (DL [i,j]),λi=>by have:=KW (k:=k1) (pos:=pos) (f i) (h i) (e i) (a i);rw[g i]at this;exact this,PV rfl,Vv d c⟩
theorem B5(S:CompScope N sc N' qD scope)(h:Fj qD)(n:∀i,(Xs i).calm=true)(hi:QI Xs tg iter pi)(j:HD (Cc Xs N' scope) qD tg pg)(e:HE (Cc Xs N' scope) ifs pt)(l:QE (Cc Xs N' scope) ce pe)
  (o:∀i,(Xs i).N=N:=by intro _;rfl) (a:∀i,(Xs i).env.scope=sc:=by intro _;rfl) (f:∀i,∀x,foldedSetIterable iter (Xs i).env x=pure x:=by intro _ _;rfl) :
  QE Xs (.ListComp ce [⟨tg,iter,ifs,0⟩] scope pos) (HC pi qD pg pt pe):=by
 obtain⟨wi,i1,i2⟩:=hi;obtain⟨g,s,r,q⟩:=j;obtain⟨tt,d,c⟩:=e;obtain⟨te,v,u⟩:=l;exact⟨_,λi=>Ol S (n i) (i1 i) q (λp=>s (i,p)) (λp=>d (i,p)) (λp=>v (i,p)) (o i) (a i) (f i),LC h i2 r c u⟩
theorem HF{k:Nat}{a:Pos}(e:∀i,(Xs i).N.Nodup)(S:CompScope N sc N' qD scope)(q:Fj qD)(v:∀i,(Xs i).calm=true)(hi:QI Xs tg iter pi)(r:HD (Cc Xs N' scope) qD tg pg)(n:HE (Cc Xs N' scope) ifs pt)(u:QE (Cc Xs N' scope) ce pe)
  (f:∀i,(Xs i).N[k]?=some x:=by intro _;rfl) (l:∀i,CA (Xs i).env.scope x:=by intro _;trivial)
  (w:∀i,(Xs i).N=N:=by intro _;rfl) (d:∀i,(Xs i).env.scope=sc:=by intro _;rfl)
  (c:∀i,swapsWith (.ListComp ce [⟨tg,iter,ifs,0⟩] scope pos) (some (.Name x pos')) a.line (Xs i).env=pure true:=by intro _;rfl) (o:∀i,∀x,foldedSetIterable iter (Xs i).env x=pure x:=by intro _ _;rfl)
  (s:∀i,(Xs i).fn x=true\/(Xs i).env.scope.names.lookup x=some .local:=by intro _;trivial) :
  QS Xs (.Assign [.Name x pos'] (.ListComp ce [⟨tg,iter,ifs,0⟩] scope pos) a) (Ig (HC pi qD pg pt pe) k):=by
 obtain⟨wi,i1,i2⟩:=hi;obtain⟨g,A,z,y⟩:=r;obtain⟨tt,j,h⟩:=n;obtain⟨te,C,B⟩:=u;exact⟨_,λi=>V0 S (e i) (f i) (l i) (v i) (i1 i) y (λp=>A (i,p)) (λp=>j (i,p)) (λp=>C (i,p)) (w i) (d i) (c i) (o i) (s i),PQ (LC q i2 z h B)⟩
end
theorem Pk{h:Fl}(hi:y.imm=true):A8 y h=.nw:=by cases h<;>simp[A8,hi]
section
variable{α:Type}{as:List α}{enc:α->P}{step:P->(Option (P×Fl)->Prop)->Prop}{K:P->Fl->Prop}
theorem LD{x:P}(h:(as.map enc)[i]?=some x):∃a,as[i]?=some a/\a∈as/\x=enc a/\as.take (i+1)=as.take i++[a]:=by
 rw[bO]at h;cases c:as[i]? with
 |none=>rw[c]at h;cases h
 |some a =>
  rw[c]at h;exact⟨a,rfl,aM c,(oI h).symm,by rw[take_add_one,c];rfl⟩
theorem A3.filter(t:α->Bool)(g:α->P)(hi:∀a∈as,t a=true->(g a).imm=true)(j:∀a∈as,∀M:Option (P×Fl)->Prop,(∀h,M (if t a=true then some (g a,h)else none))->step (enc a) M)(l:K (.lst ((as.filter t).map g)) .nw):A3 (as.map enc) step K:=by
 refine⟨.nw,λi ys=>ys=((as.take i).filter t).map g,.inl rfl,rfl,λi x ys d c=>?_,λys c=>?_⟩
 ·obtain⟨a,_,hm,rfl,f⟩:=LD d;subst c;refine j a hm _ λh=>?_;have key:((as.take (i+1)).filter t).map g=((as.take i).filter t).map g++if t a=true then [g a]else []:=by
   rw[f,filter_append,cN];cases e:t a<;>simp[e]
  cases e:t a
  ·show((as.take i).filter t).map g=((as.take (i+1)).filter t).map g;rw[key,e];simp
  ·refine⟨by rw[Pk (hi a hm e)];rfl,?_⟩;show((as.take i).filter t).map g++[g a]=((as.take (i+1)).filter t).map g;rw[key,e];simp
 ·rw[aA,take_length]at c;subst c;exact l
theorem A3.map(g:α->P)(hi:∀a∈as,(g a).imm=true)(c:∀a∈as,∀M:Option (P×Fl)->Prop,(∀h,M (some (g a,h)))->step (enc a) M)(d:K (.lst (as.map g)) .nw):A3 (as.map enc) step K :=
 A3.filter (λ_=>true) g (λa m _=>hi a m) (λa m M h=>c a m M h) (by rw[filter_eq_self.mpr λ_ _=>rfl];exact d)
theorem A3.new(g:α->P)(f:∀a∈as,∀M:Option (P×Fl)->Prop,M (some (g a,.nw))->step (enc a) M)(h:K (.lst (as.map g)) .nw):A3 (as.map enc) step K:=by
 refine⟨.nw,λi ys=>ys=(as.take i).map g,.inl rfl,rfl,λi x ys d c=>?_,λys c=>?_⟩
 ·obtain⟨a,_,hm,rfl,e⟩:=LD d;subst c;refine f a hm _ ⟨rfl,?_⟩;show(as.take i).map g++[g a]=(as.take (i+1)).map g;rw[e,cN];rfl
 ·rw[aA,take_length]at c;subst c;exact h
inductive Each{α β:Type}(R:α->β->Prop):List α->List β->Prop where
 |nil:Each R [] []
 |cons {a b as bs}:R a b->Each R as bs->Each R (a::as) (b::bs)
theorem Each.snoc{β:Type}{R:α->β->Prop}{a:α}{b:β}(h:R a b):∀{as:List α} {bs:List β},Each R as bs->Each R (as++[a]) (bs++[b])
 |_,_,.nil=>.cons h .nil
 |_,_,.cons r t=>.cons r (Each.snoc h t)
theorem Each.length{β:Type}{R:α->β->Prop}:∀{as:List α} {bs:List β},Each R as bs->as.length=bs.length
 |_,_,.nil=>rfl
 |_,_,.cons _ t=>by rw[length_cons,length_cons,Each.length t]
theorem Each.mem{β:Type}{R:α->β->Prop}:∀{as:List α} {bs:List β},Each R as bs->∀b∈bs,∃a∈as,R a b
 |_,_,.nil,b,h=>by cases h
 |_,_,.cons r t,b,h=>by
  rcases aF.mp h with rfl|h
  ·exact⟨_,cA,r⟩
  ·obtain⟨a,h1,h2⟩:=Each.mem t b h;exact⟨a,bT _ h1,h2⟩
theorem A3.rel{β:Type}(g:β->P)(R:α->β->Prop)(j:∀a∈as,∀M:Option (P×Fl)->Prop,(∀b h,R a b->M (some (g b,h)))->step (enc a) M)(hg:∀b,(g b).imm=true)(n:∀bs,Each R as bs->K (.lst (bs.map g)) .nw):A3 (as.map enc) step K:=by
 refine⟨.nw,λi ys=>∃bs,ys=bs.map g/\Each R (as.take i) bs,.inl rfl,⟨[],rfl,.nil⟩,λi x ys e c=>?_,λys c=>?_⟩
 ·obtain⟨a,_,hm,rfl,f⟩:=LD e;obtain⟨bs,rfl,d⟩:=c;refine j a hm _ λb h l=>⟨by rw[Pk (hg b)];rfl,bs++[b],by simp,?_⟩;rw[f];exact d.snoc l
 ·obtain⟨bs,rfl,d⟩:=c;rw[aA,take_length]at d;exact n bs d
end
def DO(C:Int->Int->Prop)(g:Int->Int->P):p2:=λx _ y _ K=>match x,y with
 |.int i,.int j=>C i j/\K (g i j) .fr
 |_,_=>False
abbrev CT:Int->Int->Prop:=λ_ _=>True
def Az:P->Option V
 |.non=>some .non|.bl k=>some (.bl k)|.int i=>some (.int i)|.str x=>some (.str x)|_=>none
theorem Pl{x:P}(h:Az x=some v):RF W ρ σ Hs .fr H x v:=by
 cases x<;>simp only[Az]at h<;>first|(cases h;rfl)|cases h
section
variable{C:Int->Int->Prop}{g:Int->Int->V}{gp:Int->Int->P}
theorem Wu(e:∀i j,Az (gp i j)=some (g i j)):BM (rI C g) (DO C gp):=λW ρ σ Hs H Q K x y f h v u ok st d c a q=>by
 unfold DO at a;split at a
 ·cases Bw ok d;cases Bw ok c;exact⟨_,_,rfl,rfl,a.1,q _ _ _ H a.2 (Step.refl ok.bag) (Pl (e _ _))⟩
 ·exact a.elim
theorem HG(e:∀i j,Az (gp i j)=some (g i j)):BM (CZ g) (DO CT gp):=λW ρ σ Hs H Q K x y f h v u ok st d c a q=>by
 unfold DO at a;split at a
 ·cases Bw ok d;cases Bw ok c;exact⟨_,_,rfl,rfl,q _ _ _ H a.2 (Step.refl ok.bag) (Pl (e _ _))⟩
 ·exact a.elim
end
abbrev Wv:p2:=DO CT λi j=>.int (i+j)
abbrev Ww:p2:=DO CT λi j=>.int (i - j)
abbrev Wx:p2:=DO IJ λi j=>.int (i ^ j.toNat)
abbrev Wy:p2:=DO CT λi j=>.bl (decide (i<j))
abbrev Wz:p2:=DO CT λi j=>.bl (decide (i<=j))
abbrev W0:p2:=DO CT λi j=>.bl (decide (j<i))
theorem HH:BM (CZ λi j=>.int (i+j)) Wv:=HG λ_ _=>rfl
theorem W1:BM (CZ λi j=>.int (i - j)) Ww:=HG λ_ _=>rfl
theorem W3:BM (rI IJ λi j=>.int (i ^ j.toNat)) Wx:=Wu λ_ _=>rfl
theorem LF:BM (CZ λi j=>.bl (decide (i<j))) Wy:=HG λ_ _=>rfl
theorem Pm:BM (CZ λi j=>.bl (decide (i<=j))) Wz:=HG λ_ _=>rfl
theorem Ip:BM (CZ λi j=>.bl (decide (j<i))) W0:=HG λ_ _=>rfl
section
variable{ι:Type}{Xs:ι->Cx}{a b:Expr}{pa pb:pE}
def Pn(p:pE):pE:=λρ K=>p ρ λx _=>match x with|.int i=>K (.int (-i)) .fr|_=>False
theorem Fk(h:QE Xs a pa):QE Xs (.UnaryOp .USub a pos) (Pn pa):=by
 obtain⟨t,h1,h2⟩:=h;refine⟨_,λi=>Nq Nu (h1 i),λW ρ σ H Q K ok e q=>h2 W ρ σ H _ _ ok e λx f v H1 k1 c d=>?_⟩;split at k1
 ·cases Bw (ok.step c) d;exact⟨_,rfl,q _ _ _ H1 k1 c EO⟩
 ·exact k1.elim
end
abbrev ST:Str->Str->Prop:=λ_ _=>True
def P.isNon:P->Bool
 |.non=>true|_=>false
def Po:p2:=λx _ y _ K=>y=.non/\K (.bl x.isNon) .fr
def Pp:p2:=λx _ y _ K=>y=.non/\K (.bl (!x.isNon)) .fr
theorem Pq{b:Addr}{x:P}(h:Rp b Z H x v):decide (v=.non)=x.isNon:=by
 cases x with
 |non=>rw[show v=_ from h];rfl
 |bl k=>rw[show v=_ from h];rfl
 |int k=>rw[show v=_ from h];rfl
 |str k=>rw[show v=_ from h];rfl
 |bag=>rw[show v=_ from h];rfl
 |tup xs=>obtain⟨p,vs,e,_⟩:=h;rw[e];rfl
 |lst xs=>obtain⟨p,vs,e,_⟩:=h;rw[e];rfl
 |dT ks xs=>obtain⟨p,vs,e,_⟩:=h;rw[e];rfl
 |fT ks xs=>obtain⟨p,vs,e,_⟩:=h;rw[e];rfl
 |dK ks xs=>obtain⟨p,vs,e,_⟩:=h;rw[e];rfl
theorem Pr:BM (λx y H Q=>y=.non/\Q (.bl (decide (x=.non))) H) Po:=λW ρ σ Hs H Q K x y f h v u ok st d c a q=>by
 obtain⟨rfl,a⟩:=a;refine⟨c.any ok,?_⟩;rw[Pq (d.any ok)];exact q _ _ _ H a (Step.refl ok.bag) C9
theorem Pt:BM (λx y H Q=>y=.non/\Q (.bl (!decide (x=.non))) H) Pp:=λW ρ σ Hs H Q K x y f h v u ok st d c a q=>by
 obtain⟨rfl,a⟩:=a;refine⟨c.any ok,?_⟩;rw[Pq (d.any ok)];exact q _ _ _ H a (Step.refl ok.bag) C9
def LG:p2:=λx f y _ K=>match x,y with
 |.lst xs,.int i=>∃z,atI xs i=some z/\K z f.el
 |.tup xs,.int i=>∃z,atI xs i=some z/\K z f.el
 |.str z,.int i=>z.length<=16777216/\∃c,atI z.cps.toList i=some c/\K (.str ⟨#[c]⟩) .fr
 |_,_=>False
theorem AB.atI{b:Addr}{i:Int}{z:P}(h:AB b Z H xs vs)(e:L2.atI xs i=some z):∃v,L2.atI vs i=some v/\Rp b Z H z v:=by
 unfold L2.atI at e ⊢;rw[h.length]at e;cases a:Cp vs.length i with
 |none=>rw[a]at e;cases e
 |some j =>
  rw[a]at e;exact h.get (i:=j) e
def Pu:R2:=λx y H Q=>(∃p i xs,x=.ref p/\y=.int i/\(H p=some (.lst xs)\/H p=some (.tup xs))/\∃v,atI xs i=some v/\Q v H)\/OJ x y H Q
theorem Aj:Et X Pu:=λvalue a qA s σ H x y v u Q I d c h e=>by
 rcases h with⟨p,i,xs,j,g,h,w,f,q⟩|h
 ·rcases h with h|h
  ·exact OK value a qA s σ H x y v u Q I d c ⟨p,xs,i,w,j,g,.of h,f,q⟩ e
  ·exact VL value a qA s σ H x y v u Q I d c ⟨p,xs,i,w,j,g,.of h,f,q⟩ e
 ·exact Kh value a qA s σ H x y v u Q I d c h e
theorem Ak:BM Pu LG:=λW ρ σ Hs H Q K x y f h v u ok st i g a q=>by
 unfold LG at a;split at a
 ·obtain⟨z,e,d⟩:=a;cases Bw ok g;obtain⟨p,vs,rfl,l,r⟩:=i.items rfl;obtain⟨w,n,j⟩:=r.atI e;exact .inl ⟨p,_,vs,rfl,rfl,l,w,n,q _ _ _ H d (Step.refl ok.bag) (RF.ofEl j)⟩
 ·obtain⟨z,e,d⟩:=a;cases Bw ok g;obtain⟨p,vs,rfl,l,r⟩:=i.items rfl;obtain⟨w,n,j⟩:=r.atI e;exact .inl ⟨p,_,vs,rfl,rfl,l,w,n,q _ _ _ H d (Step.refl ok.bag) (RF.ofEl j)⟩
 ·obtain⟨o,c,e,d⟩:=a;cases Bw ok g;cases E1 ok i;exact .inr ⟨_,_,c,rfl,rfl,o,e,q _ _ _ H d (Step.refl ok.bag) PF⟩
 ·exact a.elim
def LH:p2:=λx f y g K=>match x,y with
 |.lst xs,.lst ys=>xs.length+ys.length<=16777216/\K (.lst (xs++ys)) ((Bb f xs).join (Bb g ys))
 |.tup xs,.tup ys=>(P.imms xs=true/\P.imms ys=true)/\xs.length+ys.length<=16777216/\K (.tup (xs++ys)) .fr
 |_,_=>False
def Pw:R2:=λx y H Q=>(∃p q xs ys,x=.ref p/\y=.ref q/\H p=some (.lst xs)/\H q=some (.lst ys)/\xs.length+ys.length<=sizeLine/\∀l,H l=none->Q (.ref l) (AD H l (.lst (xs++ys)))) \/
 (∃p q xs ys,x=.ref p/\y=.ref q/\H p=some (.tup xs)/\H q=some (.tup ys)/\xs.length+ys.length<=sizeLine/\(xs=[]->Q (.ref q) H)/\(xs≠[]->ys=[]->Q (.ref p) H)/\(xs≠[]->ys≠[]->∀l,H l=none->Q (.ref l) (AD H l (.tup (xs++ys)))))
theorem HI:A1 X (binaryOp .Add) Pw:=by
 intro qA s σ H x y v u Q I o l h;rcases h with⟨p,q,xs,ys,i,g,h1,h2,r,k⟩|⟨p,q,xs,ys,i,g,h1,h2,r,k0,k1,k2⟩
 ·exact VY qA s σ H x y v u Q I o l ⟨p,q,xs,ys,i,g,h1,h2,r,k⟩
 ·by_cases f:xs=[]
  ·subst i;subst g;subst f;cases o;cases l;obtain⟨qH,G,p1,_⟩:=I.tuple (.of h1);obtain⟨a,M,p2,_⟩:=I.tuple (.of h2);cases G;obtain⟨⟨L,dd,C,E⟩,z,B,n,A⟩:=id p1;obtain⟨⟨D,w,data2,j⟩,c,e,J,d⟩:=id p2;simp only at B A e d;subst B A e d;exact concat_meets ⟨_,z,rfl⟩ ⟨_,c,rfl⟩ noFill_tuple_add seq_tuple_add PySem.F.slot_tuple_add PySem.F.entry_tuple_add (PySem.F.args_tuple_add_2 _ _)
    (tuple_addW0 p q #[] a.toArray n J dd w E j rfl) ⟨z,c,.ref q,H,I,rfl,k0 rfl⟩
  ·exact VH qA s σ H x y v u Q I o l ⟨p,q,xs,ys,i,g,.of h1,.of h2,f,r,k1 f,k2 f⟩
theorem Px(h:AB W.b (AC W ρ σ f) H xs vs):Bb f xs≠.bo/\Bb f xs≠.fr/\AB W.b (AC W ρ σ (Bb f xs)) H xs vs:=by
 unfold Bb;split
 ·exact⟨by simp,by simp,h.imm ‹_›⟩
 ·cases f<;>exact⟨by simp[Fl.top],by simp[Fl.top],h⟩
theorem Bx(ok:Ok W ρ σ H)(r:RF W ρ σ Hs f H (.lst xs) v):∃p vs,v=.ref p/\H p=some (.lst vs)/\AB W.b (AC W ρ σ f) H xs vs:=by
 obtain⟨p,vs,rfl,hc,a⟩:=r.items rfl;obtain⟨q,us,d,_,c,_⟩:=r.any ok;cases d;rcases hc with hc|hc
 ·exact⟨p,vs,rfl,hc,a⟩
 ·rw[c]at hc;cases hc
theorem Dh(ok:Ok W ρ σ H)(r:RF W ρ σ Hs f H (.tup xs) v):∃p vs,v=.ref p/\H p=some (.tup vs)/\AB W.b (AC W ρ σ f) H xs vs:=by
 obtain⟨p,vs,rfl,hc,a⟩:=r.items rfl;obtain⟨q,us,d,c,_⟩:=r.any ok;cases d;rcases hc with hc|hc
 ·rw[c]at hc;cases hc
 ·exact⟨p,vs,rfl,hc,a⟩
theorem ET{g:Fl}(ok:Ok W ρ σ H)(st:Step W.b W.a Hs H)(f:g≠.bo)(d:g≠.fr)(h:AB W.b (AC W ρ σ g) H xs vs)(i:H p=none):RF W ρ σ Hs g (AD H p (.lst vs)) (.lst xs) (.ref p):=by
 have:=RF.newL ok st h i;unfold Bb at this;split at this
 ·rename_i hi;cases g with
  |bo=>exact bS rfl f
  |fr=>exact bS rfl d
  |nw=>exact this
  |cl=>exact this.1.keep (λq o c e=>⟨λz=>c (z.elim .inl λz=>.inr (.inl z)),e⟩) λq us e=>e
  |rf=>exact this.1.keep (λq o c e=>⟨λz=>c (z.elim .inl λz=>.inr (.inr z)),e⟩) λq us e=>e
  |an=>exact this.1.keep (λq o c e=>⟨λz=>c (.inl z),e⟩) λq us e=>e
 ·rw[RF.topped f d]at this;exact this
theorem HJ:BM Pw LH:=λW ρ σ Hs H Q K x y f h v u ok st w s g q=>by
 unfold LH at g;split at g
 ·obtain⟨d,j⟩:=g;obtain⟨p,vs,rfl,r,c⟩:=Bx ok w;obtain⟨p2,vs2,rfl,n,a⟩:=Bx ok s;obtain⟨G,E,c⟩:=Px c;obtain⟨D,C,a⟩:=Px a;have B:=O2 (W:=W) (ρ:=ρ) (σ:=σ) G E D C;have A:=K3 G E D C;refine .inl ⟨p,p2,vs,vs2,rfl,rfl,r,n,by rw[<-c.length,<-a.length];exact d,λl i=>q _ _ _ _ j (Step.new ok.bag i) ?_⟩;exact ET ok st A.1 A.2 ((c.keep (λq o d e=>⟨λz=>d (B q z).1,e⟩) λq us e=>e).app (a.keep (λq o d e=>⟨λz=>d (B q z).2,e⟩) λq us e=>e)) i
 ·obtain⟨⟨i1,i2⟩,d,j⟩:=g;obtain⟨p,vs,rfl,r,c⟩:=Dh ok w;obtain⟨p2,vs2,rfl,n,a⟩:=Dh ok s;have l1:=c.length;have l2:=a.length;have c:AB W.b (Zf W ρ σ) H _ vs:=c.imm i1;have a:AB W.b (Zf W ρ σ) H _ vs2:=a.imm i2;refine .inr ⟨p,p2,vs,vs2,rfl,rfl,r,n,by rw[<-l1,<-l2];exact d,λe=>?_,λe I=>?_,λ_ _ l i=>?_⟩
  ·subst e;refine q _ _ _ _ j (Step.refl ok.bag) ?_;rw[length_eq_zero_iff.mp l1,nil_append];exact⟨p2,vs2,rfl,n,a⟩
  ·subst I;refine q _ _ _ _ j (Step.refl ok.bag) ?_;rw[length_eq_zero_iff.mp l2,cO];exact⟨p,vs,rfl,r,c⟩
  ·refine q _ _ _ _ j (Step.new ok.bag i) ?_;exact⟨l,vs++vs2,rfl,Aa,(c.app a).step (f:=.fr) (Step.new ok.bag i) ok.bag⟩
 ·exact g.elim
theorem Bg.one{x:P}(h:Bg W ρ σ Hs H [(x,f)] vs):∃v,vs=[v]/\RF W ρ σ Hs f H x v:=by
 obtain⟨v,t,rfl,h2,a⟩:=h;cases(show t=[]from a);exact⟨v,rfl,h2⟩
theorem Bg.two{x:P}{g:Fl}(h:Bg W ρ σ Hs H [(x,f),(y,g)] vs):∃v u,vs=[v,u]/\RF W ρ σ Hs f H x v/\RF W ρ σ Hs g H y u:=by
 obtain⟨v,t,rfl,h2,c⟩:=h;obtain⟨u,rfl,a⟩:=Bg.one c;exact⟨v,u,rfl,h2,a⟩
def p1(g:P->Fl->(P->Fl->Prop)->Prop):pC:=λxs K=>match xs with|[(x,f)]=>g x f K|_=>False
def LI:pC:=p1 λx _ K=>match x with
 |.lst xs=>K (.int xs.length) .fr
 |.tup xs=>K (.int xs.length) .fr
 |.str z=>z.length<=16777216/\K (.int z.length) .fr
 |_=>False
def Py:dG->Hp->VK->Prop:=λxs H Q=>(∃p ys,xs=[.ref p]/\(H p=some (.lst ys)\/H p=some (.tup ys))/\Q (.int ys.length) H)\/∃z,xs=[.str z]/\z.length<=sizeLine/\Q (.int z.length) H
theorem CQ:BJ X (.builtin "len") Py:=by
 intro qA s σ H xs us Q I r h;rcases h with⟨p,ys,rfl,a,q⟩|h
 ·exact OO qA s σ H _ us Q I r ⟨p,ys,rfl,a.elim (λz=>.inl (.of z)) (λz=>.inr (.of z)),q⟩
 ·exact OP qA s σ H _ us Q I r h
theorem CS:B3 Py LI:=λW ρ σ Hs H Q K xs vs ok st r a q=>by
 unfold LI p1 at a;split at a
 ·obtain⟨v,rfl,rv⟩:=r.one;split at a
  ·obtain⟨p,us,rfl,c,d⟩:=Bx ok rv;exact .inl ⟨p,us,rfl,.inl c,by rw[<-d.length];exact q _ _ _ H a (Step.refl ok.bag) EO⟩
  ·obtain⟨p,us,rfl,c,d⟩:=Dh ok rv;exact .inl ⟨p,us,rfl,.inr c,by rw[<-d.length];exact q _ _ _ H a (Step.refl ok.bag) EO⟩
  ·cases E1 ok rv;exact .inr ⟨_,rfl,a.1,q _ _ _ H a.2 (Step.refl ok.bag) EO⟩
  ·exact a.elim
 ·exact a.elim
def LJ:pC:=p1 λx f K=>match x with
 |.lst xs=>K (.lst xs) (Bb f xs)
 |.tup xs=>K (.lst xs) (Bb f xs)
 |_=>False
theorem Fm:B3 (λxs H Q=>∃p ys,xs=[.ref p]/\(H p=some (.lst ys)\/H p=some (.tup ys))/\∀l,H l=none->Q (.ref l) (AD H l (.lst ys))) LJ:=λW ρ σ Hs H Q K xs vs ok st r a q=>by
 unfold LJ p1 at a;split at a
 ·obtain⟨v,rfl,rv⟩:=r.one;split at a
  ·obtain⟨p,us,rfl,c,e⟩:=Bx ok rv;exact⟨p,us,rfl,.inl c,λl d=>q _ _ _ _ a (Step.new ok.bag d) (RF.newL ok st e d)⟩
  ·obtain⟨p,us,rfl,c,e⟩:=Dh ok rv;exact⟨p,us,rfl,.inr c,λl d=>q _ _ _ _ a (Step.new ok.bag d) (RF.newL ok st e d)⟩
  ·exact a.elim
 ·exact a.elim
def LK:pC:=p1 λx f K=>match x with
 |.lst xs=>K (.tup xs) (Bb f xs)
 |_=>False
theorem EU:B3 (λxs H Q=>∃p ys,xs=[.ref p]/\H p=some (.lst ys)/\∀l,H l=none->Q (.ref l) (AD H l (.tup ys))) LK:=λW ρ σ Hs H Q K xs vs ok st r a q=>by
 unfold LK p1 at a;split at a
 ·obtain⟨v,rfl,rv⟩:=r.one;split at a
  ·obtain⟨p,us,rfl,c,e⟩:=Bx ok rv;exact⟨p,us,rfl,c,λl d=>q _ _ _ _ a (Step.new ok.bag d) (RF.newT ok e d)⟩
  ·exact a.elim
 ·exact a.elim
def LL:pC:=p1 λx f K=>∃bs:List Bool,x=.lst (bs.map P.bl)/\K (.bl (bs.all id)) .fr
theorem Iq:B3 (λxs H Q=>∃(p:Addr) (bs:List Bool),xs=[.ref p]/\Aq Kf H p (bs.map V.bl)/\Q (.bl (bs.all id)) H) LL:=λW ρ σ Hs H Q K xs vs ok st r a q=>by
 unfold LL p1 at a;split at a
 ·obtain⟨v,rfl,rv⟩:=r.one;obtain⟨bs,rfl,e⟩:=a;obtain⟨p,us,rfl,c,d⟩:=Bx ok rv;rw[AB.bls.mp d]at c;exact⟨p,bs,rfl,.of c,q _ _ _ H e (Step.refl ok.bag) C9⟩
 ·exact a.elim
def LM:pC:=p1 λx f K=>∃ss:At,x=.lst (ss.map P.str)/\ss.length<64/\∀ss':At,ss'.Perm ss->sortedS ss'=true->K (.lst (ss'.map P.str)) .nw
theorem W4:B3 (λxs H Q=>∃(p:Addr) (ss:At),xs=[.ref p]/\H p=some (.lst (ss.map V.str))/\ss.length<64/\∀(l:Addr) (a:At),H l=none->a.Perm ss->sortedS a=true->Q (.ref l) (AD H l (.lst (a.map V.str)))) LM:=λW ρ σ Hs H Q K xs vs ok st r d q=>by
 unfold LM p1 at d;split at d
 ·obtain⟨v,rfl,rv⟩:=r.one;obtain⟨ss,rfl,e,i⟩:=d;obtain⟨p,us,rfl,c,h⟩:=Bx ok rv;rw[AB.strs.mp h]at c;exact⟨p,ss,rfl,c,e,λl a f h1 h2=>q _ _ _ _ (i a h1 h2) (Step.new ok.bag f) (ET (g:=.nw) ok st (by simp) (by simp) (AB.strs.mpr rfl) f)⟩
 ·exact d.elim
def Fo:P->String
 |.non=>"NoneType" | .bl _=>"bool" | .int _=>"int" | .str _=>"str" | .tup _=>"tuple" | .lst _=>"list" | .dT _ _=>"dict" | .dK _ _=>"dict" | .fT _ _=>"dict" | .bag=>"list"
def LN(n:String)(x:P):Bool:=decide (Fo x=n)||(decide (n="int")&&decide (Fo x="bool"))
def Pz(n:String)(p:pE):pE:=λρ K=>p ρ λx _=>K (.bl (LN n x)) .fr
theorem W5(K:Fg){n:String}(a:n="bool"\/n="int"\/n="tuple"\/n="list"\/n="str")(x:P):PySem.W.kitOne K (.type (Fo x)) (.type n)=some (LN n x):=by
 rcases a with rfl|rfl|rfl|rfl|rfl<;>cases x<;>rfl
theorem W6{K:Fg}{b:Addr}{x:P}(d:Bag H b a)(h:Rp b Z H x v):TyOf K H v (.type (Fo x)):=by
 cases x with
 |non=>rw[show v=_ from h];exact .non
 |bl k=>rw[show v=_ from h];exact .bl k
 |int k=>rw[show v=_ from h];exact .int k
 |str k=>rw[show v=_ from h];exact .str k
 |bag=>rw[show v=_ from h];obtain⟨l,e⟩:=d.atb;exact .lst e
 |tup xs=>obtain⟨p,vs,e,c,_⟩:=h;rw[e];exact .tup c
 |lst xs=>obtain⟨p,vs,e,_,c,_⟩:=h;rw[e];exact .lst c
 |dT ks xs=>obtain⟨p,vs,e,_,c,_⟩:=h;rw[e];exact .dT c
 |fT ks xs=>obtain⟨p,vs,e,_,⟨o,c⟩,_⟩:=h;rw[e];exact .fT c
 |dK ks xs=>obtain⟨p,vs,e,_,c,_⟩:=h;rw[e];exact .dK c
section
variable{ι:Type}{Xs:ι->Cx}{a:Expr}{pa:pE}
theorem E5{n:String}{p1 p2:Pos}(r:n="bool"\/n="int"\/n="tuple"\/n="list"\/n="str")(z:∀i,(Xs i).K=Kf)(s:∀i,(Xs i).mg "isinstance"=none)(e:∀i,(Xs i).mg x=none)(d:bootBuiltins x=some (.type n))(h:QE Xs a pa)
  (w:∀i,Gl (Xs i) "isinstance":=by intro _;rfl) (g:∀i,Gl (Xs i) x:=by intro _;rfl) (p:x≠"__name__":=by decide +kernel) (j:(x==("__debug__":Str))=false:=by decide +kernel)
  (l:∀i,starEach [a,.Name x p2] (Xs i).env=[(false,eval a (Xs i).env),(false,eval (.Name x p2) (Xs i).env)]:=by intro _;rfl) :
  QE Xs (.Call (.Name "isinstance" p1) [a,.Name x p2] [] pos) (Pz n pa):=by
 obtain⟨t,h1,h2⟩:=h;refine⟨Da (λxs H Q=>∃x t n b,xs=[x,.ty n]/\TyOf Kf H x t/\PySem.W.kitOne Kf t (.type n)=some b/\Q (.bl b) H) (CC t (CC (tC (.ty n)) CB)),λi=>?_,λW ρ σ H Q K ok u q=>h2 W ρ σ H _ _ ok u λx f v H1 k1 c o=>?_⟩
 ·have y:BJ (Xs i) (.builtin "isinstance") (λxs H Q=>∃x t n b,xs=[x,.ty n]/\TyOf Kf H x t/\PySem.W.kitOne Kf t (.type n)=some b/\Q (.bl b) H):=by
   rw[<-z i];exact V5
  refine Er y (w i) (s i) nofun (Av (h1 i) (Av (UH (v:=.ty n) (g i) (e i) d rfl p j) BE (by rfl)) ?_) nofun nofun ?_ ?_
  ·exact l i
  ·exact l i
  ·rfl
 ·exact⟨v,.type (Fo x),n,_,rfl,W6 c.bag (o.any (ok.step c)),W5 Kf r x,q _ _ _ H1 k1 c C9⟩
end
end L2
variable{pi:L2.pI}
namespace L2
open PySem PySem.Spec PyProof.Rows PySem.SeqAt
mutual
def AI:P->P->Bool
 |.non,.non=>true
 |.bl a,.bl b=>a==b
 |.int a,.int b=>a==b
 |.str a,.str b=>a==b
 |.bl a,.int b=>(if a then 1 else 0)==b
 |.int a,.bl b=>a==(if b then 1 else 0)
 |.tup xs,.tup ys=>BN xs ys
 |.lst xs,.lst ys=>BN xs ys
 |_,_=>false
def BN:dH->dH->Bool
 |[],[]=>true
 |x::xs,y::ys=>AI x y&&BN xs ys
 |_,_=>false
end
def P.pl:Nat->P->Bool
 |_,.non=>true|_,.bl _=>true|_,.int _=>true|_,.str _=>true
 |n+1,.tup xs=>xs.all (P.pl n)
 |n+1,.lst xs=>xs.all (P.pl n)
 |_,_=>false
theorem P0:∀{xs ys:dH} {e:Nat->Bool},(∀j x y,xs[j]?=some x->ys[j]?=some y->e j=AI x y)->((List.range (min xs.length ys.length)).all e&&xs.length==ys.length)=BN xs ys
 |[],[],e,_=>rfl
 |[],_::_,e,_=>by simp[BN]
 |_::_,[],e,_=>by simp[BN]
 |x::xs,y::ys,e,h=>by
  have c:=P0 (xs:=xs) (ys:=ys) (e:=λj=>e (j+1)) λj a b h1 h2=>h (j+1) a b (by simpa using h1) (by simpa using h2);have d:=h 0 x y rfl rfl;rw[BN,<-c,<-d];have g:min (x::xs).length (y::ys).length=min xs.length ys.length+1:=by simp
  rw[g,range_succ_eq_map,all_cons,all_map];have f:((x::xs).length==(y::ys).length)=(xs.length==ys.length):=by
   rw[Bool.eq_iff_iff];simp
  rw[f,Bool.and_assoc];rfl
theorem CU{x:P}(a:Az x=some v)(q:AH v v'):(x=.non/\v'=.none)\/(∃b,x=.bl b/\v'=.bool b)\/(∃i t,x=.int i/\v'=.int i t)\/∃z t,x=.str z/\v'=.str z t:=by
 cases x with
 |non=>cases(oI (show some _=some v from a));exact .inl ⟨rfl,q⟩
 |bl b=>cases(oI (show some _=some v from a));exact .inr (.inl ⟨b,rfl,q⟩)
 |int i=>cases(oI (show some _=some v from a));obtain⟨t,e⟩:=(show∃t,_=Value.int _ t from q);exact .inr (.inr (.inl ⟨i,t,rfl,e⟩))
 |str i=>cases(oI (show some _=some v from a));obtain⟨t,e⟩:=(show∃t,_=Value.str _ t from q);exact .inr (.inr (.inr ⟨i,t,rfl,e⟩))
 |_=>cases a
theorem P1{x:P}{u:V}(d:Az x=some v)(a:Az y=some u)(qv:AH v v')(c:AH u u'):EqAt A s v' u' (AI x y):=by
 rcases CU d qv with⟨rfl,rfl⟩|⟨_,rfl,rfl⟩|⟨_,_,rfl,rfl⟩|⟨_,_,rfl,rfl⟩
 ·rcases CU a c with⟨rfl,rfl⟩|⟨_,rfl,rfl⟩|⟨_,_,rfl,rfl⟩|⟨_,_,rfl,rfl⟩<;>simp only[AI,Bool.not_false,Bool.not_true]
  ·exact EqAt.same _
  ·exact EqAt.none_bool _
  ·exact EqAt.none_int _ _
  ·exact EqAt.none_str _ _
 ·rcases CU a c with⟨rfl,rfl⟩|⟨_,rfl,rfl⟩|⟨_,_,rfl,rfl⟩|⟨_,_,rfl,rfl⟩<;>simp only[AI,Bool.not_false,Bool.not_true]
  ·exact EqAt.bool_none _
  ·exact EqAt.bool_bool _ _
  ·exact EqAt.bool_int _ _ _
  ·exact EqAt.bool_str _ _ _
 ·rcases CU a c with⟨rfl,rfl⟩|⟨_,rfl,rfl⟩|⟨_,_,rfl,rfl⟩|⟨_,_,rfl,rfl⟩<;>simp only[AI,Bool.not_false,Bool.not_true]
  ·exact EqAt.int_none _ _
  ·exact EqAt.int_bool _ _ _
  ·exact EqAt.int_int _ _ _ _
  ·exact EqAt.int_str _ _ _ _
 ·rcases CU a c with⟨rfl,rfl⟩|⟨_,rfl,rfl⟩|⟨_,_,rfl,rfl⟩|⟨_,_,rfl,rfl⟩<;>simp only[AI,Bool.not_false,Bool.not_true]
  ·exact EqAt.str_none _ _
  ·exact EqAt.str_bool _ _ _
  ·exact EqAt.str_int _ _ _ _
  ·exact EqAt.str_str _ _ _ _
theorem W7{x:P}{u:V}(d:Az x=some v)(a:Az y=some u)(qv:AH v v')(c:AH u u'):RcNeAt A s v' u' (!AI x y):=by
 rcases CU d qv with⟨rfl,rfl⟩|⟨_,rfl,rfl⟩|⟨_,_,rfl,rfl⟩|⟨_,_,rfl,rfl⟩
 ·rcases CU a c with⟨rfl,rfl⟩|⟨_,rfl,rfl⟩|⟨_,_,rfl,rfl⟩|⟨_,_,rfl,rfl⟩<;>simp only[AI,Bool.not_false,Bool.not_true]
  ·exact RcNeAt.none_none
  ·exact RcNeAt.none_bool _
  ·exact RcNeAt.none_int _ _
  ·exact RcNeAt.none_str _ _
 ·rcases CU a c with⟨rfl,rfl⟩|⟨_,rfl,rfl⟩|⟨_,_,rfl,rfl⟩|⟨_,_,rfl,rfl⟩<;>simp only[AI,Bool.not_false,Bool.not_true]
  ·exact RcNeAt.bool_none _
  ·exact RcNeAt.bool_bool _ _
  ·exact RcNeAt.bool_int _ _ _
  ·exact RcNeAt.bool_str _ _ _
 ·rcases CU a c with⟨rfl,rfl⟩|⟨_,rfl,rfl⟩|⟨_,_,rfl,rfl⟩|⟨_,_,rfl,rfl⟩<;>simp only[AI,Bool.not_false,Bool.not_true]
  ·exact RcNeAt.int_none _ _
  ·exact RcNeAt.int_bool _ _ _
  ·exact RcNeAt.int_int _ _ _ _
  ·exact RcNeAt.int_str _ _ _ _
 ·rcases CU a c with⟨rfl,rfl⟩|⟨_,rfl,rfl⟩|⟨_,_,rfl,rfl⟩|⟨_,_,rfl,rfl⟩<;>simp only[AI,Bool.not_false,Bool.not_true]
  ·exact RcNeAt.str_none _ _
  ·exact RcNeAt.str_bool _ _ _
  ·exact RcNeAt.str_int _ _ _ _
  ·exact RcNeAt.str_str _ _ _ _
theorem W8{x:P}{u:V}(d:Az x=some v)(a:Az y=some u)(qv:AH v v')(c:AH u u'):RcAt A s v' u' (AI x y):=by
 rcases CU d qv with⟨rfl,rfl⟩|⟨_,rfl,rfl⟩|⟨_,_,rfl,rfl⟩|⟨_,_,rfl,rfl⟩
 ·rcases CU a c with⟨rfl,rfl⟩|⟨_,rfl,rfl⟩|⟨_,_,rfl,rfl⟩|⟨_,_,rfl,rfl⟩<;>simp only[AI,Bool.not_false,Bool.not_true]
  ·exact RcAt.none_none
  ·exact RcAt.none_bool _
  ·exact RcAt.none_int _ _
  ·exact RcAt.none_str _ _
 ·rcases CU a c with⟨rfl,rfl⟩|⟨_,rfl,rfl⟩|⟨_,_,rfl,rfl⟩|⟨_,_,rfl,rfl⟩<;>simp only[AI,Bool.not_false,Bool.not_true]
  ·exact RcAt.bool_none _
  ·exact RcAt.bool_bool _ _
  ·exact RcAt.bool_int _ _ _
  ·exact RcAt.bool_str _ _ _
 ·rcases CU a c with⟨rfl,rfl⟩|⟨_,rfl,rfl⟩|⟨_,_,rfl,rfl⟩|⟨_,_,rfl,rfl⟩<;>simp only[AI,Bool.not_false,Bool.not_true]
  ·exact RcAt.int_none _ _
  ·exact RcAt.int_bool _ _ _
  ·exact RcAt.int_int _ _ _ _
  ·exact RcAt.int_str _ _ _ _
 ·rcases CU a c with⟨rfl,rfl⟩|⟨_,rfl,rfl⟩|⟨_,_,rfl,rfl⟩|⟨_,_,rfl,rfl⟩<;>simp only[AI,Bool.not_false,Bool.not_true]
  ·exact RcAt.str_none _ _
  ·exact RcAt.str_bool _ _ _
  ·exact RcAt.str_int _ _ _ _
  ·exact RcAt.str_str _ _ _ _
theorem W9{u:V}{l:Addr}(f:s.heap.IsList l qH)(e:A.units<cLine)(c:Az y=some u)(d:AH u u'):EqAt A s (.ref l) u' false:=by
 cases y with
 |non=>cases(oI (show some _=some u from c));cases(show _=Value.none from d);exact EqAt.list_none f e
 |bl _=>cases(oI (show some _=some u from c));cases(show _=Value.bool _ from d);exact EqAt.list_bool _ f e
 |int _=>cases(oI (show some _=some u from c));obtain⟨_,a⟩:=(show∃t,_=Value.int _ t from d);subst a;exact EqAt.list_int _ _ f e
 |str _=>cases(oI (show some _=some u from c));obtain⟨_,a⟩:=(show∃t,_=Value.str _ t from d);subst a;exact EqAt.list_str _ _ f e
 |_=>cases c
theorem XA{u:V}{l:Addr}(f:s.heap.IsList l qH)(e:A.units<cLine)(c:Az y=some u)(d:AH u u'):EqAt A s u' (.ref l) false:=by
 cases y with
 |non=>cases(oI (show some _=some u from c));cases(show _=Value.none from d);exact EqAt.none_list f e
 |bl _=>cases(oI (show some _=some u from c));cases(show _=Value.bool _ from d);exact EqAt.bool_list _ f e
 |int _=>cases(oI (show some _=some u from c));obtain⟨_,a⟩:=(show∃t,_=Value.int _ t from d);subst a;exact EqAt.int_list _ _ f e
 |str _=>cases(oI (show some _=some u from c));obtain⟨_,a⟩:=(show∃t,_=Value.str _ t from d);subst a;exact EqAt.str_list _ _ f e
 |_=>cases c
theorem XB{u:V}{l:Addr}(f:s.heap.IsTuple l qH)(e:A.units<cLine)(c:Az y=some u)(d:AH u u'):EqAt A s (.ref l) u' false:=by
 cases y with
 |non=>cases(oI (show some _=some u from c));cases(show _=Value.none from d);exact EqAt.tuple_none f e
 |bl _=>cases(oI (show some _=some u from c));cases(show _=Value.bool _ from d);exact EqAt.tuple_bool _ f e
 |int _=>cases(oI (show some _=some u from c));obtain⟨_,a⟩:=(show∃t,_=Value.int _ t from d);subst a;exact EqAt.tuple_int _ _ f e
 |str _=>cases(oI (show some _=some u from c));obtain⟨_,a⟩:=(show∃t,_=Value.str _ t from d);subst a;exact EqAt.tuple_str _ _ f e
 |_=>cases c
theorem XC{u:V}{l:Addr}(f:s.heap.IsTuple l qH)(e:A.units<cLine)(c:Az y=some u)(d:AH u u'):EqAt A s u' (.ref l) false:=by
 cases y with
 |non=>cases(oI (show some _=some u from c));cases(show _=Value.none from d);exact EqAt.none_tuple f e
 |bl _=>cases(oI (show some _=some u from c));cases(show _=Value.bool _ from d);exact EqAt.bool_tuple _ f e
 |int _=>cases(oI (show some _=some u from c));obtain⟨_,a⟩:=(show∃t,_=Value.int _ t from d);subst a;exact EqAt.int_tuple _ _ f e
 |str _=>cases(oI (show some _=some u from c));obtain⟨_,a⟩:=(show∃t,_=Value.str _ t from d);subst a;exact EqAt.str_tuple _ _ f e
 |_=>cases c
theorem XD{u:V}{l:Addr}(f:s.heap.IsList l qH)(e:A.units<cLine)(c:Az y=some u)(d:AH u u'):RcNeAt A s (.ref l) u' true:=by
 cases y with
 |non=>cases(oI (show some _=some u from c));cases(show _=Value.none from d);exact RcNeAt.list_none f e
 |bl _=>cases(oI (show some _=some u from c));cases(show _=Value.bool _ from d);exact RcNeAt.list_bool _ f e
 |int _=>cases(oI (show some _=some u from c));obtain⟨_,a⟩:=(show∃t,_=Value.int _ t from d);subst a;exact RcNeAt.list_int _ _ f e
 |str _=>cases(oI (show some _=some u from c));obtain⟨_,a⟩:=(show∃t,_=Value.str _ t from d);subst a;exact RcNeAt.list_str _ _ f e
 |_=>cases c
theorem XE{u:V}{l:Addr}(f:s.heap.IsList l qH)(e:A.units<cLine)(c:Az y=some u)(d:AH u u'):RcNeAt A s u' (.ref l) true:=by
 cases y with
 |non=>cases(oI (show some _=some u from c));cases(show _=Value.none from d);exact RcNeAt.none_list f e
 |bl _=>cases(oI (show some _=some u from c));cases(show _=Value.bool _ from d);exact RcNeAt.bool_list _ f e
 |int _=>cases(oI (show some _=some u from c));obtain⟨_,a⟩:=(show∃t,_=Value.int _ t from d);subst a;exact RcNeAt.int_list _ _ f e
 |str _=>cases(oI (show some _=some u from c));obtain⟨_,a⟩:=(show∃t,_=Value.str _ t from d);subst a;exact RcNeAt.str_list _ _ f e
 |_=>cases c
theorem XF{u:V}{l:Addr}(f:s.heap.IsTuple l qH)(e:A.units<cLine)(c:Az y=some u)(d:AH u u'):RcNeAt A s (.ref l) u' true:=by
 cases y with
 |non=>cases(oI (show some _=some u from c));cases(show _=Value.none from d);exact RcNeAt.tuple_none f e
 |bl _=>cases(oI (show some _=some u from c));cases(show _=Value.bool _ from d);exact RcNeAt.tuple_bool _ f e
 |int _=>cases(oI (show some _=some u from c));obtain⟨_,a⟩:=(show∃t,_=Value.int _ t from d);subst a;exact RcNeAt.tuple_int _ _ f e
 |str _=>cases(oI (show some _=some u from c));obtain⟨_,a⟩:=(show∃t,_=Value.str _ t from d);subst a;exact RcNeAt.tuple_str _ _ f e
 |_=>cases c
theorem XG{u:V}{l:Addr}(f:s.heap.IsTuple l qH)(e:A.units<cLine)(c:Az y=some u)(d:AH u u'):RcNeAt A s u' (.ref l) true:=by
 cases y with
 |non=>cases(oI (show some _=some u from c));cases(show _=Value.none from d);exact RcNeAt.none_tuple f e
 |bl _=>cases(oI (show some _=some u from c));cases(show _=Value.bool _ from d);exact RcNeAt.bool_tuple _ f e
 |int _=>cases(oI (show some _=some u from c));obtain⟨_,a⟩:=(show∃t,_=Value.int _ t from d);subst a;exact RcNeAt.int_tuple _ _ f e
 |str _=>cases(oI (show some _=some u from c));obtain⟨_,a⟩:=(show∃t,_=Value.str _ t from d);subst a;exact RcNeAt.str_tuple _ _ f e
 |_=>cases c
theorem XH{u:V}{l:Addr}(f:s.heap.IsList l qH)(e:A.units<cLine)(c:Az y=some u)(d:AH u u'):RcAt A s (.ref l) u' false:=by
 cases y with
 |non=>cases(oI (show some _=some u from c));cases(show _=Value.none from d);exact RcAt.list_none f e
 |bl _=>cases(oI (show some _=some u from c));cases(show _=Value.bool _ from d);exact RcAt.list_bool _ f e
 |int _=>cases(oI (show some _=some u from c));obtain⟨_,a⟩:=(show∃t,_=Value.int _ t from d);subst a;exact RcAt.list_int _ _ f e
 |str _=>cases(oI (show some _=some u from c));obtain⟨_,a⟩:=(show∃t,_=Value.str _ t from d);subst a;exact RcAt.list_str _ _ f e
 |_=>cases c
theorem XI{u:V}{l:Addr}(f:s.heap.IsList l qH)(e:A.units<cLine)(c:Az y=some u)(d:AH u u'):RcAt A s u' (.ref l) false:=by
 cases y with
 |non=>cases(oI (show some _=some u from c));cases(show _=Value.none from d);exact RcAt.none_list f e
 |bl _=>cases(oI (show some _=some u from c));cases(show _=Value.bool _ from d);exact RcAt.bool_list _ f e
 |int _=>cases(oI (show some _=some u from c));obtain⟨_,a⟩:=(show∃t,_=Value.int _ t from d);subst a;exact RcAt.int_list _ _ f e
 |str _=>cases(oI (show some _=some u from c));obtain⟨_,a⟩:=(show∃t,_=Value.str _ t from d);subst a;exact RcAt.str_list _ _ f e
 |_=>cases c
theorem XJ{u:V}{l:Addr}(f:s.heap.IsTuple l qH)(e:A.units<cLine)(c:Az y=some u)(d:AH u u'):RcAt A s (.ref l) u' false:=by
 cases y with
 |non=>cases(oI (show some _=some u from c));cases(show _=Value.none from d);exact RcAt.tuple_none f e
 |bl _=>cases(oI (show some _=some u from c));cases(show _=Value.bool _ from d);exact RcAt.tuple_bool _ f e
 |int _=>cases(oI (show some _=some u from c));obtain⟨_,a⟩:=(show∃t,_=Value.int _ t from d);subst a;exact RcAt.tuple_int _ _ f e
 |str _=>cases(oI (show some _=some u from c));obtain⟨_,a⟩:=(show∃t,_=Value.str _ t from d);subst a;exact RcAt.tuple_str _ _ f e
 |_=>cases c
theorem XM{u:V}{l:Addr}(f:s.heap.IsTuple l qH)(e:A.units<cLine)(c:Az y=some u)(d:AH u u'):RcAt A s u' (.ref l) false:=by
 cases y with
 |non=>cases(oI (show some _=some u from c));cases(show _=Value.none from d);exact RcAt.none_tuple f e
 |bl _=>cases(oI (show some _=some u from c));cases(show _=Value.bool _ from d);exact RcAt.bool_tuple _ f e
 |int _=>cases(oI (show some _=some u from c));obtain⟨_,a⟩:=(show∃t,_=Value.int _ t from d);subst a;exact RcAt.int_tuple _ _ f e
 |str _=>cases(oI (show some _=some u from c));obtain⟨_,a⟩:=(show∃t,_=Value.str _ t from d);subst a;exact RcAt.str_tuple _ _ f e
 |_=>cases c
theorem Cd{b:Addr}{x:P}(a:x.pl n=true)(r:Rp b Z H x v):Az x=some v\/(∃m xs,n=m+1/\x=.tup xs/\xs.all (P.pl m)=true)\/∃m xs,n=m+1/\x=.lst xs/\xs.all (P.pl m)=true:=by
 cases x with
 |non=>exact .inl (by rw[show v=_ from r];rfl)
 |bl k=>exact .inl (by rw[show v=_ from r];rfl)
 |int k=>exact .inl (by rw[show v=_ from r];rfl)
 |str k=>exact .inl (by rw[show v=_ from r];rfl)
 |tup xs=>cases n with
  |zero=>simp[P.pl]at a
  |succ m=>exact .inr (.inl ⟨m,xs,rfl,rfl,by simpa[P.pl]using a⟩)
 |lst xs=>cases n with
  |zero=>simp[P.pl]at a
  |succ m=>exact .inr (.inr ⟨m,xs,rfl,rfl,by simpa[P.pl]using a⟩)
 |_=>cases n<;>simp[P.pl]at a
theorem XN:∀(n:Nat) {x:P},x.pl n=true->AI x x=true:=by
 intro n
 induction n with
 |zero=>intro x a;cases x<;>simp[P.pl]at a<;>simp[AI]
 |succ n e =>
  have d:∀{xs:dH},xs.all (P.pl n)=true->BN xs xs=true:=by
   intro xs
   induction xs with
   |nil=>intro _;rfl
   |cons x r c =>
    intro h;rw[all_cons,cB]at h;rw[BN,e h.1,c h.2];rfl
  intro x a;cases x<;>simp only[P.pl]at a<;>simp only[AI,beq_self_eq_true]
  ·cases a
  ·exact d a
  ·exact d a
  ·cases a
  ·cases a
  ·cases a
theorem P2(n:Nat)(xs:dH)(h:xs.all (P.pl n)=true):BN xs xs=true:=by
 induction xs with
 |nil=>rfl
 |cons x r a =>
  rw[all_cons,cB]at h;rw[BN,XN n h.1,a h.2];rfl
theorem P3{b:Addr}:∀(n:Nat) {x y:P} {v:V},x.pl n=true->y.pl n=true->Rp b Z H x v->Rp b Z H y v->x=y:=by
 intro n
 induction n with
 |zero =>
  intro x y v u l j a;cases x<;>simp[P.pl]at u<;>cases y<;>simp[P.pl]at l<;>(rw[show v=_ from j]at a)<;>first|rfl|(cases a;rfl)|cases a
 |succ n D =>
  have w:∀{xs ys:dH} {vs:dG},xs.all (P.pl n)=true->ys.all (P.pl n)=true->AB b Z H xs vs->AB b Z H ys vs->xs=ys:=by
   intro xs
   induction xs with
   |nil =>
    intro ys vs _ _ f c;rw[show vs=[]from f]at c;cases ys with
    |nil=>rfl
    |cons y r=>obtain⟨_,_,e,_⟩:=c;cases e
   |cons x r s =>
    intro ys vs h1 h2 f c;obtain⟨v,t,rfl,C,B⟩:=f;cases ys with
    |nil=>cases(show v::t=[]from c)
    |cons y ys =>
     obtain⟨_,_,e,A,z⟩:=c;cases e;rw[all_cons,cB]at h1 h2;rw[D h1.1 h2.1 C A,s h1.2 h2.2 B z]
  intro x y v u l j a;rcases Cd u j with q|⟨m,xs,e,rfl,px⟩|⟨m,xs,e,rfl,px⟩
  ·rcases Cd l a with i|⟨m,ys,e,rfl,g⟩|⟨m,ys,e,rfl,g⟩
   ·cases x<;>simp only[Az]at q<;>cases q<;>cases y<;>simp only[Az]at i<;>cases i<;>rfl
   ·obtain⟨p,us,rfl,_⟩:=a;cases x<;>simp[Az]at q
   ·obtain⟨p,us,rfl,_⟩:=a;cases x<;>simp[Az]at q
  ·cases e;obtain⟨p,vs,rfl,o,f⟩:=j;rcases Cd l a with i|⟨m,ys,e,rfl,g⟩|⟨m,ys,e,rfl,g⟩
   ·cases y<;>simp[Az]at i
   ·cases e;obtain⟨p2,us,h,d,c⟩:=a;cases h;rw[o]at d;cases d;rw[w px g f c]
   ·obtain⟨p2,us,h,_,d,c⟩:=a;cases h;rw[o]at d;cases d
  ·cases e;obtain⟨p,vs,rfl,_,o,f⟩:=j;rcases Cd l a with i|⟨m,ys,e,rfl,g⟩|⟨m,ys,e,rfl,g⟩
   ·cases y<;>simp[Az]at i
   ·obtain⟨p2,us,h,d,c⟩:=a;cases h;rw[o]at d;cases d
   ·cases e;obtain⟨p2,us,h,_,d,c⟩:=a;cases h;rw[o]at d;cases d;rw[w px g f c]
theorem LO{b:Addr}{Z:Addr->Prop}{H:Hp}{n:Nat}:∀{xs ys:dH} {vs:dG},xs.all (P.pl n)=true->ys.all (P.pl n)=true->AB b Z H xs vs->AB b Z H ys vs->xs=ys
 |[],ys,vs,_,_,c,a=>by
  rw[show vs=[]from c]at a;cases ys with
  |nil=>rfl
  |cons y r=>obtain⟨_,_,e,_⟩:=a;cases e
 |x::xs,ys,vs,h1,h2,c,a=>by
  obtain⟨v,t,rfl,h,g⟩:=c;cases ys with
  |nil=>cases(show v::t=[]from a)
  |cons y ys =>
   obtain⟨_,_,e,f,d⟩:=a;cases e;rw[all_cons,cB]at h1 h2;rw[P3 n h1.1 h2.1 h f,LO h1.2 h2.2 g d]
theorem Di(I:Inv X qA σ H s)(e:H p=some (.tup vs)):∃qH:Do,AQ vs qH/\s.heap.IsTuple p qH.toArray:=by
 obtain⟨qH,r,t,_⟩:=I.tuple (.of e);exact⟨qH,r,t⟩
theorem Dj(I:Inv X qA σ H s)(e:H p=some (.lst vs)):∃qH:Do,AQ vs qH/\s.heap.IsList p qH.toArray:=by
 obtain⟨qH,r,t,_⟩:=I.list (.of e);exact⟨qH,r,t.isList⟩
theorem Fp(A:Around):A.in1.units=A.units+1:=rfl
def EV(xs ys:dH)(j:Nat):Bool:=match xs[j]?,ys[j]? with|some x,some y=>AI x y|_,_=>true
theorem Fq:((List.range (min xs.length ys.length)).all (EV xs ys)&&xs.length==ys.length)=BN xs ys:=P0 λj x y h1 h2=>by unfold EV;rw[h1,h2]
theorem Ir{m:Nat}{x:P}(h:xs.all (P.pl m)=true)(e:xs[i]?=some x):x.pl m=true:=all_eq_true.mp h x (aM e)
theorem P4(I:Inv X qA σ H s){b:Addr}:∀(n:Nat) {A:Around} {x y:P} {v u:V} {v' u':Value},A.units+n<cLine->x.pl n=true->y.pl n=true->Rp b Z H x v->Rp b Z H y u->AH v v'->AH u u'->EqAt A s v' u' (AI x y):=by
 intro n
 induction n with
 |zero =>
  intro A x y v u v' u' hu M J G q qv w;rcases Cd M G with D|⟨m,xs,e,_⟩|⟨m,xs,e,_⟩
  ·rcases Cd J q with C|⟨m,ys,e,_⟩|⟨m,ys,e,_⟩
   ·exact P1 D C qv w
   ·cases e
   ·cases e
  ·cases e
  ·cases e
 |succ n ih =>
  intro A x y v u v' u' hu M J G q qv w;have c:A.units<cLine:=⋯;have N:A.in1.units+n<cLine:=by rw[Fp];lia
  have pc:∀{xs ys:dH} {vs us:dG} {qH a:Do},xs.all (P.pl n)=true->ys.all (P.pl n)=true->AB b Z H xs vs->AB b Z H ys us->AQ vs qH->AQ us a->∀j (h1:j<qH.toArray.size) (h2:j<a.toArray.size),EqAt A.in1 s qH.toArray[j] a.toArray[j] (EV xs ys j):=by
   intro xs ys vs us qH a px h r g B z j h1 h2;have l1:=r.length;have l2:=g.length;have l3:=B.length;have L:=z.length;rw[size_toArray]at h1 h2;obtain⟨v1,E,q1⟩:=r.get (i:=j) (x:=xs[j]'⋯) (by simp[l1,l3,h1]);obtain⟨v2,f,q2⟩:=g.get (i:=j) (x:=ys[j]'⋯) (by simp[l2,L,h2]);obtain⟨u1,Y,k1⟩:=B.get E;obtain⟨u2,U,k2⟩:=z.get f;have ex:xs[j]?=some (xs[j]'⋯):=by simp[l1,l3,h1]
   have ey:ys[j]?=some (ys[j]'⋯):=by simp[l2,L,h2]
   have z1:qH.toArray[j]=u1:=by
    have:qH[j]?=some qH[j]:=by simp[h1]
    rw[this]at Y;simpa using oI Y
   have z2:a.toArray[j]=u2:=by
    have:a[j]?=some a[j]:=by simp[h2]
    rw[this]at U;simpa using oI U
   rw[z1,z2];have:EV xs ys j=AI (xs[j]'⋯) (ys[j]'⋯):=by unfold EV;rw[ex,ey]
   rw[this];exact ih N (Ir px ex) (Ir h ey) q1 q2 k1 k2
  rcases Cd M G with D|⟨m,xs,e,rfl,px⟩|⟨m,xs,e,rfl,px⟩
  ·rcases Cd J q with C|⟨m,ys,e,rfl,h⟩|⟨m,ys,e,rfl,h⟩
   ·exact P1 D C qv w
   ·obtain⟨p,us,rfl,f,g⟩:=q;cases(show u'=Value.ref p from w);obtain⟨qH,_,o⟩:=Di I f;have:AI x (.tup ys)=false:=by cases x<;>simp[Az]at D<;>simp only[AI]
    rw[this];exact XC o c D qv
   ·obtain⟨p,us,rfl,_,f,g⟩:=q;cases(show u'=Value.ref p from w);obtain⟨qH,_,o⟩:=Dj I f;have:AI x (.lst ys)=false:=by cases x<;>simp[Az]at D<;>simp only[AI]
    rw[this];exact XA o c D qv
  ·cases e;obtain⟨p,vs,rfl,E,r⟩:=id G;cases(show v'=Value.ref p from qv);obtain⟨qH,B,o⟩:=Di I E;rcases Cd J q with C|⟨m,ys,e,rfl,h⟩|⟨m,ys,e,rfl,h⟩
   ·have:AI (.tup xs) y=false:=by cases y<;>simp[Az]at C<;>simp only[AI]
    rw[this];exact XB o c C w
   ·cases e;obtain⟨p2,us,rfl,f,g⟩:=id q;cases(show u'=Value.ref p2 from w);obtain⟨a,z,d⟩:=Di I f;have key:=RcAt.tuples (A:=A) o d c (pc px h r g B z);rw[size_toArray,size_toArray,<-B.length,<-z.length,<-r.length,<-g.length,Fq]at key;rw[show AI (.tup xs) (.tup ys)=BN xs ys by simp only[AI]];by_cases l:p=p2
    ·subst l;rw[E]at f;cases f;have:BN xs ys=true:=by
      have O:∀zs:dH,zs.all (P.pl n)=true->BN zs zs=true:=P2 n;rw[LO (b:=b) (H:=H) (n:=n) px h r g];exact O ys h
     rw[this];exact EqAt.same _
    ·exact EqAt.of_refs l key
   ·obtain⟨p2,us,rfl,_,f,g⟩:=q;cases(show u'=Value.ref p2 from w);obtain⟨a,_,d⟩:=Dj I f;rw[show AI (.tup xs) (.lst ys)=false by simp only[AI]];exact EqAt.tuple_list o d c
  ·cases e;obtain⟨p,vs,rfl,_,E,r⟩:=id G;cases(show v'=Value.ref p from qv);obtain⟨qH,B,o⟩:=Dj I E;rcases Cd J q with C|⟨m,ys,e,rfl,h⟩|⟨m,ys,e,rfl,h⟩
   ·have:AI (.lst xs) y=false:=by cases y<;>simp[Az]at C<;>simp only[AI]
    rw[this];exact W9 o c C w
   ·obtain⟨p2,us,rfl,f,g⟩:=q;cases(show u'=Value.ref p2 from w);obtain⟨a,_,d⟩:=Di I f;rw[show AI (.lst xs) (.tup ys)=false by simp only[AI]];exact EqAt.list_tuple o d c
   ·cases e;obtain⟨p2,us,rfl,_,f,g⟩:=id q;cases(show u'=Value.ref p2 from w);obtain⟨a,z,d⟩:=Dj I f;rw[show AI (.lst xs) (.lst ys)=BN xs ys by simp only[AI]];by_cases l:p=p2
    ·subst l;rw[E]at f;cases f;have:BN xs ys=true:=by
      have O:∀zs:dH,zs.all (P.pl n)=true->BN zs zs=true:=P2 n;rw[LO (b:=b) (H:=H) (n:=n) px h r g];exact O ys h
     rw[this];exact EqAt.same _
    ·by_cases T:qH.length=a.length
     ·have key:=RcAt.lists (A:=A) o d (by simpa using T) c (pc px h r g B z);rw[<-Fq];have l1:=r.length;have l2:=g.length;have l3:=B.length;have L:=z.length;have e5:min xs.length ys.length=qH.toArray.size:=by rw[size_toArray];lia
      have Q:(xs.length==ys.length)=true:=by rw[beq_iff_eq];lia
      rw[e5,Q,Bool.and_true];exact EqAt.of_refs l key
     ·have l1:=r.length;have l2:=g.length;have l3:=B.length;have L:=z.length;have Q:(xs.length==ys.length)=false:=by rw[beq_eq_false_iff_ne];lia
      rw[<-Fq,Q,Bool.and_false];exact EqAt.of_refs l (RcAt.lists_lengths o d (by simpa using T) c)
theorem P5(I:Inv X qA σ H s){b:Addr}(c:A.in1.units+n<cLine){us:dG}{qH a:Do}(px:xs.all (P.pl n)=true)(w:ys.all (P.pl n)=true)
  (g:AB b Z H xs vs) (f:AB b Z H ys us) (e:AQ vs qH) (d:AQ us a):∀j (h1:j<qH.toArray.size) (h2:j<a.toArray.size),EqAt A.in1 s qH.toArray[j] a.toArray[j] (EV xs ys j):=by
 intro j h1 h2;have l1:=g.length;have l2:=f.length;have l3:=e.length;have h:=d.length;rw[size_toArray]at h1 h2;obtain⟨C,z,v⟩:=g.get (i:=j) (x:=xs[j]'⋯) (by simp[l1,l3,h1]);obtain⟨B,y,u⟩:=f.get (i:=j) (x:=ys[j]'⋯) (by simp[l2,h,h2]);obtain⟨u1,o,k1⟩:=e.get z;obtain⟨u2,l,k2⟩:=d.get y;have ex:xs[j]?=some (xs[j]'⋯):=by simp[l1,l3,h1]
 have p:ys[j]?=some (ys[j]'⋯):=by simp[l2,h,h2]
 have r:qH.toArray[j]=u1:=by
  have:qH[j]?=some qH[j]:=by simp[h1]
  rw[this]at o;simpa using oI o
 have q:a.toArray[j]=u2:=by
  have:a[j]?=some a[j]:=by simp[h2]
  rw[this]at l;simpa using oI l
 rw[r,q];have:EV xs ys j=AI (xs[j]'⋯) (ys[j]'⋯):=by unfold EV;rw[ex,p]
 rw[this];exact P4 I n c (Ir px ex) (Ir w p) v u k1 k2
theorem P6(I:Inv X qA σ H s){b:Addr}{x:P}{u:V}(T:A.units+n+1<cLine)(N:x.pl n=true)(J:y.pl n=true)(E:Rp b Z H x v)(l:Rp b Z H y u)(qv:AH v v')(h:AH u u') :
  RcAt A s v' u' (AI x y)/\RcNeAt A s v' u' (!AI x y):=by
 have a:A.units<cLine:=⋯;rcases Cd N E with q|⟨m,xs,e,rfl,px⟩|⟨m,xs,e,rfl,px⟩
 ·rcases Cd J l with j|⟨m,ys,e,rfl,r⟩|⟨m,ys,e,rfl,r⟩
  ·exact⟨W8 q j qv h,W7 q j qv h⟩
  ·obtain⟨p,us,rfl,i,o⟩:=l;cases(show u'=Value.ref p from h);obtain⟨qH,_,d⟩:=Di I i;have:AI x (.tup ys)=false:=by cases x<;>simp[Az]at q<;>simp only[AI]
   rw[this];exact⟨XM d a q qv,XG d a q qv⟩
  ·obtain⟨p,us,rfl,_,i,o⟩:=l;cases(show u'=Value.ref p from h);obtain⟨qH,_,d⟩:=Dj I i;have:AI x (.lst ys)=false:=by cases x<;>simp[Az]at q<;>simp only[AI]
   rw[this];exact⟨XI d a q qv,XE d a q qv⟩
 ·subst e;obtain⟨p,vs,rfl,M,B⟩:=id E;cases(show v'=Value.ref p from qv);obtain⟨qH,z,d⟩:=Di I M;rcases Cd J l with j|⟨G,ys,e,rfl,r⟩|⟨G,ys,e,rfl,r⟩
  ·have:AI (.tup xs) y=false:=by cases y<;>simp[Az]at j<;>simp only[AI]
   rw[this];exact⟨XJ d a j h,XF d a j h⟩
  ·cases e;obtain⟨p2,us,rfl,i,o⟩:=id l;cases(show u'=Value.ref p2 from h);obtain⟨g,w,c⟩:=Di I i;have C:=P5 I (A:=A) (n:=m) (by rw[Fp];lia) px r B o z w;have key:=RcAt.tuples (A:=A) d c a C;have f:=RcNeAt.tuples (A:=A) d c a C;rw[size_toArray,size_toArray,<-z.length,<-w.length,<-B.length,<-o.length,Fq]at key f;rw[show AI (.tup xs) (.tup ys)=BN xs ys by simp only[AI]];exact⟨key,f⟩
  ·obtain⟨p2,us,rfl,_,i,o⟩:=l;cases(show u'=Value.ref p2 from h);obtain⟨g,_,c⟩:=Dj I i;rw[show AI (.tup xs) (.lst ys)=false by simp only[AI]];exact⟨RcAt.tuple_list d c a,RcNeAt.tuple_list d c a⟩
 ·subst e;obtain⟨p,vs,rfl,_,M,B⟩:=id E;cases(show v'=Value.ref p from qv);obtain⟨qH,z,d⟩:=Dj I M;rcases Cd J l with j|⟨G,ys,e,rfl,r⟩|⟨G,ys,e,rfl,r⟩
  ·have:AI (.lst xs) y=false:=by cases y<;>simp[Az]at j<;>simp only[AI]
   rw[this];exact⟨XH d a j h,XD d a j h⟩
  ·obtain⟨p2,us,rfl,i,o⟩:=l;cases(show u'=Value.ref p2 from h);obtain⟨g,_,c⟩:=Di I i;rw[show AI (.lst xs) (.tup ys)=false by simp only[AI]];exact⟨RcAt.list_tuple d c a,RcNeAt.list_tuple d c a⟩
  ·cases e;obtain⟨p2,us,rfl,_,i,o⟩:=id l;cases(show u'=Value.ref p2 from h);obtain⟨g,w,c⟩:=Dj I i;rw[show AI (.lst xs) (.lst ys)=BN xs ys by simp only[AI]];have l1:=B.length;have l2:=o.length;have l3:=z.length;have Q:=w.length;by_cases D:qH.length=g.length
   ·have C:=P5 I (A:=A) (n:=m) (by rw[Fp];lia) px r B o z w;have key:=RcAt.lists (A:=A) d c (by simpa using D) a C;have f:=RcNeAt.lists (A:=A) d c (by simpa using D) a C;rw[<-Fq];have O:min xs.length ys.length=qH.toArray.size:=by rw[size_toArray];lia
    have L:(xs.length==ys.length)=true:=by rw[beq_iff_eq];lia
    rw[O,L,Bool.and_true];exact⟨key,f⟩
   ·have L:(xs.length==ys.length)=false:=by rw[beq_eq_false_iff_ne];lia
    rw[<-Fq,L,Bool.and_false];exact⟨RcAt.lists_lengths d c (by simpa using D) a,RcNeAt.lists_lengths d c (by simpa using D) a⟩
def P7:R2:=λv u H Q=>∃(b:Addr) (Z:Addr->Prop) (x y:P),x.pl 9=true/\y.pl 9=true/\Rp b Z H x v/\Rp b Z H y u/\Q (.bl (AI x y)) H
def P8:R2:=λv u H Q=>∃(b:Addr) (Z:Addr->Prop) (x y:P),x.pl 9=true/\y.pl 9=true/\Rp b Z H x v/\Rp b Z H y u/\Q (.bl (!AI x y)) H
theorem HK{k:Nat}(f:Room k X.A):A1 X (compareOp .Eq) P7:=by
 intro qA s σ H x y v u Q I c a h;obtain⟨b,Z,px,g,h1,h2,e,d,q⟩:=h;exact(P6 I (A:=X.A) (by have:=f.units;lia) h1 h2 e d c a).1 _ _ _ _ ⟨.bl _,H,I,rfl,q⟩
theorem DB{k:Nat}(f:Room k X.A):A1 X (compareOp .NotEq) P8:=by
 intro qA s σ H x y v u Q I c a h;obtain⟨b,Z,px,g,h1,h2,e,d,q⟩:=h;exact(P6 I (A:=X.A) (by have:=f.units;lia) h1 h2 e d c a).2 _ _ _ _ ⟨.bl _,H,I,rfl,q⟩
def P9:p2:=λx _ y _ K=>(x.pl 9=true/\y.pl 9=true)/\K (.bl (AI x y)) .fr
def QB:p2:=λx _ y _ K=>(x.pl 9=true/\y.pl 9=true)/\K (.bl (!AI x y)) .fr
theorem HL:BM P7 P9:=λW ρ σ Hs H Q K x y f h v u ok st d c a q =>
 ⟨W.b,_,x,y,a.1.1,a.1.2,d.any ok,c.any ok,q _ _ _ H a.2 (Step.refl ok.bag) C9⟩
theorem DC:BM P8 QB:=λW ρ σ Hs H Q K x y f h v u ok st d c a q =>
 ⟨W.b,_,x,y,a.1.1,a.1.2,d.any ok,c.any ok,q _ _ _ H a.2 (Step.refl ok.bag) C9⟩
@[simp] theorem LP(n:Nat)(i:Int):(P.int i).pl n=true:=by cases n<;>rfl
@[simp] theorem QC(n:Nat)(i:Str):(P.str i).pl n=true:=by cases n<;>rfl
@[simp] theorem XO(n:Nat)(i:Bool):(P.bl i).pl n=true:=by cases n<;>rfl
@[simp] theorem XQ(n:Nat):P.non.pl n=true:=by cases n<;>rfl
@[simp] theorem XR(n:Nat)(xs:dH):(P.tup xs).pl (n+1)=xs.all (P.pl n):=rfl
@[simp] theorem XS(n:Nat)(xs:dH):(P.lst xs).pl (n+1)=xs.all (P.pl n):=rfl
theorem LQ{α:Type}{f:α->P}(h:∀a,(f a).pl n=true)(xs:List α):(xs.map f).all (P.pl n)=true:=by
 rw[all_map,all_eq_true];intro a _;exact h a
@[simp] theorem XT(n:Nat)(xs:By):(xs.map P.int).all (P.pl n)=true:=LQ (λa=>LP n a) xs
@[simp] theorem XU(n:Nat)(xs:At):(xs.map P.str).all (P.pl n)=true:=LQ (λa=>QC n a) xs
mutual
def P.nb:P->Bool
 |.non=>true|.int _=>true|.str _=>true|.tup xs=>P.nbs xs|.lst xs=>P.nbs xs|_=>false
def P.nbs:dH->Bool
 |[]=>true
 |x::r=>x.nb&&P.nbs r
end
mutual
theorem Iu:∀{x y:P},x.nb=true->y.nb=true->(AI x y=true↔x=y)
 |.non,y,_,c=>by cases y<;>simp_all [AI,P.nb]
 |.bl _,y,a,_=>by simp[P.nb]at a
 |.int _,y,_,c=>by cases y<;>simp_all [AI,P.nb]
 |.str _,y,_,c=>by cases y<;>simp_all [AI,P.nb]
 |.bag,y,a,_=>by simp[P.nb]at a
 |.tup xs,y,a,c=>by
  cases y with
  |tup ys =>
   rw[P.nb]at a c;rw[show AI (.tup xs) (.tup ys)=BN xs ys by simp only[AI],LR a c];simp
  |_=>simp[AI]
 |.lst xs,y,a,c=>by
  cases y with
  |lst ys =>
   rw[P.nb]at a c;rw[show AI (.lst xs) (.lst ys)=BN xs ys by simp only[AI],LR a c];simp
  |_=>simp[AI]
 |.dT _ _,y,a,_=>by simp[P.nb]at a
 |.fT _ _,y,a,_=>by simp[P.nb]at a
 |.dK _ _,y,a,_=>by simp[P.nb]at a
theorem LR:∀{xs ys:dH},P.nbs xs=true->P.nbs ys=true->(BN xs ys=true↔xs=ys)
 |[],[],_,_=>by simp[BN]
 |[],_::_,_,_=>by simp[BN]
 |_::_,[],_,_=>by simp[BN]
 |x::xs,y::ys,c,a=>by
  rw[P.nbs,cB]at c a;rw[BN,cB,Iu c.1 a.1,LR c.2 a.2];simp
end
theorem Iv{α:Type}{f:α->P}(h:∀a,(f a).nb=true):∀xs:List α,P.nbs (xs.map f)=true
 |[]=>by simp[P.nbs]
 |x::r=>by rw[map_cons,P.nbs,h x,Iv h r];rfl
def HM(neg:Bool):R2:=λv u H Q=>∃(b p:Addr) (Z:Addr->Prop) (x:P) (ys:dH) (us:dG),u=.ref p/\(H p=some (.lst us)\/H p=some (.tup us))/\x.pl 8=true/\ys.all (P.pl 8)=true/\Rp b Z H x v/\AB b Z H ys us/\Q (.bl (if neg=true then !(ys.any λy=>AI y x)else ys.any λy=>AI y x)) H
section
variable{k:Nat}
open Classical in
theorem Iw(Q:Room k X.A){b:Addr}{x:P}{us:dG}{qH:Do}(I:Inv X qA σ H s)(M:AH v v')(w:AQ us qH)
  (h1:x.pl 8=true) (h2:ys.all (P.pl 8)=true) (N:Rp b Z H x v) (h:AB b Z H ys us) :
  ∃e:Value->Bool,(∀y,y∈qH.toArray->EqAt X.A.in1 s y v' (e y))/\qH.toArray.any e=ys.any λy=>AI y x:=by
 have J:∀j y,qH[j]?=some y->∃z u,ys[j]?=some z/\z∈ys/\Rp b Z H z u/\AH u y:=λj y c=>by
  have l1:=h.length;have l2:=w.length;have r:j<qH.length:=by
   rcases cE j qH.length with q|q
   ·exact q
   ·rw[bQ q]at c;cases c
  have B:ys[j]?=some (ys[j]'⋯):=by simp[l1,l2,r]
  obtain⟨u,G,E⟩:=h.get B;obtain⟨T,d,D⟩:=w.get G;rw[c]at d;cases d;exact⟨_,u,B,aM B,E,D⟩
 refine⟨λy=>decide (∃z u,z∈ys/\Rp b Z H z u/\AH u y/\AI z x=true),λy p=>?_,?_⟩
 ·have p:y∈qH:=by simpa using p
  obtain⟨j,c,e⟩:=getElem_of_mem p;obtain⟨z,u,U,o,g,n⟩:=J j y (by rw[<-e];simp[c]);have C:=P4 I 8 (A:=X.A.in1) (by rw[Fp];have:=Q.units;lia) (all_eq_true.mp h2 z o) h1 g N n M;have:decide (∃z u,z∈ys/\Rp b Z H z u/\AH u y/\AI z x=true)=AI z x:=by
   rw[Bool.eq_iff_iff,aW];constructor
   ·rintro⟨L,u',O,f,l,a⟩;cases n.inj l;rw[P3 8 (all_eq_true.mp h2 z o) (all_eq_true.mp h2 L O) g f];exact a
   ·exactλa=>⟨z,u,o,g,n,a⟩
  show EqAt X.A.in1 s y v' (decide _);rw[this];exact C
 ·rw[Bool.eq_iff_iff,any_toArray,any_eq_true,any_eq_true];constructor
  ·rintro⟨y,_,a⟩;obtain⟨z,u,m,_,_,a⟩:=aL a;exact⟨z,m,a⟩
  ·rintro⟨z,m,a⟩;obtain⟨j,c,e⟩:=getElem_of_mem m;obtain⟨u,G,E⟩:=h.get (i:=j) (x:=z) (by rw[<-e];simp[c]);obtain⟨y,d,D⟩:=w.get G;exact⟨y,aM d,aK ⟨z,u,m,E,D,a⟩⟩
theorem Ix(j:Room k X.A):A1 X (compareOp .In) (HM false):=by
 intro qA s σ H x y v u Q I f l h;obtain⟨b,p,Z,px,ys,us,rfl,hp,h1,h2,i,g,q⟩:=h;cases l;rcases hp with hp|hp
 ·obtain⟨qH,w,a⟩:=Dj I hp;obtain⟨e,c,d⟩:=Iw j I f w h1 h2 i g;exact in_listAt e a c (by rw[d];exact⟨.bl _,H,I,rfl,q⟩)
 ·obtain⟨qH,w,a⟩:=Di I hp;obtain⟨e,c,d⟩:=Iw j I f w h1 h2 i g;exact in_tupleAt e a c (by rw[d];exact⟨.bl _,H,I,rfl,q⟩)
theorem XV(j:Room k X.A):A1 X (compareOp .NotIn) (HM true):=by
 intro qA s σ H x y v u Q I f l h;obtain⟨b,p,Z,px,ys,us,rfl,hp,h1,h2,i,g,q⟩:=h;cases l;rcases hp with hp|hp
 ·obtain⟨qH,w,a⟩:=Dj I hp;obtain⟨e,c,d⟩:=Iw j I f w h1 h2 i g;exact notIn_listAt e a c (by rw[d];exact⟨.bl _,H,I,rfl,q⟩)
 ·obtain⟨qH,w,a⟩:=Di I hp;obtain⟨e,c,d⟩:=Iw j I f w h1 h2 i g;exact notIn_tupleAt e a c (by rw[d];exact⟨.bl _,H,I,rfl,q⟩)
end
def Iy(neg:Bool):p2:=λx _ y _ K=>∃ys,y.items=some ys/\(x.pl 8=true/\ys.all (P.pl 8)=true)/\K (.bl (if neg=true then !(ys.any λy=>AI y x)else ys.any λy=>AI y x)) .fr
abbrev XW:p2:=Iy false
abbrev XX:p2:=Iy true
theorem QD(a:Bool):BM (HM a) (Iy a):=λW ρ σ Hs H Q K x y f h v u ok st d c j q=>by
 obtain⟨ys,e,⟨h1,h2⟩,l⟩:=j;have g:=RF.items (f:=.an) (W:=W) (ρ:=ρ) (σ:=σ) (Hs:=Hs) (c.any ok) e;obtain⟨p,vs,rfl,n,i⟩:=g;exact⟨W.b,p,_,x,ys,vs,rfl,n,h1,h2,d.any ok,i,q _ _ _ H l (Step.refl ok.bag) C9⟩
theorem Iz:BM (HM false) XW:=QD false
theorem XY:BM (HM true) XX:=QD true
theorem JA(z:Str)(xs:At):((xs.map P.str).any λy=>AI y (.str z))=decide (z∈xs):=by
 induction xs with
 |nil=>rfl
 |cons x r a =>
  rw[map_cons,any_cons,a,show AI (.str x) (.str z)=(x==z) by simp only[AI]];by_cases e:x=z
  ·subst e;simp
  ·have c:¬z=x:=λh=>e h.symm;simp[e,c]
end L2
namespace L2
open PySem PySem.Spec PyProof.Rows
def cut{α:Type}(xs:List α)(lo hi:Option Int):List α:=(xs.drop (HT.sIx xs.length 0 lo)).take (HT.sIx xs.length xs.length hi - HT.sIx xs.length 0 lo)
abbrev pO:=dI->(Option Int->Prop)->Prop
def XZ(t:TO)(p:pO):Prop:=∀(W:Wd) (ρ:dI) (σ:St) (H:Hp) (Q:Option Int->Hp->Prop) (K:Option Int->Prop),Ok W ρ σ H->p ρ K->(∀o H',K o->Step W.b W.a H H'->Q o H')->t σ H Q
def QO{ι:Type}(Xs:ι->Cx)(e:Option Expr)(p:pO):Prop:=∃t,(∀i,PO (Xs i) e t)/\XZ t p
def QF:pO:=λ_ K=>K none
def QH(p:pE):pO:=λρ K=>p ρ λx _=>match x with|.int i=>K (some i)|_=>False
def QJ(pe:pE)(pl ph:pO):pE:=λρ K=>pe ρ λx f=>pl ρ λlo=>ph ρ λhi=>match x with
 |.lst xs=>K (.lst (cut xs lo hi)) (Bb f (cut xs lo hi))
 |.tup xs=>K (.tup (cut xs lo hi)) f.el
 |.str z=>z.length<=16777216/\K (.str (Txt.slice z lo hi)) .fr
 |_=>False
section
variable{ι:Type}{Xs:ι->Cx}{e:Expr}{lo hi:Option Expr}{pl ph:pO}{p2:Pos}
theorem Fs:QO Xs none QF:=⟨_,λ_=>Gd,λW ρ σ H Q K ok h q=>q none H h (Step.refl ok.bag)⟩
theorem DD(h:QE Xs e pe):QO Xs (some e) (QH pe):=by
 obtain⟨t,h1,h2⟩:=h;refine⟨_,λi=>Gf (h1 i),λW ρ σ H Q K ok d q=>h2 W ρ σ H _ _ ok d λx f v H1 k1 a c=>?_⟩;split at k1
 ·exact⟨_,Bw (ok.step a) c,q _ H1 k1 a⟩
 ·exact k1.elim
def QK(K:Fg):V->Option Int->Option Int->Hp->VK->Prop:=λx lo hi H Q=>(OM K x lo hi H Q\/Ov x lo hi H Q)\/Om x lo hi H Q
theorem Xa:C4 X (QK X.K):=C4.or (C4.or IQ WC) Op
theorem AB.cut{b:Addr}{lo hi:Option Int}(h:AB b Z H xs vs):AB b Z H (L2.cut xs lo hi) (C5 vs lo hi):=by
 unfold L2.cut C5;rw[h.length];exact(h.drop _).take _
theorem D3(A:∀i,(Xs i).K=Kf)(z:QE Xs e pe)(g:QO Xs lo pl)(y:QO Xs hi ph):QE Xs (.Subscript e (.Slice lo hi none p2) pos) (QJ pe pl ph):=by
 obtain⟨te,C,B⟩:=z;obtain⟨tl,l1,l2⟩:=g;obtain⟨th,h1,h2⟩:=y;refine⟨OE (QK Kf) te tl th,λi=>Gg (by rw[<-A i];exact Xa) (C i) (l1 i) (h1 i),λW ρ σ H Q K ok w q=>B W ρ σ H _ _ ok w λx f v H1 k1 h u=>l2 W ρ σ H1 _ _ (ok.step h) k1 λo H2 k2 j=>h2 W ρ σ H2 _ _ ((ok.step h).step j) k2 λo' D k3 s=>?_⟩;have a:=(h.trans j).trans s;have d:=ok.step a;have n:=u.step (ok.step h) (j.trans s);split at k3
 ·obtain⟨p,us,rfl,c,rv⟩:=Bx d n;exact .inl (.inl ⟨p,us,rfl,.of c,λl g=>q _ _ _ _ k3 (a.trans (Step.new a.bag g)) (RF.newL d a rv.cut g)⟩)
 ·obtain⟨p,us,rfl,c,rv⟩:=Dh d n;refine .inl (.inr ⟨p,us,rfl,c,λr=>q _ _ _ _ k3 a ?_,λr l g=>q _ _ _ _ k3 (a.trans (Step.new a.bag g)) ?_⟩)
  ·rename_i xs0;have e:L2.cut xs0 o o'=xs0:=by
    unfold L2.cut;rw[rv.length,r.1,r.2,drop_zero,Nat.sub_zero,<-rv.length,take_length]
   rw[e];exact RF.ofEl (f:=f) ⟨p,us,rfl,c,rv⟩
  ·exact RF.ofEl (f:=f) ⟨l,_,rfl,Aa,(rv.cut).step (Step.new a.bag g) a.bag⟩
 ·cases E1 d n;exact .inr ⟨_,rfl,k3.1,q _ _ _ _ k3.2 a PF⟩
 ·exact k3.elim
end
section
variable{x x':P}{k:Nat}
theorem E6(ok:Ok W ρ σ H)(h:Ae ρ σ p)(g:f=.cl\/f=.fr):(∀q u,¬AC W ρ σ f q->H q=some u->¬AC W ρ σ f q/\AD H p o q=some u)/\∀q us,H q=some (.tup us)->AD H p o q=some (.tup us):=by
 obtain⟨_,_,_,_,o',a,d⟩:=ok.ow (.inr h);refine⟨λq u c e=>⟨c,?_⟩,λq us e=>?_⟩
 ·rw[AK (λz=>c (by subst z;rcases g with rfl|rfl<;>simp[AC,Ow,h]))];exact e
 ·rw[AK (λz=>by subst z;rw[e]at a;cases a;exact d us rfl)];exact e
theorem Ok.mut(ok:Ok W ρ σ H)(B:ρ[k]?=some (.own x))(G:σ[k]?=some (some (.ref p)))(no:∀ys,o≠.tup ys)(I:Rc W.b (Zf W ρ σ) (AD H p o) x' p):Ok W (ρ.set k (.own x')) σ (AD H p o):=by
 have d:Ae ρ σ p:=⟨k,x,B,G⟩;obtain⟨T,Q,N,O,o',q1,q2⟩:=ok.ow (.inr d);have M:k<ρ.length:=by
  rcases cE k ρ.length with q|q
  ·exact q
  ·rw[bQ q]at B;cases B
 have get:∀(i:Nat) (y:P),(ρ.set k (S.own x'))[i]?=some (S.own y)->∃z,ρ[i]?=some (S.own z):=λi y e=>by
  by_cases hi:k=i
  ·subst hi;exact⟨x,B⟩
  ·rw[bV hi]at e;exact⟨y,e⟩
 have E:∀q,Ae (ρ.set k (.own x')) σ q↔Ae ρ σ q:=λq=>by
  constructor
  ·rintro⟨i,y,h1,h2⟩;obtain⟨z,e⟩:=get i y h1;exact⟨i,z,e,h2⟩
  ·rintro⟨i,y,h1,h2⟩;by_cases hi:k=i
   ·subst hi;exact⟨k,x',bY M,h2⟩
   ·exact⟨i,y,by rw[bV hi];exact h1,h2⟩
 have U:∀f q,AC W (ρ.set k (.own x')) σ f q↔AC W ρ σ f q:=λf q=>by
  have:Ow W (ρ.set k (.own x')) σ q↔Ow W ρ σ q:=or_congr Iff.rfl (E q);cases f<;>simp only[AC,this]
 have D:∀f,AC W (ρ.set k (.own x')) σ f=AC W ρ σ f:=λf=>funext λq=>propext (U f q);refine⟨ok.bag.put N O,ok.fb,λq u J e=>?_,λq u e=>?_,λq J=>?_,by rw[length_set];exact ok.len,λi s e=>?_,λi j y z h1 h2 L=>?_⟩
 ·rw[AK (λz=>by subst z;rw[T]at e;cases e)];exact ok.old q u J e
 ·rw[AK (λz=>by subst z;rw[Q]at e;cases e)];exact ok.frm q u e
 ·obtain⟨h1,h2,L,h4,u,h5,h6⟩:=ok.oo q J;refine⟨h1,h2,L,h4,?_⟩;by_cases A:q=p
  ·subst A;exact⟨o,Aa,no⟩
  ·exact⟨u,by rw[AK A];exact h5,h6⟩
 ·by_cases hi:k=i
  ·subst hi;rw[bY M]at e;cases e;exact⟨_,G,p,rfl,T,Q,N,O,by rw[show Zf W (ρ.set k (.own x')) σ=Zf W ρ σ from D .fr];exact I⟩
  ·rw[bV hi]at e;obtain⟨u,h1,h2⟩:=ok.slot i s e;refine⟨u,h1,?_⟩;cases s with
   |emp=>trivial
   |sh y =>
    obtain⟨v,g,n⟩:=h2;have a:=E6 (o:=o) ok d (.inl rfl);exact⟨v,g,by rw[show Zc W (ρ.set k (.own x')) σ=Zc W ρ σ from D .cl];exact n.keep a.1 a.2⟩
   |fr y =>
    obtain⟨v,g,n⟩:=h2;have a:=E6 (o:=o) ok d (.inr rfl);exact⟨v,g,by rw[show Zf W (ρ.set k (.own x')) σ=Zf W ρ σ from D .fr];exact n.keep a.1 a.2⟩
   |own y =>
    obtain⟨r,g,n,e3,e4,e5,C⟩:=h2;have a:=E6 (o:=o) ok d (f:=.fr) (.inr rfl);have c:r≠p:=λz=>by
     subst z;exact hi (ok.uniq k i x y B e (by rw[G,h1,g]))
    refine⟨r,g,n,e3,e4,e5,?_⟩;rw[show Zf W (ρ.set k (.own x')) σ=Zf W ρ σ from D .fr];cases y with
    |lst xs=>obtain⟨vs,l,h⟩:=C;exact⟨vs,by rw[AK c];exact l,h.keep a.1 a.2⟩
    |dT ks xs=>obtain⟨vs,l,w,h⟩:=C;exact⟨vs,by rw[AK c];exact l,w,h.keep a.1 a.2⟩
    |fT ks xs=>obtain⟨vs,l,w,h⟩:=C;exact⟨vs,l.map λ_ e=>by rw[AK c];exact e,w,h.keep a.1 a.2⟩
    |dK ks xs=>obtain⟨vs,l,w,h⟩:=C;exact⟨vs,by rw[AK c];exact l,w,h.keep a.1 a.2⟩
    |_=>exact C.elim
 ·obtain⟨y',g⟩:=get i y h1;obtain⟨Y,n⟩:=get j z h2;exact ok.uniq i j y' Y g n L
theorem Ok.ownL(ok:Ok W ρ σ H)(a:ρ[k]?=some (.own (.lst xs))):∃p vs,σ[k]?=some (some (.ref p))/\H p=some (.lst vs)/\AB W.b (Zf W ρ σ) H xs vs/\Ae ρ σ p:=by
 obtain⟨o,h1,p,h2,_,_,_,_,vs,d,c⟩:=ok.slot k _ a;subst h2;exact⟨p,vs,h1,d,c,k,_,a,h1⟩
theorem Ok.mutL{vs us:dG}(ok:Ok W ρ σ H)(d:ρ[k]?=some (.own (.lst xs)))(c:σ[k]?=some (some (.ref p)))(e:AB W.b (Zf W ρ σ) H ys us):Ok W (ρ.set k (.own (.lst ys))) σ (AD H p (.lst us)):=by
 have a:=E6 (o:=HO.lst us) ok ⟨k,_,d,c⟩ (f:=.fr) (.inr rfl);exact ok.mut d c (λ_ z=>nomatch z) ⟨us,Aa,e.keep a.1 a.2⟩
end
def JB(k:Nat)(pe:pE):pS:=λE ρ=>match ρ[k]? with
 |some (.own (.lst xs))=>pe ρ λy f=>A8 y f=.nw/\xs.length<16777216/\E.nx (ρ.set k (.own (.lst (xs++[y]))))
 |_=>False
def JC(g:Int->Int->Int)(k:Nat)(pi pe:pE):pS:=λE ρ=>match ρ[k]? with
 |some (.own (.lst xs))=>pi ρ λi _=>∃n j o,i=.int n/\Cp xs.length n=some j/\xs[j]?=some (.int o)/\pe ρ λy _=>∃d,y=.int d/\E.nx (ρ.set k (.own (.lst (xs.set j (.int (g o d))))))
 |_=>False
def frzS(k:Nat)(ρ:dI):dI:=match ρ[k]? with
 |some (.own x)=>ρ.set k (.fr x)
 |_=>ρ
def QL(k:Nat)(p:pS):pS:=λE ρ=>p E (frzS k ρ)
theorem LS(ok:Ok W ρ σ H)(r:RF W ρ σ Hs f H y v)(h:A8 y f=.nw):Rp W.b (Zf W ρ σ) H y v:=by
 have:=(K2 ok r).2.2;rw[h]at this;exact this
section
variable{ι:Type}{Xs:ι->Cx}{a b:Expr}{pa pb:pE}{p1:Pos}{k:Nat}{t u:TE}
theorem Ok.stepL{k:Nat}(ok:Ok W ρ σ H)(st:Step W.b W.a H H')(g:σ[k]?=some (some (.ref p)))(e:H p=some (.lst vs))(c:AB W.b (Zf W ρ σ) H xs vs)(d:Ae ρ σ p):H' p=some (.lst vs)/\AB W.b (Zf W ρ σ) H' xs vs :=
 ⟨st.same p _ (ok.ow (.inr d)).2.2.1 e,c.step (f:=.fr) st ok.bag⟩
theorem Xb(h2:BH t pa):EQ (ID (Gi Kf "list" IS (CH k) (CC t CB))) (JB k pa):=λW ρ σ H D E ok c r=>by
 unfold JB at c;split at c
 ·rename_i xs e;obtain⟨p,vs,d,l,j,o⟩:=ok.ownL e;refine⟨.ref p,d,.inl ⟨rfl,vs,.of l⟩,h2 W ρ σ H _ _ ok c λy f v H1 ⟨k1,k2,k3⟩ i n=>?_⟩;have a:=ok.step i;obtain⟨h,g⟩:=ok.stepL i d l j o;refine⟨p,vs,v,rfl,rfl,h,by rw[<-j.length];exact k2,r.nx _ _ _ k3 (a.mutL (vs:=vs) e d (g.snoc (LS a n k1)))⟩
 ·exact c.elim
theorem JD(o:∀i,(Xs i).K=Kf)(l:QE Xs a pa)(n:∀i,(Xs i).N[k]?=some x:=by intro _;rfl)(e:∀i,C2 (Xs i).env.scope x:=by intro _;trivial)(h:(x==("__debug__":Str))=false:=by decide)(d:(x==("__classdict__":Str))=false:=by decide)
  (g:(qM.endLine==qL.line)=true:=by rfl) (f:∀i,swapsWith (.Call (.Attribute (.Name x p1) "append" qM) [a] [] qL) none pos.line (Xs i).env=pure false:=by intro _;rfl)
  (j:∀i,attributeBase (.Name x p1) "append" (Xs i).env (eval (.Name x p1) (Xs i).env)=eval (.Name x p1) (Xs i).env:=by intro _;rfl)
  (c:∀i,starEach [a] (Xs i).env=[(false,eval a (Xs i).env)]:=by intro _;rfl):QS Xs (.Expr (.Call (.Attribute (.Name x p1) "append" qM) [a] [] qL) pos) (JB k pa):=by
 obtain⟨t,h1,h2⟩:=l;refine⟨_,λi=>?_,Xb (Kf:=Kf) h2⟩;rw[<-o i];exact IE (Gj PySem.F.plainAttrs_list PySem.F.slot_list_append PySem.F.type_list_append Gk (Du (n i) (e i) h d) (Av (h1 i) BE (c i)) (j i) (by rw[c i];rfl) g (c i) rfl) (f i)
theorem Ok.frzS(D:∀p,¬W.O p)(ok:Ok W ρ σ H):Ok W (frzS k ρ) σ H:=by
 unfold L2.frzS;split
 ·rename_i x e;obtain⟨o,h1,p,h2,G,J,E,I,g⟩:=ok.slot k _ e;subst h2;have w:k<ρ.length:=by
   rcases cE k ρ.length with q|q
   ·exact q
   ·rw[bQ q]at e;cases e
  have A:k<σ.length:=by rw[ok.len];exact w
  have h:σ.set k (some (.ref p))=σ:=by
   apply ext_getElem?;intro i;by_cases hi:k=i
   ·subst hi;rw[bY A,h1]
   ·rw[bV hi]
  have hn:=Fd (ρ:=ρ) (σ:=σ) (k:=k) (v:=.ref p) (s:=.fr x) (λ_ z=>nomatch z);have key:=ok.put (v:=.ref p) (s:=.fr x) (Step.refl ok.bag) w (λq z=>.inl (hn q z)) ?_ (λy z=>nomatch z)
  ·rw[h]at key;exact key
  ·refine⟨.ref p,rfl,?_⟩;rw[h]at hn ⊢;have n:∀q o,¬Zf W ρ σ q->H q=some o->¬Zf W (ρ.set k (.fr x)) σ q/\H q=some o:=K8 (f:=.fr) (Step.refl ok.bag) (λq z=>.inl (hn q z));have l:¬Zf W (ρ.set k (.fr x)) σ p:=by
    intro z;simp only[AC]at z;rcases z with z|(z|z)|z
    ·exact E z
    ·-- u r: B same cell
     exact D p z
    ·obtain⟨i,y,j,C⟩:=z;by_cases hi:k=i
     ·subst hi;rw[bY w]at j;cases j
     ·rw[bV hi]at j;exact hi (ok.uniq k i x y e j (by rw[h1,C]))
    ·exact z G
   cases x with
   |lst xs=>obtain⟨vs,c,a⟩:=g;exact⟨p,vs,rfl,l,c,a.keep n λq us e=>e⟩
   |dT ks xs=>obtain⟨vs,c,d,a⟩:=g;exact⟨p,vs,rfl,l,c,d,a.keep n λq us e=>e⟩
   |fT ks xs=>obtain⟨vs,c,d,a⟩:=g;exact⟨p,vs,rfl,l,c,d,a.keep n λq us e=>e⟩
   |dK ks xs=>obtain⟨vs,c,d,a⟩:=g;exact⟨p,vs,rfl,l,c,d,a.keep n λq us e=>e⟩
   |_=>exact g.elim
 ·exact ok
theorem Ft{st:Stmt}{p:pS}(k:Nat)(h:QS Xs st p):QS Xs st (QL k p):=by
 obtain⟨t,h1,h2⟩:=h;exact⟨t,h1,λW ρ σ H D E ok a r=>h2 W _ σ H D E (ok.frzS r.noO) a r⟩
theorem Xc{g:Int->Int->Int}(h1:BH t pa)(h2:BH u pb):EQ (Nd (CH k) t u Ks (GU g) OL) (JC g k pa pb):=λW ρ σ H D E ok l r=>by
 unfold JC at l;split at l
 ·rename_i xs e;obtain⟨p,vs,j,G,i,C⟩:=ok.ownL e;refine⟨.ref p,j,h1 W ρ σ H _ _ ok l λY fi U H1 ⟨n,B,o,k0,k1,k2,k3⟩ q L=>?_⟩;have h:=ok.step q;obtain⟨A,O⟩:=ok.stepL q j G i C;subst k0;cases Bw h L;obtain⟨I,T,Q⟩:=i.get k2;cases(show I=.int o from Q);have w:atI vs n=some (.int o):=by
   unfold atI;rw[<-i.length,k1];exact T
  refine⟨p,n,vs,rfl,rfl,A,.int o,w,h2 W ρ σ H1 _ _ h k3 λy f v H2 ⟨d,N,k5⟩ J M=>?_⟩;subst N;have a:=q.trans J;have c:=ok.step a;cases Bw c M;obtain⟨z,s⟩:=ok.stepL a j G i C;exact⟨o,d,rfl,rfl,p,vs,n,B,rfl,rfl,z,by rw[<-i.length];exact k1,r.nx _ _ _ k5 (c.mutL (vs:=vs) e j (s.set (x:=.int (g o d)) rfl B))⟩
 ·exact l.elim
theorem QM{p3:Pos}{op:Operator}{g:Int->Int->Int}(f:∀i,FR (Xs i) op (GU g))(o:QE Xs a pa)(j:QE Xs b pb)(p:∀i,(Xs i).N[k]?=some x:=by intro _;rfl)(l:∀i,C2 (Xs i).env.scope x:=by intro _;trivial)(n:(x==("__debug__":Str))=false:=by decide)(h:(x==("__classdict__":Str))=false:=by decide)
  (e:∀c d new,augStore a c d new=(do holding [new,c,d] (setItem c d new);release [new,c,d] [];pure .next):=by intros;rfl):QS Xs (.AugAssign (.Subscript (.Name x p1) a p3) op b pos) (JC g k pa pb):=by
 obtain⟨t,v,s⟩:=o;obtain⟨u,r,q⟩:=j;exact⟨_,λi=>Ng (Du (p i) (l i) n h) (v i) Os (r i) (f i) IP e,Xc s q⟩
def LU(g:Int->Int->Int)(k:Nat)(pe:pE):pS:=λE ρ=>match ρ[k]? with
 |some (.sh (.int o))=>pe ρ λy _=>∃d,y=.int d/\E.nx (ρ.set k (.sh (.int (g o d))))
 |_=>False
theorem QN{op:Operator}{g:Int->Int->Int}{p3:Pos}(j:∀i,FR (Xs i) op (GU g))(l:∀i,(Xs i).N.Nodup)(z:QE Xs a pa)(hi:∀i,(Xs i).N[k]?=some x:=by intro _;rfl)(s:∀i,CA (Xs i).env.scope x:=by intro _;trivial)
  (u:∀i,(Xs i).fn x=true\/(Xs i).env.scope.names.lookup x=some .local:=by intro _;trivial):QS Xs (.AugAssign (.Name x p3) op a pos) (LU g k pa):=by
 obtain⟨t,h1,h2⟩:=z;refine⟨_,λi=>Ud (l i) (hi i) (s i) (h1 i) (j i) (u i),λW ρ σ H D E ok c r=>?_⟩;unfold LU at c;split at c
 ·rename_i o e;obtain⟨w,G,p,C,B⟩:=ok.slot k _ e;subst C;cases(show p=.int o from B);refine⟨.int o,G,h2 W ρ σ H _ _ ok c λy f v H1 ⟨d,k1,k2⟩ n q=>?_⟩;subst k1;cases Bw (ok.step n) q;obtain⟨ρ',A,h⟩:=Ok.set (K:=λρ'=>ρ'=ρ.set k (.sh (.int (g o d)))) (k:=k) ok n (EO (k:=g o d)) (by simp[BQ]);subst A;exact⟨o,d,rfl,rfl,r.nx _ _ _ k2 h⟩
 ·exact c.elim
end
end L2
namespace L2
open PySem PySem.Spec PyProof.Rows PySem.W
theorem Inv.laidF{D:Addr}{m:Str->Ex}(I:Inv X qA σ H s)(hm:s.heap.Ns X.env.locals m)(a:h'.Ns X.env.locals m)(k:∀b u,b≠X.env.locals->s.heap.get? b=some u->h'.get? b=some u)(d:H D=none)(h:∀u,s.heap.get? D≠some u)
  (new:A4 X.prog X.w (AD H D o) h' D o):Inv X qA σ (AD H D o) { s with heap:=h',toks:=t' }:=by
 refine I.step (g':=s.gens) (d':=s.drawn) (ch:=[]) (λb hb=>nomatch hb) (λb u f _ _ e _=>k b u f e) (λb u f _ _ e _=>⟨u.slots,k b u f e⟩) (λb u _ e n=>?_) (λb u _ e=>?_) (λb xs e=>?_) (λb u v e=>?_) (λb ps e=>⟨#[],?_⟩) (λl h2=>?_) ?_ I.bare
 ·rw[AK (λz=>by subst z;exact h u e)];exact n
 ·by_cases hb:b=X.env.locals
  ·subst hb;obtain⟨o',_,_,j,_⟩:=a;exact⟨o',j⟩
  ·exact⟨u,k b u hb e⟩
 ·rw[AK (A2 e d)];exact e
 ·rw[AK (A2 e d)];exact e
 ·rw[AK (A2 e d)];simpa using e
 ·rw[h2.eq_nsMap,<-hm.eq_nsMap];exact a
 ·intro b u e;by_cases hb:b=D
  ·subst hb;rw[Aa]at e;cases e;exact new
  ·rw[AK hb]at e;have g:∀c v,H c=some v->c≠X.env.locals:=λc v q z=>by subst z;rw[I.free]at q;cases q
   refine(I.hok b u e).stay (λc v i q=>k c v ?_ q) (λc q=>?_) λc xs q=>?_
   ·rcases i with z|z
    ·rw[z];exact g b u e
    ·exact g c _ z
   ·rw[AK (A2 q d)];exact q
   ·rw[AK (A2 q d)];exact q
theorem QP{F:PySem.Fin->Shared->Prop}(f:s.heap.get? a=some (seqObj "list" us.toArray n))(h2:us.length<2)(h:F (.done (.ret .none)) { s with heap:=sortedHeap s.heap a us us.toArray }) :
  wpAny (model prog w) A (Builtin.«list.sort» ⟨[.ref a],[]⟩) F E s:=by
 have i:=bN f;rw[list_sort_plain];refine wB (listItems_at f rfl (wB (listUpdate_at f rfl ?_)));have d:=get?_update_seq f (λ_=>#[]);refine wB (seqEpoch_at d rfl (wB (wpAny_newTuple (wB (wpAny_newList (bM ?_))))));have c:(((s.heap.update a (Obj.mapSeq λ_=>#[])).push (seqObj "tuple" us.toArray 0)).push (seqObj "list" #[] 0)).get? a=_ :=
  (Heap.get?_push_ne _ a _ (by rw[size_push',Heap.size_update];exact bX (Nat.lt_succ_of_lt i))).trans ((Heap.get?_push_ne _ a _ (by rw[Heap.size_update];exact bX i)).trans d)
 have g:us.toArray.size<2:=by rw[size_toArray];exact h2
 dsimp only;rw[aC g,aC g];refine wB (wP ?_);rw[StateT.run_pure];refine wB (wP (wB (seqEpoch_at c rfl (wB (listUpdate_at c rfl ?_ (hsz2:=?_))))))
 ·simp only[bne_self_eq_false,Bool.false_eq_true,if_false];have e:(arrOf (SortSt.mk' general' (us.toArray.zip us.toArray) #[] 7 none)).map (·.2)=us.toArray:=by
   show((us.toArray.zip us.toArray).map (·.2))=us.toArray;apply Array.ext';simp[map_snd_zip]
  rw[<-e]at h;exact wP h
 ·rw[Array.size_map];show(us.toArray.zip us.toArray).size<=_;rw[Array.size_zip,cT];lia
theorem QR{l:Addr}(d:s.heap.IsList l us.toArray)(h2:us.length<2)(q:Q (.ref (s.heap.objs.size+1)) { s with heap:=sortedAll s.heap us us.toArray }) :
  wpAny (model prog w) A (call (.builtin "sorted") [.ref l]) Q E s:=by
 refine Calls.call_function_entry kind_sorted plain_sorted entry_sorted (args_sorted1 _) ?_;unfold Builtin.«sorted»;refine wB (m:=checkCount "sorted" 1 1 _) (wP (wB (collect_list d (wB (wpAny_newList ?_ (by rw[cT];lia))) (by rw[cT];lia))));have c:((s.heap.push (seqObj "list" #[] 0)).update s.heap.objs.size (Obj.mapSeq (·++us.toArray))).objs.size=s.heap.objs.size+1:=by
  rw[Heap.size_update,size_push']
 have a:=bP ((s.heap.push (seqObj "list" #[] 0)).update s.heap.objs.size (Obj.mapSeq (·++us.toArray))) (o:=seqObj "list" us.toArray 0) rfl;rw[c]at a;show wpAny _ _ _ _ _ { s with heap:=((s.heap.push (seqObj "list" #[] 0)).update s.heap.objs.size (Obj.mapSeq (·++us.toArray))).push (seqObj "list" us.toArray 0) };rw[c];exact wB (bM (cP slot_list_sort ⟨_,a,rfl⟩ entry_list_sort (QP a h2 ⟨_,rfl,wP ⟨_,rfl,q⟩⟩) (args_list_sort _)))
abbrev CF(ps:List (Addr×By)):dG:=ps.map λq=>V.ref q.1
def BR(rs:List By):Prop:=rs.Pairwise λa b=>HT.lexLt b a=false
theorem LV:∀{ps:List (Addr×By)} {us:Do},AQ (CF ps) us->us=ps.map λq=>Value.ref q.1
 |[],_,.nil=>rfl
 |q::r,_,.cons e t=>by rw[LV t,show _=Value.ref q.1 from e];rfl
theorem JE:∀(ps:List (Addr×By)),AQ (CF ps) (ps.map λq=>Value.ref q.1)
 |[]=>.nil
 |q::r=>.cons rfl (JE r)
theorem Xd(M:Model)(h:Heap)(i:Int)(t:Tok):Looks M h (typeOf (.int i t)) (.type "int"):=λA Q E s _ q=>wP q
theorem A4.there(x:A4 P' w H h a o):∃u,h.get? a=some u:=by
 cases o with
 |lst xs=>obtain⟨_,_,_,_,e⟩:=x;exact⟨_,e⟩
 |tup xs=>obtain⟨_,_,_,u,e,_⟩:=x;exact⟨u,e⟩
 |dK qI=>obtain⟨_,_,_,_,u,_,_,e,_⟩:=x;exact⟨u,e⟩
 |dT qI=>obtain⟨_,_,_,_,u,_,_,e,_⟩:=x;exact⟨u,e⟩
 |set S n=>obtain⟨u,_,_,_,e,_⟩:=x;exact⟨u,e⟩
 |ins C dx fs=>obtain⟨_,_,_,e,_⟩:=x;exact⟨_,e⟩
 |own y=>exact x
 |xd fs=>obtain⟨_,⟨u,_,_,e,_⟩,_⟩:=x;exact⟨u,e⟩
 |met f y=>exact⟨_,x⟩
 |rng lo hi=>obtain⟨_,_,_,e⟩:=x;exact⟨_,e⟩
 |frz u v=>exact⟨_,x.1⟩
 |tbl ps=>exact⟨_,x⟩
 |ext φ=>exact x.2.1
theorem QU{h:Heap}:∀{ps:List (Addr×By)},(∀q∈ps,∃us,IntsAre us q.2/\∃o n,h.get? q.1=some o/\o.cls=.type "tuple"/\o.data=.seq us.toArray n)->(∀q∈ps,0<q.2.length) ->
  ∃fs,KatTups h (ps.map λq=>Value.ref q.1) fs/\fs.length=ps.length/\∀v∈fs,∃i t,v=Value.int i t
 |[],_,_=>⟨[],.nil,rfl,λv f=>nomatch f⟩
 |q::r,h1,h2=>by
  obtain⟨fs,a,b,c⟩:=QU (ps:=r) (λq e=>h1 q (bT _ e)) λq e=>h2 q (bT _ e);obtain⟨us,i1,o,n,p,l,d⟩:=h1 q cA;have j:=h2 q cA;generalize q.2=s at i1 j;have g:=i1.length
  match us,i1,d with
  |v::us,i1,d =>
   obtain⟨i,t,ev⟩:∃i t,v=Value.int i t:=by cases i1 with|cons i t _=>exact⟨i,t,rfl⟩
   refine⟨v::fs,.cons p l d (by simp) a,by simp[b],λx hx=>?_⟩;rcases aF.mp hx with rfl|hx
   ·exact⟨i,t,ev⟩
   ·exact c x hx
  |[],i1,d=>exfalso;simp at g;lia
end L2
namespace L2
open PySem PySem.Spec PyProof.Rows
section
variable{κ κ':Type}[DecidableEq κ][DecidableEq κ']
def Bm:List κ->dH->κ->Option P
 |k0::ks,v::vs,k=>if k0=k then some v else Bm ks vs k
 |_,_,_=>none
def A0(ks:List κ)(k:κ):List κ:=if k∈ks then ks else ks++[k]
def EW(ks:List κ)(vs:dH)(k:κ)(x:P):dH:=if k∈ks then zipWith (λk0 v=>if k0=k then x else v) ks vs else vs++[x]
theorem Fu{b:Addr}{Z:Addr->Prop}{H:Hp}{g:κ->κ'}(d:∀a c,g a=g c->a=c):∀{ks:List κ} {xs:dH} {vs:dG} {k:κ},AB b Z H xs vs->ks.length=xs.length ->
  (∀z,Bm ks xs k=some z->∃v,BK ((ks.map g).zip vs) (g k)=some v/\Rp b Z H z v)/\(Bm ks xs k=none->BK ((ks.map g).zip vs) (g k)=none)
 |[],[],vs,k,_,_=>⟨(λz h=>(nomatch h)),dE⟩
 |k0::ks,x::xs,vs,k,r,n=>by
  obtain⟨v,t,rfl,i,f⟩:=r;have l:=Fu (k:=k) d f (by simpa using n);simp only[Bm,map_cons,zip_cons_cons];by_cases e:k0=k
  ·subst e;rw[aC rfl,Gm rfl];exact⟨(λz h=>⟨v,rfl,by cases h;exact i⟩),(λh=>(nomatch h))⟩
  ·rw[aB e];have j:¬g k0=g k:=λz=>e (d _ _ z);have:BK ((g k0,v)::(ks.map g).zip t) (g k)=BK ((ks.map g).zip t) (g k):=by unfold BK;rw[find?_cons];simp[j]
   rw[this];exact l
theorem QV{g:κ->κ'}(f:∀a c,g a=g c->a=c){k:κ}{v:V}:∀(ks:List κ) (vs:dG),((ks.map g).zip vs).map (λd=>if d.1=g k then(d.1,v)else d)=(ks.map g).zip (zipWith (λk0 u=>if k0=k then v else u) ks vs)
 |[],_=>by simp
 |_::_,[]=>by simp
 |k0::ks,u::vs=>by
  simp only[map_cons,zip_cons_cons,zipWith_cons_cons,QV f ks vs];by_cases e:k0=k
  ·subst e;simp
  ·have h:¬g k0=g k:=λz=>e (f _ _ z);simp[e,h]
theorem LW{g:κ->κ'}(d:∀a c,g a=g c->a=c){k:κ}:∀{ks:List κ} {vs:dG},ks.length=vs.length->((((ks.map g).zip vs).any λe=>decide (e.1=g k))=true↔k∈ks)
 |[],_,_=>by simp
 |k0::ks,[],h=>by simp at h
 |k0::ks,u::vs,h=>by
  simp only[map_cons,zip_cons_cons,any_cons,Bool.or_eq_true,aW,LW (k:=k) d (show ks.length=vs.length by simpa using h),aF];constructor
  ·rintro(z|z)
   ·exact .inl (d _ _ z).symm
   ·exact .inr z
  ·rintro(z|z)
   ·exact .inl (by rw[z])
   ·exact .inr z
theorem QX{g:κ->κ'}(f:∀a c,g a=g c->a=c){ks:List κ}{k:κ}(e:ks.length=vs.length):BV ((ks.map g).zip vs) (g k) v=((A0 ks k).map g).zip (if k∈ks then zipWith (λk0 u=>if k0=k then v else u) ks vs else vs++[v]):=by
 unfold BV A0;by_cases d:k∈ks
 ·rw[aC ((LW f e).mpr d),aC d,aC d,QV f]
 ·rw[aB (λz=>d ((LW f e).mp z)),aB d,aB d,cN,zip_append (by simpa using e)];rfl
theorem QY{b:Addr}{Z:Addr->Prop}{H:Hp}{x:P}{v:V}(a:Rp b Z H x v){k:κ}:∀{ks:List κ} {xs:dH} {vs:dG},AB b Z H xs vs->ks.length=xs.length ->
  AB b Z H (zipWith (λk0 y=>if k0=k then x else y) ks xs) (zipWith (λk0 u=>if k0=k then v else u) ks vs)
 |[],[],vs,r,_=>by simp[AB]
 |k0::ks,y::xs,vs,r,f=>by
  obtain⟨u,t,rfl,d,c⟩:=r;refine⟨_,_,rfl,?_,QY a c (by simpa using f)⟩;by_cases e:k0=k
  ·dsimp only;rw[aC e,aC e];exact a
  ·dsimp only;rw[aB e,aB e];exact d
theorem QZ{b:Addr}{g:κ->κ'}(f:∀a c,g a=g c->a=c){ks:List κ}{k:κ}{x:P}(r:AB b Z H xs vs)(e:ks.length=xs.length)(d:Rp b Z H x v) :
  ∃vs',BV ((ks.map g).zip vs) (g k) v=((A0 ks k).map g).zip vs'/\AB b Z H (EW ks xs k x) vs':=by
 refine⟨_,QX f (e.trans r.length),?_⟩;unfold EW;split
 ·exact QY d r e
 ·exact r.snoc d
theorem Qa{ks:List κ}{k:κ}{x:P}(a:ks.length=xs.length):(A0 ks k).length=(EW ks xs k x).length:=by
 unfold A0 EW;split
 ·rw[length_zipWith];lia
 ·simp[a]
end
theorem EY(a c:By)(h:AY a=AY c):a=c:=by rw[<-K6 a,h,K6]
theorem LX(a c:Str)(h:Dz a=Dz c):a=c:=Sum.inr.inj h
def Ce:P->Option By
 |.tup xs=>xs.mapM λx=>match x with|.int i=>some i|_=>none
 |_=>none
@[simp] theorem EZ(r:By):Ce (.tup (r.map P.int))=some r:=by
 simp only[Ce]
 induction r with
 |nil=>rfl
 |cons x r a=>rw[map_cons,mapM_cons,a];rfl
theorem Qb{x:P}(h:Ce x=some r):x=.tup (r.map P.int):=by
 cases x with
 |tup xs =>
  simp only[Ce]at h
  congr 1
  induction xs generalizing r with
  |nil=>cases h;rfl
  |cons y xs a =>
   rw[mapM_cons]at h;cases y with
   |int i =>
    cases e:(xs.mapM λx=>match x with|.int i=>some i|_=>none)with
    |none=>rw[e]at h;cases h
    |some c=>rw[e]at h;cases h;rw[a e];rfl
   |_=>cases h
 |_=>cases h
def Qc(pd pk:pE):pE:=λρ K=>pd ρ λx f=>pk ρ λy _=>match x with
 |.dT ks vs=>∃r z,Ce y=some r/\Bm ks vs r=some z/\K z f.el
 |.dK ks vs=>match y with|.str k=>∃z,Bm ks vs k=some z/\K z f.el|_=>False
 |.fT ks vs=>∃r z,Ce y=some r/\Bm ks vs r=some z/\K z f.el
 |_=>False
def Qd(pd pk px:pE):pE:=λρ K=>pd ρ λx f=>(x.mut=true/\∀xs,x≠.lst xs)/\pk ρ λy _=>px ρ λz _=>match x with
 |.dT ks vs=>∃r,Ce y=some r/\P.imms vs=true/\z.imm=true/\K ((Bm ks vs r).getD z) .fr
 |.dK ks vs=>match y with|.str k=>P.imms vs=true/\z.imm=true/\K ((Bm ks vs k).getD z) .fr|_=>False
 |_=>False
theorem HN(ok:Ok W ρ σ H)(r:RF W ρ σ Hs f H (.dT ks xs) v):∃p vs,v=.ref p/\p≠W.b/\H p=some (.dT ((ks.map AY).zip vs))/\ks.length=xs.length/\AB W.b (AC W ρ σ f) H xs vs:=by
 cases f with
 |bo=>obtain⟨p,e,o,us,h1,h2,a⟩:=r;exact⟨p,us,e,(ok.ow (.inr o)).2.2.1,h1,h2,a⟩
 |nw=>obtain⟨p,us,e,z,h1,h2,a⟩:=r.1;exact⟨p,us,e,λq=>z (q▸AC.b),h1,h2,a⟩
 |fr=>obtain⟨p,us,e,z,h1,h2,a⟩:=r;exact⟨p,us,e,λq=>z (q▸AC.b (f:=.fr)),h1,h2,a⟩
 |cl=>obtain⟨p,us,e,z,h1,h2,a⟩:=r;exact⟨p,us,e,λq=>z (q▸AC.b (f:=.cl)),h1,h2,a⟩
 |rf=>obtain⟨p,us,e,z,h1,h2,a⟩:=r;exact⟨p,us,e,λq=>z (q▸AC.b (f:=.rf)),h1,h2,a⟩
 |an=>obtain⟨p,us,e,z,h1,h2,a⟩:=r;exact⟨p,us,e,λq=>z (q▸AC.b (f:=.an)),h1,h2,a⟩
theorem LY{ks:At}(ok:Ok W ρ σ H)(r:RF W ρ σ Hs f H (.dK ks xs) v):∃p vs,v=.ref p/\p≠W.b/\H p=some (.dK ((ks.map Dz).zip vs))/\ks.length=xs.length/\AB W.b (AC W ρ σ f) H xs vs:=by
 cases f with
 |bo=>obtain⟨p,e,o,us,h1,h2,a⟩:=r;exact⟨p,us,e,(ok.ow (.inr o)).2.2.1,h1,h2,a⟩
 |nw=>obtain⟨p,us,e,z,h1,h2,a⟩:=r.1;exact⟨p,us,e,λq=>z (q▸AC.b),h1,h2,a⟩
 |fr=>obtain⟨p,us,e,z,h1,h2,a⟩:=r;exact⟨p,us,e,λq=>z (q▸AC.b (f:=.fr)),h1,h2,a⟩
 |cl=>obtain⟨p,us,e,z,h1,h2,a⟩:=r;exact⟨p,us,e,λq=>z (q▸AC.b (f:=.cl)),h1,h2,a⟩
 |rf=>obtain⟨p,us,e,z,h1,h2,a⟩:=r;exact⟨p,us,e,λq=>z (q▸AC.b (f:=.rf)),h1,h2,a⟩
 |an=>obtain⟨p,us,e,z,h1,h2,a⟩:=r;exact⟨p,us,e,λq=>z (q▸AC.b (f:=.an)),h1,h2,a⟩
theorem LZ(ok:Ok W ρ σ H)(r:RF W ρ σ Hs f H (.fT ks xs) v):∃p vs,v=.ref p/\p≠W.b/\Fz H p ((ks.map AY).zip vs)/\ks.length=xs.length/\AB W.b (AC W ρ σ f) H xs vs:=by
 cases f with
 |bo=>obtain⟨p,e,o,us,h1,h2,a⟩:=r;exact⟨p,us,e,(ok.ow (.inr o)).2.2.1,h1,h2,a⟩
 |nw=>obtain⟨p,us,e,z,h1,h2,a⟩:=r.1;exact⟨p,us,e,λq=>z (q▸AC.b),h1,h2,a⟩
 |fr=>obtain⟨p,us,e,z,h1,h2,a⟩:=r;exact⟨p,us,e,λq=>z (q▸AC.b (f:=.fr)),h1,h2,a⟩
 |cl=>obtain⟨p,us,e,z,h1,h2,a⟩:=r;exact⟨p,us,e,λq=>z (q▸AC.b (f:=.cl)),h1,h2,a⟩
 |rf=>obtain⟨p,us,e,z,h1,h2,a⟩:=r;exact⟨p,us,e,λq=>z (q▸AC.b (f:=.rf)),h1,h2,a⟩
 |an=>obtain⟨p,us,e,z,h1,h2,a⟩:=r;exact⟨p,us,e,λq=>z (q▸AC.b (f:=.an)),h1,h2,a⟩
theorem HP{x:P}(ok:Ok W ρ σ H)(g:Ce x=some r)(a:RF W ρ σ Hs f H x v):∃q,v=.ref q/\H q=some (.tup ((AY r).map kV)):=by
 rw[Qb g]at a;obtain⟨q,us,e,c,d⟩:=Dh ok a;rw[AB.ints.mp d]at c;exact⟨q,e,by rw[c];simp[AY,bZ,Function.comp_def,kV]⟩
section
variable{ι:Type}{Xs:ι->Cx}{o i e:Expr}{pd pk px:pE}
theorem Fv(N:∀j,(Xs j).A.units+1<cLine)(T:QE Xs o pd)(hi:QE Xs i pk)(O:Km i):QE Xs (.Subscript o i pos) (Qc pd pk):=by
 obtain⟨td,d1,Y⟩:=T;obtain⟨tk,k1,k2⟩:=hi;refine⟨_,λj=>Vg (N j) (d1 j) (k1 j) O,λW ρ σ H Q K ok U q=>Y W ρ σ H _ _ ok U λx f v H1 h1 D L=>k2 W ρ σ H1 _ _ (ok.step D) h1 λy g u H2 h2 J E=>?_⟩;have c:=D.trans J;have a:=ok.step c;have d:=L.step (ok.step D) J;split at h2
 ·obtain⟨r,z,G,h,e⟩:=h2;obtain⟨p,us,rfl,_,s,n,l⟩:=HN a d;obtain⟨M,rfl,I⟩:=HP a G E;obtain⟨w,C,B⟩:=(Fu EY (k:=r) l n).1 z h;exact⟨p,w,rfl,by rw[<-C];exact Cq.t s I,q z _ w H2 e c (RF.ofEl B)⟩
 ·split at h2
  ·obtain⟨z,h,e⟩:=h2;rename_i ks vs _ k;obtain⟨p,us,rfl,_,s,n,l⟩:=LY a d;cases E1 a E;obtain⟨w,C,B⟩:=(Fu LX (k:=k) l n).1 z h;exact⟨p,w,rfl,by rw[<-C];exact Cq.k (k:=Sum.inr k) s,q z _ w H2 e c (RF.ofEl B)⟩
  ·exact h2.elim
 ·obtain⟨r,z,G,h,e⟩:=h2;obtain⟨p,us,rfl,_,⟨o,s⟩,n,l⟩:=LZ a d;obtain⟨M,rfl,I⟩:=HP a G E;obtain⟨w,C,B⟩:=(Fu EY (k:=r) l n).1 z h;exact⟨p,w,rfl,by rw[<-C];exact .inr ⟨_,_,_,.inr ⟨o,s⟩,rfl,I,rfl⟩,q z _ w H2 e c (RF.ofEl B)⟩
 ·exact h2.elim
theorem Qe{κ κ':Type}[DecidableEq κ][DecidableEq κ']{b:Addr}{g:κ->κ'}(i:∀a c,g a=g c->a=c){ks:List κ}{k:κ}{z:P}{u:V}(r:AB b Z H xs vs)(f:ks.length=xs.length)(hi:P.imms xs=true)(hz:z.imm=true)(j:Rp b Z H z u) :
  Rp b Z H ((Bm ks xs k).getD z) ((BK ((ks.map g).zip vs) (g k)).getD u)/\((Bm ks xs k).getD z).imm=true:=by
 cases e:Bm ks xs k with
 |none=>rw[(Fu i (k:=k) r f).2 e];exact⟨j,hz⟩
 |some w =>
  obtain⟨v,o,n⟩:=(Fu i (k:=k) r f).1 w e;rw[o];refine⟨n,?_⟩;have:∀{ks:List κ} {xs:dH},P.imms xs=true->Bm ks xs k=some w->w.imm=true:=by
   intro ks
   induction ks with
   |nil=>intro xs _ h;cases h
   |cons k0 ks l =>
    intro xs d h;cases xs with
    |nil=>cases h
    |cons x xs =>
     rw[IX,cB]at d;simp only[Bm]at h;split at h
     ·cases h;exact d.1
     ·exact l d.2 h
  exact this hi e
theorem JF(hu:∀j,(Xs j).A.units+1<cLine)(ho:QE Xs o pd)(hi:QE Xs e pk)(hx:QE Xs c px)
  (m:∀j,M2 (Xs j) o "get" qM e c qL:=by intro _;exact⟨rfl,rfl,rfl,rfl⟩):QE Xs (.Call (.Attribute o "get" qM) [e,c] [] qL) (Qd pd pk px):=by
 obtain⟨td,d1,d2⟩:=ho;obtain⟨tk,k1,k2⟩:=hi;obtain⟨tx,x1,Y⟩:=hx;refine⟨_,λj=>Vm (hu j) (d1 j) (k1 j) (x1 j) (m j),λW ρ σ H Q K ok hk q=>d2 W ρ σ H _ _ ok hk λx f v H1 ⟨⟨M,L⟩,h1⟩ T G=>?_⟩;have a:=ok.step T;obtain⟨p,rfl,hd⟩:∃p,v=.ref p/\IU H1 p:=by
  cases x with
  |dT ks xs=>obtain⟨p,us,e,_,h,_⟩:=HN a G;exact⟨p,e,.inr ⟨_,.of h⟩⟩
  |dK ks xs=>obtain⟨p,us,e,_,h,_⟩:=LY a G;exact⟨p,e,.inl ⟨_,.of h⟩⟩
  |fT ks xs=>obtain⟨p,us,e,_,⟨o,h⟩,_⟩:=LZ a G;exact⟨p,e,.inr ⟨_,.inr ⟨o,h⟩⟩⟩
  |lst xs=>exact bS rfl (L xs)
  |_=>simp[P.mut]at M
 refine⟨p,rfl,hd,k2 W ρ σ H1 _ _ a h1 λy g u H2 h2 E r2=>Y W ρ σ H2 _ _ (a.step E) h2 λz gz uz s n I U=>?_⟩;have i:=(T.trans E).trans I;have d:=ok.step i;have B:=G.step a (E.trans I);have w:=r2.step (a.step E) I;split at n
 ·obtain⟨r,e1,D,C,N⟩:=n;obtain⟨p',us,e,_,h,O,l⟩:=HN d B;cases e;obtain⟨q2,rfl,c4⟩:=HP d e1 w;have l:AB W.b (Zf W ρ σ) s _ us:=l.imm D;have J:Rp W.b (Zf W ρ σ) s z uz:=(U.any d).imm C;exact⟨_,Cq.t h c4,q _ _ _ s N i (Qe EY (k:=r) l O D C J).1⟩
 ·split at n
  ·obtain⟨D,C,N⟩:=n;rename_i ks vs _ k;obtain⟨p',us,e,_,h,O,l⟩:=LY d B;cases e;cases E1 d w;have l:AB W.b (Zf W ρ σ) s _ us:=l.imm D;have J:Rp W.b (Zf W ρ σ) s z uz:=(U.any d).imm C;exact⟨_,Cq.k (k:=Sum.inr k) h,q _ _ _ s N i (Qe LX (k:=k) l O D C J).1⟩
  ·exact n.elim
 ·exact n.elim
def Qf:pE:=λ_ K=>K (.dT [] []) .nw
theorem JG:QE Xs (.Dict [] [] pos) Qf:=⟨_,λ_=>Vj,λW ρ σ H Q K ok c q=>λp a=>q _ _ _ _ c (Step.new ok.bag a) ⟨⟨p,[],rfl,λz=>ok.dom (f:=.fr) z a,Aa,rfl,rfl⟩,λ_=>⟨p,rfl,a⟩⟩⟩
end
def JH(k:Nat)(pk pe:pE):pS:=λE ρ=>match ρ[k]? with
 |some (.own (.dT ks vs))=>pe ρ λy f=>pk ρ λz _=>∃r,Ce z=some r/\A8 y f=.nw/\ks.length<16777216/\E.nx (ρ.set k (.own (.dT (A0 ks r) (EW ks vs r y))))
 |some (.own (.dK ks vs))=>pe ρ λy f=>pk ρ λz _=>∃r,z=.str r/\A8 y f=.nw/\ks.length<16777216/\E.nx (ρ.set k (.own (.dK (A0 ks r) (EW ks vs r y))))
 |_=>False
section
variable{ι:Type}{Xs:ι->Cx}{a b:Expr}{pa pb:pE}{p1:Pos}{k:Nat}{t u:TE}
theorem Xe(h1:BH t pa)(h2:BH u pb):EQ (OV (CH k) t u) (JH k pa pb):=λW ρ σ H D E ok A r=>by
 unfold JH at A;split at A
 ·rename_i ks xs e;obtain⟨w,j,p,N,_,_,J,_,vs,Q,B,O⟩:=ok.slot k _ e;subst N;have I:Ae ρ σ p:=⟨k,_,e,j⟩;refine h2 W ρ σ H _ _ ok A λy f v H1 ky h G=>⟨.ref p,j,h1 W ρ σ H1 _ _ (ok.step h) ky λz U T H2 ⟨g,k0,k1,k2,k3⟩ s C=>?_⟩;have c:=h.trans s;have a:=ok.step c;obtain⟨q,rfl,Y⟩:=HP a k0 C;have n:=c.same p _ J Q;have l:AB W.b (Zf W ρ σ) H2 xs vs:=O.step (f:=.fr) c ok.bag;have i:=LS a (G.step (ok.step h) s) k1;refine⟨p,_,rfl,EI.t n Y (by rw[length_zip,aA];exact Nat.lt_of_le_of_lt (Nat.min_le_left _ _) k2),r.nx _ _ _ k3 ?_⟩;obtain⟨d,M,L⟩:=QZ EY (k:=g) l B i;rw[M];have x:=E6 (o:=HO.dT (((A0 ks g).map AY).zip d)) a I (f:=.fr) (.inr rfl);exact a.mut e j (λ_ z=>nomatch z) ⟨d,Aa,Qa B,L.keep x.1 x.2⟩
 ·rename_i ks xs e;obtain⟨w,j,p,N,_,_,J,_,vs,Q,B,O⟩:=ok.slot k _ e;subst N;have I:Ae ρ σ p:=⟨k,_,e,j⟩;refine h2 W ρ σ H _ _ ok A λy f v H1 ky h G=>⟨.ref p,j,h1 W ρ σ H1 _ _ (ok.step h) ky λz U T H2 ⟨g,k0,k1,k2,k3⟩ s C=>?_⟩;have c:=h.trans s;have a:=ok.step c;subst k0;cases E1 a C;have n:=c.same p _ J Q;have l:AB W.b (Zf W ρ σ) H2 xs vs:=O.step (f:=.fr) c ok.bag;have i:=LS a (G.step (ok.step h) s) k1;refine⟨p,_,rfl,EI.k (k:=Sum.inr g) n (by rw[length_zip,aA];exact Nat.lt_of_le_of_lt (Nat.min_le_left _ _) k2),r.nx _ _ _ k3 ?_⟩;obtain⟨d,M,L⟩:=QZ LX (k:=g) l B i;rw[show(Sum.inr g:AO)=Dz g from rfl,M];have x:=E6 (o:=HO.dK (((A0 ks g).map Dz).zip d)) a I (f:=.fr) (.inr rfl);exact a.mut e j (λ_ z=>nomatch z) ⟨d,Aa,Qa B,L.keep x.1 x.2⟩
 ·exact A.elim
theorem La(e:∀i,(Xs i).A.units+1<cLine)(j:QE Xs a pa)(h:QE Xs b pb)(l:∀i,(Xs i).N[k]?=some x:=by intro _;rfl)(d:∀i,C2 (Xs i).env.scope x:=by intro _;trivial)(g:(x==("__debug__":Str))=false:=by decide)(c:(x==("__classdict__":Str))=false:=by decide)
  (f:∀i,swapsWith b (some (.Subscript (.Name x p1) a pos')) pos.line (Xs i).env=pure false:=by intro _;rfl):QS Xs (.Assign [.Subscript (.Name x p1) a pos'] b pos) (JH k pa pb):=by
 obtain⟨t,q,p⟩:=j;obtain⟨u,o,n⟩:=h;exact⟨_,λi=>Vh (e i) (Du (l i) (d i) g c) (q i) (o i) (f i),Xe p n⟩
end
end L2
namespace L2
open PySem PySem.Spec PyProof.Rows PySem.W
def Cf(h:Heap)(d:Addr)(es:Array DictEntry)(ep:Nat):Prop:=∃o,h.get? d=some o/\o.ExactDict/\o.data=.dict es ep
theorem Cf.typeIs{es:Array DictEntry}(x:Cf s.heap d es ep):s.TypeIs (.ref d) "dict":=let⟨o,e,c,_⟩:=x;⟨o,e,c.1⟩
theorem Cf.keep{es:Array DictEntry}(x:Cf h d es ep)(k:∀o,h.get? d=some o->h'.get? d=some o):Cf h' d es ep:=let⟨o,e,r⟩:=x;⟨o,k o e,r⟩
theorem Cf.lt{es:Array DictEntry}(x:Cf h d es ep):d<h.objs.size:=let⟨_,e,_⟩:=x;bN e
section
variable{es:Array DictEntry}
theorem Qg(f:(d==sysModules)=false)(c:Cf s.heap d es ep)
  (g:Q (.ref s.heap.objs.size) { s with heap:=s.heap.push { cls:=.type "dict_keyiterator",data:=.fields #[.ref d,.int 0 0,.int es.size 0,.int ep 0] } }):wpAny (model prog w) A (pyIter (.ref d)) Q E s:=by
 obtain⟨o,e,h,a⟩:=id c;refine wpAny_pyIter_slot c.typeIs F.slot_dict_iter (cP F.slot_dict_iter c.typeIs F.entry_dict_iter ?body (F.args_dict_iter_1 _));unfold Builtin.«dict.__iter__» Builtin.Dict.dictSlotNone;refine wB (wB (wpAny_notOrdered_dict c.typeIs ?_));show wpAny _ _ (pure (Value.ref d)) _ _ s;refine wP ?_;show wpAny _ _ (Builtin.Dict.showsAll d >>= _) _ _ s;unfold Builtin.Dict.showsAll;rw[aB (show¬_ by rw[f];simp)];refine wB (wP (wB (wpAny_dictEntries e a (wB (wpAny_dictEpoch e a (wB (cG (wP ⟨_,rfl,"dict_keyiterator",_,⟨_,bP _ rfl,rfl⟩,F.slot_dict_keyiterator_next.lookup,?_⟩))))))));simpa[rawInt]using g
theorem Qh{Q:Ex->Shared->Prop}(a:s.heap.IsKeyIter it d i es.size ep)(l:Cf s.heap d es ep)(hi:i<es.size)
  (q:∀h',h'.IsKeyIter it d (i+1) es.size ep->Heap.SameBut it s.heap h'->Q (some es[i].key) { s with heap:=h' }):wpAny (model prog w) A (pyNext (.ref it)) Q E s:=by
 obtain⟨o,j,p,h⟩:=id a;obtain⟨r,f,n,g⟩:=id l;have e:Builtin.Dict_items.ownsTuple "dict_keyiterator"=false:=by decide
 unfold pyNext;refine wB (wpAny_attempt (wpAny_callSpecial?_slot (name:=Str.ofString "__next__") a.typeIs F.slot_dict_keyiterator_next (cP F.slot_dict_keyiterator_next a.typeIs F.entry_dict_keyiterator_next ?body (F.args_dict_keyiterator_next_1 _))));refine wB (wP (wB (wB ?_)))
 first
  |refine wB (wpAny_typeNameOfWhole_keyiter a.typeIs (wP (wB (wpAny_fieldsOf j h ?_))))
  |refine wB (wpAny_typeNameOf_keyiter a.typeIs (wP (wB (wpAny_fieldsOf j h ?_))))
 simp only[e,Bool.false_eq_true,if_false];show wpAny _ _ (if(Value.ref d==Value.none)=true then _ else _) _ _ s;rw[aB (show¬(Value.ref d==Value.none)=true from cH)];refine wB (wP (wB (wpAny_dictEntries f g ?_)));rw[aB (by simp)];refine wB (wP (wB (wpAny_dictEpoch f g ?_)));rw[aB (by simp)];refine wP ?_;simp only[show¬((i:Int)<0) by lia,if_false,Int.toNat_natCast,cK hi];refine wB ?_
 first
  |refine wB (wpAny_typeNameOfWhole_keyiter a.typeIs (wP (wB (wpAny_isOneOf_keyiter a.typeIs ?_))))
  |refine wB (wpAny_typeNameOf_keyiter a.typeIs (wP (wB (wpAny_isOneOf_keyiter a.typeIs ?_))))
 show wpAny _ _ (setField (.ref it) 1 (rawInt ((i:Int)+1)) >>= _) _ _ s;refine wB (wpAny_setField j h (by simp) ?_);have c:(s.heap.update it (Obj.mapFields (·.setIfInBounds 1 (rawInt ((i:Int)+1))))).IsKeyIter it d (i+1) es.size ep :=
  ⟨_,Heap.get?_update_self _ j (Obj.isFreed_of_fields (Obj.data_mapFields h _)),(Obj.cls_mapFields ..).trans p,by rw[Obj.data_mapFields h]<;>simp[rawInt]⟩
 refine wB (bM (wB (wpAny_isOneOf_keyiter (s:={ s with heap:=s.heap.update it (Obj.mapFields (·.setIfInBounds 1 (rawInt ((i:Int)+1)))) }) c.typeIs ?_)));show wpAny _ _ (pure es[i].key) _ _ _;exact wP (wP ⟨_,rfl,wP (q _ c (Heap.SameBut.update ..))⟩)
theorem Qi{Q:Ex->Shared->Prop}(l:A.handled=none)(c:s.heap.IsKeyIter it d es.size es.size ep)(j:Cf s.heap d es ep)(p:∀h',Heap.ExtBut it s.heap h'->Q none { s with heap:=h' }):wpAny (model prog w) A (pyNext (.ref it)) Q E s:=by
 obtain⟨o,h,x,i⟩:=id c;obtain⟨r,f,n,g⟩:=id j;have e:Builtin.Dict_items.ownsTuple "dict_keyiterator"=false:=by decide
 unfold pyNext;refine wB (wpAny_attempt (wpAny_callSpecial?_slot (name:=Str.ofString "__next__") c.typeIs F.slot_dict_keyiterator_next (cP F.slot_dict_keyiterator_next c.typeIs F.entry_dict_keyiterator_next ?body (F.args_dict_keyiterator_next_1 _))));refine wB (wP (wB (wB ?_)))
 first
  |refine wB (wpAny_typeNameOfWhole_keyiter c.typeIs (wP (wB (wpAny_fieldsOf h i ?_))))
  |refine wB (wpAny_typeNameOf_keyiter c.typeIs (wP (wB (wpAny_fieldsOf h i ?_))))
 simp only[e,Bool.false_eq_true,if_false];show wpAny _ _ (if(Value.ref d==Value.none)=true then _ else _) _ _ s;rw[aB (show¬(Value.ref d==Value.none)=true from cH)];refine wB (wP (wB (wpAny_dictEntries f g ?_)));rw[aB (by simp)];refine wB (wP (wB (wpAny_dictEpoch f g ?_)));rw[aB (by simp)];refine wP ?_;simp only[show¬((es.size:Int)<0) by lia,if_false,Int.toNat_natCast,Array.getElem?_eq_none (aQ es.size)];refine wB ?_
 first
  |refine wB (wpAny_typeNameOfWhole_keyiter c.typeIs (wP ?_))
  |refine wB (wpAny_typeNameOf_keyiter c.typeIs (wP ?_))
 show wpAny _ _ (setField (.ref it) 0 .none >>= _) _ _ s;refine wB (wpAny_setField h i (by simp) ?_);show wpAny _ _ (newExc (.type "StopIteration") [] >>= _) _ _ _;refine wB ?_;simp only[newExc,newTuple];refine wB (cG ?v (by size_fits));refine wB (m:=firstArgMember _ _) (wpAny_of_eq (a:=Value.none) (by first|rfl|(simp only[firstArgMember];rfl)) (cG ?u (by size_fits)));simp only[raiseNew];refine wB (wpAny_handled ?_);rw[show A.in1.handled=none from l];refine wB (wP (wpAny_throw ?_));refine wB (wpAny_isInstance (T:="StopIteration") (b:=true) ⟨_,bP _ rfl,rfl⟩ isSubtype_stop ?q);exact wP (p _ (((Heap.SameBut.update ..).extBut.push _).push _))
theorem Xf(p:A.handled=none)(I d:Addr)(j:d≠I)(es:Array DictEntry)(ep:Nat) :
  Walks prog w A I [I,d] [I] es.size (λi v=>∃h:i<es.size,v=es[i].key) (λi h=>h.IsKeyIter I d i es.size ep/\Cf h d es ep) where
 sub:=λb a=>by simp at a;simp[a]
 frame:=λ_ _ _ st n=>⟨st.1.at λo e=>n I (by simp) o e,st.2.keep λo e=>n d (by simp) o e⟩
 item:=λi s Q E hi st g=>Qh st.1 st.2 hi λh' f c =>
  g _ h' s.toks ⟨hi,rfl⟩ ⟨f,st.2.keep λo e=>c.extBut d o j e⟩ λb o a e=>c.extBut b o (λh=>a (by simp[h])) e
 done:=λs Q E st g=>Qi p st.1 st.2 λh' l=>g h' s.toks λb o a e=>l b o (λh=>a (by simp[h])) e
 self:=λ_ _ _ _ st g=>wpAny_pyIter_keyiter st.1 g
theorem Qj(lo:(d==sysModules)=false):KdlSrc prog w "dict" d d es.size (λi v=>∃h:i<es.size,v=es[i].key) (λh=>Cf h d es ep) where
 type:=λ_ a=>a.typeIs
 there:=λ_ a=>⟨a.lt,a.lt⟩
 keep:=λ_ _ a f=>a.keep λo e=>f d (.inl rfl) o e
 notList:=by decide
 notTuple:=by decide
 hint:=λ_ _ _ _ a c=>kdl_hint_dict a.typeIs c
 iter:=λ_ _ g a=>⟨_,_,(λ_ _ c=>Qg lo a c),Xf g _ d (bX a.lt) es ep,⟨⟨_,bP _ rfl,rfl,rfl⟩,a.keep λo e=>aS _ e⟩⟩
end
abbrev AT(r:By):P:=.tup (r.map P.int)
def Qk:dG->Hp->VK->Prop:=λxs H Q=>∃(p:Addr) (qI:List (List AO×V)),xs=[.ref p]/\H p=some (.dT qI) /\
 ∀(l:Addr) (ps:List (Addr×List AO)),H l=none->ps.map (·.2)=qI.map (·.1)->(∀q∈ps,H q.1=some (.tup (q.2.map kV)))->Q (.ref l) (AD H l (.lst (ps.map λq=>V.ref q.1)))
theorem HQ:∀{qI:List (List AO×V)} {xs:List (List AO×Addr×Value)},Paired (λ(p:List AO×V) (q:List AO×Addr×Value)=>p.1=q.1/\H q.2.1=some (.tup (p.1.map kV))/\AH p.2 q.2.2) qI xs ->
  (xs.map λx=>(x.2.1,x.1)).map (·.2)=qI.map (·.1)/\∀q∈(xs.map λx=>(x.2.1,x.1)),H q.1=some (.tup (q.2.map kV))
 |_,_,.nil=>⟨rfl,λq hq=>nomatch hq⟩
 |_,_,.cons r t=>by
  obtain⟨a,b⟩:=HQ t;refine⟨by simp only[map_cons];rw[a,r.1],λq hq=>?_⟩;rw[map_cons]at hq;rcases aF.mp hq with rfl|hq
  ·have:=r.2.1;rw[r.1]at this;exact this
  ·exact b q hq
theorem Ql{qI:List (List AO×V)}(a:A7 P' w H h)(e:H p=some (.dT qI)) :
  ∃(es:Array DictEntry) (ep:Nat) (ps:List (Addr×List AO)),Cf h p es ep/\(p==sysModules)=false/\qI.length<=sizeLine/\ps.map (·.2)=qI.map (·.1)/\(∀q∈ps,H q.1=some (.tup (q.2.map kV)))/\es.toList.map (·.key)=ps.map λq=>Value.ref q.1:=by
 obtain⟨z,c,xs,rel,o,es,ep,h1,h2,f,d,_⟩:=a p _ e;exact⟨es,ep,xs.map λx=>(x.2.1,x.1),⟨o,h1,h2,f⟩,c,z,(HQ rel).1,(HQ rel).2,by rw[d,bZ,bZ];rfl⟩
theorem Xg{es:Array DictEntry}{cg:FG}(h:ItemsOf (λi v=>∃h:i<es.size,v=es[i].key) cg n)(a:n=es.size):cg.toList=es.toList.map (·.key):=by
 apply ext_getElem?;intro i;have c:cg.size=es.size:=by rw[<-a];exact h.1
 by_cases hi:i<cg.size
 ·obtain⟨h',e⟩:=h.2 i cg[i] (by simp[hi]);rw[bO];simp[hi,h',e]
 ·rw[bQ (by simpa using hi),bQ (by simp;lia)]
theorem Xh(ps:List (Addr×List AO)):AQ (ps.map λq=>V.ref q.1) (ps.map λq=>Value.ref q.1):=by
 induction ps with
 |nil=>exact .nil
 |cons q r a=>exact .cons rfl a
theorem Lb(n:X.calm=true):BJ X (.type "list") Qk:=by
 intro qA s σ H xs us Q I r h;obtain⟨p,qI,rfl,i,k⟩:=h;obtain⟨u,rfl,f⟩:=r.one;cases f;obtain⟨es,ep,ps,g,l,z,e,x,d⟩:=Ql I.hok i;have b:=aT length e;simp at b;have A:es.size=qI.length:=by
  have a:=aT length d;simp at a;lia
 refine kdl_call (Qj l) (I.ok.hd n) g ⋯ λh' tk cg y j v c=>?_;have w:=Xg c rfl;refine⟨.ref s.heap.objs.size,_,I.laid (t':=tk) (o:=.lst (ps.map λq=>V.ref q.1)) j (aQ _) ⟨?_,cg.toList,y,?_,?_⟩,rfl,k _ ps (I.hok.fresh (aQ _)) e x⟩
 ·rw[aA];lia
 ·rw[w,d];exact Xh ps
 ·simpa using v
def Lc:pC:=p1 λx f K=>match x with
 |.dT ks vs=>K (.lst (ks.map AT)) .nw
 |_=>False
theorem Xi(ks:List By):P.imms (ks.map AT)=true:=Ey (λr=>by simp) ks
theorem JI{b:Addr}{Z:Addr->Prop}{H:Hp}:∀{ps:List (Addr×By)},(∀q∈ps,H q.1=some (.tup (q.2.map V.int)))->AB b Z H (ps.map λq=>AT q.2) (ps.map λq=>V.ref q.1)
 |[],_=>rfl
 |q::r,h=>⟨_,_,rfl,⟨q.1,_,rfl,h q cA,AB.ints.mpr rfl⟩,JI λp a=>h p (bT _ a)⟩
theorem Ld(r:By):(AY r).map kV=r.map V.int:=by simp[AY,bZ,Function.comp_def,kV]
theorem Qm{ps:List (Addr×List AO)}(h:ps.map (·.2)=ks.map AY):∃d:List (Addr×By),d.map (·.1)=ps.map (·.1)/\d.map (·.2)=ks/\∀q'∈d,(q'.1,AY q'.2)∈ps:=by
 induction ps generalizing ks with
 |nil =>
  cases ks with
  |nil=>exact⟨[],rfl,rfl,λ_ h=>nomatch h⟩
  |cons k ks=>simp at h
 |cons q r e =>
  cases ks with
  |nil=>simp at h
  |cons k ks =>
   simp only[map_cons,List.cons.injEq]at h;obtain⟨d,a,b,c⟩:=e h.2;refine⟨(q.1,k)::d,by simp[a],by simp[b],λq' hq=>?_⟩;rcases aF.mp hq with rfl|hq
   ·simp[<-h.1]
   ·exact bT _ (c q' hq)
theorem Lf:B3 Qk Lc:=λW ρ σ Hs H Q K xs vs ok st r e q=>by
 unfold Lc p1 at e;split at e
 ·obtain⟨v,rfl,rv⟩:=r.one;split at e
  ·rename_i ks h;obtain⟨p,us,rfl,_,x,w,u⟩:=HN ok rv;refine⟨p,_,rfl,x,λl ps f g s=>q _ _ _ _ e (Step.new ok.bag f) ?_⟩;rw[map_fst_zip (by rw[aA,w,u.length];exact aQ _)]at g;obtain⟨d,a,b,c⟩:=Qm g;have i:AB W.b (AC W ρ σ .nw) H (ks.map AT) (ps.map λq=>V.ref q.1):=by
    have:=JI (b:=W.b) (Z:=AC W ρ σ .nw) (H:=H) (ps:=d) λq' j=>by
     have:=s _ (c q' j);rw[Ld]at this;exact this
    have o:(d.map λq=>V.ref q.1)=ps.map λq=>V.ref q.1:=by
     have:=aT (map V.ref) a;simpa[bZ,Function.comp_def]using this
    have n:(d.map λq=>AT q.2)=ks.map AT:=by
     rw[<-b,bZ];rfl
    rw[o,n]at this;exact this
   exact ET ok st (by simp) (by simp) i f
  ·exact e.elim
 ·exact e.elim
theorem Lg{b:Addr}{Z:Addr->Prop}{H:Hp}:∀{rs:List By} {vs:dG},AB b Z H (rs.map AT) vs->∃ps:List (Addr×By),vs=CF ps/\ps.map (·.2)=rs/\∀q∈ps,H q.1=some (.tup (q.2.map V.int))
 |[],vs,h=>⟨[],h,rfl,λ_ h=>nomatch h⟩
 |r::rs,vs,h=>by
  obtain⟨v,t,rfl,⟨p,us,rfl,e,d⟩,h2⟩:=h;obtain⟨ps,a,b,c⟩:=Lg h2;rw[AB.ints.mp d]at e;refine⟨(p,r)::ps,by rw[a];rfl,by rw[map_cons,b],λq hq=>?_⟩;rcases aF.mp hq with rfl|hq
  ·exact e
  ·exact c q hq
end L2
namespace HT
open PySem PyProof.Rows
theorem Xj(A:Around)(s:Shared)(a:Int)(t:Tok)(c:Int)(u:Tok)(prog:Program)(w:World)(E:VS)(Q:VS)(h:Q (.bool (decide (c<=a))) s) :
  wpAny (model prog w) A (richCompare .GtE (.int a t) (.int c u)) Q E s :=
 (PyProof.Rows.ge_int h:wpAny (model prog w) A (compareOp .GtE (.int a t) (.int c u)) Q E s)
section
open PySem.SeqAt
open PySem.AutoSeq1 (wpAny_loadPart')
open PySem.MeetsSeq PySem.MeetsSeq2 PySem.MeetsSeq3
theorem Xk(l b:Addr)(items f:FG)(n U:Nat)(dd N:Go)(T J:Array Ex)(ns ms:By)(hi:IntsAre items.toList ns)(Q:IntsAre f.toList ms) :
  Meets (Builtin.«tuple.__ge__» ⟨[.ref l,.ref b],[]⟩)
   (λ_ R s=>s.heap.get? l=some { cls:=.type "tuple",dict:=dd,data:=.seq items n,slots:=T }/\s.heap.get? b=some { cls:=.type "tuple",dict:=N,data:=.seq f U,slots:=J } /\
    R (.ok (.ret (.bool (!lexLt ns ms)))) s) :=
 .of_wp λprog w A R s h=>by
  obtain⟨I,g,d,tk,os⟩:=s;obtain⟨hl,hb,h⟩:=h;have f2:=AutoSeq1.sub_tuple_tuple;have z1:items.size=ns.length:=by rw[<-hi.length];simp
  have z2:f.size=ms.length:=by rw[<-Q.length];simp
  wp_walk using wpAny_loadPart' hl,wpAny_loadPart' hb,wpAny_forIn_list _ (λqF b s'=>b.1=none/\s'=⟨I,g,d,tk,os⟩/\∃(vs H:Do) (j o:By),qF=vs.zip H /\
   IntsAre vs j/\IntsAre H o/\j.length+f.size=o.length+items.size/\R (.ok (.ret (.bool (!lexLt j o)))) ⟨I,g,d,tk,os⟩) _
  case turn =>
   rintro⟨y,x⟩ qF b s' ⟨D,rfl,vs,H,j,o,p,B,r,i,v⟩;cases B with
   |nil=>rw[zip_nil_left]at p;cases p
   |cons a t G =>
    cases r with
    |nil=>rw[zip_nil_right]at p;cases p
    |cons c u E =>
     rw[zip_cons_cons]at p;injection p with L C
     injection L with Y hx
     subst Y hx;rw[lexLt_cons]at v;simp only[length_cons]at i;obtain⟨e,he,z⟩:=OA A.in1 ⟨I,g,d,tk,os⟩ a t c u;refine wB (he prog w _ _ ?_);cases e with
     |true =>
      rw[aC (z.mp rfl)]at v
      wp_walk
      exact⟨rfl,rfl,_,_,_,_,C,G,E,⋯,v⟩
     |false =>
      rw[aB (λq=>bS (z.mpr q) cH)]at v;have M:=Xj A.in1 ⟨I,g,d,tk,os⟩ a t c u prog w
      wp_walk using M
      have e9:(!decide (a<c))=decide (c<=a):=by rw[<-decide_not];exact decide_eq_decide.mpr ⋯
      rw[e9]at v;exact⟨_,rfl,by simpa using v⟩
  case fin =>
   rintro⟨b1,b2⟩ s' ⟨D,rfl,vs,H,j,o,p,B,r,i,v⟩;simp only at D;subst D;have O:lexLt j o=decide (items.size<f.size):=by
    cases B with
    |nil =>
     cases r with
     |nil =>
      simp only[length_nil]at i;rw[N7];exact(cJ ⋯).symm
     |cons c u hw =>
      simp only[length_nil,length_cons]at i;rw[N8];exact(aK ⋯).symm
    |cons a t O =>
     cases r with
     |nil =>
      simp only[length_nil,length_cons]at i;rw[N9];exact(cJ ⋯).symm
     |cons c u hw =>
      rw[zip_cons_cons]at p;cases p
   rw[O,show(!decide (items.size<f.size))=decide (f.size<=items.size) by rw[<-decide_not];exact decide_eq_decide.mpr ⋯]at v
   wp_walk
   exact⟨_,rfl,by simpa[Builtin.Tuple.tupleCompareSizes]using v⟩
  case h =>
   exact⟨rfl,rfl,items.toList,f.toList,ns,ms,rfl,hi,Q,⋯,h⟩
end
theorem ge_tupInts{l b:Addr}{items a:FG}{ns ms:By}(y:IsTup s.heap l items)(B:IsTup s.heap b a)(hi:IntsAre items.toList ns)(z:IntsAre a.toList ms)
  (v:A.units<cLine) (h:Q (.bool (!lexLt ns ms)) s):wpAny (model prog w) A (compareOp .GtE (.ref l) (.ref b)) Q E s:=by
 obtain⟨⟨C,dd,p,r⟩,i,o,n,j⟩:=id y;obtain⟨⟨q,g,data2,f⟩,c,e,u,d⟩:=id B;simp only at o j e d;subst o j e d;exact richCompare_meets_room (op:=.GtE) ⟨_,i,rfl⟩ ⟨_,c,rfl⟩ PySem.F.slot_tuple_ge PySem.F.entry_tuple_ge (PySem.F.args_tuple_ge_2 _ _) (Xk l b items a n u dd g r f ns ms hi z)
  ⟨i,c,show Value.bool (!lexLt ns ms)≠Value.notImplemented/\Q (.bool (!lexLt ns ms)) s from⟨(λx=>nomatch x),h⟩⟩ v
end HT
namespace L2
open PySem PySem.Spec PyProof.Rows
def HR(K : Fg)(l1 l2 : Addr) : It :=
  ⟨λi H => ∃xs ys, Aq K H l1 xs /\ Aq K H l2 ys /\ i < xs.length /\ i < ys.length,
   λi H v H' => ∃T x y, H T = none /\ v = .ref T /\ H' = AD H T (.tup [x, y]) /\ ∀xs ys, Aq K H l1 xs -> Aq K H l2 ys -> xs[i]? = some x /\ ys[i]? = some y,
   λi H => ∃xs ys, Aq K H l1 xs /\ Aq K H l2 ys /\ (xs.length <= i \/ ys.length <= i)⟩
theorem Xl{P:Program}{K:Fg}{elts:Hb}{x1}{z TI TO i1 i2 l1 l2:Addr}(D:ZipApart z TI TO i1 i2 l1 l2) :
  Turn P w K (.Tuple elts x1 pos) (HR K l1 l2) [z,TI,TO,i1,i2] z (λi h=>IsZip h z TI TO .none/\IsPair h TI (.ref i1) (.ref i2)/\(∃a b,IsPair h TO a b)/\h.IsListIter i1 l1 i/\h.IsListIter i2 l2 i) where
 mem:=by simp
 obj:=λi h st b d=>by
  obtain⟨n,j,⟨a,c,l⟩,⟨M,C,_,d1⟩,⟨L,B,_,d2⟩⟩:=st;simp only[aF,bB,or_false]at d;rcases d with rfl|rfl|rfl|rfl|rfl
  ·exact⟨_,n,λv q=>nomatch q⟩
  ·exact⟨_,j,λv q=>nomatch q⟩
  ·exact⟨_,l,λv q=>nomatch q⟩
  ·exact⟨_,C,λv q=>by rw[d1]at q;cases q⟩
  ·exact⟨_,B,λv q=>by rw[d2]at q;cases q⟩
 keep:=λi h h' st k=>by
  obtain⟨n,j,⟨a,c,l⟩,⟨M,C,r1⟩,⟨L,B,r2⟩⟩:=st;exact⟨k z (by simp) _ n,k TI (by simp) _ j,⟨a,c,k TO (by simp) _ l⟩,⟨M,k i1 (by simp) _ C,r1⟩,⟨L,k i2 (by simp) _ B,r2⟩⟩
 item:=by
  intro X hP hw hK hc i qA s σ H E I hf st hg;subst hP hw hK;obtain⟨n,j,⟨a,c,l⟩,h1,h2⟩:=st;obtain⟨xs,ys,q1,Y,g1,g2⟩:=hg;obtain⟨qH,rv,pq,a7⟩:=I.list q1;have p:=pq.isList;obtain⟨N,r,A,O⟩:=I.list Y;have p2:=A.isList;have hx:xs[i]?=some xs[i]:=by simp[g1]
  have hy:ys[i]?=some ys[i]:=by simp[g2]
  obtain⟨u,hu,ru⟩:=rv.get hx;obtain⟨G,a8,a0⟩:=r.get hy;refine wpAny_pyNext_zip_item D n j l h1 h2 p p2 (x:=u) (y:=G) (by simpa using hu) (by simpa using a8) λh' a1 a2 a3 a4 a5 a6 hk=>⟨_,rfl,wpAny_letOwnedTupleGo_zip a1 λU Q f=>?_⟩;have a9:H s.heap.objs.size=none:=I.fresh;have J:Inv X qA σ (AD H s.heap.objs.size (.tup [xs[i],ys[i]])) { s with heap:=s.heap.push { cls:=.type "tuple",data:=.seq #[u,G] } } :=
   I.laid (t':=s.toks) (λb o q=>aS _ q) (aQ _) ⟨by show 2<=sizeLine;decide,[u,G],.cons ru (.cons a0 .nil),DX.new _ _⟩
  have T:∀b∈[z,TI,TO,i1,i2],b≠s.heap.objs.size:=λb d e=>by
   have o:∃o,s.heap.get? b=some o:=by
    simp only[aF,bB,or_false]at d;obtain⟨M,C,_⟩:=h1;obtain⟨L,B,_⟩:=h2;rcases d with rfl|rfl|rfl|rfl|rfl
    ·exact⟨_,n⟩
    ·exact⟨_,j⟩
    ·exact⟨_,l⟩
    ·exact⟨_,C⟩
    ·exact⟨_,B⟩
   obtain⟨o,q⟩:=o;exact bS (bN q) (by rw[e];exact aX _)
  have hn:∀b∈[z,TI,TO,i1,i2],AD H s.heap.objs.size (.tup [xs[i],ys[i]]) b=none:=λb d=>by rw[AK (T b d)];exact(hf b d).1
  have nz:s.heap.objs.size≠z:=(T z (by simp)).symm;have J2:Inv X qA σ (AD H s.heap.objs.size (.tup [xs[i],ys[i]])) { s with heap:=U }:=by
   refine Inv.turnedL (s:={ s with heap:=s.heap.push { cls:=.type "tuple",data:=.seq #[u,G] } }) (h':=U) (t':=s.toks) (ch:=[z,TO,i1,i2]) J (λb o d q=>?_) (λb d=>⟨hn b ?_,(hf b ?_).2⟩)
   ·simp only[aF,bB,or_false,not_or]at d;by_cases e:b=s.heap.objs.size
    ·subst e;have q':=q;rw[show(s.heap.push { cls:=.type "tuple",data:=.seq #[u,G] }).get? s.heap.objs.size=some _ from bP _ rfl]at q';cases q';exact f.extBut _ _ nz a5
    ·have q0:s.heap.get? b=some o:=by rw[<-Heap.get?_push_ne _ _ _ e];exact q
     exact f.extBut _ _ d.1 (hk b o d.1 d.2.1 d.2.2.1 d.2.2.2 q0)
   ·simp only[aF,bB,or_false]at d ⊢;rcases d with h|h|h|h<;>simp[h]
   ·simp only[aF,bB,or_false]at d ⊢;rcases d with h|h|h|h<;>simp[h]
  refine⟨.ref s.heap.objs.size,_,J2,rfl,⟨_,_,_,a9,rfl,rfl,λab aa z1 z2=>?_⟩,?_,hn⟩
  ·rw[I.list_inj z1 q1,I.list_inj z2 Y];exact⟨hx,hy⟩
  ·obtain⟨M,C,r1⟩:=a3;obtain⟨L,B,r2⟩:=a4;exact⟨Q,f.extBut _ _ D.TIz (hk _ _ D.TIz D.TITO D.TIi1 D.TIi2 j),⟨_,_,f.extBut _ _ D.TOz a2⟩,⟨M,f.extBut _ _ D.i1z C,r1⟩,⟨L,f.extBut _ _ D.i2z B,r2⟩⟩
 done:=by
  intro X hP hw hK hc i qA s σ H E I hf st hg;subst hP hw hK;obtain⟨n,j,⟨a,c,l⟩,h1,h2⟩:=st;obtain⟨xs,ys,q1,Y,g⟩:=hg;obtain⟨qH,rv,pq,a7⟩:=I.list q1;have p:=pq.isList;obtain⟨N,r,A,O⟩:=I.list Y;have p2:=A.isList;have l1:=rv.length;have l2:=r.length;refine wpAny_pyNext_zip_end (I.ok.hd hc) D n j l h1 h2 p p2 (by simp;lia) λh' hk=>⟨rfl,I.turnedL (t':=s.toks) (ch:=[z,TO,i1,i2]) (λb o d q=>?_) λb d=>hf b ?_⟩
  ·simp only[aF,bB,or_false,not_or]at d;exact hk b o d.1 d.2.1 d.2.2.1 d.2.2.2 q
  ·simp only[aF,bB,or_false]at d ⊢;rcases d with h|h|h|h<;>simp[h]
 self:=λ_ _ _ _ _ st h=>wpAny_pyIter_zip st.1 h
def Qn(K:Fg)(ta:TA):TI:=λσ H R=>ta σ H λvs H1=>∃l1 l2 xs ys,vs=[.ref l1,.ref l2]/\Aq K H1 l1 xs/\Aq K H1 l2 ys/\R (HR K l1 l2) H1
theorem Xm{a b:Expr}{ta:TA}{p:Pos}{elts:Hb}{x1}{tp:Pos}(L:Gl X "zip")(G:X.mg "zip"=none)(M:PA X [a,b] ta)(E:starEach [a,b] X.env=[(false,eval a X.env),(false,eval b X.env)]:=by rfl)(d:starEach [b] X.env=[(false,eval b X.env)]:=by rfl) :
  PI X (.Tuple elts x1 tp) (.Call (.Name "zip" p) [a,b] [] pos) (Qn X.K ta):=by
 intro qA s σ H R I h;refine Call_ (ED I L G WA (PyProof.Rows.callWith_type1 (AG (M pos qA s σ H _ I h) λus c ⟨vs,H1,g,w,D⟩=>?_) (by rw[E,d]) (by rw[d];rfl)));obtain⟨l1,l2,xs,ys,rfl,C,B,q⟩:=D;obtain⟨u,v,rfl,A,rv⟩:=w.two;cases(show u=Value.ref l1 from A);cases(show v=Value.ref l2 from rv);obtain⟨qH,w,j,_⟩:=g.list C;have p1:=j.isList;obtain⟨x,O,i,_⟩:=g.list B;have p2:=i.isList;refine call_zip_2 p1 p2 λh' y r o i1 i2 _ J=>?_;have N:Inv X qA σ H1 { c with heap:=h' }:=g.kept (t':=c.toks) J;have n:l1<c.heap.objs.size:=by obtain⟨_,e,_⟩:=p1;exact bN e
 have l:l2<c.heap.objs.size:=by obtain⟨_,e,_⟩:=p2;exact bN e
 refine wpAny_pyIter_zip y ⟨_,[c.heap.objs.size+4,c.heap.objs.size+2,c.heap.objs.size+3,c.heap.objs.size,c.heap.objs.size+1],_,_,H1,rfl,N,Xl (zipApart_new n l),⟨y,r,⟨_,_,o⟩,i1,i2⟩,λb z=>?_,q⟩;have f:c.heap.objs.size<=b:=by
  simp only[aF,bB,or_false]at z;rcases z with h|h|h|h|h<;>rw[h]<;>first|exact Nat.le_add_right _ _|exact aQ _
 exact g.fpOk f (g.hok.fresh f)
def Qo:R2:=λx y H Q=>∃a b ns ms,x=.ref a/\y=.ref b/\H a=some (.tup (ns.map V.int))/\H b=some (.tup (ms.map V.int))/\Q (.bl (!HT.lexLt ns ms)) H
theorem Xo{k:Nat}(i:Room k X.A):A1 X (compareOp .GtE) Qo:=by
 intro qA s σ H x y v u Q I e d h;obtain⟨a,b,ns,j,rfl,rfl,h1,h2,q⟩:=h;cases e;cases d;obtain⟨qH,g,p1,_⟩:=I.tuple (.of h1);obtain⟨c,f,p2,_⟩:=I.tuple (.of h2);exact HT.ge_tupInts p1 p2 (by simpa using Es g) (by simpa using Es f) i.units0 ⟨.bl _,H,I,rfl,q⟩
def Qp(g:By->By->Bool):p2:=λx _ y _ K=>∃ns ms,Ce x=some ns/\Ce y=some ms/\K (.bl (g ns ms)) .fr
abbrev Xp:p2:=Qp λa b=>!HT.lexLt a b
theorem Qq{x:P}{ns:By}(ok:Ok W ρ σ H)(g:Ce x=some ns)(r:RF W ρ σ Hs f H x v):∃a,v=.ref a/\H a=some (.tup (ns.map V.int)):=by
 rw[Qb g]at r;obtain⟨p,us,e,c,d⟩:=Dh ok r;rw[AB.ints.mp d]at c;exact⟨p,e,c⟩
theorem Xq:BM Qo Xp:=λW ρ σ Hs H Q K x y f h v u ok st d c g q=>by
 obtain⟨ns,e,l,j,i⟩:=g;obtain⟨a,rfl,o⟩:=Qq ok l d;obtain⟨b,rfl,n⟩:=Qq ok j c;exact⟨a,b,ns,e,rfl,rfl,o,n,q _ _ _ H i (Step.refl ok.bag) C9⟩
def HS(x y:P):P:=.tup [x,y]
end L2
namespace L2
open PySem
abbrev AJ(ns:At):P:=.tup (ns.map P.str)
abbrev Ax(q:By×Int):P:=.tup [AT q.1,.int q.2]
abbrev AL(t:List (By×Int)):P:=.lst (t.map Ax)
abbrev CK(t:List (By×Int)):P:=.dT (t.map (·.1)) (t.map λq=>.int q.2)
@[simp] theorem Dk(r:By):(AT r).imm=true:=by simp
@[simp] theorem HU(q:By×Int):(Ax q).imm=true:=by simp
@[simp] theorem Lh(t:List (By×Int)):P.imms (t.map Ax)=true:=Ey HU t
@[simp] theorem Xr(t:List By):P.imms (t.map AT)=true:=Ey Dk t
@[simp] theorem Xt(n:Nat)(r:By):(AT r).pl (n+1)=true:=by simp
@[simp] theorem Qr(n:Nat)(q:By×Int):(Ax q).pl (n+2)=true:=by simp
@[simp] theorem Xu(n:Nat)(t:List (By×Int)):(t.map Ax).all (P.pl (n+2))=true:=LQ (Qr n) t
theorem E7(a b:Int):AI (.int a) (.int b)=decide (a=b):=by simp only[AI];rw[Bool.eq_iff_iff];simp
theorem Li(a b:Str):AI (.str a) (.str b)=decide (a=b):=by simp only[AI];rw[Bool.eq_iff_iff];simp
theorem Xv(a b:Bool):AI (.bl a) (.bl b)=decide (a=b):=by simp only[AI];rw[Bool.eq_iff_iff];simp
theorem Lj(r:By):(AT r).nb=true:=by rw[P.nb];exact Iv dE r
theorem Xw(q:By×Int):(Ax q).nb=true:=by rw[P.nb,P.nbs,P.nbs,P.nbs,Lj];rfl
theorem Qs(t:List (By×Int)):(AL t).nb=true:=by rw[P.nb];exact Iv Xw t
theorem Qt(r:At):(AJ r).nb=true:=by rw[P.nb];exact Iv dE r
theorem Qu{a b:By}(h:a.map P.int=b.map P.int):a=b:=by
 have:=aT (map λp=>match p with|P.int i=>i|_=>0) h;simpa[bZ,Function.comp_def]using this
theorem Qv{a b:At}(h:a.map P.str=b.map P.str):a=b:=by
 have:=aT (map λp=>match p with|P.str i=>i|_=>⟨#[]⟩) h;simpa[bZ,Function.comp_def]using this
theorem Lk{a b:By}(h:AT a=AT b):a=b:=Qu (P.tup.inj h)
theorem Qw{a b:By×Int}(h:Ax a=Ax b):a=b:=by
 have h:=P.tup.inj h;simp only[List.cons.injEq]at h;exact Prod.ext (Lk h.1) (P.int.inj h.2.1)
theorem JJ{α:Type}{f:α->P}(c:∀a b,f a=f b->a=b):∀{a b:List α},a.map f=b.map f->a=b
 |[],[],_=>rfl
 |[],_::_,h=>by simp at h
 |_::_,[],h=>by simp at h
 |x::a,y::b,h=>by
  simp only[map_cons,List.cons.injEq]at h;rw[c x y h.1,JJ c h.2]
theorem Xx{a b:List (By×Int)}(h:AL a=AL b):a=b:=JJ (λ_ _=>Qw) (P.lst.inj h)
theorem Xy(a b:By):AI (AT a) (AT b)=decide (a=b):=by
 rw[Bool.eq_iff_iff,Iu (Lj a) (Lj b),aW];exact⟨Lk,λh=>by rw[h]⟩
theorem JK(a b:List (By×Int)):AI (AL a) (AL b)=decide (a=b):=by
 rw[Bool.eq_iff_iff,Iu (Qs a) (Qs b),aW];exact⟨Xx,λh=>by rw[h]⟩
theorem Qx(a b:At):AI (AJ a) (AJ b)=decide (a=b):=by
 rw[Bool.eq_iff_iff,Iu (Qt a) (Qt b),aW];exact⟨λh=>Qv (P.tup.inj h),λh=>by rw[h]⟩
def BS(t:List (By×Int))(r:By)(c:Int):List (By×Int):=if r∈t.map (·.1)then t.map (λq=>if q.1=r then(q.1,c)else q)else t++[(r,c)]
def AX(t:List (By×Int))(r:By):Option Int:=(t.find? λq=>decide (q.1=r)).map (·.2)
theorem JL(r:By):∀t:List (By×Int),Bm (t.map (·.1)) (t.map λq=>P.int q.2) r=(AX t r).map P.int
 |[]=>rfl
 |q::t=>by
  simp only[map_cons,Bm];unfold AX;rw[find?_cons];by_cases e:q.1=r
  ·rw[aC e];simp[e]
  ·rw[aB e,JL r t];simp[e,AX]
theorem Qy(r:By)(c:Int):∀t:List (By×Int),zipWith (λk0 v=>if k0=r then P.int c else v) (t.map (·.1)) (t.map λq=>P.int q.2)=(t.map (λq=>if q.1=r then(q.1,c)else q)).map λq=>P.int q.2
 |[]=>rfl
 |q::t=>by
  simp only[map_cons,zipWith_cons_cons,Qy r c t];by_cases e:q.1=r<;>simp[e]
theorem Ll(t:List (By×Int))(r:By)(c:Int):P.dT (A0 (t.map (·.1)) r) (EW (t.map (·.1)) (t.map λq=>P.int q.2) r (.int c))=CK (BS t r c):=by
 unfold A0 EW BS CK;by_cases h:r∈t.map (·.1)
 ·rw[aC h,aC h,aC h,Qy]
  congr 1
  rw[bZ];refine cF λq _=>?_;by_cases e:q.1=r<;>simp[e]
 ·rw[aB h,aB h,aB h];simp
theorem Qz(t:List (By×Int))(r:By)(c:Int):(BS t r c).length<=t.length+1:=by
 unfold BS;split<;>simp
theorem Xz{t:List (By×Int)}{c:Int}(h:∀q∈t,q.1.length=n)(e:r.length=n):∀q∈BS t r c,q.1.length=n:=by
 unfold BS;split
 ·intro q a;obtain⟨p,d,rfl⟩:=bU.mp a;split
  ·exact h p d
  ·exact h p d
 ·intro q a;rcases bA.mp a with z|z
  ·exact h q z
  ·rw[bI.mp z];exact e
theorem Q0(t:List (By×Int))(r:By)(c:Int):(BS t r c).map (·.1)=if r∈t.map (·.1)then t.map (·.1)else t.map (·.1)++[r]:=by
 unfold BS;split
 ·rw[bZ];refine cF λq _=>?_;by_cases e:q.1=r<;>simp[e]
 ·simp
theorem Q3{t:List (By×Int)}{c:Int}(h:(t.map (·.1)).Nodup):((BS t r c).map (·.1)).Nodup:=by
 rw[Q0];split
 ·exact h
 ·rename_i d;rw[nodup_append];exact⟨h,by simp,λa g b f=>by rw[bI.mp f];exactλe=>d (e▸g)⟩
theorem Lm:∀{a b:List By},a.Perm b->BR a->BR b->a=b
 |[],b,h,_,_=>(nil_perm.mp h).symm
 |x::xs,[],h,_,_=>bS h.length_eq (by simp)
 |x::xs,y::ys,h,h1,h2=>by
  have e:x=y:=by
   have hx:x∈y::ys:=h.mem_iff.mp cA;have hy:y∈x::xs:=h.mem_iff.mpr cA;rcases aF.mp hx with e|hx
   ·exact e
   ·rcases aF.mp hy with e|hy
    ·exact e.symm
    ·exact Fa x y ((cS.mp h2).1 x hx) ((cS.mp h1).1 y hy)
  subst e;rw[Lm ((perm_cons x).mp h) (cS.mp h1).2 (cS.mp h2).2]
def Fw(x:By):List By->List By
 |[]=>[x]
 |y::r=>if HT.lexLt y x=true then y::Fw x r else x::y::r
def CV:List By->List By
 |[]=>[]
 |x::r=>Fw x (CV r)
theorem Ln(x:By):∀r,(Fw x r).Perm (x::r)
 |[]=>List.Perm.refl _
 |y::r=>by
  unfold Fw;split
  ·exact((Ln x r).cons y).trans (List.Perm.swap x y r)
  ·exact List.Perm.refl _
theorem DP:∀r,(CV r).Perm r
 |[]=>List.Perm.refl _
 |x::r=>(Ln x (CV r)).trans ((DP r).cons x)
theorem Q4(x:By):∀{r},BR r->BR (Fw x r)
 |[],_=>pairwise_singleton _ _
 |y::r,h=>by
  unfold Fw;have h1:=cS.mp h;split
  ·rename_i a;refine cS.mpr ⟨λz hz=>?_,Q4 x h1.2⟩;rcases aF.mp ((Ln x r).mem_iff.mp hz)with e|hz
   ·rw[e];cases c:HT.lexLt x y
    ·rfl
    ·have:=Gx _ _ _ a c;rw[FZ]at this;cases this
   ·exact h1.1 z hz
  ·rename_i a;have a:HT.lexLt y x=false:=by simpa using a
   refine cS.mpr ⟨λz hz=>?_,h⟩;rcases aF.mp hz with e|hz
   ·rw[e];exact a
   ·cases c:HT.lexLt z x
    ·rfl
    ·rcases Kw z y x c with q|q
     ·rw[h1.1 z hz]at q;cases q
     ·rw[a]at q;cases q
theorem Fx:∀r,BR (CV r)
 |[]=>List.Pairwise.nil
 |x::r=>Q4 x (Fx r)
theorem Lo{rs a:List By}(h:a.Perm rs)(c:BR a):a=CV rs:=Lm (h.trans (DP rs).symm) c (Fx rs)
def A6(t:List (By×Int)):List (By×Int):=((CV (t.map (·.1))).filter λr=>decide ((AX t r).getD 0≠0)).map λr=>(r,(AX t r).getD 0)
theorem Q5{t:List (By×Int)}(h:r∈t.map (·.1)):∃c,AX t r=some c:=by
 obtain⟨q,a,e⟩:=bU.mp h;unfold AX;cases d:t.find? λq=>decide (q.1=r)with
 |some p=>exact⟨p.2,rfl⟩
 |none=>exact bS (aK e) (by simpa using find?_eq_none.mp d q a)
def Q6:pF:=λxs K=>∃n b:Int,xs=[.bag,.int n,.int b]/\0<=n/\n<=100/\0<b/\b<2 ^ 64/\∀r:By,(r.length:Int)=n->(∀x∈r,0<=x/\x<b)->K (AT r)
def Q7:pF:=λxs K=>xs=[.bag]/\∀c:Int,1<=c->c<=1000000000000->K (.int c)
def Rows(t:List (By×Int)):Prop:=t.length<2\/∃n,0<n/\∀q∈t,q.1.length=n
theorem QS.weak{ι:Type}{Xs:ι->Cx}{st:Stmt}{p m:pS}(h:QS Xs st p)(hw:∀E ρ,m E ρ->p E ρ):QS Xs st m:=let⟨t,h1,h2⟩:=h;⟨t,h1,λW ρ σ H D E ok h r=>h2 W ρ σ H D E ok (hw E ρ h) r⟩
structure Drawn(n:Nat)(t:List (By×Int)):Prop where
 len:t.length<=40
 rows:∀q∈t,q.1.length=n
 nd:(t.map (·.1)).Nodup
 row:∀q∈t,∀x∈q.1,0<=x/\x<=9
 cnt:∀q∈t,1<=q.2/\q.2<=1000000000000
theorem Q8{t:List (By×Int)}{c:Int}(h:q∈BS t r c):q∈t\/q=(r,c):=by
 unfold BS at h;split at h
 ·obtain⟨p,a,e⟩:=bU.mp h;by_cases z:p.1=r
  ·rw[aC z,z]at e;exact .inr e.symm
  ·rw[aB z]at e;exact .inl (e▸a)
 ·rcases bA.mp h with z|z
  ·exact .inl z
  ·exact .inr (bI.mp z)
structure DrawnI(n i:Nat)(t:List (By×Int)):Prop where
 len:t.length<=i
 rows:∀q∈t,q.1.length=n
 nd:(t.map (·.1)).Nodup
 row:∀q∈t,∀x∈q.1,0<=x/\x<=9
 cnt:∀q∈t,1<=q.2/\q.2<=1000000000000
theorem DrawnI.nil:DrawnI n 0 []:=⟨by simp,by simp,by simp,by simp,by simp⟩
theorem DrawnI.put{t:List (By×Int)}(h:DrawnI n i t){c:Int}(f:r.length=n)(d:∀x∈r,0<=x/\x<=9)(h1:1<=c)(h2:c<=1000000000000):DrawnI n (i+1) (BS t r c) where
 len:=aR (Qz t r c) (Nat.add_le_add_right h.len 1)
 rows:=Xz h.rows f
 nd:=Q3 h.nd
 row:=λq a=>(Q8 a).elim (h.row q) λe=>by rw[e];exact d
 cnt:=λq a=>(Q8 a).elim (h.cnt q) λe=>by rw[e];exact⟨h1,h2⟩
def Q9(n:Nat)(r:By):Bool:=decide (r.length=n)&&r.all λx=>decide (0<=x/\x<=9)
def E8:List By->Bool
 |a::b::r=>HT.lexLt a b&&E8 (b::r)
 |_=>true
def RA(n:Nat)(t:List (By×Int)):Bool:=(t.all λq=>Q9 n q.1&&decide (1<=q.2))&&E8 (t.map (·.1))
end L2
namespace L2
open PySem PySem.Spec PyProof.Rows
theorem X0{a b:At}:(a.map P.str=b.map P.str)=(a=b):=propext ⟨Qv,λh=>by rw[h]⟩
theorem X1{a b:By}:(a.map P.int=b.map P.int)=(a=b):=propext ⟨Qu,λh=>by rw[h]⟩
theorem X2{a b:List (By×Int)}:(a.map Ax=b.map Ax)=(a=b):=propext ⟨λh=>JJ (λ_ _=>Qw) h,λh=>by rw[h]⟩
theorem X3{a b:List By}:(a.map AT=b.map AT)=(a=b):=propext ⟨λh=>JJ (λ_ _=>Lk) h,λh=>by rw[h]⟩
theorem Lp(t:List (By×Int)):(A6 t).length<=t.length:=by
 unfold A6;rw[aA];refine aR (length_filter_le _ _) ?_;rw[(DP _).length_eq,aA];exact aQ _
theorem Lq{t:List (By×Int)}(h:q∈A6 t):q.1∈t.map (·.1):=by
 unfold A6 at h;obtain⟨r,a,rfl⟩:=bU.mp h;exact(DP _).mem_iff.mp (cW.mp a).1
theorem RB:∀(t:List By),E8 t=true↔∀k a b,t[k]?=some a->t[k+1]?=some b->HT.lexLt a b=true
 |[]=>by simp[E8]
 |[x]=>by simp[E8]
 |x::y::r=>by
  have e:=RB (y::r);unfold E8;rw[cB,e];constructor
  ·rintro⟨h1,h2⟩ k a b d c;cases k with
   |zero=>simp at d c;rw[<-d,<-c];exact h1
   |succ k=>exact h2 k a b (by simpa using d) (by simpa using c)
  ·intro h;exact⟨h 0 x y rfl rfl,λk a b d c=>h (k+1) a b (by simpa using d) (by simpa using c)⟩
end L2
namespace L2
open PySem PySem.Spec PyProof.Rows PySem.W PySem.SeqAt
theorem X4{M:Model}{a:Type}(f:Nat->a->Sem (ForInStep a))(I:Ge->a->Shared->Prop)(Q:a->Shared->Prop)
  (turn:∀y l c u,I (y::l) c u->wpAny M A (f y c) (λz u'=>match z with|.yield c'=>I l c' u'|.done c'=>Q c' u') E u)
  (fin:∀b s,I [] b s->Q b s) (m:Nat) (b:a) (h:I (range' 0 m) b s):wpAny M A (forIn [0:m] b f) Q E s:=by
 rw[Std.Legacy.Range.forIn_eq_forIn_range'];simp only[Std.Legacy.Range.size,Nat.sub_zero,Nat.add_sub_cancel,Nat.div_one];exact wpAny_forIn_list f I Q turn fin _ b h
theorem X5(l:Addr)(items:FG)(n:Nat)(dd:Go)(r:Array Ex)(x:Value)(e:Value->Bool)(j:Nat)(E:j<items.size)
  (q:e items[j]=true) (p:∀m (D:m<items.size),m<j->e items[m]=false):Meets (Builtin.«tuple.index» ⟨[.ref l,x],[]⟩)
   (λA R s=>s.heap.get? l=some { cls:=.type "tuple",dict:=dd,data:=.seq items n,slots:=r }/\(∀y,y∈items->EqAt A.in1 s y x (e y))/\R (.ok (.ret (.int j s.toks))) { s with toks:=s.toks+1 }) :=
 .of_wp λprog w A R s h=>by
  obtain⟨u,g,d,tk,os⟩:=s;obtain⟨v,B,h⟩:=h
  wp_walk using wpAny_loadPart' v,X4 _ (λqF b s'=>b.1=none/\s'=⟨u,g,d,tk,os⟩/\∃i,i<=j/\qF=range' i (items.size - i)) _
  case turn =>
   rintro i qF b s' ⟨C,rfl,f,hi,o⟩;obtain⟨rfl,a⟩:i=f/\qF=range' (f+1) (items.size - (f+1)):=by
    have e:items.size - f=(items.size - (f+1))+1:=⋯;rw[e,range'_succ]at o;injection o with h1 h2
    exact⟨h1,h2⟩
   have c:i<items.size:=⋯;rw[cK c];refine wB (B _ (Array.getElem_mem c) prog w _ _ ?_);by_cases z:i=j
   ·subst z;rw[q]
    wp_walk
    exact⟨_,rfl,h⟩
   ·rw[p i c ⋯]
    wp_walk
    exact⟨rfl,rfl,i+1,⋯,a⟩
  case fin =>
   rintro⟨H,G⟩ s' ⟨C,rfl,i,hi,o⟩;exfalso;have:=aT length o;simp at this;lia
  case h =>
   exact⟨rfl,rfl,0,cD _,by simp⟩
def RC:V->dG->Hp->VK->Prop:=λx vs H Q=>∃(p:Addr) (ss:At) (z:Str) (j:Nat),x=.ref p/\vs=[.str z]/\H p=some (.tup (ss.map V.str))/\ss[j]?=some z/\(∀m,m<j->ss[m]?≠some z)/\Q (.int j) H
def RD(r:V->dG->Hp->VK->Prop)(to:TE)(t:TA):TE:=λσ H Q=>to σ H λx H1=>(∃p vs,x=.ref p/\H1 p=some (.tup vs))/\t σ H1 λxs H2=>r x xs H2 Q
section
variable{o e:Expr}{to:TE}{t:TA}{name:Str}{id:String}{r:V->dG->Hp->VK->Prop}
theorem X6(slot:Slot "tuple" name id)(j:typeOf (.builtin id)=pure (.type "method_descriptor"))(L:Gh X id r)(J:PE X o to)(M:PA X (e::es) t)
  (f:attributeBase o name X.env (eval o X.env)=eval o X.env:=by rfl)
  (g:((backTo qL (starEach (e::es) X.env)).all (λx=>!x.1)&&(backToKw qL (keywordEach [] X.env)).all (λx=>x.1.isSome)
   && decide ((e::es).length+([]:List Keyword).length+(if([]:List Keyword).isEmpty then 0 else 1)<30))=true:=by rfl)
  (d:(qM.endLine==qL.line)=true:=by rfl) (E:starEach (e::es) X.env=(false,eval e X.env)::starEach es X.env:=by rfl) (c:(backTo qL (starEach es X.env)).any (·.1)=false:=by rfl) :
  PE X (.Call (.Attribute o name qM) (e::es) [] qL) (RD r to t):=by
 intro qA s σ H Q I h;refine wpAny_Call_method_late f g d rfl (AG (J qA s σ H _ I h) λv i ⟨x,H1,w,A,⟨p,U,ex,G⟩,C⟩=>?_);subst ex;cases A;obtain⟨_,qH,_,D⟩:=w.hok p _ G;have l:i.TypeIs (.ref p) "tuple"/\∀a,Value.ref p=.ref a->∃n,i.heap.get? a=some n/\n.dict=none:=by
  obtain⟨o',u,O,_,N⟩:=D;exact⟨⟨_,u,O⟩,λa e=>by cases e;exact⟨_,u,N⟩⟩
 obtain⟨h1,h2⟩:=l;refine⟨"tuple",id,PySem.F.plainAttrs_tuple,slot,j,h1,h2,?_⟩;have q:=M qL qA i σ H1 _ w C;rw[E]at q ⊢;refine Calls.callWith_builtin (by show(false||(backTo qL (starEach es X.env)).any (·.1))=false;rw[c]<;>rfl) (Calls.evalArgs_plain ?_);exact AG q λus y ⟨vs,H2,T,z,B⟩=>L qA y σ H2 (.ref p) vs (.ref p) us Q T rfl z B
theorem X7:Gh X "tuple.index" RC:=by
 intro qA s σ H x vs v us Q I O rv h;obtain⟨p,o,z,j,rfl,rfl,hp,L,D,q⟩:=h;cases O;obtain⟨u,rfl,T⟩:=rv.one;obtain⟨t,rfl⟩:=T;obtain⟨_,qH,w,Y⟩:=I.hok p _ hp;have G:=w.length;rw[aA]at G;have l:∀(m:Nat) (g:m<qH.toArray.size),∃x t',o[m]?=some x/\qH.toArray[m]=.str x t':=λm g=>by
  have r:m<o.length:=by simpa[G]using g
  obtain⟨y,f,t',d⟩:=w.get (i:=m) (x:=V.str o[m]) (by simp[r]);refine⟨o[m],t',by simp[r],?_⟩;have B:qH[m]?=some (qH.toArray[m]):=by simp[show m<qH.length by simpa using g]
  rw[f]at B;exact(oI B).symm.trans d
 have J:j<o.length:=(aI.mp L).1;have A:j<qH.toArray.size:=by simpa[<-G]using J
 obtain⟨n,C,N⟩:∃(n:Nat) (C:Array Ex),s.heap.get? p=some { cls:=.type "tuple",dict:=none,data:=.seq qH.toArray n,slots:=C }:=by
  obtain⟨⟨c,dd,da,C⟩,f,d,⟨n,B⟩,M⟩:=Y;simp only at d B M;subst d B M;exact⟨n,C,f⟩
 refine call_meets PySem.F.slot_tuple_index ⟨_,N,rfl⟩ PySem.F.entry_tuple_index (PySem.F.args_tuple_index_2 _ _)
  (X5 p qH.toArray _ none _ (.str z t) (λy=>match y with|.str a _=>a==z|_=>false) j A ?_ ?_) ⟨N,λy U=>?_,⟨.int j,H,I.tok _,⟨_,rfl⟩,q⟩⟩
 ·obtain⟨x,t',f,d⟩:=l j A;rw[L]at f;cases f;rw[d];simp
 ·intro m g E;obtain⟨x,t',f,d⟩:=l m g;rw[d];have:x≠z:=λe=>D m E (by rw[f,e]);simp[this]
 ·obtain⟨m,g,rfl⟩:=Array.getElem_of_mem U;obtain⟨x,t',f,d⟩:=l m g;rw[d];exact EqAt.str_str x t' z t
end
end L2
namespace L2
open PySem PySem.Spec PyProof.Rows PySem.W
def RE(po pe:pE):pE:=λρ K=>po ρ λx _=>(∃xs,x=.tup xs)/\pe ρ λy _=>∃(ss:At) (z:Str) (j:Nat),x=AJ ss/\y=.str z/\ss[j]?=some z/\(∀m,m<j->ss[m]?≠some z)/\K (.int j) .fr
section
variable{ι:Type}{Xs:ι->Cx}{o e:Expr}{po:pE}
theorem RG(G:QE Xs o po)(L:QE Xs e pe)(M:∀i,attributeBase o "index" (Xs i).env (eval o (Xs i).env)=eval o (Xs i).env:=by intro _;rfl)
  (I:(qM.endLine==qL.line)=true:=by rfl) (d:∀i,starEach [e] (Xs i).env=[(false,eval e (Xs i).env)]:=by intro _;rfl):QE Xs (.Call (.Attribute o "index" qM) [e] [] qL) (RE po pe):=by
 obtain⟨to,E,D⟩:=G;obtain⟨te,e1,e2⟩:=L;refine⟨RD RC to (CC te CB),λi=>X6 PySem.F.slot_tuple_index PySem.F.type_tuple_index X7 (E i) (Av (e1 i) BE (d i)) (M i) (by rw[d i];rfl) I (d i) rfl,λW ρ σ H Q K ok J q=>D W ρ σ H _ _ ok J λx f v H1 ⟨⟨xs,ex⟩,h1⟩ r s=>?_⟩;have a:=ok.step r;subst ex;obtain⟨p,us,rfl,c,rv⟩:=Dh a s;refine⟨⟨p,us,rfl,c⟩,e2 W ρ σ H1 _ _ a h1 λy g u H2 ⟨B,z,j,Y,U,T,O,k2⟩ l C=>?_⟩;have h:=a.step l;obtain⟨p',A,N,w,n⟩:=Dh h (s.step a l);cases N;cases Y;subst U;cases E1 h C;rw[AB.strs.mp n]at w;exact⟨p,B,z,j,rfl,rfl,w,T,O,q _ _ _ _ k2 (r.trans l) EO⟩
end
def Lr:pC:=λxs K=>match xs with
 |[(.int i,_),(.int j,_)]=>K (.int (if j<i then j else i)) .fr
 |_=>False
theorem X8:B3 (λxs H Q=>∃i j,xs=[.int i,.int j]/\Q (.int (if j<i then j else i)) H) Lr:=λW ρ σ Hs H Q K xs vs ok st r a q=>by
 unfold Lr at a;split at a
 ·obtain⟨v,u,rfl,d,c⟩:=r.two;cases Bw ok d;cases Bw ok c;exact⟨_,_,rfl,q _ _ _ H a (Step.refl ok.bag) EO⟩
 ·exact a.elim
end L2
namespace PySem
open PySem.Sem (wp)
theorem X9:typeLookup (.type "list") (Str.ofString "keys")=pure none:=am_miss_of_fast nofun
theorem YA{o:Obj}{xs:FG}{k:Nat}{Q:Ex->Shared->Prop}
  (n:s.heap.get? a=some o) (q:o.cls=.type "list") (f:o.data=.seq xs k) (p:o.dict=none) (B:A.handled=none)
  (h:∀h' tk e,Heap.NewExcOf s.heap h' e "AttributeError"->Q none { s with heap:=h',toks:=tk }) :
  wpAny (model prog w) A (getAttr? (.ref a) (Str.ofString "keys")) Q E s:=by
 obtain⟨c,x,y,u⟩:=o;simp only at q f p;subst q f p;obtain⟨v,g,d,tk,os⟩:=s;have r:∀j,(⟨v,g,d,j,os⟩:Shared).TypeIs (.ref a) "list":=λ_=>⟨_,n,rfl⟩;have H:=sub_AttributeError;have G:=F.slot_list_getattribute.lookup;have D:=F.slot_list_getattribute.bind (.ref a);have C:=am_list_getattr_none;have i:=X9;unfold getAttr? getAttrBy? getAttrBy
 repeat (any_goals (first|assumption|exact r _|((with_reducible show wpAny _ _ (call (Value.builtin "list.__getattribute__") _ _) _ _ _);refine call_meets F.slot_list_getattribute (r _) am_entry_list_getattribute (F.args_list_getattribute_2 _ _) (meets_getattribute_miss_list a xs k u (Str.ofString "keys") _ i nofun) ⟨n,by assumption,λh' j e l=>?_⟩)|wp_step))
 obtain⟨t',u',z⟩:=l.there;show wpAny _ _ (getattributeRaised _ _ _ _ _ _ _) _ _ _;unfold getattributeRaised
 repeat (any_goals (first|assumption|wp_step))
 all_goals first|exact h _ _ _ l.of|trace_state
end PySem
namespace L2
open PySem PySem.Spec PyProof.Rows PySem.W
theorem JM:plainId "dict.update.loop"=true:=by decide +kernel
theorem RH:entryFor table "dict.update.loop"=some Builtin.«dict.update.loop»:=entryFor_of_fast (by kernel_rfl)
theorem YB(e:H a=some o):AD H a o=H:=by
 funext b
 by_cases c:b=a
 ·subst c;rw[Aa,e]
 ·rw[AK c]
theorem YC{qI:List (List AO×V)}{k:List AO}{b:Addr}{r:Value}{B:Around}{Q:Unit->Shared->Prop}(n:(tupleKind (B0 X.prog X.w)).room B)(I:Inv X qA σ H s)(e:H a=some (.dT qI))(i:H b=some (.tup (k.map kV)))(l:qI.length<sizeLine)(rv:AH v r)
  (h:∀s',Inv X qA σ (AD H a (.dT (BV qI k v))) s'->Heap.SameBut a s.heap s'.heap->Q () s'):wpAny (model X.prog X.w) B (dictSet a (.ref b) r) Q E s:=by
 obtain⟨z,p,xs,rel,dd⟩:=Kl I.hok e;have j:xs.length<=sizeLine:=by rw[<-Paired.length rel];exact z
 have o:(BV qI k v).length<=sizeLine:=by have:=Gn qI k v;lia
 refine wpAny_dictSet_heap (hsz:=j) n (FW I.hok i) dd λh' dd' d=>h _ ?_ d;obtain⟨q,es,ep,f,h2,y,x,_,u⟩:=dd';refine Gr I (by rw[e];exact True.intro) d ⟨q,f⟩ ⟨o,p,_,(rel.put k i rv).keeps λc ys g=>?_,q,es,ep,f,h2,y,x,u⟩;rw[AK (EC g e (λz=>nomatch z))];exact g
def Fy(qI:List (List AO×V)):List (Addr×List AO×Addr×V)->List (List AO×V)
 |[]=>qI
 |p::r=>Fy (BV qI p.2.1 p.2.2.2) r
theorem YD(hh:A.handled=none)(hr:(tupleKind (B0 X.prog X.w)).room A.in1){R:Result->Shared->Prop}{l:Addr}{ps:List (Addr×List AO×Addr×V)}:∀(n i:Nat) (s:Shared) (H:Hp) (qI:List (List AO×V)),ps.length - i=n->i<=ps.length->Inv X qA σ H s->H d=some (.dT qI) ->
  H l=some (.lst (ps.map λp=>V.ref p.1))->(∀p∈ps,H p.1=some (.tup [.ref p.2.2.1,p.2.2.2])/\H p.2.2.1=some (.tup (p.2.1.map kV)))->s.heap.IsListIter it l i->Bq X qA H it->qI.length+n<sizeLine ->
  (∀s',Inv X qA σ (AD H d (.dT (Fy qI (ps.drop i)))) s'->R (.ok (.ret .none)) s') ->
  wpAny (model X.prog X.w) A.in1 (Builtin.«dict.update.loop» ⟨[.ref d,.ref it,rawInt i,.none],[]⟩) (λfin s'=>match fin with|.done f=>R (.ok f) s'|.again c'=>c'.quiet=true/\codeAny (model X.prog X.w) A c' R s') (λe s'=>R (.error e) s') s:=by
 intro n
 induction n with
 |zero =>
  intro i s H qI hn hi I h el c st L G k;have J:i=ps.length:=⋯;obtain⟨qH,rv,pl,hz⟩:=I.list (.of el);have hl:=rv.length;rw[aA]at hl;obtain⟨g,B,Q,y,v,q⟩:=L;unfold Builtin.«dict.update.loop»;refine wB (wpAny_pyNext_list_end (A:=A.in1) hh st pl.isList (by simp;lia) λh' eb=>?_);have C:Inv X qA σ H { s with heap:=h' }:=I.turned (t':=s.toks) (λb o M e=>eb b o M e) g B y v q;have:=k _ (by rw[J,drop_length];unfold Fy;rw[YB h];exact C);show wpAny _ _ (Builtin.Dict.addKeywords d [] >>= _) _ _ _;exact wB (wP (wP this))
 |succ n ih =>
  intro i s H qI hn hi I h el c st L G k;have a:i<ps.length:=⋯;obtain⟨qH,rv,pl,hz⟩:=I.list (.of el);obtain⟨h1,h2⟩:=c ps[i] (getElem_mem a);obtain⟨u,hu,ru⟩:=rv.get (i:=i) (x:=V.ref ps[i].1) (by simp[a]);cases ru;obtain⟨g,B,Q,y,v,q⟩:=id L;unfold Builtin.«dict.update.loop»;refine wB (wpAny_pyNext_list_item st pl.isList (x:=.ref ps[i].1) (by simpa using hu) λh' D sb=>?_);have C:Inv X qA σ H { s with heap:=h' }:=I.turned (t':=s.toks) (λb o M e=>(sb.2 b M).trans e) g B y v q;obtain⟨_,ts,w1,o1,O,g2,⟨n1,g3⟩,_⟩:=C.hok _ _ h1;obtain⟨u1,N,rfl,r1,r2⟩:=N1 w1;cases r1;have hT:(⟨h',s.gens,s.drawn,s.toks,s.os⟩:Shared).TypeIs (.ref ps[i].1) "tuple":=⟨o1,O,g2⟩;have j:it≠d:=λz=>by rw[z,h]at g;cases g
  dsimp only;refine wB (bM ?_);refine wB (wpAny_tryCatch ?_);unfold Builtin.Dict.pairItems;refine wB (wpAny_typeOf hT ?_);rw[aC (by decide)];refine wB (wpAny_seqItems O g3 ?_);refine wP ?_;show wpAny _ _ (holding [Value.ref ps[i].2.2.1,N] (dictSet d (.ref ps[i].2.2.1) N)) _ _ _;refine bM (YC hr C h h2 ⋯ r2 λs2 I2 E=>?_);refine wP ⟨plainId_quiet JM _,codeAny_builtin RH ?_⟩;rw[Around.under_plainId JM _];have hc:((i:Int)+1)=((i+1:Nat):Int):=by push_cast;rfl
  rw[hc];have nt:∀b ys,H b=some (HO.tup ys)->b≠d:=λb ys e=>EC e h (λz=>nomatch z);have a0:=Gn qI ps[i].2.1 ps[i].2.2.2;refine ih (i+1) s2 _ _ ⋯ a I2 Aa (by rw[AK (EC el h (λz=>nomatch z))];exact el) (λp hp=>?_) ?_ ⟨by rw[AK j];exact g,B,Q,y,v,q⟩ ⋯ λs' Y=>k s' ?_
  ·obtain⟨U,T⟩:=c p hp;exact⟨by rw[AK (nt _ _ U)];exact U,by rw[AK (nt _ _ T)];exact T⟩
  ·obtain⟨o,e,r⟩:=D;exact⟨o,(E.2 it j).trans e,r⟩
  ·rw[H0]at Y;rw[drop_eq_getElem_cons a];exact Y
def RI:dG->Hp->VK->Prop:=λxs H Q=>∃(l:Addr) (ps:List (Addr×List AO×Addr×V)),xs=[.ref l]/\H l=some (.lst (ps.map λp=>V.ref p.1))/\(∀p∈ps,H p.1=some (.tup [.ref p.2.2.1,p.2.2.2])/\H p.2.2.1=some (.tup (p.2.1.map kV)))/\ps.length<16777216 /\
 ∀d,H d=none->Q (.ref d) (AD H d (.dT (Fy [] ps)))
theorem RJ{k:Nat}(n:X.calm=true)(G:Room k X.A):BJ X (.type "dict") RI:=by
 intro qA s σ H xs us Q I r h;obtain⟨l,ps,rfl,j,g,hz,q⟩:=h;obtain⟨u,rfl,C⟩:=r.one;cases C;have FK:H s.heap.objs.size=none:=I.hok.fresh (aQ _);have y:Inv X qA σ (AD H s.heap.objs.size (.dT [])) { s with heap:=s.heap.push { cls:=.type "dict",data:=.dict #[] } } :=
  I.laid (t':=s.toks) (λb o e=>aS _ e) (aQ _) (OW s.heap (modules_low I.nolimit))
 refine callType_codes (Q₁:=λc a=>c=.ref s.heap.objs.size/\a={ s with heap:=s.heap.push { cls:=.type "dict",data:=.dict #[] } }) F.kt_called_dict (F.kt_typeCall_dict_1 _) F.entry_dict_init (kt_code_dict_new _ ⟨rfl,rfl⟩) ?_;rintro c a ⟨rfl,rfl⟩;have v:(⟨s.heap.push { cls:=.type "dict",data:=.dict #[] },s.gens,s.drawn,s.toks,s.os⟩:Shared).TypeIs (.ref s.heap.objs.size) "dict":=⟨_,bP _ rfl,rfl⟩;have el:(AD H s.heap.objs.size (.dT [])) l=some (.lst (ps.map λp=>V.ref p.1)):=by rw[AK (A2 j FK)];exact j
 refine⟨v,F.args_dict_init_2 _ _,?_⟩;unfold Builtin.«dict.__init__»;refine wB ?_;unfold Builtin.Dict.selfAndRest;refine wB (wpAny_notOrdered_dict v ?_);show wpAny _ _ (pure (s.heap.objs.size,[Value.ref l])) _ _ _;refine wP ?_;show wpAny _ _ (Builtin.Dict.updateFrom "dict.__init__" s.heap.objs.size (.ref l) [] .none) _ _ _;unfold Builtin.Dict.updateFrom;obtain⟨qH,rv,pl,D⟩:=y.list (.of el);obtain⟨U,Y,O,N,M,L⟩:=id pl;refine wB (wpAny_typeOf pl.isList.typeIs ?_);rw[aC (by decide)];refine wB (YA O N L M (I.ok.hd n) λh' tk e E=>?_);have d:=y.kept (t':=tk) (h':=h') E.keeps;simp only[Option.isNone_none,dC];refine wB (wpAny_rule ?_);obtain⟨i,B,f,_⟩:=d.list (.of el);refine wB (wpAny_pyIter_list f.isList ?_);have T:=d.kept (t':=tk) (h':=h'.push { cls:=.type "list_iterator",data:=.fields #[.ref l,.int 0 0] }) λb o e=>aS _ e;refine wP ⟨plainId_quiet JM _,codeAny_builtin RH ?_⟩;rw[Around.under_plainId JM _];refine YD (A:=X.A.in1) (l:=l) (ps:=ps) (I.ok.hd n) (tupleKind_room_in1 (by rw[Fp];have:=G.un;lia)) _ 0 _ _ [] rfl (cD _) T Aa el (λp J=>?_) ⟨_,bP _ rfl,rfl,rfl⟩ (d.fpOk (aQ _) (d.hok.fresh (aQ _))) ?_ λs' z=>⟨rfl,.ref s.heap.objs.size,_,?_,rfl,q _ FK⟩
 ·obtain⟨x,w⟩:=g p J;exact⟨by rw[AK (A2 x FK)];exact x,by rw[AK (A2 w FK)];exact w⟩
 ·show 0+(ps.length - 0)<16777216;lia
 ·rw[H0,drop_zero]at z;exact z
def JN(t:List (By×Int)):List (By×Int):=t.foldl (λa q=>BS a q.1 q.2) []
def Ls:pC:=p1 λx _ K=>∃t,x=AL t/\t.length<16777216/\K (CK (JN t)) .nw
theorem RK{b:Addr}{Z:Addr->Prop}{H:Hp}:∀{t:List (By×Int)} {us:dG},AB b Z H (t.map Ax) us->∃ps:List (Addr×List AO×Addr×V),us=(ps.map λp=>V.ref p.1)/\ps.map (λp=>(p.2.1,p.2.2.2))=t.map (λq=>(AY q.1,V.int q.2)) /\
  ∀p∈ps,H p.1=some (.tup [.ref p.2.2.1,p.2.2.2])/\H p.2.2.1=some (.tup (p.2.1.map kV))
 |[],us,h=>⟨[],h,rfl,λ_ h=>nomatch h⟩
 |q::t,us,h=>by
  obtain⟨v,r,rfl,⟨a,s,rfl,c,u,w,rfl,⟨g,ks,rfl,d,k2⟩,e,f,rfl,o,n⟩,h2⟩:=h;obtain⟨ps,l,j,i⟩:=RK h2;cases(show e=.int q.2 from o);cases(show f=[]from n);rw[AB.ints.mp k2]at d;refine⟨(a,AY q.1,g,.int q.2)::ps,by rw[l];rfl,by rw[map_cons,map_cons,j],λp hp=>?_⟩;rcases aF.mp hp with rfl|hp
  ·exact⟨c,by rw[Ld];exact d⟩
  ·exact i p hp
theorem YE(a:List (By×Int))(r:By)(c:Int):BV (a.map λq=>(AY q.1,V.int q.2)) (AY r) (.int c)=(BS a r c).map λq=>(AY q.1,V.int q.2):=by
 unfold BV BS;have e:(a.map λq=>(AY q.1,V.int q.2)).any (λg=>decide (g.1=AY r))=decide (r∈a.map (·.1)):=by
  rw[Bool.eq_iff_iff,any_eq_true,aW];constructor
  ·rintro⟨x,i,j⟩;obtain⟨q,d,rfl⟩:=bU.mp i;have:=EY _ _ (aL j);exact bU.mpr ⟨q,d,this⟩
  ·intro h;obtain⟨q,d,rfl⟩:=bU.mp h;exact⟨_,aP d,aK rfl⟩
 rw[e];by_cases h:r∈a.map (·.1)
 ·rw[aC (aK h),aC h,bZ,bZ];refine cF λq _=>?_;by_cases z:q.1=r
  ·simp[z]
  ·have f:¬AY q.1=AY r:=λh=>z (EY _ _ h);simp[z,f]
 ·rw[aB (by simpa using h),aB h];simp
theorem RL:∀(ps:List (Addr×List AO×Addr×V)) (t a:List (By×Int)),ps.map (λp=>(p.2.1,p.2.2.2))=t.map (λq=>(AY q.1,V.int q.2))->Fy (a.map λq=>(AY q.1,V.int q.2)) ps=(t.foldl (λa q=>BS a q.1 q.2) a).map λq=>(AY q.1,V.int q.2)
 |[],[],a,_=>rfl
 |[],_::_,_,h=>by simp at h
 |_::_,[],_,h=>by simp at h
 |p::ps,q::t,a,h=>by
  simp only[map_cons,List.cons.injEq,Prod.mk.injEq]at h;unfold Fy;rw[h.1.1,h.1.2,YE,foldl_cons];exact RL ps t _ h.2
theorem YF(t:List (By×Int)):((t.map (·.1)).map AY).zip (t.map λq=>V.int q.2)=t.map λq=>(AY q.1,V.int q.2):=by
 induction t with
 |nil=>rfl
 |cons q t a=>simp only[map_cons,zip_cons_cons,a]
theorem YG{b:Addr}(t:List (By×Int)):AB b Z H (t.map λq=>P.int q.2) (t.map λq=>V.int q.2):=by
 have:=(AB.ints (b:=b) (Z:=Z) (H:=H) (ns:=t.map (·.2)) (vs:=(t.map (·.2)).map V.int)).mpr rfl;simpa[bZ,Function.comp_def]using this
theorem RM:B3 RI Ls:=λW ρ σ Hs H Q K xs vs ok st r g q=>by
 unfold Ls p1 at g;split at g
 ·obtain⟨v,rfl,rv⟩:=r.one;obtain⟨t,rfl,u,n⟩:=g;obtain⟨p,us,rfl,c,l⟩:=Bx ok rv;obtain⟨ps,s,j,o⟩:=RK l;have i:ps.length=t.length:=by have:=aT length j;simpa using this
  refine⟨p,ps,rfl,by rw[c,s],o,⋯,λd h=>q _ _ _ _ n (Step.new ok.bag h) ?_⟩;have e:=RL ps t [] j;rw[map_nil]at e;rw[e,show t.foldl (λa q=>BS a q.1 q.2) []=JN t from rfl,<-YF];refine⟨⟨d,_,rfl,λz=>ok.dom (f:=.fr) z h,Aa,by simp,YG _⟩,λ_=>⟨d,rfl,st.free h⟩⟩
 ·exact g.elim
theorem YH(g:X.calm=true):BJ X (.builtin "sum") (λxs H Q=>∃(p:Addr) (ns:By),xs=[.ref p]/\Aq X.K H p (ns.map V.int)/\Q (.int ns.sum) H):=by
 intro qA s σ H xs us Q I r h;obtain⟨p,ns,rfl,d,q⟩:=h;obtain⟨u,rfl,c⟩:=r.one;cases c;obtain⟨qH,r,pl,i⟩:=I.list d;have hi:=Es r;obtain⟨xs,e⟩:=hi.allInts.items;have a:(numsOf qH.toArray.toList).sum=ns.sum:=by rw[show qH.toArray.toList=qH from rfl,hi.numsOf]
 rw[e,nums_intItems]at a;refine sum_intListG (I.ok.hd g) (xs:=xs) (by rw[<-e];exact pl.isList) λh' tk t' f=>⟨.int ns.sum,H,I.kept (t':=tk) f,⟨t',?_⟩,q⟩;rw[preSum_eq,aZ (by simp),a]
def Lu:pC:=p1 λx f K=>∃ns:By,x=.lst (ns.map P.int)/\K (.int ns.sum) .fr
theorem YI:B3 (λxs H Q=>∃(p:Addr) (ns:By),xs=[.ref p]/\Aq Kf H p (ns.map V.int)/\Q (.int ns.sum) H) Lu:=λW ρ σ Hs H Q K xs vs ok st r a q=>by
 unfold Lu p1 at a;split at a
 ·obtain⟨v,rfl,rv⟩:=r.one;obtain⟨ns,rfl,e⟩:=a;obtain⟨p,us,rfl,c,d⟩:=Bx ok rv;rw[AB.ints.mp d]at c;exact⟨p,ns,rfl,.of c,q _ _ _ H e (Step.refl ok.bag) EO⟩
 ·exact a.elim
def Cg(b:Addr×By):List (Addr×By)->Addr×By
 |[]=>b
 |p::r=>if HT.lexLt p.2 b.2=true then Cg p r else Cg b r
theorem Inv.off{S:Addr}(I:Inv X qA σ H s)(a:Bq X qA H S)(k:∀b o,b≠S->s.heap.get? b=some o->h'.get? b=some o):Inv X qA σ H { s with heap:=h' }:=by
 obtain⟨g,f,h,e,d,c⟩:=a;exact I.turned (t':=s.toks) k g f e d c
theorem YJ(hh:A.handled=none)(hu:A.in1.units<cLine){R:Result->Shared->Prop}{l S:Addr}{ps:List (Addr×By)}{dv:Value}(q:S≠it):∀(n i:Nat) (s:Shared) (H:Hp) (a:Addr×By) (c:Nat),ps.length - i=n->i<=ps.length->Inv X qA σ H s ->
  H l=some (.lst (CF ps))->(∀p∈ps,H p.1=some (.tup (p.2.map V.int)))->H a.1=some (.tup (a.2.map V.int))->s.heap.IsListIter it l i->s.heap.get? S=some { cls:=.type "list",dict:=none,data:=.seq #[.ref a.1,.ref a.1] c,slots:=#[] } ->
  Bq X qA H it->Bq X qA H S->(∀s',Inv X qA σ H s'->R (.ok (.ret (.ref (Cg a (ps.drop i)).1))) s') ->
  codeAny (model X.prog X.w) A (.builtin "min.loop" ⟨[.ref it,.none,.ref S],[(Str.ofString "default",dv)]⟩) R s:=by
 have d:(toString "min"++toString ".loop":String)="min.loop":=by decide
 intro n
 induction n with
 |zero =>
  intro i s H a c hn hi I el D h st z B C k;have G:i=ps.length:=⋯;obtain⟨qH,rv,pl,hz⟩:=I.list (.of el);have hl:=rv.length;rw[aA]at hl;refine codeAny_builtin F.entry_min_loop ?_;rw[Around.under_plainId F.plain_min_loop _];show wpAny _ A.in1 (seqItems? (.ref S) >>= _) _ _ s;refine wB (wpAny_seqItems z rfl ?_);show wpAny _ A.in1 (tryCatch (pyNext (.ref it)) _ >>= _) _ _ s;refine wB (wpAny_tryCatch (wpAny_pyNext_list_end (A:=A.in1) hh st pl.isList (by simp;lia) λh' N=>?_));have v:=I.off (h':=h') B (λb o h e=>N b o h e);have j:=N S _ q z;show wpAny _ A.in1 (updateSeq S (λ_=>#[]) >>= _) _ _ _;refine wB ?_;refine wpAny_updateSeq j rfl (wB (wpAny_letGo (wP ?_)));rw[G,drop_length]at k;exact k _ (v.off C (λb o h e=>(cL _ _ (Ne.symm h)).trans e))
 |succ n L =>
  intro i s H a c hn hi I el D h st z B C k;have g:i<ps.length:=⋯;obtain⟨qH,rv,pl,hz⟩:=I.list (.of el);have h1:=D ps[i] (getElem_mem g);obtain⟨u,E,Y⟩:=rv.get (i:=i) (x:=V.ref ps[i].1) (by simp[g]);cases Y;refine codeAny_builtin F.entry_min_loop ?_;rw[Around.under_plainId F.plain_min_loop _];show wpAny _ A.in1 (seqItems? (.ref S) >>= _) _ _ s;refine wB (wpAny_seqItems z rfl ?_);show wpAny _ A.in1 (tryCatch (pyNext (.ref it)) _ >>= _) _ _ s;refine wB (wpAny_tryCatch (wpAny_pyNext_list_item st pl.isList (x:=.ref ps[i].1) (by simpa using E) λh' y J=>?_));have v:=I.off (h':=h') B (λb o h e=>(J.2 b h).trans e);have j:=(J.2 S q).trans z;obtain⟨U,Q,p1,_⟩:=v.tuple (.of h1);obtain⟨T,O,p2,_⟩:=v.tuple (.of h);have i1:IntsAre U.toArray.toList ps[i].2:=Es Q;have i2:IntsAre T.toArray.toList a.2:=Es O;show wpAny _ A.in1 (tryCatch (holding [Value.ref ps[i].1,Value.ref ps[i].1] (compareOp .Lt (.ref ps[i].1) (.ref a.1) >>= _)) _ >>= _) _ _ _;refine wB (wpAny_tryCatch (bM (wB (HT.lt_tupInts p1 p2 i1 i2 hu ?_))));refine wB (bM (wpAny_truthy_bool ?_));refine wB (wpAny_letGo (wP ?_));rw[drop_eq_getElem_cons g]at k;cases M:HT.lexLt ps[i].2 a.2 with
  |true =>
   simp only[Cg,M,dC]at k;simp only[dC];refine wB ?_;refine wpAny_updateSeq j rfl (wB (wpAny_letGo ?_));rw[d];have I2:=λf=>v.off C (h':=h'.update S f) (λb o h e=>(cL _ _ (Ne.symm h)).trans e);refine wP ⟨plainId_quiet F.plain_min_loop _,L (i+1) _ H ps[i] _ ⋯ g (I2 _) el D h1 ?_ (Heap.get?_update_self _ j rfl) B C k⟩;obtain⟨o,e,r⟩:=y;exact⟨o,(cL _ _ q).trans e,r⟩
  |false =>
   simp only[Cg,M,Bool.false_eq_true,if_false]at k;simp only[Bool.false_eq_true,if_false];refine wB (wpAny_letGo ?_);rw[d];exact wP ⟨plainId_quiet F.plain_min_loop _,L (i+1) _ H a c ⋯ g v el D h y j B C k⟩
theorem YK(a d:Value):argsOk "min" ⟨[a],[(Str.ofString "default",d)]⟩:=by unfold argsOk;kernel_rfl
theorem YL{id:String}{b:Builtin}{args:Do}{e:List (Str×Value)}(j:builtinKind id=none)(i:plainId id=true)
  (l:entryFor table id=some b) (a:argsOk id ⟨args,e⟩) (h:wpAny (model prog w) A.in1 (b ⟨args,e⟩) (λz g=>match z with|.done f=>wants Q E (.ok f) g|.again c=>c.quiet=true/\codeAny (model prog w) A c (wants Q E) g) E s) :
  wpAny (model prog w) A (call (.builtin id) args e) Q E s:=wpAny_call (codeAny_call_builtin i l (by
 unfold checkBuiltinCall;rw[j];cases es:Manifest.signature? id with
 |none=>exact wP h
 |some d =>
  simp only[argsOk,es]at a;have h2:Bind.checkArgs id d ⟨args,e⟩=pure ():=a;show wpAny _ A.in1 (Bind.checkArgs id d ⟨args,e⟩) _ _ s;rw[h2];exact wP h))
theorem YM{k:Nat}(T:X.calm=true)(hr:Room k X.A){l:Addr}{ps:List (Addr×By)}{y:Value}{Q:VK}(I:Inv X qA σ H s)(el:H l=some (.lst (CF ps)))(j:∀p∈ps,H p.1=some (.tup (p.2.map V.int)))(rd:AH v y)
  (B:ps=[]->Q v H) (z:∀b r,ps=b::r->Q (.ref (Cg b r).1) H):wpAny (model X.prog X.w) X.A (call (.builtin "min") [.ref l] [(Str.ofString "default",y)]) (EP X qA σ Q) X.xe s:=by
 have c:(toString "min"++toString ".loop":String)="min.loop":=by decide
 refine YL F.kind_min F.plain_min F.entry_min (YK _ _) ?_;show wpAny _ X.A.in1 (Builtin.Builtins.bindParams "min" ["key","default"] 0 ⟨[],[(Str.ofString "default",y)]⟩ >>= _) _ _ s;refine wB (wpAny_of_eq (show Builtin.Builtins.bindParams "min" ["key","default"] 0 ⟨[],[(Str.ofString "default",y)]⟩=pure [none,some y]from rfl) ?_);refine wB (wP ?_);obtain⟨qH,rv,pl,hz⟩:=I.list (.of el);refine wB (wpAny_pyIter_list pl.isList ?_);have M:=I.kept (t':=s.toks) (h':=s.heap.push { cls:=.type "list_iterator",data:=.fields #[.ref l,.int 0 0] }) λb o e=>aS _ e;refine wB (cG ?_);rw[c];have L:=M.kept (t':=s.toks) (h':=(s.heap.push { cls:=.type "list_iterator",data:=.fields #[.ref l,.int 0 0] }).push { cls:=.type "list",data:=.seq #[] }) λb o e=>aS _ e;have E:(s.heap.push { cls:=.type "list_iterator",data:=.fields #[.ref l,.int 0 0] }).objs.size=s.heap.objs.size+1:=size_push' _ _;have G:Bq X qA H s.heap.objs.size:=I.fpOk (aQ _) (I.hok.fresh (aQ _));have Y:Bq X qA H (s.heap.push { cls:=.type "list_iterator",data:=.fields #[.ref l,.int 0 0] }).objs.size:=M.fpOk (aQ _) (M.hok.fresh (aQ _));have g:(s.heap.push { cls:=.type "list_iterator",data:=.fields #[.ref l,.int 0 0] }).objs.size≠s.heap.objs.size:=by rw[E];lia
 have st:((s.heap.push { cls:=.type "list_iterator",data:=.fields #[.ref l,.int 0 0] }).push { cls:=.type "list",data:=.seq #[] }).IsListIter s.heap.objs.size l 0:=⟨_,aS _ (bP _ rfl),rfl,rfl⟩;have U:((s.heap.push { cls:=.type "list_iterator",data:=.fields #[.ref l,.int 0 0] }).push { cls:=.type "list",data:=.seq #[] }).get? (s.heap.push { cls:=.type "list_iterator",data:=.fields #[.ref l,.int 0 0] }).objs.size=some { cls:=.type "list",dict:=none,data:=.seq #[] 0,slots:=#[] }:=bP _ rfl;generalize (s.heap.push { cls:=.type "list_iterator",data:=.fields #[.ref l,.int 0 0] }).objs.size=S at *;generalize s.heap.objs.size=it at *;generalize ((s.heap.push { cls:=.type "list_iterator",data:=.fields #[.ref l,.int 0 0] }).push { cls:=.type "list",data:=.seq #[] })=h2 at *;refine wP ⟨plainId_quiet F.plain_min_loop _,codeAny_builtin F.entry_min_loop ?_⟩;rw[Around.under_plainId F.plain_min_loop _];show wpAny _ X.A.in1 (seqItems? (.ref S) >>= _) _ _ _;refine wB (wpAny_seqItems U rfl ?_);show wpAny _ X.A.in1 (tryCatch (pyNext (.ref it)) _ >>= _) _ _ _;obtain⟨O,a,h,a0⟩:=L.list (.of el);have d:=a.length;rw[aA]at d
 match ps,el,j,B,z,a,d with
 |[],el,j,B,z,a,d =>
  refine wB (wpAny_tryCatch (wpAny_pyNext_list_end (A:=X.A.in1) (I.ok.hd T) st h.isList (by simp;exact cM (by simpa using d.symm)) λh' eb=>?_));have J:=L.off (h':=h') G (λb o n e=>eb b o n e);show wpAny _ X.A.in1 (rule _ >>= _) _ _ _;exact wB (wpAny_rule (wP ⟨v,H,J,rd,B rfl⟩))
 |b::r,el,j,B,z,a,d =>
  obtain⟨u,D,ru⟩:=a.get (i:=0) (x:=V.ref b.1) rfl;cases ru;refine wB (wpAny_tryCatch (wpAny_pyNext_list_item st h.isList (x:=.ref b.1) (by simpa using D) λh' C N=>?_));have J:=L.off (h':=h') G (λb o n e=>(N.2 b n).trans e);have q:=(N.2 S g).trans U;show wpAny _ X.A.in1 (updateSeq S (λ_=>#[Value.ref b.1,Value.ref b.1]) >>= _) _ _ _;refine wB ?_;refine wpAny_updateSeq q rfl ?_;rw[c];have I4:=λf=>J.off Y (h':=h'.update S f) (λb o n e=>(cL _ _ (Ne.symm n)).trans e);refine wP ⟨plainId_quiet F.plain_min_loop _,YJ (ps:=b::r) (I.ok.hd T) (by rw[Fp];have:=hr.un;lia) g _ 1 _ H b _ rfl (by simp) (I4 _) el j (j b cA) ?_ (Heap.get?_update_self _ q rfl) G Y λs' I'=>⟨.ref (Cg b r).1,H,I',rfl,z b r rfl⟩⟩;obtain⟨o,e,rr⟩:=C;exact⟨o,(cL _ _ g).trans e,rr⟩
def YN(te td:TE):TE:=λσ H Q=>CC te CB σ H λvs H1=>CC td CB σ H1 λzs H2=>∃(l:Addr) (ps:List (Addr×By)) (v:V),vs=[.ref l]/\zs=[v]/\H2 l=some (.lst (CF ps))/\(∀p∈ps,H2 p.1=some (.tup (p.2.map V.int)))/\(ps=[]->Q v H2)/\∀b r,ps=b::r->Q (.ref (Cg b r).1) H2
theorem YO{k:Nat}{e d:Expr}{td:TE}{p kpos:Pos}(C:X.calm=true)(w:Room k X.A)(z:PE X e te)(B:PE X d td)(y:Gl X "min")(x:X.mg "min"=none)
  (a:starEach [e] X.env=[(false,eval e X.env)]:=by rfl):PE X (.Call (.Name "min" p) [e] [⟨some (Str.ofString "default"),d,kpos⟩] pos) (YN te td):=by
 intro qA s σ H Q I h;refine wpAny_Call_Name_kw (ED I y x (show bootBuiltins "min"=some (.builtin "min") from nofun) ?_ nofun nofun);refine callWith_kw (AG (Av z BE a pos qA s σ H _ I h) λus c ⟨vs,H1,J,j,o⟩=>AG (U4 B U3 pos qA c σ H1 _ J o) λL M ⟨zs,H2,G,i,l,ps,v,E,D,el,r,q,n⟩=>?_) (by rw[a];rfl) (by rw[a];rfl) rfl rfl;subst E D;obtain⟨u,rfl,f⟩:=j.one;cases f;obtain⟨N,rfl,g⟩:=i.one;exact YM C w G el r g q n
def RN(pe pd:pE):pE:=λρ K=>pe ρ λx f=>pd ρ λy g=>∃rs:List By,x=.lst (rs.map AT)/\y.imm=true/\(rs=[]->K y .fr)/\∀b r,rs=b::r->K (AT (r.foldl (λm x=>if HT.lexLt x m=true then x else m) b)) .fr
theorem Lv:∀(r:List (Addr×By)) (b:Addr×By),(Cg b r).2=(r.map (·.2)).foldl (λm x=>if HT.lexLt x m=true then x else m) b.2
 |[],b=>rfl
 |p::r,b=>by
  simp only[Cg,map_cons,foldl_cons];by_cases h:HT.lexLt p.2 b.2=true
  ·rw[aC h,aC h];exact Lv r p
  ·rw[aB h,aB h];exact Lv r b
theorem Lw:∀(r:List (Addr×By)) (b:Addr×By),Cg b r∈b::r
 |[],b=>bI.mpr rfl
 |p::r,b=>by
  simp only[Cg];split
  ·exact bT _ (Lw r p)
  ·rcases aF.mp (Lw r b)with h|h
   ·rw[h];exact cA
   ·exact bT _ (bT _ h)
section
variable{ι:Type}{Xs:ι->Cx}{e d:Expr}{pd:pE}{p kpos:Pos}
theorem YQ{k:Nat}(U:∀i,(Xs i).calm=true)(L:∀i,Room k (Xs i).A)(s:∀i,(Xs i).mg "min"=none)(O:QE Xs e pe)(T:QE Xs d pd)(N:∀i,Gl (Xs i) "min":=by intro _;rfl)(o:∀i,starEach [e] (Xs i).env=[(false,eval e (Xs i).env)]:=by intro _;rfl) :
  QE Xs (.Call (.Name "min" p) [e] [⟨some (Str.ofString "default"),d,kpos⟩] pos) (RN pe pd):=by
 obtain⟨te,e1,Y⟩:=O;obtain⟨td,d1,d2⟩:=T;refine⟨_,λi=>YO (U i) (L i) (e1 i) (d1 i) (N i) (s i) (o i),λW ρ σ H Q K ok M q=>Y W ρ σ H _ _ ok M λx f v H1 h1 n E=>d2 W ρ σ H1 _ _ (ok.step n) h1 λy g u H2 ⟨rs,ex,J,I,G⟩ z D=>?_⟩;have a:=n.trans z;have j:=ok.step a;subst ex;obtain⟨l,us,rfl,c,rv⟩:=Bx j (E.step (ok.step n) z);obtain⟨ps,rfl,C,B⟩:=Lg rv;refine⟨l,ps,u,rfl,rfl,c,B,λh=>q _ _ _ _ (I (by rw[<-C,h];rfl)) a ?_,λb r h=>q _ _ _ _ (G b.2 (r.map (·.2)) (by rw[<-C,h];rfl)) a ?_⟩
 ·exact(D.back n).immAny J j (by simp)
 ·have s:Cg b r∈ps:=by rw[h];exact Lw r b
  have w:=B _ s;rw[<-Lv r b];exact RF.ofImm (g:=λp=>p=W.b) (Dk _) ⟨(Cg b r).1,_,rfl,w,AB.ints.mpr rfl⟩
end
end L2
namespace L2
open PySem PySem.Spec PyProof.Rows
def Lx:Bool->Keyed->Array Keyed->Nat->Nat->Nat->StateT SortSt Sem (Option Nat):=sortPriv% PySem.Builtin.gallop
def YR:Array Keyed->Array Keyed->StateT SortSt Sem (Array Keyed):=sortPriv% PySem.Builtin.mergeLo
def YS:Array Keyed->Array Keyed->StateT SortSt Sem (Array Keyed):=sortPriv% PySem.Builtin.mergeHi
structure Cmp(M:Model)(A:Around)(E:VS)(s:Shared)(κ:SortKind)(O:KeyOrd)(ky:Keyed->O.α)(mem:Keyed->Prop):Prop where
 ask:∀x y,mem x->mem y->∀(R:Option Bool->SortSt->Prop) (st:SortSt),kindOf st=κ->R (some (O.blt (ky x) (ky y))) st->wpS M A E s (lt' x y) R st
section
variable{M:Model}{κ:SortKind}{ky:Keyed->O.α}{mem:Keyed->Prop}
theorem Bh{x:Keyed}{R:Keyed->SortSt->Prop}(e:qG[i]?=some x)(h:R x st):wpS M A E s (elem' qG i) R st:=by
 rw[elem'_eq,e];exact aE h
def DQ(ky:Keyed->O.α)(left:Bool)(key x:Keyed):Bool:=if left=true then O.blt (ky x) (ky key)else !O.blt (ky key) (ky x)
theorem RO(C:Cmp M A E s κ O ky mem){left:Bool}{key:Keyed}{base hint:Nat}{R:Option Nat->SortSt->Prop}(hk:kindOf st=κ)(B:mem key)(p:Nat->Bool)
  (J:∀i,i<n->∃x,qG[base+i]?=some x/\mem x/\p i=DQ ky left key x) (hh:hint<n) (mono:∀i j,i<=j->j<n->p j=true->p i=true)
  (h:∀k,k<=n->(∀i,i<k->p i=true)->(∀i,k<=i->i<n->p i=false)->R (some k) st):wpS M A E s (Lx left key qG base n hint) R st:=by
 have H:∀i,i<n->∀{R:Option Bool->SortSt->Prop},R (some (p i)) st->wpS M A E s (do let x <-elem' qG (base+i);if left=true then lt' x key else do let z <-lt' key x;pure (z.map λq=>!q)) R st:=by
  intro i hi R f;obtain⟨x,e,G,hp⟩:=J i hi;refine aD (Bh e ?_);cases left with
  |true =>
   rw[aC rfl];refine C.ask _ _ G B _ _ hk ?_;rw[hp]at f;exact f
  |false =>
   rw[aB (by simp)];refine aD (C.ask _ _ B G _ _ hk (aE ?_));rw[hp]at f;exact f
 have u:∀i j,i<=j->j<n->p i=false->p j=false:=λi j U hj hi=>by
  cases e:p j with
  |false=>rfl
  |true=>rw[mono i j U hj e]at hi;cases hi
 have D:∀lo hi,lo<=hi->hi<=n->(∀i,i<lo->p i=true)->(∀i,hi<=i->i<n->p i=false)->∀(F:Nat->Option (Option Nat)×Nat×Nat->StateT SortSt Sem (ForInStep (Option (Option Nat)×Nat×Nat))),
   (∀x lo hi,¬lo≥hi->lo+(hi - lo) / 2<n->∀(v:ForInStep (Option (Option Nat)×Nat×Nat)->SortSt->Prop),v (.yield (if p (lo+(hi - lo) / 2)=true then(none,lo+(hi - lo) / 2+1,hi)else(none,lo,lo+(hi - lo) / 2))) st->wpS M A E s (F x (none,lo,hi)) v st) ->
   (∀x lo hi,lo≥hi->∀(v:ForInStep (Option (Option Nat)×Nat×Nat)->SortSt->Prop),v (.done (none,lo,hi)) st->wpS M A E s (F x (none,lo,hi)) v st) ->
   ∀(v:Option (Option Nat)×Nat×Nat->SortSt->Prop),(∀k,k<=n->(∀i,i<k->p i=true)->(∀i,k<=i->i<n->p i=false)->v (none,k,k) st)->wpS M A E s (forIn [0:n] (none,lo,hi) F) v st:=by
  intro lo hi h1 h2 l g F hF Y v f;refine wpS_forRange (I:=λx c a=>a=st/\∃lo hi,c=(none,lo,hi)/\lo<=hi/\hi<=n/\(∀i,i<lo->p i=true)/\(∀i,hi<=i->i<n->p i=false)/\hi - lo<=n - x) ?_ ?_ ⟨rfl,lo,hi,rfl,h1,h2,l,g,⋯⟩
  ·rintro x c a _ hx ⟨rfl,lo,hi,rfl,h1,h2,l,g,y⟩;by_cases r:lo≥hi
   ·refine Y x lo hi r _ ?_;have e:lo=hi:=⋯;subst e;exact f lo h2 l g
   ·refine hF x lo hi r ⋯ _ ?_;cases e:p (lo+(hi - lo) / 2)with
    |true =>
     rw[aC rfl];exact⟨rfl,_,_,rfl,⋯,h2,λi a0=>mono i _ ⋯ ⋯ e,g,⋯⟩
    |false =>
     rw[aB (by simp)];exact⟨rfl,_,_,rfl,⋯,⋯,l,λi L h7=>u _ i L h7 e,⋯⟩
  ·rintro c a ⟨rfl,lo,hi,rfl,h1,h2,l,g,y⟩;have e:lo=hi:=⋯;subst e;exact f lo h2 l g
 refine aD (H hint hh ?_);cases e0:p hint with
 |true =>
  dsimp only;rw[aC rfl];refine aD (wpS_mono (wpS_forRange (I:=λx c a=>a=st/\∃d o,c=(none,d,o)/\d<o/\x+1<=o/\hint+d<n/\p (hint+d)=true)
   (Q:=λc a=>a=st/\∃d o,c=(none,d,o)/\d<o/\hint+d<n/\p (hint+d)=true/\(n - hint<=o\/(hint+o<n/\p (hint+o)=false))) ?N ?f1 ⟨rfl,0,1,rfl,⋯,⋯,⋯,e0⟩) ?g1)
  case N =>
   rintro x c a _ hx ⟨rfl,d,o,rfl,h1,h2,l,g⟩;dsimp only;by_cases r:o≥n - hint
   ·rw[aC r];exact aE ⟨rfl,d,o,rfl,h1,l,g,.inl r⟩
   ·rw[aB r];refine aD (H (hint+o) ⋯ ?_);cases w:p (hint+o)with
    |true=>exact aE ⟨rfl,o,2 * o+1,rfl,⋯,⋯,⋯,w⟩
    |false=>exact aE ⟨rfl,d,o,rfl,h1,l,g,.inr ⟨⋯,w⟩⟩
  case f1 =>
   rintro c a ⟨rfl,d,o,rfl,h1,h2,l,g⟩;exact⟨rfl,d,o,rfl,h1,l,g,.inl ⋯⟩
  case g1 =>
   rintro c a ⟨rfl,d,o,rfl,h1,l,g,y⟩;dsimp only;refine aD (D (hint+d+1) (hint+min o (n - hint)) ⋯ ⋯ (λi hi=>mono i (hint+d) ⋯ l g) (λi hi T=>?_) _ ?_ ?_ _ λk k1 k2 k3=>aE (h k k1 k2 k3))
   ·rcases y with y|⟨y,L⟩
    ·lia
    ·exact u (hint+o) i ⋯ T L
   ·intro x lo hi r G v f;dsimp only;rw[aB r];refine aD (H _ G ?_);cases w:p (lo+(hi - lo) / 2)with
    |true=>rw[w,aC rfl]at f;exact aE f
    |false=>rw[w,aB (by simp)]at f;exact aE f
   ·intro x lo hi r v f;dsimp only;rw[aC r];exact aE f
 |false =>
  dsimp only;rw[aB (by simp)];refine aD (wpS_mono (wpS_forRange (I:=λx c a=>a=st/\∃d o,c=(none,d,o)/\d<o/\x+1<=o/\d<=hint/\p (hint - d)=false)
   (Q:=λc a=>a=st/\∃d o,c=(none,d,o)/\d<o/\d<=hint/\p (hint - d)=false/\(hint+1<=o\/(o<=hint/\p (hint - o)=true))) ?N ?f1 ⟨rfl,0,1,rfl,⋯,⋯,⋯,e0⟩) ?g1)
  case N =>
   rintro x c a _ hx ⟨rfl,d,o,rfl,h1,h2,l,g⟩;dsimp only;by_cases r:o≥hint+1
   ·rw[aC r];exact aE ⟨rfl,d,o,rfl,h1,l,g,.inl r⟩
   ·rw[aB r];refine aD (H (hint - o) ⋯ ?_);cases w:p (hint - o)with
    |true=>exact aE ⟨rfl,d,o,rfl,h1,l,g,.inr ⟨⋯,w⟩⟩
    |false=>exact aE ⟨rfl,o,2 * o+1,rfl,⋯,⋯,⋯,w⟩
  case f1 =>
   rintro c a ⟨rfl,d,o,rfl,h1,h2,l,g⟩;exact⟨rfl,d,o,rfl,h1,l,g,.inl ⋯⟩
  case g1 =>
   rintro c a ⟨rfl,d,o,rfl,h1,l,g,y⟩;dsimp only;refine aD (D (hint+1 - min o (hint+1)) (hint - d) ⋯ ⋯ (λi hi=>?_) (λi hi T=>u (hint - d) i hi T g) _ ?_ ?_ _ λk k1 k2 k3=>aE (h k k1 k2 k3))
   ·rcases y with y|⟨y,L⟩
    ·lia
    ·exact mono i (hint - o) ⋯ ⋯ L
   ·intro x lo hi r G v f;dsimp only;rw[aB r];refine aD (H _ G ?_);cases w:p (lo+(hi - lo) / 2)with
    |true=>rw[w,aC rfl]at f;exact aE f
    |false=>rw[w,aB (by simp)]at f;exact aE f
   ·intro x lo hi r v f;dsimp only;rw[aC r];exact aE f
end
section
variable{ky:Keyed->O.α}
abbrev As(ky:Keyed->O.α)(x y:Keyed):Prop:=O.kle (ky x) (ky y)
abbrev Ap(ky:Keyed->O.α)(l:List Keyed):Prop:=l.Pairwise (As ky)
structure Mi(ky:Keyed->O.α)(a b out:List Keyed)(ia ib:Nat):Prop where
 perm:(out++(a.drop ia++b.drop ib)).Perm (a++b)
 srt:Ap ky out
 le:∀x∈out,∀y,y∈a.drop ia\/y∈b.drop ib->As ky x y
variable{a b out:List Keyed}{ia ib k:Nat}
theorem RP{l:List Keyed}{k:Nat}{x:Keyed}(h:x∈l.take k\/x∈l.drop k):x∈l:=by
 rw[<-take_append_drop k l];exact bA.mpr h
theorem BW{l:List Keyed}(h:Ap ky l)(k:Nat):Ap ky (l.take k)/\Ap ky (l.drop k)/\∀x∈l.take k,∀y∈l.drop k,As ky x y:=by
 have h':Ap ky (l.take k++l.drop k):=by rw[take_append_drop];exact h
 obtain⟨h1,h2,a⟩:=cQ.mp h';exact⟨h1,h2,a⟩
theorem Mi.manyA(m:Mi ky a b out ia ib)(sa:Ap ky a)(k:Nat)(hb:∀x∈(a.drop ia).take k,∀y∈b.drop ib,As ky x y):Mi ky a b (out++(a.drop ia).take k) (ia+k) ib where
 perm:=by
  have e:a.drop ia=(a.drop ia).take k++a.drop (ia+k):=by rw[<-drop_drop];exact(take_append_drop _ _).symm
  have:=m.perm;rw[e]at this;simpa[bK]using this
 srt:=by
  refine cQ.mpr ⟨m.srt,(BW (BW sa ia).2.1 k).1,λx hx y hy=>m.le x hx y (.inl (RP (.inl hy)))⟩
 le:=λx hx y hy=>by
  rcases bA.mp hx with hx|hx
  ·refine m.le x hx y ?_;rcases hy with hy|hy
   ·rw[<-drop_drop]at hy;exact .inl (RP (.inr hy))
   ·exact .inr hy
  ·rcases hy with hy|hy
   ·rw[<-drop_drop]at hy;exact(BW (BW sa ia).2.1 k).2.2 x hx y hy
   ·exact hb x hx y hy
theorem Mi.swap(m:Mi ky a b out ia ib):Mi ky b a out ib ia where
 perm:=((perm_append_comm).append_left out).trans (m.perm.trans perm_append_comm)
 srt:=m.srt
 le:=λx d y c=>m.le x d y c.symm
theorem Mi.manyB(m:Mi ky a b out ia ib)(c:Ap ky b)(k:Nat)(ha:∀x∈(b.drop ib).take k,∀y∈a.drop ia,As ky x y):Mi ky a b (out++(b.drop ib).take k) ia (ib+k):=(m.swap.manyA c k ha).swap
theorem RQ{l:List Keyed}{x:Keyed}(e:l[i]?=some x):(l.drop i).take 1=[x]:=by
 have hi:i<l.length:=by
  rcases cE i l.length with q|q
  ·exact q
  ·rw[bQ q]at e;cases e
 rw[aH hi]at e;rw[drop_eq_getElem_cons hi];simp[oI e]
theorem Mi.oneA(m:Mi ky a b out ia ib)(sa:Ap ky a){x:Keyed}(e:a[ia]?=some x)(hb:∀y∈b.drop ib,As ky x y):Mi ky a b (out++[x]) (ia+1) ib:=by
 have:=m.manyA sa 1 (by rw[RQ e];intro z c;rw[bI.mp c];exact hb);rw[RQ e]at this;exact this
theorem Mi.oneB(m:Mi ky a b out ia ib)(c:Ap ky b){x:Keyed}(e:b[ib]?=some x)(ha:∀y∈a.drop ia,As ky x y):Mi ky a b (out++[x]) ia (ib+1):=(m.swap.oneA c e ha).swap
theorem F0{l:List Keyed}(h:Ap ky l){x:Keyed}(e:l[i]?=some x):∀y∈l.drop i,As ky x y:=by
 have hi:i<l.length:=by
  rcases cE i l.length with q|q
  ·exact q
  ·rw[bQ q]at e;cases e
 rw[aH hi]at e;have h2:=(BW h i).2.1;rw[drop_eq_getElem_cons hi,oI e]at h2 ⊢;intro y hy;rcases aF.mp hy with rfl|hy
 ·exact KeyOrd.kle_refl _
 ·exact(cS.mp h2).1 y hy
structure MDone(ky:Keyed->O.α)(a b m:List Keyed):Prop where
 perm:m.Perm (a++b)
 srt:Ap ky m
theorem Mi.done(m:Mi ky a b out ia ib)(sa:Ap ky a)(c:Ap ky b)(h:a.length<=ia\/b.length<=ib):MDone ky a b (out++a.drop ia++b.drop ib) where
 perm:=by rw[bK];exact m.perm
 srt:=by
  rw[bK];refine cQ.mpr ⟨m.srt,?_,λx e y d=>m.le x e y (bA.mp d)⟩;rcases h with h|h
  ·rw[drop_eq_nil_of_le h];exact(BW c ib).2.1
  ·rw[drop_eq_nil_of_le h,cO];exact(BW sa ia).2.1
theorem Mi.lastA(m:Mi ky a b out ia ib)(sa:Ap ky a)(c:Ap ky b)(h:∀x∈b.drop ib,∀y∈a.drop ia,As ky x y):MDone ky a b (out++b.drop ib++a.drop ia) where
 perm:=by rw[bK];exact((perm_append_comm).append_left out).trans m.perm
 srt:=by
  rw[bK];exact cQ.mpr ⟨m.srt,cQ.mpr ⟨(BW c ib).2.1,(BW sa ia).2.1,h⟩,λx e y d=>m.le x e y (bA.mp d).symm⟩
end
theorem JO(a:Array Keyed)(i:Nat):(a.extract i a.size).toList=a.toList.drop i:=by
 rw[Array.toList_extract,extract_eq_take_drop];rw[aZ (by rw[length_drop,bR];lia)]
theorem Ly(a:Array Keyed)(i k:Nat):(a.extract i (i+k)).toList=(a.toList.drop i).take k:=by
 rw[Array.toList_extract,extract_eq_take_drop,Nat.add_sub_cancel_left]
section
variable{M:Model}{κ:SortKind}{ky:Keyed->O.α}{mem:Keyed->Prop}
abbrev B6(st:SortSt)(g:Nat):SortSt:=SortSt.mk' (kindOf st) (arrOf st) (pendingOf st) g (failedOf st)
def YT:Nat->StateT SortSt Sem Unit:=sortPriv% PySem.Builtin.setMinGallop
theorem JP{g:Nat}{R:Unit->SortSt->Prop}(h:R () (B6 st g)):wpS M A E s (YT g) R st:=wpS_modify (f:=λst=>B6 st g) h
theorem Bl{a:Array Keyed}{x:Keyed}(e:a.toList[i]?=some x):a[i]?=some x:=by rw[<-Array.getElem?_toList];exact e
theorem F1{l:List Keyed}(h:i<l.length):∃x,l[i]?=some x/\x∈l:=⟨l[i],aH h,getElem_mem h⟩
theorem drop_at{l:List Keyed}{y:Keyed}(h:y∈l.drop i):∃j,i<=j/\l[j]?=some y:=by
 obtain⟨n,a⟩:=getElem?_of_mem h;exact⟨i+n,Nat.le_add_right _ _,by rw[<-getElem?_drop];exact a⟩
theorem JQ{l:List Keyed}{k:Nat}{y:Keyed}(h:y∈(l.drop i).take k):∃j,j<k/\l[i+j]?=some y:=by
 obtain⟨n,a⟩:=getElem?_of_mem h;rw[getElem?_take]at a;split at a
 ·exact⟨n,‹_›,by rw[<-getElem?_drop];exact a⟩
 ·cases a
theorem Lz(C:Cmp M A E s κ O ky mem){key:Keyed}{base hint:Nat}{R:Option Nat->SortSt->Prop}(q:kindOf st=κ)(c:mem key)(p:∀x∈qG.toList,mem x)
  (o:∀i j x y,base<=i->i<=j->j<base+n->qG.toList[i]?=some x->qG.toList[j]?=some y->As ky x y) (z:base+n<=qG.size) (v:hint<n)
  (h:∀k,k<=n->(∀i x,i<k->qG.toList[base+i]?=some x->As ky x key)->(∀i x,k<=i->i<n->qG.toList[base+i]?=some x->O.klt (ky key) (ky x))->R (some k) st):wpS M A E s (Lx false key qG base n hint) R st:=by
 have a:∀i,i<n->∃x,qG.toList[base+i]?=some x/\x∈qG.toList:=λi hi=>F1 (by rw[bR];lia);refine RO C q c (λi=>match qG.toList[base+i]? with|some x=>DQ ky false key x|none=>false) (λi hi=>?_) v (λi j u r g=>?_) (λk k1 k2 k3=>h k k1 (λi x hi e=>?_) (λi x hi d e=>?_))
 ·obtain⟨x,e,f⟩:=a i hi;exact⟨x,Bl e,p x f,by rw[e]⟩
 ·obtain⟨x,e,f⟩:=a i ⋯;obtain⟨y,l,w⟩:=a j r;simp only[l,DQ,Bool.false_eq_true,if_false,Bool.not_eq_true']at g;simp only[e,DQ,Bool.false_eq_true,if_false,Bool.not_eq_true'];exact KeyOrd.kle_trans (o _ _ x y ⋯ ⋯ ⋯ e l) g
 ·have:=k2 i hi;simp only[e,DQ,Bool.false_eq_true,if_false,Bool.not_eq_true']at this;exact this
 ·have:=k3 i hi d;simp only[e,DQ,Bool.false_eq_true,if_false,Bool.not_eq_false']at this;exact this
theorem L0(C:Cmp M A E s κ O ky mem){key:Keyed}{base hint:Nat}{R:Option Nat->SortSt->Prop}(q:kindOf st=κ)(c:mem key)(p:∀x∈qG.toList,mem x)
  (o:∀i j x y,base<=i->i<=j->j<base+n->qG.toList[i]?=some x->qG.toList[j]?=some y->As ky x y) (z:base+n<=qG.size) (v:hint<n)
  (h:∀k,k<=n->(∀i x,i<k->qG.toList[base+i]?=some x->O.klt (ky x) (ky key))->(∀i x,k<=i->i<n->qG.toList[base+i]?=some x->As ky key x)->R (some k) st):wpS M A E s (Lx true key qG base n hint) R st:=by
 have a:∀i,i<n->∃x,qG.toList[base+i]?=some x/\x∈qG.toList:=λi hi=>F1 (by rw[bR];lia);refine RO C q c (λi=>match qG.toList[base+i]? with|some x=>DQ ky true key x|none=>false) (λi hi=>?_) v (λi j u r g=>?_) (λk k1 k2 k3=>h k k1 (λi x hi e=>?_) (λi x hi d e=>?_))
 ·obtain⟨x,e,f⟩:=a i hi;exact⟨x,Bl e,p x f,by rw[e]⟩
 ·obtain⟨x,e,f⟩:=a i ⋯;obtain⟨y,l,w⟩:=a j r;simp only[l,DQ,dC]at g;simp only[e,DQ,dC];exact KeyOrd.klt_of_kle_of_klt (o _ _ x y ⋯ ⋯ ⋯ e l) g
 ·have:=k2 i hi;simp only[e,DQ,dC]at this;exact this
 ·have:=k3 i hi d;simp only[e,DQ,dC]at this;exact this
theorem E9{l:List Keyed}(h:Ap ky l){x y:Keyed}(a:i<=j)(e:l[i]?=some x)(c:l[j]?=some y):As ky x y:=by
 refine F0 h e y ?_;have:(l.drop i)[j - i]?=some y:=by rw[getElem?_drop,show i+(j - i)=j by lia];exact c
 exact aM this
end
section
variable{M:Model}{κ:SortKind}{ky:Keyed->O.α}{mem:Keyed->Prop}
theorem Af{α:Type}{c:Prop}[Decidable c]{x y:StateT SortSt Sem α}{R:α->SortSt->Prop}(h1:c->wpS M A E s x R st)(h2:¬c->wpS M A E s y R st):wpS M A E s (if c then x else y) R st:=by
 split
 ·exact h1 ‹_›
 ·exact h2 ‹_›
structure MLo(ky:Keyed->O.α)(a b out:Array Keyed)(ia ib:Nat):Prop where
 mi:Mi ky a.toList b.toList out.toList ia ib
 ha:ia+1<a.size
 hb:ib<b.size
theorem JR{α d a:Type}{F:d->a->StateT SortSt Sem α}{I:d->a->Prop}{c:Prop}[Decidable c]{t:StateT SortSt Sem α}{x:d}{y:a}{R:α->SortSt->Prop}(k:∀b g,I b g->wpS M A E s (F b g) R st)
  (h1:(∀b g,I b g->wpS M A E s (F b g) R st)->c->wpS M A E s t R st) (h2:¬c->I x y):wpS M A E s (if c then t else F x y) R st:=Af (h1 k) (λh=>k _ _ (h2 h))
theorem RR{α a:Type}{F:a->StateT SortSt Sem α}{c:Prop}[Decidable c]{x y:a}{R:α->SortSt->Prop}(k:∀z,wpS M A E s (F z) R st):wpS M A E s (if c then F x else F y) R st:=Af (λ_=>k _) (λ_=>k _)
theorem YU(C:Cmp M A E s κ O ky mem){a b:Array Keyed}{R:Array Keyed->SortSt->Prop}(hk:kindOf st=κ)(ma:∀x∈a.toList,mem x)(mb:∀x∈b.toList,mem x)(sa:Ap ky a.toList)(N:Ap ky b.toList)
  (ha:0<a.size) (hb:0<b.size) (h1:∀x y,b.toList[0]?=some x->y∈a.toList->As ky x y) (h2:∀x∈b.toList,∀y,a.toList[a.size - 1]?=some y->As ky x y)
  (h:∀m g,MDone ky a.toList b.toList m.toList->R m (B6 st g)):wpS M A E s (YR a b) R st:=by
 have la:a.toList.length=a.size:=bR;have lb:b.toList.length=b.size:=bR;have ata:∀i,i<a.size->∃x,a.toList[i]?=some x/\mem x:=λi hi=>let⟨x,e,p⟩:=F1 (l:=a.toList) (i:=i) ⋯;⟨x,e,ma x p⟩;have atb:∀i,i<b.size->∃x,b.toList[i]?=some x/\mem x:=λi hi=>let⟨x,e,p⟩:=F1 (l:=b.toList) (i:=i) ⋯;⟨x,e,mb x p⟩;have u:∀(out:Array Keyed) ia ib g,Mi ky a.toList b.toList out.toList ia ib->(a.size<=ia\/b.size<=ib)->R (out++a.extract ia a.size++b.extract ib b.size) (B6 st g):=λout ia ib g m f=>by
  refine h _ g ?_;rw[cI,cI,JO,JO];exact m.done sa N (by rw[la,lb];exact f)
 have v:∀(out:Array Keyed) ia ib g,Mi ky a.toList b.toList out.toList ia ib->ia+1=a.size->R (out++b.extract ib b.size++a.extract ia a.size) (B6 st g):=λout ia ib g m f=>by
  refine h _ g ?_;rw[cI,cI,JO,JO];refine m.lastA sa N λx p y L=>?_;obtain⟨j,hj,e⟩:=drop_at L;have af:j<a.toList.length:=by
   rcases cE j a.toList.length with q|q
   ·exact q
   ·rw[bQ q]at e;cases e
  have ej:j=a.size - 1:=⋯;rw[ej]at e;exact h2 x (mem_of_mem_drop p) y e
 refine aD (wpS_lift (wpAny_rule ⟨rfl,?_⟩));obtain⟨b0,a9,as⟩:=atb 0 hb;refine aD (Bh (Bl a9) ?_);have m0:Mi ky a.toList b.toList (#[b0]:Array Keyed).toList 0 1:=by
  have:Mi ky a.toList b.toList [] 0 0:=⟨by simp,List.Pairwise.nil,λx p=>by cases p⟩;exact this.oneB N a9 (λy L=>h1 b0 y a9 (by simpa using L))
 dsimp -zeta only;by_cases ag:1=b.size
 ·rw[aC (by simpa using ag)];exact aE (u _ 0 1 (gallopOf st) m0 (.inr ⋯))
 rw[aB (by simpa using ag)];by_cases a8:0+1=a.size
 ·rw[aC (by simpa using a8)];exact aE (v _ 0 1 (gallopOf st) m0 a8)
 rw[aB (by simpa using a8)];refine aD (wpS_get ?_);refine aD (wpS_mono (wpS_forRange (I:=λx c d=>(∃g,d=B6 st g)/\∃out ia ib mg,c=(none,out,ia,ib,mg)/\MLo ky a b out ia ib/\x+1<=ia+ib)
  (Q:=λc d=>∃m r,c=(some m,r)/\R m d) ?step ?u ⟨⟨gallopOf st,rfl⟩,_,_,_,_,rfl,⟨m0,⋯,⋯⟩,⋯⟩) ?aa)
 case aa =>
  rintro c d ⟨m,r,rfl,hr⟩;exact aE hr
 case u =>
  rintro c d ⟨_,out,ia,ib,mg,rfl,m,p⟩;have:=m.ha;have:=m.hb;lia
 case step =>
  rintro x c d _ p ⟨⟨g,rfl⟩,out,ia,ib,mg,rfl,m,ab⟩;dsimp -zeta only;refine aD (wpS_mono (wpS_forRange (I:=λy c d=>d=B6 st g/\∃out ia ib D B,c=(none,out,ia,ib,D,B)/\MLo ky a b out ia ib/\x+1+y<=ia+ib)
   (Q:=λc d=>(∃m r,c=(some m,r)/\R m d)\/(d=B6 st g/\∃out ia ib D B,c=(none,out,ia,ib,D,B)/\MLo ky a b out ia ib/\x+1<=ia+ib)) ?a1 ?ai ⟨rfl,_,_,_,_,_,rfl,m,⋯⟩) ?a3)
  case ai =>
   rintro c d ⟨_,out,ia,ib,D,B,rfl,m,p⟩;have:=m.ha;have:=m.hb;lia
  case a1 =>
   rintro y c d _ L ⟨rfl,out,ia,ib,D,B,rfl,m,aj⟩;have a7:=m.ha;have J:=m.hb;obtain⟨xa,ea,a5⟩:=ata ia ⋯;obtain⟨xb,Y,a4⟩:=atb ib J;dsimp -zeta only;refine aD (Bh (Bl Y) (aD (Bh (Bl ea) (aD (C.ask _ _ a4 a5 _ _ hk ?_)))));cases ae:O.blt (ky xb) (ky xa)with
   |true =>
    dsimp -zeta only;rw[aC rfl];have w:=m.mi.oneB N Y λz f=>KeyOrd.kle_trans (KeyOrd.kle_of_klt ae) (F0 sa ea z f);rw[<-Array.toList_push]at w;refine aD (Bh (Bl Y) ?_);by_cases f:ib+1=b.size
    ·rw[aC (by simpa using f)];exact aE (.inl ⟨_,_,rfl,u _ _ _ g w (.inr ⋯)⟩)
    ·rw[aB (by simpa using f)];split
     ·exact aE (.inr ⟨rfl,_,_,_,_,_,rfl,⟨w,a7,⋯⟩,⋯⟩)
     ·exact aE ⟨rfl,_,_,_,_,_,rfl,⟨w,a7,⋯⟩,⋯⟩
   |false =>
    dsimp -zeta only;rw[aB (by simp)];have w:=m.mi.oneA sa ea λz f=>KeyOrd.kle_trans ae (F0 N Y z f);rw[<-Array.toList_push]at w;refine aD (Bh (Bl ea) ?_);by_cases f:ia+1+1=a.size
    ·rw[aC (by simpa using f)];exact aE (.inl ⟨_,_,rfl,v _ _ _ g w f⟩)
    ·rw[aB (by simpa using f)];split
     ·exact aE (.inr ⟨rfl,_,_,_,_,_,rfl,⟨w,⋯,J⟩,⋯⟩)
     ·exact aE ⟨rfl,_,_,_,_,_,rfl,⟨w,⋯,J⟩,⋯⟩
  case a3 =>
   rintro c d (⟨w,r,rfl,hr⟩|⟨rfl,out,ia,ib,D,B,rfl,m,ab⟩)
   ·exact aE ⟨w,_,rfl,hr⟩
   dsimp -zeta only;refine aD (wpS_lift (wpAny_rule ⟨rfl,?_⟩));refine aD (wpS_mono (wpS_forRange (I:=λy c d=>(∃g,d=B6 st g)/\∃out ia ib mg D B,c=(none,out,ia,ib,mg,D,B)/\MLo ky a b out ia ib/\x+1+2 * y<=ia+ib)
    (Q:=λc d=>(∃m r,c=(some m,r)/\R m d)\/((∃g,d=B6 st g)/\∃out ia ib mg D B,c=(none,out,ia,ib,mg,D,B)/\MLo ky a b out ia ib/\x+2<=ia+ib)) ?a0 ?ah ⟨⟨g,rfl⟩,_,_,_,_,_,_,rfl,m,⋯⟩) ?a2)
   case ah =>
    rintro c d ⟨_,out,ia,ib,mg,D,B,rfl,m,p⟩;have:=m.ha;have:=m.hb;lia
   case a2 =>
    rintro c d (⟨w,r,rfl,hr⟩|⟨⟨g,rfl⟩,out,ia,ib,mg,D,B,rfl,m,ab⟩)
    ·exact aE ⟨w,_,rfl,hr⟩
    ·dsimp -zeta only;exact aD (JP (aE ⟨⟨_,rfl⟩,_,_,_,_,rfl,m,⋯⟩))
   case a0 =>
    rintro y c d _ L ⟨⟨g,rfl⟩,out,ia,ib,mg,D,B,rfl,m,aj⟩;have a7:=m.ha;have J:=m.hb;obtain⟨xb,Y,a4⟩:=atb ib J
    extract_lets -merge c1 c2 c3 c4 c5 c6 c7 c8 c9 ar aq ap jp ao
    refine RR (F:=λz=>jp () z) λz=>?_;subst ao jp ap aq ar c9 c8 c7 c6 c5 c4 c3 c2 c1;dsimp -zeta only;refine aD (JP ?_);refine aD (Bh (Bl Y) (aD (Lz (base:=ia) (n:=a.size - ia) (hint:=0) C hk a4 ma (λi j x y _ a6 _ e1 e2=>E9 sa a6 e1 e2) ⋯ ⋯ λk k1 k2 k3=>?_)));have T:=m.mi.manyA sa k λx p z f=>by
     obtain⟨j,hj,e⟩:=JQ p;exact KeyOrd.kle_trans (k2 j x hj e) (F0 N Y z f)
    have up:∀z∈a.toList.drop (ia+k),As ky xb z:=λz f=>by
     obtain⟨j,hj,e⟩:=drop_at f;have af:j<a.toList.length:=by
      rcases cE j a.toList.length with q|q
      ·exact q
      ·rw[bQ q]at e;cases e
     exact KeyOrd.kle_of_klt (k3 (j - ia) z ⋯ ⋯ (by rw[show ia+(j - ia)=j by lia];exact e))
    dsimp -zeta only
    extract_lets -merge d1 jp d2 d3
    refine JR (F:=λo n=>jp () o n) (I:=λo H=>¬H+1=a.size/\H<a.size/\ia<=H/\Mi ky a.toList b.toList o.toList H ib/\∀z∈a.toList.drop H,As ky xb z) (λo H h=>?_) (λkey an=>?_) (λan=>?_)
    ·clear T up k2 k3;obtain⟨f,U,au,T,up⟩:=h;subst d3 d2 jp d1;dsimp -zeta only;refine aD (Bh (Bl Y) ?_);have m2:=T.oneB N Y up;rw[<-Array.toList_push]at m2;refine Af (λL=>aE (.inl ⟨_,_,rfl,u _ _ _ _ m2 (.inr (by have:=aV L;lia))⟩)) (λL=>?_);have L:¬ib+1=b.size:=by simpa using L
     obtain⟨xa,ea,a5⟩:=ata H ⋯;refine aD (Bh (Bl ea) (aD (L0 (base:=ib+1) (n:=b.size - (ib+1)) (hint:=0) C hk a5 mb (λi j x y _ a6 _ e1 e2=>E9 N a6 e1 e2) ⋯ ⋯ λl l1 l2 l3=>?_)));have m3:=m2.manyB N l λx p z f=>by
      obtain⟨j,hj,e⟩:=JQ p;exact KeyOrd.kle_trans (KeyOrd.kle_of_klt (l2 j x hj e)) (F0 sa ea z f)
     have G:∀z∈b.toList.drop (ib+1+l),As ky xa z:=λz f=>by
      obtain⟨j,hj,e⟩:=drop_at f;have af:j<b.toList.length:=by
       rcases cE j b.toList.length with q|q
       ·exact q
       ·rw[bQ q]at e;cases e
      exact l3 (j - (ib+1)) z ⋯ ⋯ (by rw[show ib+1+(j - (ib+1))=j by lia];exact e)
     dsimp -zeta only
     extract_lets -merge e1 e2 jq e3 e4
     refine JR (F:=λo n=>jq () o n) (I:=λo nl=>nl<b.size/\ib+1<=nl/\Mi ky a.toList b.toList o.toList H nl/\∀z∈b.toList.drop nl,As ky xa z) (λo nl h=>?_) (λkey al=>?_) (λal=>?_)
     ·clear m3 G l2 l3;obtain⟨hw,av,m3,G⟩:=h;subst e4 e3 jq e2 e1;dsimp -zeta only;refine aD (Bh (Bl ea) ?_);have m4:=m3.oneA sa ea G;rw[<-Array.toList_push]at m4;refine Af (λhv=>aE (.inl ⟨_,_,rfl,v _ _ _ _ m4 (by simpa using hv)⟩)) (λhv=>?_);have hv:¬H+1+1=a.size:=by simpa using hv
      exact Af (λ_=>aE (.inr ⟨⟨_,rfl⟩,_,H+1,nl,_,_,_,rfl,⟨m4,⋯,⋯⟩,⋯⟩)) (λ_=>aE ⟨⟨_,rfl⟩,_,H+1,nl,_,_,_,rfl,⟨m4,⋯,⋯⟩,⋯⟩)
     ·rw[<-Ly,<-cI]at m3;exact Af (λhw=>aE (.inl ⟨_,_,rfl,u _ _ _ _ m3 (.inr (Nat.le_of_eq (aV hw).symm))⟩)) (λhw=>key _ _ ⟨Nat.lt_of_le_of_ne ⋯ λq=>hw (beq_iff_eq.mpr q),Nat.le_add_right _ _,m3,G⟩)
     ·have ak:l=0:=⋯
      clear_value jq
      subst ak;rw[take_zero,cO]at m3;exact⟨⋯,aQ _,m3,G⟩
    ·rw[<-Ly,<-cI]at T;exact Af (λf=>aE (.inl ⟨_,_,rfl,v _ _ _ _ T (aV f)⟩)) (λf=>Af (λU=>aE (.inl ⟨_,_,rfl,u _ _ _ _ T (.inl (Nat.le_of_eq (aV U).symm))⟩)) (λU=>key _ _ ⟨λq=>f (beq_iff_eq.mpr q),Nat.lt_of_le_of_ne ⋯ λq=>U (beq_iff_eq.mpr q),Nat.le_add_right _ _,T,up⟩))
    ·have am:k=0:=⋯
     clear_value jp
     subst am;rw[take_zero,cO]at T;exact⟨⋯,⋯,aQ _,T,up⟩
end
section
variable{ky:Keyed->O.α}
structure Mh(ky:Keyed->O.α)(a b out:List Keyed)(na nb:Nat):Prop where
 perm:((a.take na++b.take nb)++out.reverse).Perm (a++b)
 srt:Ap ky out.reverse
 le:∀y∈out,∀x,x∈a.take na\/x∈b.take nb->As ky x y
variable{a b out:List Keyed}{na nb:Nat}
theorem Mh.swap(m:Mh ky a b out na nb):Mh ky b a out nb na where
 perm:=((perm_append_comm).append_right _).trans (m.perm.trans perm_append_comm)
 srt:=m.srt
 le:=λy c x d=>m.le y c x d.symm
theorem RS{l:List Keyed}(h:i<=n):l.take n=l.take i++(l.take n).drop i:=by
 have:=(take_append_drop i (l.take n)).symm;rw[take_take,Nat.min_eq_left h]at this;exact this
theorem Mh.manyA(m:Mh ky a b out na nb)(sa:Ap ky a)(c:j<=na)(hb:∀x∈(a.take na).drop j,∀y∈b.take nb,As ky y x):Mh ky a b (out++((a.take na).drop j).reverse) j nb where
 perm:=by
  have:=m.perm;rw[RS c]at this;rw[reverse_append,reverse_reverse];generalize (a.take na).drop j=g at this ⊢;refine List.Perm.trans ?_ this;rw[bK,bK,bK];refine List.Perm.append_left _ ?_;rw[<-bK,<-bK];exact List.Perm.append_right _ perm_append_comm
 srt:=by
  rw[reverse_append,reverse_reverse];refine cQ.mpr ⟨(BW (BW sa na).1 j).2.1,m.srt,λx hx y hy=>m.le y (mem_reverse.mp hy) x (.inl ?_)⟩;exact mem_of_mem_drop hx
 le:=λy hy x hx=>by
  rcases bA.mp hy with hy|hy
  ·refine m.le y hy x ?_;rcases hx with hx|hx
   ·exact .inl (by rw[RS c];exact mem_append_left _ hx)
   ·exact .inr hx
  ·have hy:=mem_reverse.mp hy;rcases hx with hx|hx
   ·have s2:=(BW sa na).1;have e:(a.take na).take j=a.take j:=by rw[take_take,Nat.min_eq_left c]
    exact(BW s2 j).2.2 x (by rw[e];exact hx) y hy
   ·exact hb y hy x hx
theorem Mh.manyB(m:Mh ky a b out na nb)(c:Ap ky b)(d:j<=nb)(ha:∀x∈(b.take nb).drop j,∀y∈a.take na,As ky y x):Mh ky a b (out++((b.take nb).drop j).reverse) na j:=(m.swap.manyA c d ha).swap
theorem RT{l:List Keyed}{x:Keyed}(h:0<n)(e:l[n - 1]?=some x):(l.take n).drop (n - 1)=[x]:=by
 have hi:n - 1<l.length:=by
  rcases cE (n - 1) l.length with q|q
  ·exact q
  ·rw[bQ q]at e;cases e
 rw[aH hi]at e;have a:=oI e;rw[drop_take,show n - (n - 1)=1 by lia,drop_eq_getElem_cons hi,a];rfl
theorem Mh.oneA(m:Mh ky a b out na nb)(sa:Ap ky a)(c:0<na){x:Keyed}(e:a[na - 1]?=some x)(hb:∀y∈b.take nb,As ky y x):Mh ky a b (out++[x]) (na - 1) nb:=by
 have:=m.manyA sa (Nat.sub_le na 1) (by rw[RT c e];intro z d;rw[bI.mp d];exact hb);rw[RT c e]at this;exact this
theorem Mh.oneB(m:Mh ky a b out na nb)(c:Ap ky b)(d:0<nb){x:Keyed}(e:b[nb - 1]?=some x)(ha:∀y∈a.take na,As ky y x):Mh ky a b (out++[x]) na (nb - 1):=(m.swap.oneA c d e ha).swap
theorem HV{l:List Keyed}(h:Ap ky l){x:Keyed}(c:0<n)(e:l[n - 1]?=some x):∀y∈l.take n,As ky y x:=λy a=>by
 obtain⟨i,hi⟩:=getElem?_of_mem a;rw[getElem?_take]at hi;split at hi
 ·exact E9 h ⋯ hi e
 ·cases hi
theorem Mh.done(m:Mh ky a b out na nb)(sa:Ap ky a)(c:Ap ky b)(h:na=0\/nb=0):MDone ky a b (a.take na++b.take nb++out.reverse) where
 perm:=m.perm
 srt:=by
  refine cQ.mpr ⟨?_,m.srt,λx e y d=>m.le y (mem_reverse.mp d) x (bA.mp e)⟩;rcases h with h|h
  ·rw[h,take_zero,nil_append];exact(BW c nb).1
  ·rw[h,take_zero,cO];exact(BW sa na).1
theorem Mh.firstB(m:Mh ky a b out na nb)(sa:Ap ky a)(c:Ap ky b)(h:∀x∈b.take nb,∀y∈a.take na,As ky x y):MDone ky a b (b.take nb++a.take na++out.reverse) where
 perm:=((perm_append_comm).append_right _).trans m.perm
 srt:=cQ.mpr ⟨cQ.mpr ⟨(BW c nb).1,(BW sa na).1,h⟩,m.srt,λx e y d=>m.le y (mem_reverse.mp d) x (bA.mp e).symm⟩
end
theorem JS(a:Array Keyed)(n:Nat):(a.extract 0 n).toList=a.toList.take n:=by
 rw[Array.toList_extract,extract_eq_take_drop];simp
theorem L1(a:Array Keyed)(i n:Nat):(a.extract i n).toList=(a.toList.take n).drop i:=by
 rw[Array.toList_extract,extract_eq_take_drop,drop_take]
section
variable{M:Model}{κ:SortKind}{ky:Keyed->O.α}{mem:Keyed->Prop}
structure MHi(ky:Keyed->O.α)(a b out:Array Keyed)(na nb:Nat):Prop where
 mi:Mh ky a.toList b.toList out.toList na nb
 ha:0<na
 hb:1<nb
 la:na<=a.size
 lb:nb<=b.size
theorem YV(C:Cmp M A E s κ O ky mem){a b:Array Keyed}{R:Array Keyed->SortSt->Prop}(hk:kindOf st=κ)(ma:∀x∈a.toList,mem x)(mb:∀x∈b.toList,mem x)(U:Ap ky a.toList)(sb:Ap ky b.toList)
  (ha:0<a.size) (hb:0<b.size) (h1:∀x y,b.toList[0]?=some x->y∈a.toList->As ky x y) (h2:∀x∈b.toList,∀y,a.toList[a.size - 1]?=some y->As ky x y)
  (h:∀m g,MDone ky a.toList b.toList m.toList->R m (B6 st g)):wpS M A E s (YS a b) R st:=by
 have la:a.toList.length=a.size:=bR;have lb:b.toList.length=b.size:=bR;have ata:∀i,i<a.size->∃x,a.toList[i]?=some x/\mem x:=λi hi=>let⟨x,e,p⟩:=F1 (l:=a.toList) (i:=i) ⋯;⟨x,e,ma x p⟩;have atb:∀i,i<b.size->∃x,b.toList[i]?=some x/\mem x:=λi hi=>let⟨x,e,p⟩:=F1 (l:=b.toList) (i:=i) ⋯;⟨x,e,mb x p⟩;have u:∀(out:Array Keyed) na nb g,Mh ky a.toList b.toList out.toList na nb->(na=0\/nb=0)->R (a.extract 0 na++b.extract 0 nb++out.reverse) (B6 st g):=λout na nb g m f=>by
  refine h _ g ?_;rw[cI,cI,JS,JS,Array.toList_reverse];exact m.done U sb f
 have v:∀(out:Array Keyed) na nb g,Mh ky a.toList b.toList out.toList na nb->nb=1->R (b.extract 0 nb++a.extract 0 na++out.reverse) (B6 st g):=λout na nb g m f=>by
  refine h _ g ?_;rw[cI,cI,JS,JS,Array.toList_reverse];refine m.firstB U sb λx p y G=>?_;obtain⟨i,hi⟩:=getElem?_of_mem p;rw[getElem?_take]at hi;split at hi
  ·have:i=0:=⋯;rw[this]at hi;exact h1 x y hi (mem_of_mem_take G)
  ·cases hi
 refine aD (wpS_lift (wpAny_rule ⟨rfl,?_⟩));obtain⟨a0,ab,aq⟩:=ata (a.size - 1) ⋯;refine aD (Bh (Bl ab) ?_);have m0:Mh ky a.toList b.toList (#[a0]:Array Keyed).toList (a.size - 1) b.size:=by
  have e1:a.toList.take a.size=a.toList:=aZ ⋯;have e2:b.toList.take b.size=b.toList:=aZ ⋯;have:Mh ky a.toList b.toList [] a.size b.size:=⟨by rw[e1,e2];simp,List.Pairwise.nil,λx p=>by cases p⟩;exact this.oneA U ha ab (λy G=>h2 y (by rw[e2]at G;exact G) a0 ab)
 refine Af (λf=>aE (u _ _ _ (gallopOf st) m0 (.inl (aV f)))) (λf=>?_);have f:¬a.size - 1=0:=by simpa using f
 refine Af (λhw=>aE (v _ _ _ (gallopOf st) m0 (aV hw))) (λhw=>?_);have hw:¬b.size=1:=by simpa using hw
 refine aD (wpS_get ?_);refine aD (wpS_mono (wpS_forRange (I:=λx c d=>(∃g,d=B6 st g)/\∃na nb out mg,c=(none,na,nb,out,mg)/\MHi ky a b out na nb/\na+nb+x+1<=a.size+b.size)
  (Q:=λc d=>∃m r,c=(some m,r)/\R m d) ?step ?u ⟨⟨gallopOf st,rfl⟩,_,_,_,_,rfl,⟨m0,⋯,⋯,⋯,⋯⟩,⋯⟩) ?ae)
 case ae =>
  rintro c d ⟨m,r,rfl,hr⟩;exact aE hr
 case u =>
  rintro c d ⟨_,na,nb,out,mg,rfl,m,p⟩;have:=m.ha;have:=m.hb;lia
 case step =>
  rintro x c d _ p ⟨⟨g,rfl⟩,na,nb,out,mg,rfl,m,af⟩;refine aD (wpS_mono (wpS_forRange (I:=λy c d=>d=B6 st g/\∃na nb out D B,c=(none,na,nb,out,D,B)/\MHi ky a b out na nb/\na+nb+x+1+y<=a.size+b.size)
   (Q:=λc d=>(∃m r,c=(some m,r)/\R m d)\/(d=B6 st g/\∃na nb out D B,c=(none,na,nb,out,D,B)/\MHi ky a b out na nb/\na+nb+x+1<=a.size+b.size)) ?a2 ?ai ⟨rfl,_,_,_,_,_,rfl,m,⋯⟩) ?a4)
  case ai =>
   rintro c d ⟨_,na,nb,out,D,B,rfl,m,p⟩;have:=m.ha;have:=m.hb;lia
  case a2 =>
   rintro y c d _ G ⟨rfl,na,nb,out,D,B,rfl,m,aj⟩;have N:=m.ha;have aa:=m.hb;have a8:=m.la;have a7:=m.lb;obtain⟨xa,ea,a6⟩:=ata (na - 1) ⋯;obtain⟨xb,eb,a5⟩:=atb (nb - 1) ⋯;refine aD (Bh (Bl eb) (aD (Bh (Bl ea) (aD (C.ask _ _ a5 a6 _ _ hk ?_)))));cases ag:O.blt (ky xb) (ky xa)with
   |true =>
    refine Af (λ_=>?_) (λhn=>bS rfl hn);have w:=m.mi.oneA U N ea λz f=>KeyOrd.kle_trans (HV sb ⋯ eb z f) (KeyOrd.kle_of_klt ag);rw[<-Array.toList_push]at w;refine aD (Bh (Bl ea) ?_);refine Af (λf=>aE (.inl ⟨_,_,rfl,u _ _ _ g w (.inl (aV f))⟩)) (λf=>?_);have f:¬na - 1=0:=by simpa using f
    exact Af (λ_=>aE (.inr ⟨rfl,na - 1,nb,_,_,_,rfl,⟨w,⋯,aa,⋯,a7⟩,⋯⟩)) (λ_=>aE ⟨rfl,na - 1,nb,_,_,_,rfl,⟨w,⋯,aa,⋯,a7⟩,⋯⟩)
   |false =>
    refine Af (λhn=>by cases hn) (λ_=>?_);have w:=m.mi.oneB sb ⋯ eb λz f=>KeyOrd.kle_trans (HV U N ea z f) ag;rw[<-Array.toList_push]at w;refine aD (Bh (Bl eb) ?_);refine Af (λf=>aE (.inl ⟨_,_,rfl,v _ _ _ g w (aV f)⟩)) (λf=>?_);have f:¬nb - 1=1:=by simpa using f
    exact Af (λ_=>aE (.inr ⟨rfl,na,nb - 1,_,_,_,rfl,⟨w,N,⋯,a8,⋯⟩,⋯⟩)) (λ_=>aE ⟨rfl,na,nb - 1,_,_,_,rfl,⟨w,N,⋯,a8,⋯⟩,⋯⟩)
  case a4 =>
   rintro c d (⟨w,r,rfl,hr⟩|⟨rfl,na,nb,out,D,B,rfl,m,af⟩)
   ·exact aE ⟨w,_,rfl,hr⟩
   refine aD (wpS_lift (wpAny_rule ⟨rfl,?_⟩));refine aD (wpS_mono (wpS_forRange (I:=λy c d=>(∃g,d=B6 st g)/\∃na nb out mg D B,c=(none,na,nb,out,mg,D,B)/\MHi ky a b out na nb/\na+nb+x+1+2 * y<=a.size+b.size)
    (Q:=λc d=>(∃m r,c=(some m,r)/\R m d)\/((∃g,d=B6 st g)/\∃na nb out mg D B,c=(none,na,nb,out,mg,D,B)/\MHi ky a b out na nb/\na+nb+x+2<=a.size+b.size)) ?a1 ?ah ⟨⟨g,rfl⟩,_,_,_,_,_,_,rfl,m,⋯⟩) ?a3)
   case ah =>
    rintro c d ⟨_,na,nb,out,mg,D,B,rfl,m,p⟩;have:=m.ha;have:=m.hb;lia
   case a3 =>
    rintro c d (⟨w,r,rfl,hr⟩|⟨⟨g,rfl⟩,na,nb,out,mg,D,B,rfl,m,af⟩)
    ·exact aE ⟨w,_,rfl,hr⟩
    ·exact aD (JP (aE ⟨⟨_,rfl⟩,na,nb,_,_,rfl,m,⋯⟩))
   case a1 =>
    rintro y c d _ G ⟨⟨g,rfl⟩,na,nb,out,mg,D,B,rfl,m,aj⟩;have N:=m.ha;have aa:=m.hb;have a8:=m.la;have a7:=m.lb;obtain⟨xb,eb,a5⟩:=atb (nb - 1) ⋯
    extract_lets -merge c1 c2 c3 c4 c5 c6 c7 c8 c9 ap ao an jp am
    refine RR (F:=λz=>jp () z) λz=>?_;subst am jp an ao ap c9 c8 c7 c6 c5 c4 c3 c2 c1;dsimp -zeta only;refine aD (JP ?_);refine aD (Bh (Bl eb) (aD (Lz (base:=0) (n:=na) (hint:=na - 1) C hk a5 ma (λi j x y _ a9 _ e1 e2=>E9 U a9 e1 e2) ⋯ ⋯ λk k1 k2 k3=>?_)));have m1:=m.mi.manyA U k1 λx p z f=>by
     rw[drop_take]at p;obtain⟨i,hi,e⟩:=JQ p;exact KeyOrd.kle_trans (HV sb ⋯ eb z f) (KeyOrd.kle_of_klt (k3 (k+i) x ⋯ ⋯ (by rw[Nat.zero_add];exact e)))
    have up:∀z∈a.toList.take k,As ky z xb:=λz f=>by
     obtain⟨i,hi⟩:=getElem?_of_mem f;rw[getElem?_take]at hi;split at hi
     ·exact k2 i z ⋯ (by rw[Nat.zero_add];exact hi)
     ·cases hi
    dsimp -zeta only
    extract_lets -merge d1 d2 jp d3 d4
    refine JR (F:=λn o=>jp () n o) (I:=λT o=>¬T=0/\T<=na/\Mh ky a.toList b.toList o.toList T nb/\∀z∈a.toList.take T,As ky z xb) (λT o h=>?_) (λkey L=>?_) (λL=>?_)
    ·clear m1 up k2 k3;obtain⟨f,as,m1,up⟩:=h;subst d4 d3 jp d2 d1;dsimp -zeta only;refine aD (Bh (Bl eb) ?_);have m2:=m1.oneB sb ⋯ eb up;rw[<-Array.toList_push]at m2;refine Af (λG=>aE (.inl ⟨_,_,rfl,v _ _ _ _ m2 (aV G)⟩)) (λG=>?_);have G:¬nb - 1=1:=λq=>G (beq_iff_eq.mpr q);obtain⟨xa,ea,a6⟩:=ata (T - 1) ⋯;refine aD (Bh (Bl ea) (aD (L0 (base:=0) (n:=nb - 1) (hint:=nb - 1 - 1) C hk a6 mb (λi j x y _ a9 _ e1 e2=>E9 sb a9 e1 e2) ⋯ ⋯ λl l1 l2 l3=>?_)));have Y:=m2.manyB sb l1 λx p z f=>by
      rw[drop_take]at p;obtain⟨i,hi,e⟩:=JQ p;exact KeyOrd.kle_trans (HV U ⋯ ea z f) (l3 (l+i) x ⋯ ⋯ (by rw[Nat.zero_add];exact e))
     have H:∀z∈b.toList.take l,As ky z xa:=λz f=>by
      obtain⟨i,hi⟩:=getElem?_of_mem f;rw[getElem?_take]at hi;split at hi
      ·exact KeyOrd.kle_of_klt (l2 i z ⋯ (by rw[Nat.zero_add];exact hi))
      ·cases hi
     dsimp -zeta only
     extract_lets -merge e1 e2 e3 jq e4 e5
     refine JR (F:=λn o=>jq () n o) (I:=λnl o=>¬nl=1/\¬nl=0/\nl<=nb - 1/\Mh ky a.toList b.toList o.toList T nl/\∀z∈b.toList.take nl,As ky z xa) (λnl o h=>?_) (λkey J=>?_) (λJ=>?_)
     ·clear Y H l2 l3;obtain⟨hw,hv,ar,Y,H⟩:=h;subst e5 e4 jq e3 e2 e1;dsimp -zeta only;refine aD (Bh (Bl ea) ?_);have m4:=Y.oneA U ⋯ ea H;rw[<-Array.toList_push]at m4;refine Af (λhu=>aE (.inl ⟨_,_,rfl,u _ _ _ _ m4 (.inl (aV hu))⟩)) (λhu=>?_);have hu:¬T - 1=0:=by simpa using hu
      exact Af (λ_=>aE (.inr ⟨⟨_,rfl⟩,T - 1,nl,_,_,_,_,rfl,⟨m4,⋯,⋯,⋯,⋯⟩,⋯⟩)) (λ_=>aE ⟨⟨_,rfl⟩,T - 1,nl,_,_,_,_,rfl,⟨m4,⋯,⋯,⋯,⋯⟩,⋯⟩)
     ·have J:0<nb - 1 - l:=J;rw[<-L1,<-Array.toList_reverse,<-cI]at Y;exact Af (λhw=>aE (.inl ⟨_,_,rfl,v _ _ _ _ Y (aV hw)⟩)) (λhw=>Af (λhv=>aE (.inl ⟨_,_,rfl,u _ _ _ _ Y (.inr (aV hv))⟩)) (λhv=>key _ _ ⟨λq=>hw (beq_iff_eq.mpr q),λq=>hv (beq_iff_eq.mpr q),l1,Y,H⟩))
     ·have J:¬0<nb - 1 - l:=J;have ak:l=nb - 1:=⋯
      clear_value jq
      subst ak;rw[drop_eq_nil_of_le (by rw[aO];lia),reverse_nil,cO]at Y;exact⟨G,⋯,aQ _,Y,H⟩
    ·have L:0<na - k:=L;rw[<-L1,<-Array.toList_reverse,<-cI]at m1;exact Af (λf=>aE (.inl ⟨_,_,rfl,u _ _ _ _ m1 (.inl (aV f))⟩)) (λf=>key _ _ ⟨λq=>f (beq_iff_eq.mpr q),k1,m1,up⟩)
    ·have L:¬0<na - k:=L;have al:k=na:=⋯
     clear_value jp
     subst al;rw[drop_eq_nil_of_le (by rw[aO];lia),reverse_nil,cO]at m1;exact⟨⋯,aQ _,m1,up⟩
end
theorem RU:∀(m:List Keyed) (c d:Nat) (qG:Array Keyed),c+d+m.length<=qG.size->((m.zipIdx d).foldl (λa (q:Keyed×Nat)=>a.setIfInBounds (c+q.2) q.1) qG).toList=qG.toList.take (c+d)++m++qG.toList.drop (c+d+m.length)
 |[],c,d,qG,h=>by simp
 |x::m,c,d,qG,h=>by
  rw[zipIdx_cons,foldl_cons];simp only[length_cons]at h;rw[RU m c (d+1) _ (by rw[Array.size_setIfInBounds];lia),Array.toList_setIfInBounds];have f:c+d<qG.toList.length:=by rw[bR];lia
  rw[take_set,drop_set,aC ⋯];have e:(qG.toList.take (c+(d+1))).set (c+d) x=qG.toList.take (c+d)++[x]:=by
   rw[show c+(d+1)=(c+d)+1 by lia,take_add_one,aH f];rw[set_append,aB (by rw[aO];lia),aO,Nat.min_eq_left (aY f),Nat.sub_self];rfl
  rw[e];simp only[length_cons,bK,cons_append,nil_append];rw[show c+(d+1)+m.length=c+d+(m.length+1) by lia]
section
variable{M:Model}{κ:SortKind}{ky:Keyed->O.α}{mem:Keyed->Prop}
theorem YW{st':SortSt}{R:PUnit->SortSt->Prop}(h:R ⟨⟩ st'):wpS M A E s (set st':StateT SortSt Sem PUnit) R st:=by
 unfold wpS;rw[StateT.run_set];exact wP ⟨rfl,h⟩
theorem YX{P X Y S:List Keyed}(h:i<X.length):(P++X++Y++S)[P.length+i]?=X[i]?:=by
 rw[bK,bK,getElem?_append_right ⋯,Nat.add_sub_cancel_left,getElem?_append_left h]
theorem YY{P X Y S:List Keyed}(h:i<Y.length):(P++X++Y++S)[P.length+X.length+i]?=Y[i]?:=by
 rw[bK,getElem?_append_right (by rw[aG];lia),aG,Nat.add_sub_cancel_left,getElem?_append_left h]
theorem YZ(C:Cmp M A E s κ O ky mem){sa na Q sb nb a6:Nat}{P X Y S:List Keyed}{R:Bool->SortSt->Prop}(U:kindOf st=κ)(hf:failedOf st=none)(T:∀x∈(arrOf st).toList,mem x)
  (e:(arrOf st).toList=P++X++Y++S) (lP:P.length=sa) (lX:X.length=na) (lY:Y.length=nb) (h0:0<na) (h1:0<nb) (G:Ap ky X) (D:Ap ky Y)
  (p1:(pendingOf st)[i]?=some (sa,na,Q)) (p2:(pendingOf st)[i+1]?=some (sb,nb,a6)) (aa:sb=sa+na)
  (h:∀Z qG g,Z.Perm (X++Y)->Ap ky Z->qG.toList=P++Z++S->R true (SortSt.mk' κ qG (((pendingOf st).setIfInBounds i (sa,na+nb,Q)).eraseIdxIfInBounds (i+1)) g none)):wpS M A E s (mergeAt' i) R st:=by
 obtain⟨y0,I⟩:∃y,Y[0]?=some y:=⟨Y[0],aH ⋯⟩;obtain⟨xl,L⟩:∃y,X[na - 1]?=some y:=⟨X[na - 1],aH ⋯⟩;subst lP;subst aa;have eX:∀i,i<na->(arrOf st).toList[P.length+i]?=X[i]?:=λi hi=>by rw[e];exact YX ⋯
 have eY:∀i,i<nb->(arrOf st).toList[P.length+na+i]?=Y[i]?:=λi hi=>by rw[e,<-lX];exact YY ⋯
 have ab:(arrOf st).size=P.length+na+nb+S.length:=by
  have:=aT length e;rw[bR]at this;simp only[aG]at this;lia
 have a4:(arrOf st).toList[P.length+na]?=some y0:=by have:=eY 0 h1;rw[Nat.add_zero]at this;rw[this];exact I
 refine aD (wpS_get ?_);rw[p1,p2];refine aD ?_;refine YW ?_;refine aD (Bh (Bl a4) (aD (Lz (qG:=arrOf st) (base:=P.length) (n:=na) (hint:=0) C U (T y0 (aM a4)) T (λi j x y hi a9 hj r N=>?_) ⋯ h0 λk k1 k2 k3=>?_)))
 ·rw[show i=P.length+(i - P.length) by lia,eX _ ⋯]at r;rw[show j=P.length+(j - P.length) by lia,eX _ ⋯]at N;exact E9 G ⋯ r N
 have H:∀x∈X.take k,As ky x y0:=λx c=>by
  obtain⟨i,hi⟩:=getElem?_of_mem c;rw[getElem?_take]at hi;split at hi
  ·exact k2 i x ‹_› (by rw[eX i ⋯];exact hi)
  ·cases hi
 have a8:∀x∈X.drop k,As ky y0 x:=λx c=>by
  obtain⟨i,hi,e⟩:=drop_at c;have hl:i<X.length:=by
   rcases cE i X.length with q|q
   ·exact q
   ·rw[bQ q]at e;cases e
  exact KeyOrd.kle_of_klt (k3 i x hi ⋯ (by rw[eX i ⋯];exact e))
 have u:∀y∈Y,As ky y0 y:=λy v=>F0 D I y (by simpa using v);have f:(∀x∈X,∀y∈Y,As ky x y)->R true (SortSt.mk' κ (arrOf st) (((pendingOf st).setIfInBounds i (P.length,na+nb,Q)).eraseIdxIfInBounds (i+1)) (gallopOf st) none):=λc =>
  h (X++Y) (arrOf st) (gallopOf st) (List.Perm.refl _) (cQ.mpr ⟨G,D,c⟩) (by rw[e,bK P X Y])
 have a3:SortSt.mk' κ (arrOf st) (((pendingOf st).setIfInBounds i (P.length,na+nb,Q)).eraseIdxIfInBounds (i+1)) (gallopOf st) none=SortSt.mk' (kindOf st) (arrOf st) (((pendingOf st).setIfInBounds i (P.length,na+nb,Q)).eraseIdxIfInBounds (i+1)) (gallopOf st) (failedOf st):=by rw[U,hf]
 refine Af (λp=>aE ?_) (λp=>?_)
 ·have p:na - k=0:=aV p;rw[a3]at f;refine f λx c y v=>KeyOrd.kle_trans (H x ?_) (u y v);rw[aZ ⋯];exact c
 have p:¬na - k=0:=by simpa using p
 have a5:(arrOf st).toList[P.length+k+(na - k) - 1]?=some xl:=by rw[show P.length+k+(na - k) - 1=P.length+(na - 1) by lia,eX _ ⋯];exact L
 refine aD (Bh (Bl a5) (aD (L0 (qG:=arrOf st) (base:=P.length+na) (n:=nb) (hint:=nb - 1) C U (T xl (aM a5)) T (λi j x y hi a9 hj r N=>?_) ⋯ ⋯ λl l1 l2 l3=>?_)))
 ·rw[show i=P.length+na+(i - (P.length+na)) by lia,eY _ ⋯]at r;rw[show j=P.length+na+(j - (P.length+na)) by lia,eY _ ⋯]at N;exact E9 D ⋯ r N
 have a0:∀x∈X,As ky x xl:=λx c=>HV G h0 L x (by rw[aZ ⋯];exact c);have a7:∀y∈Y.take l,As ky y xl:=λx c=>by
  obtain⟨i,hi⟩:=getElem?_of_mem c;rw[getElem?_take]at hi;split at hi
  ·exact KeyOrd.kle_of_klt (l2 i x ‹_› (by rw[eY i ⋯];exact hi))
  ·cases hi
 have a2:∀y∈Y.drop l,As ky xl y:=λx c=>by
  obtain⟨i,hi,e⟩:=drop_at c;have hl:i<Y.length:=by
   rcases cE i Y.length with q|q
   ·exact q
   ·rw[bQ q]at e;cases e
  exact l3 i x hi ⋯ (by rw[eY i ⋯];exact e)
 refine Af (λv=>aE ?_) (λv=>?_)
 ·have v:l=0:=aV v;rw[a3]at f;exact f λx c y o=>KeyOrd.kle_trans (a0 x c) (a2 y (by rw[v];exact o))
 have v:¬l=0:=by simpa using v
 have ex:((arrOf st).extract (P.length+k) (P.length+na)).toList=X.drop k:=by
  rw[L1,e,bK,bK,take_append,aZ ⋯,Nat.add_sub_cancel_left,take_append,aZ ⋯,<-lX,Nat.sub_self,take_zero,cO,drop_append,drop_eq_nil_of_le ⋯,Nat.add_sub_cancel_left];rfl
 have J:((arrOf st).extract (P.length+na) (P.length+na+l)).toList=Y.take l:=by
  rw[Ly,e,bK,drop_append,drop_eq_nil_of_le (by rw[aG];lia),aG,lX,Nat.sub_self,nil_append,drop_zero,take_append_of_le_length ⋯]
 have sx:((arrOf st).extract (P.length+k) (P.length+na)).size=na - k:=by rw[<-bR,ex,length_drop];lia
 have sy:((arrOf st).extract (P.length+na) (P.length+na+l)).size=l:=by rw[<-bR,J,aO];lia
 have a1:∀(m:Array Keyed) g,MDone ky ((arrOf st).extract (P.length+k) (P.length+na)).toList ((arrOf st).extract (P.length+na) (P.length+na+l)).toList m.toList ->
   R true (SortSt.mk' (kindOf st) (m.toList.zipIdx.foldl (λa (q:Keyed×Nat)=>a.setIfInBounds (P.length+k+q.2) q.1) (arrOf st)) (((pendingOf st).setIfInBounds i (P.length,na+nb,Q)).eraseIdxIfInBounds (i+1)) g (failedOf st)):=λm g d=>by
  rw[ex,J]at d;rw[U,hf];have lm:m.toList.length=na - k+l:=by rw[d.perm.length_eq,aG,length_drop,aO];lia
  have B:∀z∈m.toList,z∈X.drop k\/z∈Y.take l:=λz p=>bA.mp (d.perm.mem_iff.mp p);refine h (X.take k++(m.toList++Y.drop l)) _ g ?_ ?_ ?_
  ·have p3:(m.toList++Y.drop l).Perm (X.drop k++Y):=by
    have:=d.perm.append_right (Y.drop l);rw[bK,take_append_drop]at this;exact this
   have p4:=p3.append_left (X.take k);rw[<-bK (X.take k) (X.drop k) Y,take_append_drop]at p4;exact p4
  ·refine cQ.mpr ⟨(BW G k).1,cQ.mpr ⟨d.srt,(BW D l).2.1,λx c y o=>?_⟩,λx c y o=>?_⟩
   ·rcases B x c with z|z
    ·exact KeyOrd.kle_trans (a0 x (mem_of_mem_drop z)) (a2 y o)
    ·exact(BW D l).2.2 x z y o
   ·rcases bA.mp o with z|z
    ·rcases B y z with z|z
     ·exact(BW G k).2.2 x c y z
     ·exact KeyOrd.kle_trans (H x c) (u y (mem_of_mem_take z))
    ·exact KeyOrd.kle_trans (H x c) (u y (mem_of_mem_drop z))
  ·have:=RU m.toList (P.length+k) 0 (arrOf st) ⋯;rw[this,Nat.add_zero,lm,e];have r:(P++X++Y++S).take (P.length+k)=P++X.take k:=by
    rw[bK,bK,take_append,aZ ⋯,Nat.add_sub_cancel_left,take_append_of_le_length ⋯]
   have N:(P++X++Y++S).drop (P.length+k+(na - k+l))=Y.drop l++S:=by
    rw[show P.length+k+(na - k+l)=(P++X).length+l by rw[aG];lia,bK,drop_append,drop_eq_nil_of_le ⋯,Nat.add_sub_cancel_left,nil_append,drop_append_of_le_length ⋯]
   rw[r,N];simp only[bK]
 have mx:∀z∈((arrOf st).extract (P.length+k) (P.length+na)).toList,mem z:=λz p=>T z (by rw[ex]at p;rw[e];simp[mem_of_mem_drop p]);have my:∀z∈((arrOf st).extract (P.length+na) (P.length+na+l)).toList,mem z:=λz p=>T z (by rw[J]at p;rw[e];simp[mem_of_mem_take p]);have first:∀x y,((arrOf st).extract (P.length+na) (P.length+na+l)).toList[0]?=some x->y∈((arrOf st).extract (P.length+k) (P.length+na)).toList->As ky x y:=λx y r o=>by
  rw[J,getElem?_take,aC ⋯,I]at r;cases r;rw[ex]at o;exact a8 y o
 have w:∀x∈((arrOf st).extract (P.length+na) (P.length+na+l)).toList,∀y,((arrOf st).extract (P.length+k) (P.length+na)).toList[((arrOf st).extract (P.length+k) (P.length+na)).size - 1]?=some y->As ky x y:=λx c y r=>by
  rw[sx,ex,getElem?_drop,show k+(na - k - 1)=na - 1 by lia,L]at r;cases r;rw[J]at c;exact a7 x c
 refine Af (λ_=>aD (YU (a:=(arrOf st).extract (P.length+k) (P.length+na)) (b:=(arrOf st).extract (P.length+na) (P.length+na+l)) C (by exact U) mx my (by rw[ex];exact(BW G k).2.1) (by rw[J];exact(BW D l).1) (by rw[sx];lia) (by rw[sy];lia) first w λm g d=>?_)) (λ_=>aD (YV (a:=(arrOf st).extract (P.length+k) (P.length+na)) (b:=(arrOf st).extract (P.length+na) (P.length+na+l)) C (by exact U) mx my (by rw[ex];exact(BW G k).2.1) (by rw[J];exact(BW D l).1) (by rw[sx];lia) (by rw[sy];lia) first w λm g d=>?_))
 all_goals
  refine aD (wpS_modify ?_);refine aD (wpS_get (aE ?_));have:=a1 m g d;have hn:(failedOf st).isNone=true:=by rw[hf];rfl
  show R (failedOf st).isNone _;rw[hn];exact this
end
section
variable{M:Model}{κ:SortKind}{ky:Keyed->O.α}{mem:Keyed->Prop}
def Kx(ky:Keyed->O.α)(qG:Array Keyed)(i:Nat):O.α:=ky (qG.getD i (Value.none,Value.none))
def Cw(ky:Keyed->O.α)(lo n:Nat)(qG:Array Keyed):Prop:=∀i j,i<=j->j<n->O.kle (Kx ky qG (lo+i)) (Kx ky qG (lo+j))
def DE(ky:Keyed->O.α)(lo n:Nat)(qG:Array Keyed):Prop:=∀i j,i<=j->j<n->O.kle (Kx ky qG (lo+j)) (Kx ky qG (lo+i))
theorem HW{p q:Array Keyed}(h:p[i]?=q[j]?):Kx ky p i=Kx ky q j:=by
 unfold Kx;rw[Array.getD_eq_getD_getElem?,Array.getD_eq_getD_getElem?,h]
theorem L3{p:Array Keyed}(a:j<=p.size)(k:Nat):Kx ky (mirror p i j ((j - i) / 2)) k=if i<=k/\k<j then Kx ky p (i+j - 1 - k)else Kx ky p k:=by
 have e:=getElem?_mirror_all (i:=i) a k;split
 ·rw[aC ‹_›]at e;exact HW e
 ·rw[aB ‹_›]at e;exact HW e
theorem RV{p:Array Keyed}(c:j<=p.size)(a:∀k,i<=k->k<j->Kx ky p k=Kx ky p (j - 1))(k:Nat):Kx ky (mirror p i j ((j - i) / 2)) k=Kx ky p k:=by
 rw[L3 c];split
 ·rw[a _ ⋯ ⋯,a k ⋯ ⋯]
 ·rfl
theorem RW{p:Array Keyed}(h:i<p.size):∃x,p[i]?=some x/\x∈p.toList/\Kx ky p i=ky x:=by
 refine⟨p[i],getElem?_pos _ i h,by simp,?_⟩;unfold Kx;rw[Array.getD_eq_getD_getElem?,getElem?_pos _ i h];rfl
structure From(lo:Nat)(p q:Array Keyed):Prop where
 perm:q.Perm p
 low:∀i,i<lo->q[i]?=p[i]?
theorem From.refl{p:Array Keyed}:From lo p p:=⟨Array.Perm.refl _,λ_ _=>rfl⟩
theorem From.trans{p q r:Array Keyed}(h:From lo p q)(g:From lo q r):From lo p r:=⟨g.perm.trans h.perm,λi hi=>(g.low i hi).trans (h.low i hi)⟩
theorem From.size{p q:Array Keyed}(h:From lo p q):q.size=p.size:=by have:=(Array.perm_iff_toList_perm.mp h.perm).length_eq;simpa using this
theorem From.mirror{p:Array Keyed}(hi:lo<=i)(a:j<=p.size):From lo p (mirror p i j ((j - i) / 2)):=⟨mirror_perm _ _ _ _,λk c=>by rw[getElem?_mirror_all a,aB ⋯]⟩
theorem From.mems{p q:Array Keyed}(h:From lo p q)(hm:∀x∈p.toList,mem x):∀x∈q.toList,mem x:=λx a=>hm x ((Array.perm_iff_toList_perm.mp h.perm).mem_iff.mp a)
theorem L4(C:Cmp M A E s κ O ky mem){R:Option Bool->SortSt->Prop}(e:kindOf st=κ)(a:∀x∈(arrOf st).toList,mem x)(hi:i<(arrOf st).size)(f:j<(arrOf st).size)
  (h:R (some (O.blt (Kx ky (arrOf st) i) (Kx ky (arrOf st) j))) st):wpS M A E s (ltAt' i j) R st:=by
 obtain⟨x,l,d,k1⟩:=RW (ky:=ky) hi;obtain⟨y,g,c,k2⟩:=RW (ky:=ky) f;rw[k1,k2]at h;exact aD (wpS_get (aD (Bh l (aD (Bh g (C.ask _ _ (a x d) (a y c) _ _ e h))))))
theorem F2(C:Cmp M A E s κ O ky mem){b:Bool}{R:Option Bool->SortSt->Prop}(e:O.blt (Kx ky (arrOf st) i) (Kx ky (arrOf st) j)=b)(c:kindOf st=κ)(a:∀x∈(arrOf st).toList,mem x)(hi:i<(arrOf st).size)(d:j<(arrOf st).size)
  (h:R (some b) st):wpS M A E s (ltAt' i j) R st:=L4 C c a hi d (by rw[e];exact h)
theorem D4{R:Unit->SortSt->Prop}(h:R () (setArr st (mirror (arrOf st) i j ((j - i) / 2)))):wpS M A E s (reverseSlice' i j) R st:=by
 rw[reverseSlice'_eq];exact wpS_modify h
theorem HX{a nrem:Nat}{R:Option (Option Nat)×Nat->SortSt->Prop}(F:Nat->Option (Option Nat)×Nat->StateT SortSt Sem (ForInStep (Option (Option Nat)×Nat)))
  (u:∀x n (r:ForInStep (Option (Option Nat)×Nat)->SortSt->Prop),1<=n->n<nrem->r (if O.blt (Kx ky qG (lo+n)) (Kx ky qG (lo+n - 1))=true then .done (none,n)else .yield (none,n+1)) st->wpS M A E s (F x (none,n)) r st)
  (h1:1<=a) (q:a<=nrem) (d:Cw ky lo a qG) (h:∀n,a<=n->n<=nrem->Cw ky lo n qG->(n=nrem\/O.klt (Kx ky qG (lo+n)) (Kx ky qG (lo+n - 1)))->R (none,n) st):wpS M A E s (forIn [a:nrem] (none,a) F) R st:=by
 refine wpS_forRange (I:=λx c f=>f=st/\c=(none,x)/\Cw ky lo x qG) ?_ ?_ ⟨rfl,rfl,d⟩
 ·rintro x c f l g ⟨rfl,rfl,d⟩;refine u x x _ ⋯ g ?_;cases e:O.blt (Kx ky qG (lo+x)) (Kx ky qG (lo+x - 1))with
  |true=>rw[aC rfl];exact h x l ⋯ d (.inr e)
  |false =>
   rw[aB (by simp)];refine⟨rfl,rfl,λi j p w=>?_⟩;by_cases o:j=x
   ·subst o;by_cases hi:i=j
    ·subst hi;exact KeyOrd.kle_refl _
    ·have v:O.kle (Kx ky qG (lo+(j - 1))) (Kx ky qG (lo+j)):=by rw[show lo+(j - 1)=lo+j - 1 by lia];exact e
     exact KeyOrd.kle_trans (d i (j - 1) ⋯ ⋯) v
   ·exact d i j p ⋯
 ·rintro c f ⟨rfl,rfl,d⟩;rw[Nat.max_eq_right q]at d ⊢;exact h nrem q (aQ _) d (.inl rfl)
theorem Ya(C:Cmp M A E s κ O ky mem){nrem:Nat}{R:Option Nat->SortSt->Prop}(hk:kindOf st=κ)(hm:∀x∈(arrOf st).toList,mem x)(h1:1<=nrem)(hz:lo+nrem<=(arrOf st).size)
  (h:∀m qG,From lo (arrOf st) qG->1<=m->m<=nrem->Cw ky lo m qG->R (some m) (setArr st qG)):wpS M A E s (countRun' lo nrem) R st:=by
 have body:∀(qG:Array Keyed),From lo (arrOf st) qG->∀n,1<=n->n<nrem->∀{R':Option Bool->SortSt->Prop},R' (some (O.blt (Kx ky qG (lo+n)) (Kx ky qG (lo+n - 1)))) (setArr st qG)->wpS M A E s (ltAt' (lo+n) (lo+n - 1)) R' (setArr st qG):=λqG d n H B R' p =>
  L4 (st:=setArr st qG) C hk (d.mems hm) (by show lo+n<qG.size;rw[d.size];lia) (by show lo+n - 1<qG.size;rw[d.size];lia) p
 have tail:∀(qG:Array Keyed) (n:Nat),From lo (arrOf st) qG->1<=n->n<=nrem->DE ky lo n qG->Cw ky lo n (mirror qG lo (lo+n) ((lo+n - lo) / 2)):=λqG n d H B g i j f hj=>by
  have hs:lo+n<=qG.size:=by rw[d.size];lia
  rw[L3 hs,L3 hs,aC ⋯,aC ⋯,show lo+(lo+n) - 1 - (lo+i)=lo+(n - 1 - i) by lia,show lo+(lo+n) - 1 - (lo+j)=lo+(n - 1 - j) by lia];exact g _ _ ⋯ ⋯
 have T:∀(qG:Array Keyed) (n q:Nat),From lo (arrOf st) qG->n<=nrem->q+1<=n->(∀i,n - (q+1)<=i->i<n->Kx ky qG (lo+i)=Kx ky qG (lo+n - 1))->∀k,Kx ky (mirror qG (lo+n - (q+1)) (lo+n) ((lo+n - (lo+n - (q+1))) / 2)) k=Kx ky qG k:=λqG n q d B y u k=>by
  refine RV (by rw[d.size];lia) (λk k1 k2=>?_) k;rw[show k=lo+(k - lo) by lia];exact u (k - lo) ⋯ ⋯
 refine aD (HX (ky:=ky) (lo:=lo) (qG:=arrOf st) _ (λx n R' H B p=>?_) (aQ 1) h1 (λi j f hj=>by rw[show i=j by lia];exact KeyOrd.kle_refl _) λn H B hs a8=>?_)
 ·refine aD (body (arrOf st) From.refl n H B ?_);cases e:O.blt (Kx ky (arrOf st) (lo+n)) (Kx ky (arrOf st) (lo+n - 1))with
  |true=>rw[e,aC rfl]at p;exact aE p
  |false=>rw[e,aB (by simp)]at p;exact aE p
 refine Af (λu=>aE (h n (arrOf st) From.refl H B hs)) (λu=>?_);have u:¬n=nrem:=by simpa using u
 have a6:=a8.resolve_left u;refine Af (λhn=>?_) (λhn=>?_)
 ·refine aD (L4 C hk hm ⋯ ⋯ ?_);cases a5:O.blt (Kx ky (arrOf st) lo) (Kx ky (arrOf st) (lo+n - 1))with
  |true=>exact Af (λ_=>aE (h n (arrOf st) From.refl H B hs)) (λz=>bS rfl z)
  |false =>
   refine Af (λz=>by cases z) (λ_=>?_);refine aD (D4 ?_);have all:∀k,k<n->Kx ky (arrOf st) (lo+k)=Kx ky (arrOf st) (lo+n - 1):=λk hk=>by
    have a1:=hs 0 k ⋯ hk;have a2:=hs k (n - 1) ⋯ ⋯;rw[show lo+(n - 1)=lo+n - 1 by lia]at a2;exact KeyOrd.kle_antisymm a2 (KeyOrd.kle_trans a5 a1)
   have N:From lo (arrOf st) (mirror (arrOf st) lo (lo+n) ((lo+n - lo) / 2)):=From.mirror (aQ _) ⋯;have ek:∀k,Kx ky (mirror (arrOf st) lo (lo+n) ((lo+n - lo) / 2)) k=Kx ky (arrOf st) k:=RV ⋯ λk k1 k2=>by
    rw[show k=lo+(k - lo) by lia];exact all _ ⋯
   have g:DE ky lo (n+1) (mirror (arrOf st) lo (lo+n) ((lo+n - lo) / 2)):=λi j f hj=>by
    rw[ek,ek];by_cases aa:j=n
    ·subst aa;by_cases hi:i=j
     ·subst hi;exact KeyOrd.kle_refl _
     ·rw[all i ⋯];exact KeyOrd.kle_of_klt a6
    ·rw[all i ⋯,all j ⋯];exact KeyOrd.kle_refl _
   show wpS M A E s _ R (setArr st (mirror (arrOf st) lo (lo+n) ((lo+n - lo) / 2)));generalize mirror (arrOf st) lo (lo+n) ((lo+n - lo) / 2)=r at N g ⊢;refine aD (wpS_lift (wpAny_rule ⟨rfl,?_⟩));refine aD (wpS_mono (wpS_forRange (I:=λx c o=>∃qG q,c=(none,x,q)/\o=setArr st qG/\From lo (arrOf st) qG/\DE ky lo x qG/\q+1<=x/\∀i,x - (q+1)<=i->i<x->Kx ky qG (lo+i)=Kx ky qG (lo+x - 1))
    (Q:=λc o=>∃qG m q,c=(none,m,q)/\o=setArr st qG/\From lo (arrOf st) qG/\DE ky lo m qG/\1<=m/\m<=nrem/\q+1<=m/\∀i,m - (q+1)<=i->i<m->Kx ky qG (lo+i)=Kx ky qG (lo+m - 1)) ?st ?fi ⟨r,0,rfl,rfl,N,g,⋯,λi h1 h2=>by congr 1;lia⟩) ?po)
   case fi =>
    rintro c o ⟨qG,q,rfl,rfl,d,g,y,u⟩;rw[Nat.max_eq_right ⋯]at *;exact⟨qG,nrem,q,rfl,rfl,d,g,⋯,⋯,y,u⟩
   case st =>
    rintro x c o a7 a4 ⟨qG,q,rfl,rfl,d,g,y,u⟩;refine aD (body qG d x ⋯ a4 ?_);cases e1:O.blt (Kx ky qG (lo+x)) (Kx ky qG (lo+x - 1))with
    |true =>
     refine Af (λ_=>?_) (λz=>bS rfl z);have Y:∀arr':Array Keyed,(∀k,Kx ky arr' k=Kx ky qG k)->DE ky lo (x+1) arr':=λarr' a0 i j f hj=>by
      rw[a0,a0];by_cases G:j=x
      ·subst G;by_cases hi:i=j
       ·subst hi;exact KeyOrd.kle_refl _
       ·have e2:O.kle (Kx ky qG (lo+j)) (Kx ky qG (lo+(j - 1))):=by rw[show lo+(j - 1)=lo+j - 1 by lia];exact KeyOrd.kle_of_klt e1
        exact KeyOrd.kle_trans e2 (g i (j - 1) ⋯ ⋯)
      ·exact g i j f ⋯
     refine Af (λD=>aD (D4 (aE ⟨_,0,rfl,rfl,d.trans (From.mirror (i:=lo+x - (q+1)) (j:=lo+x) ⋯ ?_),Y _ (T qG x q d ⋯ y u),⋯,λi h1 h2=>by congr 1;lia⟩))) (λD=>aE ⟨qG,0,rfl,rfl,d,Y qG dE,⋯,λi h1 h2=>by congr 1;lia⟩);show lo+x<=qG.size;rw[d.size];lia
    |false =>
     refine Af (λz=>by cases z) (λ_=>?_);have U:lo+x<qG.size:=by rw[d.size];lia
     cases e2:O.blt (Kx ky qG (lo+x - 1)) (Kx ky qG (lo+x))with
     |true =>
      refine aD (F2 (st:=setArr st qG) C e2 hk (d.mems hm) (by show lo+x - 1<qG.size;lia) U ?_);exact Af (λ_=>aE ⟨qG,x,q,rfl,rfl,d,g,⋯,⋯,y,u⟩) (λz=>bS rfl z)
     |false =>
      refine aD (F2 (st:=setArr st qG) C e2 hk (d.mems hm) (by show lo+x - 1<qG.size;lia) U ?_);have ex:Kx ky qG (lo+x)=Kx ky qG (lo+x - 1):=O.total _ _ e1 e2;refine Af (λz=>by cases z) (λ_=>aE ⟨qG,q+1,rfl,rfl,d,λi j f hj=>?_,⋯,λi i1 i2=>?_⟩)
      ·by_cases G:j=x
       ·subst G;by_cases hi:i=j
        ·subst hi;exact KeyOrd.kle_refl _
        ·rw[ex,show lo+j - 1=lo+(j - 1) by lia];exact g i (j - 1) ⋯ ⋯
       ·exact g i j f ⋯
      ·rw[show lo+(x+1) - 1=lo+x by lia];by_cases hi:i=x
       ·rw[hi]
       ·rw[ex];exact u i ⋯ ⋯
   case po =>
    rintro c o ⟨qG,m,q,rfl,rfl,d,g,L,J,y,u⟩;refine Af (λD=>aD (D4 ?_)) (λD=>?_)
    ·have w:=d.trans (From.mirror (i:=lo+m - (q+1)) (j:=lo+m) ⋯ (by rw[d.size];lia));have a3:DE ky lo m (mirror qG (lo+m - (q+1)) (lo+m) ((lo+m - (lo+m - (q+1))) / 2)):=λi j f hj=>by rw[T qG m q d J y u,T qG m q d J y u];exact g i j f hj
     show wpS M A E s _ R (setArr st (mirror qG (lo+m - (q+1)) (lo+m) ((lo+m - (lo+m - (q+1))) / 2)));generalize mirror qG (lo+m - (q+1)) (lo+m) ((lo+m - (lo+m - (q+1))) / 2)=l at w a3 ⊢;refine aD (D4 ?_);have v:=w.trans (From.mirror (i:=lo) (j:=lo+m) (aQ lo) (by rw[w.size];lia));refine aD (HX (ky:=ky) (lo:=lo) (qG:=mirror l lo (lo+m) ((lo+m - lo) / 2)) _ (λx n R' H B p=>?_) L J (tail l m w L J a3) λn' a b c _=>aE (h n' _ v (aR L a) b c));refine aD (body _ v n H B ?_);cases e:O.blt (Kx ky (mirror l lo (lo+m) ((lo+m - lo) / 2)) (lo+n)) (Kx ky (mirror l lo (lo+m) ((lo+m - lo) / 2)) (lo+n - 1))with
     |true=>rw[e,aC rfl]at p;exact aE p
     |false=>rw[e,aB (by simp)]at p;exact aE p
    ·refine aD (D4 ?_);have v:=d.trans (From.mirror (i:=lo) (j:=lo+m) (aQ lo) (by rw[d.size];lia));refine aD (HX (ky:=ky) (lo:=lo) (qG:=mirror qG lo (lo+m) ((lo+m - lo) / 2)) _ (λx n R' H B p=>?_) L J (tail qG m d L J g) λn' a b c _=>aE (h n' _ v (aR L a) b c));refine aD (body _ v n H B ?_);cases e:O.blt (Kx ky (mirror qG lo (lo+m) ((lo+m - lo) / 2)) (lo+n)) (Kx ky (mirror qG lo (lo+m) ((lo+m - lo) / 2)) (lo+n - 1))with
     |true=>rw[e,aC rfl]at p;exact aE p
     |false=>rw[e,aB (by simp)]at p;exact aE p
 ·have a9:n=1:=⋯;subst a9;have N:From lo (arrOf st) (arrOf st):=From.refl;have g:DE ky lo (1+1) (arrOf st):=λi j f hj=>by
   by_cases hi:i=j
   ·subst hi;exact KeyOrd.kle_refl _
   ·have h0:i=0:=⋯;have h1:j=1:=⋯;subst h0;subst h1;exact KeyOrd.kle_of_klt a6
  obtain⟨r,N,g,e0⟩:∃r,From lo (arrOf st) r/\DE ky lo (1+1) r/\r=arrOf st:=⟨_,N,g,rfl⟩;refine(show wpS M A E s _ R (setArr st r)->_ fromλhh=>by rw[e0]at hh;exact hh) ?_;refine aD (wpS_lift (wpAny_rule ⟨rfl,?_⟩));refine aD (wpS_mono (wpS_forRange (I:=λx c o=>∃qG q,c=(none,x,q)/\o=setArr st qG/\From lo (arrOf st) qG/\DE ky lo x qG/\q+1<=x/\∀i,x - (q+1)<=i->i<x->Kx ky qG (lo+i)=Kx ky qG (lo+x - 1))
   (Q:=λc o=>∃qG m q,c=(none,m,q)/\o=setArr st qG/\From lo (arrOf st) qG/\DE ky lo m qG/\1<=m/\m<=nrem/\q+1<=m/\∀i,m - (q+1)<=i->i<m->Kx ky qG (lo+i)=Kx ky qG (lo+m - 1)) ?st ?fi ⟨r,0,rfl,rfl,N,g,⋯,λi h1 h2=>by congr 1;lia⟩) ?po)
  case fi =>
   rintro c o ⟨qG,q,rfl,rfl,d,g,y,u⟩;rw[Nat.max_eq_right ⋯]at *;exact⟨qG,nrem,q,rfl,rfl,d,g,⋯,⋯,y,u⟩
  case st =>
   rintro x c o a7 a4 ⟨qG,q,rfl,rfl,d,g,y,u⟩;refine aD (body qG d x ⋯ a4 ?_);cases e1:O.blt (Kx ky qG (lo+x)) (Kx ky qG (lo+x - 1))with
   |true =>
    refine Af (λ_=>?_) (λz=>bS rfl z);have Y:∀arr':Array Keyed,(∀k,Kx ky arr' k=Kx ky qG k)->DE ky lo (x+1) arr':=λarr' a0 i j f hj=>by
     rw[a0,a0];by_cases G:j=x
     ·subst G;by_cases hi:i=j
      ·subst hi;exact KeyOrd.kle_refl _
      ·have e2:O.kle (Kx ky qG (lo+j)) (Kx ky qG (lo+(j - 1))):=by rw[show lo+(j - 1)=lo+j - 1 by lia];exact KeyOrd.kle_of_klt e1
       exact KeyOrd.kle_trans e2 (g i (j - 1) ⋯ ⋯)
     ·exact g i j f ⋯
    refine Af (λD=>aD (D4 (aE ⟨_,0,rfl,rfl,d.trans (From.mirror (i:=lo+x - (q+1)) (j:=lo+x) ⋯ ?_),Y _ (T qG x q d ⋯ y u),⋯,λi h1 h2=>by congr 1;lia⟩))) (λD=>aE ⟨qG,0,rfl,rfl,d,Y qG dE,⋯,λi h1 h2=>by congr 1;lia⟩);show lo+x<=qG.size;rw[d.size];lia
   |false =>
    refine Af (λz=>by cases z) (λ_=>?_);have U:lo+x<qG.size:=by rw[d.size];lia
    cases e2:O.blt (Kx ky qG (lo+x - 1)) (Kx ky qG (lo+x))with
    |true =>
     refine aD (F2 (st:=setArr st qG) C e2 hk (d.mems hm) (by show lo+x - 1<qG.size;lia) U ?_);exact Af (λ_=>aE ⟨qG,x,q,rfl,rfl,d,g,⋯,⋯,y,u⟩) (λz=>bS rfl z)
    |false =>
     refine aD (F2 (st:=setArr st qG) C e2 hk (d.mems hm) (by show lo+x - 1<qG.size;lia) U ?_);have ex:Kx ky qG (lo+x)=Kx ky qG (lo+x - 1):=O.total _ _ e1 e2;refine Af (λz=>by cases z) (λ_=>aE ⟨qG,q+1,rfl,rfl,d,λi j f hj=>?_,⋯,λi i1 i2=>?_⟩)
     ·by_cases G:j=x
      ·subst G;by_cases hi:i=j
       ·subst hi;exact KeyOrd.kle_refl _
       ·rw[ex,show lo+j - 1=lo+(j - 1) by lia];exact g i (j - 1) ⋯ ⋯
      ·exact g i j f ⋯
     ·rw[show lo+(x+1) - 1=lo+x by lia];by_cases hi:i=x
      ·rw[hi]
      ·rw[ex];exact u i ⋯ ⋯
  case po =>
   rintro c o ⟨qG,m,q,rfl,rfl,d,g,L,J,y,u⟩;refine Af (λD=>aD (D4 ?_)) (λD=>?_)
   ·have w:=d.trans (From.mirror (i:=lo+m - (q+1)) (j:=lo+m) ⋯ (by rw[d.size];lia));have a3:DE ky lo m (mirror qG (lo+m - (q+1)) (lo+m) ((lo+m - (lo+m - (q+1))) / 2)):=λi j f hj=>by rw[T qG m q d J y u,T qG m q d J y u];exact g i j f hj
    show wpS M A E s _ R (setArr st (mirror qG (lo+m - (q+1)) (lo+m) ((lo+m - (lo+m - (q+1))) / 2)));generalize mirror qG (lo+m - (q+1)) (lo+m) ((lo+m - (lo+m - (q+1))) / 2)=l at w a3 ⊢;refine aD (D4 ?_);have v:=w.trans (From.mirror (i:=lo) (j:=lo+m) (aQ lo) (by rw[w.size];lia));refine aD (HX (ky:=ky) (lo:=lo) (qG:=mirror l lo (lo+m) ((lo+m - lo) / 2)) _ (λx n R' H B p=>?_) L J (tail l m w L J a3) λn' a b c _=>aE (h n' _ v (aR L a) b c));refine aD (body _ v n H B ?_);cases e:O.blt (Kx ky (mirror l lo (lo+m) ((lo+m - lo) / 2)) (lo+n)) (Kx ky (mirror l lo (lo+m) ((lo+m - lo) / 2)) (lo+n - 1))with
    |true=>rw[e,aC rfl]at p;exact aE p
    |false=>rw[e,aB (by simp)]at p;exact aE p
   ·refine aD (D4 ?_);have v:=d.trans (From.mirror (i:=lo) (j:=lo+m) (aQ lo) (by rw[d.size];lia));refine aD (HX (ky:=ky) (lo:=lo) (qG:=mirror qG lo (lo+m) ((lo+m - lo) / 2)) _ (λx n R' H B p=>?_) L J (tail qG m d L J g) λn' a b c _=>aE (h n' _ v (aR L a) b c));refine aD (body _ v n H B ?_);cases e:O.blt (Kx ky (mirror qG lo (lo+m) ((lo+m - lo) / 2)) (lo+n)) (Kx ky (mirror qG lo (lo+m) ((lo+m - lo) / 2)) (lo+n - 1))with
    |true=>rw[e,aC rfl]at p;exact aE p
    |false=>rw[e,aB (by simp)]at p;exact aE p
end
section
variable{M:Model}{κ:SortKind}{ky:Keyed->O.α}{mem:Keyed->Prop}
theorem Yb{p:Array Keyed}{a d:Nat}(c:a<p.size)(f:d<=a)(k:Nat):Kx ky (bubble p a d) k=if k=a - d then Kx ky p a else if a - d<k/\k<=a then Kx ky p (k - 1)else Kx ky p k:=by
 have e:=getElem?_bubble c d f k;split
 ·rw[aC ‹_›]at e;exact HW e
 ·rw[aB ‹_›]at e;split
  ·rw[aC ‹_›]at e;exact HW e
  ·rw[aB ‹_›]at e;exact HW e
theorem Yc{R:Unit->SortSt->Prop}(h:R () (setArr st (bubble (arrOf st) i (i - j)))):wpS M A E s (moveDown' i j) R st:=by
 rw[moveDown'_eq];exact wpS_modify h
theorem Yd(C:Cmp M A E s κ O ky mem){ok:Nat}{R:Bool->SortSt->Prop}(T:kindOf st=κ)(N:∀x∈(arrOf st).toList,mem x)(a0:ok<=n)(hz:lo+n<=(arrOf st).size)(hs:Cw ky lo ok (arrOf st))
  (h:∀qG,From lo (arrOf st) qG->Cw ky lo n qG->R true (setArr st qG)):wpS M A E s (binarySort' lo n ok) R st:=by
 refine aD (wpS_mono (wpS_forRange (I:=λk c a=>∃qG,c=(none,())/\a=setArr st qG/\From lo (arrOf st) qG/\Cw ky lo (min k n) qG)
  (Q:=λc a=>∃qG,c=(none,())/\a=setArr st qG/\From lo (arrOf st) qG/\Cw ky lo n qG) ?step ?H ⟨arrOf st,rfl,rfl,From.refl,?w⟩) ?v)
 case v =>
  rintro c a ⟨qG,rfl,rfl,g,d⟩;exact aE (h qG g d)
 case w =>
  intro i j o hj;by_cases h0:ok=0
  ·rw[show i=j by lia];exact KeyOrd.kle_refl _
  ·exact hs i j o ⋯
 case H =>
  rintro c a ⟨qG,rfl,rfl,g,d⟩;refine⟨qG,rfl,rfl,g,?_⟩
  rwa [show min (max (max ok 1) n) n=n by lia]at d
 case step =>
  rintro k c a a4 a3 ⟨qG,rfl,rfl,g,d⟩;rw[show min k n=k by lia]at d;have e:lo+k<qG.size:=by rw[g.size];lia
  refine aD (wpS_mono (wpS_forRange (I:=λx c a=>a=setArr st qG/\∃l r,c=(none,l,r)/\l<=r/\r<=k/\r - l<=k - x/\(∀i,i<l->O.kle (Kx ky qG (lo+i)) (Kx ky qG (lo+k)))/\∀i,r<=i->i<k->O.klt (Kx ky qG (lo+k)) (Kx ky qG (lo+i)))
   (Q:=λc a=>a=setArr st qG/\∃l r,c=(none,l,r)/\l<=k/\(∀i,i<l->O.kle (Kx ky qG (lo+i)) (Kx ky qG (lo+k)))/\∀i,l<=i->i<k->O.klt (Kx ky qG (lo+k)) (Kx ky qG (lo+i))) ?D ?J ⟨rfl,0,k,rfl,⋯,⋯,⋯,λi hi=>⋯,λi h1 h2=>⋯⟩) ?G)
  case J =>
   rintro c a ⟨rfl,l,r,rfl,h1,h2,h3,u,q⟩;have:l=r:=⋯;subst this;exact⟨rfl,l,l,rfl,h2,u,q⟩
  case D =>
   rintro x c a _ hx ⟨rfl,l,r,rfl,h1,h2,h3,u,q⟩;refine Af (λy=>aE ?_) (λy=>?_)
   ·have y:l≥r:=y;have:l=r:=⋯;subst this;exact⟨rfl,l,l,rfl,h2,u,q⟩
   ·have y:¬l≥r:=y;have f:lo+(l+r) / 2<qG.size:=⋯;cases p:O.blt (Kx ky qG (lo+k)) (Kx ky qG (lo+(l+r) / 2))with
    |true =>
     refine aD (F2 (st:=setArr st qG) C p T (g.mems N) e f ?_);exact Af (λ_=>aE ⟨rfl,l,(l+r) / 2,rfl,⋯,⋯,⋯,u,λi i1 i2=>KeyOrd.klt_of_klt_of_kle p (d _ _ i1 i2)⟩) (λz=>bS rfl z)
    |false =>
     refine aD (F2 (st:=setArr st qG) C p T (g.mems N) e f ?_);exact Af (λz=>by cases z) (λ_=>aE ⟨rfl,(l+r) / 2+1,r,rfl,⋯,⋯,⋯,λi i1=>KeyOrd.kle_trans (d i ((l+r) / 2) ⋯ ⋯) p,q⟩)
  case G =>
   rintro c a ⟨rfl,l,r,rfl,h2,u,q⟩;refine aD (Yc (aE ⟨_,rfl,rfl,g.trans ⟨bubble_perm _ _ _,λi hi=>?_⟩,?_⟩))
   ·show(bubble qG (lo+k) (lo+k - (lo+l)))[i]?=_;rw[getElem?_bubble e _ ⋯,aB ⋯,aB ⋯]
   ·show Cw ky lo (min (k+1) n) (bubble qG (lo+k) (lo+k - (lo+l)));rw[show min (k+1) n=k+1 by lia];have L:∀i,i<=k->Kx ky (bubble qG (lo+k) (lo+k - (lo+l))) (lo+i)=if i=l then Kx ky qG (lo+k)else if l<i then Kx ky qG (lo+(i - 1))else Kx ky qG (lo+i):=λi hi=>by
     rw[Yb e ⋯,show lo+k - (lo+k - (lo+l))=lo+l by lia];by_cases p:i=l
     ·rw[aC ⋯,aC p]
     ·rw[aB ⋯,aB p];by_cases U:l<i
      ·rw[aC ⋯,aC U,show lo+i - 1=lo+(i - 1) by lia]
      ·rw[aB ⋯,aB U]
    intro i j o hj;rw[L i ⋯,L j ⋯];by_cases a1:i=l
    ·rw[aC a1];by_cases B:j=l
     ·rw[aC B];exact KeyOrd.kle_refl _
     ·rw[aB B,aC ⋯];exact KeyOrd.kle_of_klt (q (j - 1) ⋯ ⋯)
    ·rw[aB a1];by_cases a2:l<i
     ·rw[aC a2,aB ⋯,aC ⋯];exact d _ _ ⋯ ⋯
     ·rw[aB a2];by_cases B:j=l
      ·rw[aC B];exact u i ⋯
      ·rw[aB B];by_cases Y:l<j
       ·rw[aC Y];exact d _ _ ⋯ ⋯
       ·rw[aB Y];exact d _ _ o ⋯
def BX(ky:Keyed->O.α):List (Nat×Nat×Nat)->List (List Keyed)->Nat->Prop
 |[],[],_=>True
 |q::p,r::rs,b=>q.1=b/\q.2.1=r.length/\0<r.length/\Ap ky r/\BX ky p rs (b+r.length)
 |_,_,_=>False
theorem BX.len:∀{p:List (Nat×Nat×Nat)} {rs:List (List Keyed)} {b:Nat},BX ky p rs b->p.length=rs.length
 |[],[],_,_=>rfl
 |q::p,r::rs,b,h=>by simp[BX.len h.2.2.2.2]
 |[],_::_,_,h=>h.elim
 |_::_,[],_,h=>h.elim
theorem BX.few:∀{p:List (Nat×Nat×Nat)} {rs:List (List Keyed)} {b:Nat},BX ky p rs b->rs.length<=rs.flatten.length
 |[],[],_,_=>by simp
 |q::p,r::rs,b,h=>by have:=BX.few h.2.2.2.2;have:=h.2.2.1;simp only[length_cons,flatten_cons,aG];lia
 |[],_::_,_,h=>h.elim
 |_::_,[],_,h=>h.elim
theorem BX.snoc:∀{p:List (Nat×Nat×Nat)} {rs:List (List Keyed)} {b:Nat},BX ky p rs b->∀{r:List Keyed} {q:Nat×Nat×Nat},q.1=b+rs.flatten.length->q.2.1=r.length->0<r.length->Ap ky r->BX ky (p++[q]) (rs++[r]) b
 |[],[],b,_,r,q,h1,h2,c,a=>⟨by simpa using h1,h2,c,a,trivial⟩
 |q'::p,d::rs,b,h,r,q,h1,h2,c,a=>⟨h.1,h.2.1,h.2.2.1,h.2.2.2.1,BX.snoc h.2.2.2.2 (by rw[h1];simp only[flatten_cons,aG];lia) h2 c a⟩
 |[],_::_,_,h,_,_,_,_,_,_=>h.elim
 |_::_,[],_,h,_,_,_,_,_,_=>h.elim
theorem BX.pow{f:Nat->Nat}:∀{p:List (Nat×Nat×Nat)} {rs:List (List Keyed)} {b i:Nat},BX ky p rs b->BX ky (p.modify i λq=>(q.1,q.2.1,f q.2.2)) rs b
 |[],[],_,i,_=>by cases i<;>trivial
 |q::p,r::rs,b,0,h=>h
 |q::p,r::rs,b,i+1,h=>⟨h.1,h.2.1,h.2.2.1,h.2.2.2.1,BX.pow h.2.2.2.2⟩
 |[],_::_,_,_,h=>h.elim
 |_::_,[],_,_,h=>h.elim
theorem BX.split:∀{p:List (Nat×Nat×Nat)} {rs:List (List Keyed)} {b:Nat} (i:Nat),BX ky p rs b->i+1<p.length ->
  ∃a X Y c e d,rs=a++X::Y::c/\p[i]?=some (b+a.flatten.length,X.length,e)/\p[i+1]?=some (b+a.flatten.length+X.length,Y.length,d)/\0<X.length/\0<Y.length/\Ap ky X/\Ap ky Y /\
   ∀Z,Ap ky Z->Z.length=X.length+Y.length->BX ky ((p.set i (b+a.flatten.length,X.length+Y.length,e)).eraseIdx (i+1)) (a++Z::c) b
 |q::s::p,r::r2::rs,b,0,h,_=>by
  obtain⟨h1,h2,l,j,o,n,x,w,v⟩:=h;obtain⟨N,M,I⟩:=q;obtain⟨L,J,H⟩:=s;simp only at h1 h2 o n;subst h1;subst h2;subst o;subst n;refine⟨[],r,r2,rs,I,H,rfl,by simp,by simp,l,x,j,w,λZ g f=>?_⟩;exact⟨by simp,by simp[f],⋯,g,by rw[f,<-Nat.add_assoc];exact v⟩
 |q::p,r::rs,b,i+1,h,hi=>by
  obtain⟨h1,h2,l,j,u⟩:=h;obtain⟨a,X,Y,c,e,d,G,E,D,C,B,A,z,y⟩:=BX.split i u (by simpa using hi);refine⟨r::a,X,Y,c,e,d,by rw[G];rfl,?_,?_,C,B,A,z,λZ g f=>?_⟩
  ·rw[getElem?_cons_succ,E,flatten_cons,aG,Nat.add_assoc]
  ·rw[getElem?_cons_succ,D,flatten_cons,aG,Nat.add_assoc b]
  ·have:=y Z g f;refine⟨h1,h2,l,j,?_⟩;rw[flatten_cons,aG,<-Nat.add_assoc];exact this
 |[],_,_,_,_,hi=>by simp at hi
 |[_],_,_,0,_,hi=>by simp at hi
 |_::_,[],_,_,h,_=>h.elim
 |_::_::_,[_],_,0,h,_=>h.2.2.2.2.elim
theorem Cw.srt(h:Cw ky lo n qG)(hz:lo+n<=qG.size):Ap ky ((qG.toList.drop lo).take n):=by
 refine pairwise_iff_getElem.mpr λi j hi c g=>?_;have d:i<n:=by rw[aO]at hi;lia
 have a:j<n:=by rw[aO]at c;lia
 have e:∀k (f:k<((qG.toList.drop lo).take n).length),k<n->ky ((qG.toList.drop lo).take n)[k]=Kx ky qG (lo+k):=λk f hn=>by
  rw[getElem_take,getElem_drop];unfold Kx;rw[Array.getD_eq_getD_getElem?,getElem?_pos qG (lo+k) ⋯];simp
 show O.kle _ _;rw[e i hi d,e j c a];exact h i j ⋯ a
end
section
variable{M:Model}{κ:SortKind}{ky:Keyed->O.α}{mem:Keyed->Prop}
structure Rn(κ:SortKind)(ky:Keyed->O.α)(a0:Array Keyed)(st:SortSt)(rs:List (List Keyed))(qF:List Keyed):Prop where
 kind:kindOf st=κ
 failed:failedOf st=none
 perm:(arrOf st).Perm a0
 eq:(arrOf st).toList=rs.flatten++qF
 pend:BX ky (pendingOf st).toList rs 0
variable{a0:Array Keyed}{rs:List (List Keyed)}{qF:List Keyed}
theorem Rn.mems(r:Rn κ ky a0 st rs qF)(hm:∀x∈a0.toList,mem x):∀x∈(arrOf st).toList,mem x:=λx a=>hm x ((Array.perm_iff_toList_perm.mp r.perm).mem_iff.mp a)
theorem Rn.size(r:Rn κ ky a0 st rs qF):(arrOf st).size=a0.size:=by have:=(Array.perm_iff_toList_perm.mp r.perm).length_eq;simpa using this
theorem Rn.psize(r:Rn κ ky a0 st rs qF):(pendingOf st).size=rs.length:=by rw[<-r.pend.len,bR]
theorem Rn.merge(C:Cmp M A E s κ O ky mem)(r:Rn κ ky a0 st rs qF)(hm:∀x∈a0.toList,mem x)(hi:i+1<rs.length){R:Bool->SortSt->Prop}
  (h:∀st' d,Rn κ ky a0 st' d qF->d.flatten.length=rs.flatten.length->d.length+1=rs.length->R true st'):wpS M A E s (mergeAt' i) R st:=by
 obtain⟨c,X,Y,e,u,q,f,p,o,B,z,y,w,v⟩:=r.pend.split i (by rw[r.pend.len];exact hi);rw[Nat.zero_add,Array.getElem?_toList]at p o;have a:(arrOf st).toList=c.flatten++X++Y++(e.flatten++qF):=by rw[r.eq,f];simp[bK]
 refine YZ C r.kind r.failed (r.mems hm) a rfl rfl rfl B z y w p o rfl λZ qG g j sz n=>?_;have l:Z.length=X.length+Y.length:=by rw[j.length_eq,aG]
 refine h _ (c++Z::e) ⟨rfl,rfl,?_,?_,?_⟩ ?_ ?_
 ·show qG.Perm a0;refine Array.Perm.trans (Array.perm_iff_toList_perm.mpr ?_) r.perm;rw[n,a];refine List.Perm.append_right _ ?_;rw[bK];exact j.append_left _
 ·show qG.toList=_;rw[n];simp[bK]
 ·show BX ky (((pendingOf st).setIfInBounds i (c.flatten.length,X.length+Y.length,u)).eraseIdxIfInBounds (i+1)).toList _ 0;have:=v Z sz l;rw[Nat.zero_add]at this;rw[Array.eraseIdxIfInBounds_eq];split
  ·rw[Array.toList_eraseIdx,Array.toList_setIfInBounds];exact this
  ·rename_i hn;rw[Array.size_setIfInBounds,r.psize]at hn;lia
 ·rw[f];simp[l];lia
 ·rw[f];simp;lia
theorem Ye(C:Cmp M A E s κ O ky mem){R:Unit->SortSt->Prop}(hk:kindOf st=κ)(hf:failedOf st=none)(hp:pendingOf st=#[])(Y:∀x∈(arrOf st).toList,mem x)
  (h:∀st',(arrOf st').Perm (arrOf st)->failedOf st'=none->Ap ky (arrOf st').toList->R () st'):wpS M A E s sortRuns' R st:=by
 have r0:Rn κ ky (arrOf st) st [] (arrOf st).toList:=⟨hk,hf,Array.Perm.refl _,rfl,by rw[hp];trivial⟩;refine aD (wpS_get ?_);refine aD (wpS_mono (wpS_forRange (I:=λx c st'=>∃rs qF,c=(none,rs.flatten.length)/\Rn κ ky (arrOf st) st' rs qF/\(x<=rs.flatten.length\/(arrOf st).size<=rs.flatten.length))
  (Q:=λc st'=>∃rs qF,c=(none,rs.flatten.length)/\Rn κ ky (arrOf st) st' rs qF/\(arrOf st).size<=rs.flatten.length) ?step ?G ⟨[],_,rfl,r0,.inl (cD _)⟩) ?L)
 case G =>
  rintro c st' ⟨rs,qF,rfl,r,B⟩;exact⟨rs,qF,rfl,r,B.elim (λB=>aR (Nat.le_max_right _ _) B) id⟩
 case L =>
  rintro c st' ⟨rs,qF,rfl,r,B⟩;have hl:qF=[]:=by
   have:=aT length r.eq;rw[bR,r.size,aG]at this;exact cM ⋯
  subst hl;have a7:=r.pend.few;have a3:rs.flatten.length=(arrOf st).size:=by
   have:=aT length r.eq;rw[bR,r.size,cO]at this;exact this.symm
  refine aD (wpS_mono (wpS_forRange (I:=λy c st'=>∃rs,c=(none,())/\Rn κ ky (arrOf st) st' rs []/\(rs.length<=(arrOf st).size - y\/rs.length<=1)) (Q:=λc st'=>∃rs,c=(none,())/\Rn κ ky (arrOf st) st' rs []/\rs.length<=1) ?st ?fi ⟨rs,rfl,r,.inl ⋯⟩) ?po)
  case po =>
   rintro c st' ⟨rs,rfl,r,h1⟩;refine aE (h st' r.perm r.failed ?_);rw[r.eq,cO];have v:=r.pend;generalize (pendingOf st').toList=pl at v
   match rs,h1,pl,v with
   |[],_,_,_=>exact List.Pairwise.nil
   |[x],_,[q],v=>simpa using v.2.2.2.1
  case fi =>
   rintro c st' ⟨rs,rfl,r,h1⟩;refine⟨rs,rfl,r,?_⟩;rcases h1 with h1|h1
   ·have:max 0 (arrOf st).size=(arrOf st).size:=Nat.max_eq_right (cD _);have h1:rs.length<=(arrOf st).size - max 0 (arrOf st).size:=h1;lia
   ·exact h1
  case st =>
   rintro y c st' _ hy ⟨rs,rfl,r,h1⟩;refine aD (wpS_get ?_);have U:=r.psize;refine Af (λu=>aE ⟨rs,rfl,r,?_⟩) (λu=>?_)
   ·have u:(pendingOf st').size<=1:=u;lia
   ·have u:¬(pendingOf st').size<=1:=u;have G:∀i,i+1<rs.length->wpS M A E s (mergeAt' i) (λb p=>b=true/\∃o,Rn κ ky (arrOf st) p o []/\o.length+1=rs.length) st':=λi hi=>r.merge C Y hi λp o r' _ h2=>⟨rfl,o,r',h2⟩;refine aD (wpS_mono (G _ ?_) ?_)
    ·have q1:(pendingOf st').size - 2 - 1+1<rs.length:=⋯;have q2:(pendingOf st').size - 2+1<rs.length:=⋯
     repeat' split
     all_goals first|exact q1|exact q2
    ·rintro b p ⟨rfl,o,r',h2⟩;refine Af (λz=>by cases z) (λ_=>aE ⟨o,rfl,r',?_⟩);lia
 case step =>
  rintro x c st' _ B ⟨rs,qF,rfl,r,a8⟩;have a3:rs.flatten.length+qF.length=(arrOf st).size:=by
   have:=aT length r.eq;rw[bR,r.size,aG]at this;exact this.symm
  have B:x<(arrOf st).size:=B;refine Af (λu=>aE ⟨rs,qF,rfl,r,u⟩) (λu=>?_);have u:¬rs.flatten.length≥(arrOf st).size:=u;have after:∀(n:Nat) (qG:Array Keyed),From rs.flatten.length (arrOf st') qG->1<=n->rs.flatten.length+n<=(arrOf st).size->Cw ky rs.flatten.length n qG ->
    Rn κ ky (arrOf st) (setArr st' qG) rs (qG.toList.drop rs.flatten.length)/\Ap ky ((qG.toList.drop rs.flatten.length).take n)/\qG.size=(arrOf st).size:=λn qG w n1 n2 hu=>by
   have H:qG.size=(arrOf st).size:=by rw[w.size,r.size]
   have a0:qG.toList.take rs.flatten.length=rs.flatten:=by
    have e1:qG.toList.take rs.flatten.length=(arrOf st').toList.take rs.flatten.length:=by
     apply ext_getElem?;intro i;rw[getElem?_take,getElem?_take];split
     ·rw[Array.getElem?_toList,Array.getElem?_toList];exact w.low i ‹_›
     ·rfl
    rw[e1,r.eq,take_left]
   refine⟨⟨r.kind,r.failed,w.perm.trans r.perm,?_,r.pend⟩,hu.srt ⋯,H⟩;show qG.toList=_;have:=(take_append_drop rs.flatten.length qG.toList).symm;rw[a0]at this;exact this
  refine aD (Ya C r.kind (r.mems Y) (by show 1<=(arrOf st).size - rs.flatten.length;lia) (by rw[r.size];show rs.flatten.length+((arrOf st).size - rs.flatten.length)<=_;lia) λm qG w m1 m2 hu=>?_);have m2:m<=(arrOf st).size - rs.flatten.length:=m2;refine Af (λD=>?_) (λD=>?_)
  ·have D:m<minRun' (arrOf st).size (arrOf st).size 0:=D;refine aD (wpS_lift (wpAny_rule ⟨rfl,?_⟩));refine aD (Yd (st:=setArr st' qG) (lo:=rs.flatten.length) (n:=(min ((arrOf st).size - rs.flatten.length) (minRun' (arrOf st).size (arrOf st).size 0))) (ok:=m) C r.kind (w.mems (r.mems Y)) ⋯ (by show _<=qG.size;rw[w.size,r.size];lia) hu λarr2 a6 a2=>?_);have a5:From rs.flatten.length (arrOf st') arr2:=w.trans a6;refine Af (λz=>by cases z) (λ_=>?_);obtain⟨J,s1,H⟩:=after (min ((arrOf st).size - rs.flatten.length) (minRun' (arrOf st).size (arrOf st).size 0)) arr2 a5 ⋯ ⋯ a2;have T:∀(d:SortSt) (e:List (List Keyed)),Rn κ ky (arrOf st) d e (arr2.toList.drop rs.flatten.length)->e.flatten.length=rs.flatten.length->∃j l,((none:Option Unit),rs.flatten.length+(min ((arrOf st).size - rs.flatten.length) (minRun' (arrOf st).size (arrOf st).size 0)))=(none,j.flatten.length)/\Rn κ ky (arrOf st) (setPending d ((pendingOf d).push (rs.flatten.length,(min ((arrOf st).size - rs.flatten.length) (minRun' (arrOf st).size (arrOf st).size 0)),0))) j l/\(x+1<=j.flatten.length\/(arrOf st).size<=j.flatten.length):=λd e g l2=>by
    have lt:((arr2.toList.drop rs.flatten.length).take (min ((arrOf st).size - rs.flatten.length) (minRun' (arrOf st).size (arrOf st).size 0))).length=(min ((arrOf st).size - rs.flatten.length) (minRun' (arrOf st).size (arrOf st).size 0)):=by have:=bR (xs:=arr2);rw[aO,length_drop];lia
    have N:(e++[(arr2.toList.drop rs.flatten.length).take (min ((arrOf st).size - rs.flatten.length) (minRun' (arrOf st).size (arrOf st).size 0))]).flatten.length=rs.flatten.length+(min ((arrOf st).size - rs.flatten.length) (minRun' (arrOf st).size (arrOf st).size 0)):=by
     rw[flatten_append,aG,l2];simp only[flatten_cons,flatten_nil,cO,lt]
    refine⟨e++[(arr2.toList.drop rs.flatten.length).take (min ((arrOf st).size - rs.flatten.length) (minRun' (arrOf st).size (arrOf st).size 0))],(arr2.toList.drop rs.flatten.length).drop (min ((arrOf st).size - rs.flatten.length) (minRun' (arrOf st).size (arrOf st).size 0)),by rw[N],⟨g.kind,g.failed,g.perm,?_,?_⟩,?_⟩
    ·show(arrOf d).toList=_;rw[g.eq];simp only[flatten_append,flatten_cons,flatten_nil,cO,bK,take_append_drop]
    ·show BX ky ((pendingOf d).push (rs.flatten.length,(min ((arrOf st).size - rs.flatten.length) (minRun' (arrOf st).size (arrOf st).size 0)),0)).toList _ 0;rw[Array.toList_push];exact g.pend.snoc (by rw[Nat.zero_add,l2]) (by rw[lt]) (by rw[lt];lia) s1
    ·rw[N];lia
   refine aD (wpS_get ?_);cases hb:(pendingOf (setArr st' arr2)).back? with
   |none=>exact aD (wpS_modify (aE (T (setArr st' arr2) rs J rfl)))
   |some q =>
    obtain⟨q1,q2,q3⟩:=q;refine aD (wpS_mono (wpS_forRange (I:=λ_ c d=>∃e,c=(none,())/\Rn κ ky (arrOf st) d e (arr2.toList.drop rs.flatten.length)/\e.flatten.length=rs.flatten.length) (Q:=λc d=>∃e,c=(none,())/\Rn κ ky (arrOf st) d e (arr2.toList.drop rs.flatten.length)/\e.flatten.length=rs.flatten.length) ?a ?b ⟨rs,rfl,J,rfl⟩) ?c)
    case b=>intro c d hh;exact hh
    case c =>
     rintro c d ⟨e,rfl,g,l2⟩;refine aD (wpS_modify (aD (wpS_modify (aE (T _ e ⟨g.kind,g.failed,g.perm,g.eq,?_⟩ l2)))));show BX ky ((pendingOf d).modify ((pendingOf d).size - 1) λq=>(q.1,q.2.1,_)).toList e 0;rw[Array.toList_modify];exact g.pend.pow (f:=λ_=>_)
    case a =>
     rintro y c d _ _ ⟨e,rfl,g,l2⟩;refine aD (wpS_get ?_);have U:=g.psize;dsimp only;cases he:(if(pendingOf d).size > 1 then(pendingOf d)[(pendingOf d).size - 2]? else none)with
     |none=>exact aE ⟨e,rfl,g,l2⟩
     |some q =>
      have a4:(pendingOf d).size > 1:=by
       by_cases z:(pendingOf d).size > 1
       ·exact z
       ·rw[aB z]at he;cases he
      exact Af (λ_=>aE ⟨e,rfl,g,l2⟩) (λ_=>aD (g.merge C Y (i:=(pendingOf d).size - 2) ⋯ λa1 j r3 l3 _=>Af (λz=>by cases z) (λ_=>aE ⟨j,rfl,r3,by rw[l3,l2]⟩)))
  ·obtain⟨J,s1,H⟩:=after m qG w m1 ⋯ hu;have T:∀(d:SortSt) (e:List (List Keyed)),Rn κ ky (arrOf st) d e (qG.toList.drop rs.flatten.length)->e.flatten.length=rs.flatten.length->∃j l,((none:Option Unit),rs.flatten.length+m)=(none,j.flatten.length)/\Rn κ ky (arrOf st) (setPending d ((pendingOf d).push (rs.flatten.length,m,0))) j l/\(x+1<=j.flatten.length\/(arrOf st).size<=j.flatten.length):=λd e g l2=>by
    have lt:((qG.toList.drop rs.flatten.length).take m).length=m:=by have:=bR (xs:=qG);rw[aO,length_drop];lia
    have N:(e++[(qG.toList.drop rs.flatten.length).take m]).flatten.length=rs.flatten.length+m:=by
     rw[flatten_append,aG,l2];simp only[flatten_cons,flatten_nil,cO,lt]
    refine⟨e++[(qG.toList.drop rs.flatten.length).take m],(qG.toList.drop rs.flatten.length).drop m,by rw[N],⟨g.kind,g.failed,g.perm,?_,?_⟩,?_⟩
    ·show(arrOf d).toList=_;rw[g.eq];simp only[flatten_append,flatten_cons,flatten_nil,cO,bK,take_append_drop]
    ·show BX ky ((pendingOf d).push (rs.flatten.length,m,0)).toList _ 0;rw[Array.toList_push];exact g.pend.snoc (by rw[Nat.zero_add,l2]) (by rw[lt]) (by rw[lt];lia) s1
    ·rw[N];lia
   refine aD (wpS_get ?_);cases hb:(pendingOf (setArr st' qG)).back? with
   |none=>exact aD (wpS_modify (aE (T (setArr st' qG) rs J rfl)))
   |some q =>
    obtain⟨q1,q2,q3⟩:=q;refine aD (wpS_mono (wpS_forRange (I:=λ_ c d=>∃e,c=(none,())/\Rn κ ky (arrOf st) d e (qG.toList.drop rs.flatten.length)/\e.flatten.length=rs.flatten.length) (Q:=λc d=>∃e,c=(none,())/\Rn κ ky (arrOf st) d e (qG.toList.drop rs.flatten.length)/\e.flatten.length=rs.flatten.length) ?a ?b ⟨rs,rfl,J,rfl⟩) ?c)
    case b=>intro c d hh;exact hh
    case c =>
     rintro c d ⟨e,rfl,g,l2⟩;refine aD (wpS_modify (aD (wpS_modify (aE (T _ e ⟨g.kind,g.failed,g.perm,g.eq,?_⟩ l2)))));show BX ky ((pendingOf d).modify ((pendingOf d).size - 1) λq=>(q.1,q.2.1,_)).toList e 0;rw[Array.toList_modify];exact g.pend.pow (f:=λ_=>_)
    case a =>
     rintro y c d _ _ ⟨e,rfl,g,l2⟩;refine aD (wpS_get ?_);have U:=g.psize;dsimp only;cases he:(if(pendingOf d).size > 1 then(pendingOf d)[(pendingOf d).size - 2]? else none)with
     |none=>exact aE ⟨e,rfl,g,l2⟩
     |some q =>
      have a4:(pendingOf d).size > 1:=by
       by_cases z:(pendingOf d).size > 1
       ·exact z
       ·rw[aB z]at he;cases he
      exact Af (λ_=>aE ⟨e,rfl,g,l2⟩) (λ_=>aD (g.merge C Y (i:=(pendingOf d).size - 2) ⋯ λa1 j r3 l3 _=>Af (λz=>by cases z) (λ_=>aE ⟨j,rfl,r3,by rw[l3,l2]⟩)))
end
end L2
namespace L2
open PySem PySem.Spec PyProof.Rows PySem.W
section
variable{κ:SortKind}{ky:Keyed->O.α}
def FA(h:Heap)(a:Addr)(us:Do):Heap:=((h.update a (Obj.mapSeq λ_=>#[])).push (seqObj "tuple" us.toArray 0)).push (seqObj "list" #[] 0)
theorem RX{b:Addr}{o:Obj}(d:b≠a)(e:h.get? b=some o):(FA h a us).get? b=some o:=by
 have c:=bN e;refine(Heap.get?_push_ne _ b _ (by rw[size_push',Heap.size_update];exact bX (Nat.lt_succ_of_lt c))).trans ((Heap.get?_push_ne _ b _ (by rw[Heap.size_update];exact bX c)).trans ?_);rw[Heap.get?_update_ne _ _ _ _ d];exact e
theorem L5{F:PySem.Fin->Shared->Prop}(i:s.heap.get? a=some (seqObj "list" us.toArray n))(h2:¬us.length<2)(hz:us.length<=16777216)
  (u:wpAny (model prog w) A (keyKind' us.toArray) (λκ' s'=>κ'=κ/\s'={ s with heap:=FA s.heap a us }) E { s with heap:=FA s.heap a us })
  (v:Cmp (model prog w) A E { s with heap:=FA s.heap a us } κ O ky (·∈(pairsOf us).toList))
  (h:∀st:Array Keyed,st.Perm (pairsOf us)->Ap ky st.toList->F (.done (.ret .none)) { s with heap:=sortedHeap s.heap a us (st.map (·.2)) }) :
  wpAny (model prog w) A (Builtin.«list.sort» ⟨[.ref a],[]⟩) F E s:=by
 have o:=bN i;have d:us.toArray.size<=sizeLine:=by rw[size_toArray,cT];exact hz
 rw[list_sort_plain];refine wB (listItems_at i rfl (wB (listUpdate_at i rfl ?_ d (cD _))));have g:=get?_update_seq i (λ_=>#[]);refine wB (seqEpoch_at g rfl (wB (wpAny_newTuple (wB (wpAny_newList (bM ?_) (cD _))) d)));have f:(FA s.heap a us).get? a=_ :=
  (Heap.get?_push_ne _ a _ (by rw[size_push',Heap.size_update];exact bX (Nat.lt_succ_of_lt o))).trans ((Heap.get?_push_ne _ a _ (by rw[Heap.size_update];exact bX o)).trans g)
 have hz:¬us.toArray.size<2:=by rw[size_toArray];exact h2
 dsimp only;rw[aB hz,aB hz];refine wB (bL u ?_ λ_ _ e=>e);rintro κ' s' ⟨rfl,rfl⟩;have run:=Ye (st:=SortSt.mk' κ' (us.toArray.zip us.toArray) #[] 7 none) (R:=λ_ c=>(arrOf c).Perm (pairsOf us)/\failedOf c=none/\Ap ky (arrOf c).toList) v rfl rfl rfl (λx p=>p) λc B z y=>⟨B,z,y⟩;refine wB (bL run ?_ λ_ _ e=>e);rintro⟨⟨⟩,c⟩ s' ⟨rfl,l,r,q⟩;dsimp only;have j:((arrOf c).map (·.2)).size<=sizeLine:=by
  rw[Array.size_map];have:=(Array.perm_iff_toList_perm.mp l).length_eq;rw[bR,bR,pairsOf_size]at this;rw[this,cT];assumption
 refine wB (seqEpoch_at f rfl (wB (listUpdate_at f rfl ?_ (cD _) (Nat.le_succ_of_le j))));rw[r];simp only[bne_self_eq_false,Bool.false_eq_true,if_false];exact wP (h _ l q)
theorem L6{l:Addr}(i:s.heap.IsList l us.toArray)(h2:¬us.length<2)(hz:us.length<=16777216)
  (j:∀(h:Around) (h1:Heap),h.units<=A.units+2->(∀b o,s.heap.get? b=some o->h1.get? b=some o)->wpAny (model prog w) h (keyKind' us.toArray) (λκ' s'=>κ'=κ/\s'={ s with heap:=h1 }) E { s with heap:=h1 })
  (n:∀(h:Around) (h1:Heap),h.units<=A.units+2->(∀b o,s.heap.get? b=some o->h1.get? b=some o)->Cmp (model prog w) h E { s with heap:=h1 } κ O ky (·∈(pairsOf us).toList))
  (q:∀st:Array Keyed,st.Perm (pairsOf us)->Ap ky st.toList->Q (.ref (s.heap.objs.size+1)) { s with heap:=sortedAll s.heap us (st.map (·.2)) }) :
  wpAny (model prog w) A (call (.builtin "sorted") [.ref l]) Q E s:=by
 have g:us.length<=sizeLine:=by rw[cT];exact hz
 refine Calls.call_function_entry kind_sorted plain_sorted entry_sorted (args_sorted1 _) ?_;unfold Builtin.«sorted»;refine wB (m:=checkCount "sorted" 1 1 _) (wP (wB (collect_list i (wB (wpAny_newList ?_ g)) g)));have c:((s.heap.push (seqObj "list" #[] 0)).update s.heap.objs.size (Obj.mapSeq (·++us.toArray))).objs.size=s.heap.objs.size+1:=by
  rw[Heap.size_update,size_push']
 have d:=bP ((s.heap.push (seqObj "list" #[] 0)).update s.heap.objs.size (Obj.mapSeq (·++us.toArray))) (o:=seqObj "list" us.toArray 0) rfl;rw[c]at d;show wpAny _ _ _ _ _ { s with heap:=((s.heap.push (seqObj "list" #[] 0)).update s.heap.objs.size (Obj.mapSeq (·++us.toArray))).push (seqObj "list" us.toArray 0) };rw[c];have keep:∀b o,s.heap.get? b=some o->(((s.heap.push (seqObj "list" #[] 0)).update s.heap.objs.size (Obj.mapSeq (·++us.toArray))).push (seqObj "list" us.toArray 0)).get? b=some o:=λb o e=>by
  have f:=bN e;refine(Heap.get?_push_ne _ b _ (by rw[c];exact bX (Nat.lt_succ_of_lt f))).trans ?_;rw[Heap.get?_update_ne _ _ _ _ (bX f)];exact(Heap.get?_push_ne _ b _ (bX f)).trans e
 have a:∀b o,s.heap.get? b=some o->(FA (((s.heap.push (seqObj "list" #[] 0)).update s.heap.objs.size (Obj.mapSeq (·++us.toArray))).push (seqObj "list" us.toArray 0)) (s.heap.objs.size+1) us).get? b=some o:=λb o e=>RX (bX (Nat.lt_succ_of_lt (bN e))) (keep b o e);exact wB (bM (cP slot_list_sort ⟨_,d,rfl⟩ entry_list_sort (L5 (κ:=κ) (ky:=ky) (s:={ s with heap:=((s.heap.push (seqObj "list" #[] 0)).update s.heap.objs.size (Obj.mapSeq (·++us.toArray))).push (seqObj "list" us.toArray 0) }) d h2 hz (j _ _ (by simp) a) (n _ _ (by simp) a) λst r p=>⟨_,rfl,wP ⟨_,rfl,q st r p⟩⟩) (args_list_sort _)))
end
def Cy(ps:List (Addr×By)):Keyed->By:=λk=>match k.1 with
 |.ref x=>((ps.find? λq=>decide (q.1=x)).map (·.2)).getD []
 |_=>[]
theorem FB{ps:List (Addr×By)}(d:∀q∈ps,∀q'∈ps,q.1=q'.1->q.2=q'.2){q:Addr×By}(c:q∈ps)(v:Value):Cy ps (.ref q.1,v)=q.2:=by
 unfold Cy;cases a:ps.find? λq'=>decide (q'.1=q.1)with
 |none=>exact bS (rfl:q.1=q.1) (by simpa using find?_eq_none.mp a q c)
 |some p =>
  have h1:=find?_some a;have h2:=mem_of_find?_eq_some a;show((ps.find? λq'=>decide (q'.1=q.1)).map (·.2)).getD []=q.2;rw[a];exact d p h2 q c (by simpa using h1)
abbrev rv(ps:List (Addr×By)):Do:=ps.map λq=>Value.ref q.1
theorem JT(ps:List (Addr×By)):(pairsOf (rv ps)).toList=ps.map λq=>((Value.ref q.1,Value.ref q.1):Keyed):=by
 show((rv ps).toArray.zip (rv ps).toArray).toList=_;rw[Array.toList_zip];show(rv ps).zip (rv ps)=_
 induction ps with
 |nil=>rfl
 |cons q ps a=>simp only[rv,map_cons,zip_cons_cons]at a ⊢;rw[a]
def HY(h:Heap)(ps:List (Addr×By)):Prop:=∀q∈ps,∃us,IntsAre us q.2/\∃o n,h.get? q.1=some o/\o.cls=.type "tuple"/\o.data=.seq us.toArray n
theorem L7{κ:SortKind}{x y:Keyed}{b:Bool}{R:Option Bool->SortSt->Prop}(a:kindOf st=κ)(h:R (some b) st)(q:∀(c:VS) (Q:Bool->Shared->Prop),Q b s->wpAny (model prog w) A (keyLt' κ x.1 y.1) Q c s):wpS (model prog w) A E s (lt' x y) R st:=by
 rw[lt'_eq];refine aD (wpS_get ?_);rw[a];exact aD (wpS_lift (wpAny_attempt (q _ _ ⟨rfl,aE h⟩)))
theorem RY{ps:List (Addr×By)}(f:HY s.heap ps)(i:∀q∈ps,∀q'∈ps,q.1=q'.1->q.2=q'.2)(g:∀q∈ps,q.2.length=n):Cmp (model prog w) A E s (tuples' true) Df (Cy ps) (·∈(pairsOf (rv ps)).toList) where
 ask:=λx y e d R st o h=>by
  rw[JT]at e d;obtain⟨p,c,rfl⟩:=bU.mp e;obtain⟨q,a,rfl⟩:=bU.mp d;rw[FB i c,FB i a]at h;refine L7 o h λM Q r=>?_;obtain⟨us,l,D,H,B,L,v⟩:=f p c;obtain⟨vs,j,C,G,z,J,u⟩:=f q a;have l1:=l.length;have l2:=j.length;have l3:=g p c;have I:=g q a;refine kat_lt B v z u ?_;rw[show decide (us.toArray.size<vs.toArray.size)=false by rw[size_toArray,size_toArray];exact cJ ⋯];exact Ox 0 l j ⋯ r
theorem RZ{ps:List (Addr×By)}(e:HY s.heap ps)(a:0<n)(g:∀q∈ps,q.2.length=n)(h2:¬ps.length<2):wpAny (model prog w) A (keyKind' (rv ps).toArray) (λκ' s'=>κ'=tuples' true/\s'=s) E s:=by
 obtain⟨fs,c,j,h⟩:=QU e (λq f=>by rw[g q f];exact a);refine kat_kind (T:=.type "int") c ⋯ (λv d=>?_) rfl ⟨rfl,rfl⟩;obtain⟨i,t,rfl⟩:=h v d;exact Xd _ _ i t
theorem Yf{x y:Addr}{d c:Obj}{k:Nat}(D:A.units<cLine)(j:s.heap.get? x=some d)(r:d.cls=.type "tuple")(dx:d.data=.seq #[] n)(C:s.heap.get? y=some c)(q:c.cls=.type "tuple")(p:c.data=.seq #[] k)
  {f:VS} {Q:Bool->Shared->Prop} (h:Q false s):wpAny (model prog w) A (keyLt' oneType' (.ref x) (.ref y)) Q f s:=by
 rw[keyLt'_oneType,oneLt'_eq];simp only[dC];refine wB (wpAny_cRoomFor D ?_);obtain⟨o,B,z,i⟩:=d;obtain⟨l,pd,u,g⟩:=c;simp only at r dx q p;subst r;subst dx;subst q;subst p;have a:wpAny (model prog w) A (call (.builtin "tuple.__lt__") [.ref x,.ref y]) (λv s'=>v=.bool false/\s'=s) f s :=
  wpAny_call (codeAny_call_builtin (R:=wants (λv s'=>v=.bool false/\s'=s) f) PySem.F.slot_tuple_lt.plain PySem.F.entry_tuple_lt (PySem.F.slot_tuple_lt.check _ _ _ _ _ _ _ _ ⟨_,j,rfl⟩ (PySem.F.args_tuple_lt_2 _ _)
   (HT.tuple_lt_ints x y #[] #[] n k B pd i g [] [] .nil .nil prog w A (wants (λv s'=>v=.bool false/\s'=s) f) s ⟨j,C,rfl,rfl⟩)))
 refine wB (wpAny_callSpecialIfBound?_slot ⟨_,j,rfl⟩ PySem.F.slot_tuple_lt (bL a ?_ λ_ _ e=>e));rintro v s' ⟨rfl,rfl⟩;exact wpAny_truthy_bool h
theorem Ra{ps:List (Addr×By)}(j:A.units<cLine)(g:HY s.heap ps)(i:∀q∈ps,∀q'∈ps,q.1=q'.1->q.2=q'.2)(d:∀q∈ps,q.2.length=0):Cmp (model prog w) A E s oneType' Df (Cy ps) (·∈(pairsOf (rv ps)).toList) where
 ask:=λx y f e R st l h=>by
  rw[JT]at f e;obtain⟨p,c,rfl⟩:=bU.mp f;obtain⟨q,a,rfl⟩:=bU.mp e;rw[FB i c,FB i a,cM (d p c),cM (d q a)]at h;refine L7 l h λN Q n=>?_;obtain⟨us,H,J,M,D,B,v⟩:=g p c;obtain⟨vs,G,I,L,C,z,u⟩:=g q a;have l1:=H.length;have l2:=G.length;have r:us=[]:=cM (by rw[l1,d p c]);have o:vs=[]:=cM (by rw[l2,d q a]);subst r;subst o;exact Yf j D B v C z u n
theorem Rb{ps:List (Addr×By)}(o:HY s.heap ps)(C:∀q∈ps,q.2.length=0)(h2:¬ps.length<2):wpAny (model prog w) A (keyKind' (rv ps).toArray) (λκ' s'=>κ'=oneType'/\s'=s) E s:=by
 have h:∀v∈rv ps,∀{l:VS},l (.type "tuple") s->wpAny (model prog w) A (typeOf v) l E s:=λv g l i=>by
  obtain⟨q,c,rfl⟩:=bU.mp g;obtain⟨us,y,z,B,n,u,p⟩:=o q c;exact wpAny_typeOf_ref n (by rw[u];exact i)
 obtain⟨f,d,qF,e⟩:∃f d qF,rv ps=f::d::qF:=by
  match ps,h2 with
  |[],h2=>simp at h2
  |[_],h2=>simp at h2
  |a::b::r,_=>exact⟨_,_,_,rfl⟩
 rw[kat_kind_eq,mapM_toArray,map_eq_pure_bind];refine wB (wB (kas_mapM (r:=none) _ (λv g l i=>?_) (wP ?_)))
 ·rw[kas_first_eq];refine wB (h v g ?_);rw[aB (by decide)];obtain⟨q,c,rfl⟩:=bU.mp g;obtain⟨us,y,z,B,n,u,p⟩:=o q c;have G:us=[]:=cM (by rw[y.length,C q c]);subst G;exact wB (listItems_at n p (wP i))
 ·rw[e];rw[aB (by simp),aB (by simp)];rw[<-e,oneTypeOnly'_eq,mapM_toArray,map_eq_pure_bind];refine wB (wB (wB (kas_mapM (r:=.type "tuple") _ (λv g l i=>h v g i) (wP ?_))));have D:(map (λ_=>Value.type "tuple") (rv ps)).toArray[0]?=some (.type "tuple"):=by rw[e];simp
  have j:((map (λ_=>Value.type "tuple") (rv ps)).toArray.all λx=>x==Value.type "tuple")=true:=by
   simp only[all_toArray,all_map,all_eq_true];intro _ _;rfl
  rw[D];simp only[j,dC];exact wP (wP ⟨rfl,rfl⟩)
theorem HZ{ps:List (Addr×By)}(n:∀q∈ps,∀q'∈ps,q.1=q'.1->q.2=q'.2){st:Array Keyed}(j:st.Perm (pairsOf (rv ps)))(i:Ap (O:=Df) (Cy ps) st.toList) :
  ∃c:List (Addr×By),c.Perm ps/\BR (c.map (·.2))/\st.map (·.2)=(rv c).toArray:=by
 have d:=Array.perm_iff_toList_perm.mp j;rw[JT]at d
 let g:Keyed->Addr×By:=λk=>((match k.1 with|.ref x=>x|_=>0),Cy ps k)
 have o:∀q∈ps,g (Value.ref q.1,Value.ref q.1)=q:=λq f=>by
  show(q.1,Cy ps (Value.ref q.1,Value.ref q.1))=q;rw[FB n f]
 refine⟨st.toList.map g,?_,?_,?_⟩
 ·have:=d.map g;rw[bZ]at this;have e:ps.map (g ∘ λq=>(Value.ref q.1,Value.ref q.1))=ps:=by
   conv=>rhs;rw[<-map_id ps]
   exact cF λq f=>o q f
  rw[e]at this;exact this
 ·unfold BR;rw[bZ];exact List.Pairwise.map _ (λa b h=>h) i
 ·apply Array.ext';rw[Array.toList_map];show _=(st.toList.map g).map λq=>Value.ref q.1;rw[bZ];refine cF λk l=>?_;obtain⟨q,f,rfl⟩:=bU.mp (d.mem_iff.mp l);rfl
def Re:dG->Hp->VK->Prop:=λxs H Q=>∃(p:Addr) (ps:List (Addr×By)),xs=[.ref p]/\H p=some (.lst (CF ps))/\(∀q∈ps,H q.1=some (.tup (q.2.map V.int)))/\ps.length<=16777216/\(∃n,∀q∈ps,q.2.length=n) /\
 ∀(l:Addr) (ps':List (Addr×By)),H l=none->ps'.Perm ps->BR (ps'.map (·.2))->Q (.ref l) (AD H l (.lst (CF ps')))
theorem Rf{a b:By}(h:a.map V.int=b.map V.int):a=b:=by
 have:=aT (map λp=>match p with|V.int i=>i|_=>0) h;simpa[bZ,Function.comp_def]using this
theorem Rg{ps:List (Addr×By)}(c:∀q∈ps,H q.1=some (.tup (q.2.map V.int))):∀q∈ps,∀q'∈ps,q.1=q'.1->q.2=q'.2:=λq d q' a e=>by
 have h1:=c q d;have h2:=c q' a;rw[e,h2]at h1;injection h1 with h1
 injection h1 with h1
 exact(Rf h1).symm
theorem Ea(I:Inv X qA σ H s){ps:List (Addr×By)}(e:∀q∈ps,H q.1=some (.tup (q.2.map V.int))){h1:Heap}(k:∀q∈ps,∀o,s.heap.get? q.1=some o->h1.get? q.1=some o):HY h1 ps:=λq a=>by
 obtain⟨us,c,tt,_⟩:=I.tuple (.of (e q a));obtain⟨o,h,g,d,f⟩:=tt;exact⟨us,Es c,o,d,k q a o h,g,f⟩
theorem Yg{k:Nat}(D:Room k X.A):BJ X (.builtin "sorted") Re:=by
 intro qA s σ H xs us Q I r h;obtain⟨p,ps,rfl,f,d,l,⟨n,i⟩,k⟩:=h;obtain⟨u,rfl,B⟩:=r.one;cases B;obtain⟨qH,r,pl,C⟩:=I.list (.of f);have g:=LV r;subst g;have c:∀a:List (Addr×By),a.Perm ps->BR (a.map (·.2))->EP X qA σ Q (.ref (s.heap.objs.size+1)) { s with heap:=sortedAll s.heap (rv ps) (rv a).toArray }:=λa h1 h2=>by
  obtain⟨e,E⟩:=sortedAll_at s.heap (rv ps) (rv a).toArray;refine⟨.ref (s.heap.objs.size+1),_,I.laid (t':=s.toks) (o:=.lst (CF a)) (λb o q=>sortedAll_old q) (cR _) ⟨?_,_,e,JE a,E⟩,rfl,k _ a (I.hok.fresh (cR _)) h1 h2⟩;rw[aA,h1.length_eq,cT];exact l
 by_cases h2:ps.length<2
 ·refine QR pl.isList (by simpa using h2) (c ps (List.Perm.refl _) ?_)
  match ps,h2 with
  |[],_=>exact List.Pairwise.nil
  |[_],_=>exact pairwise_singleton _ _
 ·have j:=Rg d;have J:=D.un;rcases Nat.eq_zero_or_pos n with e|n0
  ·subst e;refine L6 (κ:=oneType') (O:=Df) (ky:=Cy ps) pl.isList (by simpa using h2) (by simpa using l) (λz h1 _ k1=>Rb (s:={ s with heap:=h1 }) (Ea I d λq _ o e=>k1 _ o e) i h2) (λz h1 G k1=>Ra (s:={ s with heap:=h1 }) ⋯ (Ea I d λq _ o e=>k1 _ o e) j i) λst f v=>?_;obtain⟨a,y,x,w⟩:=HZ j f v;rw[w];exact c a y x
  ·refine L6 (κ:=tuples' true) (O:=Df) (ky:=Cy ps) pl.isList (by simpa using h2) (by simpa using l) (λz h1 _ k1=>RZ (s:={ s with heap:=h1 }) (Ea I d λq _ o e=>k1 _ o e) n0 i h2) (λz h1 G k1=>RY (s:={ s with heap:=h1 }) (Ea I d λq _ o e=>k1 _ o e) j i) λst f v=>?_;obtain⟨a,y,x,w⟩:=HZ j f v;rw[w];exact c a y x
def L8:pC:=p1 λx f K=>∃rs:List By,x=.lst (rs.map AT)/\rs.length<=16777216/\(∃n,∀r∈rs,r.length=n)/\∀rs':List By,rs'.Perm rs->BR rs'->K (.lst (rs'.map AT)) .nw
theorem Yh:B3 Re L8:=λW ρ σ Hs H Q K xs vs ok st r f q=>by
 unfold L8 p1 at f;split at f
 ·obtain⟨v,rfl,rv⟩:=r.one;obtain⟨rs,rfl,s,⟨n,j⟩,o⟩:=f;obtain⟨p,us,rfl,c,i⟩:=Bx ok rv;obtain⟨ps,rfl,e,h⟩:=Lg i;have u:ps.length=rs.length:=by rw[<-e,aA]
  refine⟨p,ps,rfl,c,h,⋯,⟨n,λq g=>j _ (by rw[<-e];exact aP g)⟩,λl a d h1 h2=>q _ _ _ _ (o (a.map (·.2)) (by rw[<-e];exact h1.map _) h2) (Step.new ok.bag d) ?_⟩;have:=JI (b:=W.b) (Z:=AC W ρ σ .nw) (H:=H) (ps:=a) λq g=>h q (h1.mem_iff.mp g);rw[show(a.map λq=>AT q.2)=(a.map (·.2)).map AT by rw[bZ];rfl]at this;exact ET ok st (by simp) (by simp) this d
 ·exact f.elim
def Rh:dG->Hp->VK->Prop:=λxs H Q=>∃(p:Addr) (ks:List By) (vs:dG),xs=[.ref p]/\H p=some (.dT ((ks.map AY).zip vs))/\ks.length=vs.length/\ks.length<=1000000/\(∃n,∀r∈ks,r.length=n) /\
 ∀(l:Addr) (ps':List (Addr×By)),H l=none->(∀q∈ps',H q.1=some (.tup (q.2.map V.int)))->(ps'.map (·.2)).Perm ks->BR (ps'.map (·.2))->Q (.ref l) (AD H l (.lst (CF ps')))
theorem Yi(hc:X.calm=true){k:Nat}(hr:Room k X.A):BJ X (.builtin "sorted") Rh:=by
 intro qA s σ H xs us Q I r h;obtain⟨p,ks,vs,rfl,C,U,a6,⟨n,hn⟩,k⟩:=h;obtain⟨u,rfl,ru⟩:=r.one;cases ru;obtain⟨es,ep,a5,rd,hd,hz,e1,e2,e3⟩:=Ql I.hok C;rw[map_fst_zip (by rw[aA,U];exact aQ _)]at e1;obtain⟨ps,a1,a2,a3⟩:=Qm e1;have v:∀q∈ps,H q.1=some (.tup (q.2.map V.int)):=λq w=>by
  have:=e2 _ (a3 q w);rw[Ld]at this;exact this
 have er:(es.toList.map (·.key))=rv ps:=by
  rw[e3];have:=aT (map Value.ref) a1;simpa[bZ,Function.comp_def]using this.symm
 have N:ps.length=ks.length:=by rw[<-a2,aA]
 have a0:es.size=ps.length:=by
  have:=aT length er;simpa using this
 obtain⟨m,hm,_⟩:=I.loc;refine kdu_sorted (Qj hd) (I.ok.hd hc) (Att.fr_all hm) (UC (g:=Att.noObjs s.heap) (L:=X.env.locals)) rd (by rw[a0,N,cT];lia) λD h' tk J F' N' hD hl hv=>?_;have ew:J=rv ps:=by
  rw[<-er];apply ext_getElem?;intro j;by_cases hj:j<J.length
  ·obtain⟨Y,e⟩:=hv j J[j] (by simp[hj]);rw[aH hj,e,bO];simp[Y]
  ·rw[bQ ⋯,bQ (by simp;lia)]
 subst ew;have G:∀u,s.heap.get? D≠some u:=λu e=>aX _ (hD (D,u) (KR (N' _ cA).2.1 (Att.noObjs_get _ _) e));have E:H D=none:=by
  cases e:H D with
  |none=>rfl
  |some o=>obtain⟨u,e2⟩:=(I.hok D o e).there;exact bS e2 (G u)
 have f:h'.get? D=some (seqObj "list" (rv ps).toArray 0):=N'.get (a:=D) cA;have a4:X.env.locals≠D:=λz=>(N' _ cA).2.1 z.symm;have B:∀c:List (Addr×By),c.Perm ps->BR (c.map (·.2))->EP X qA σ Q (.ref D) { s with heap:=sortedHeap h' D (rv ps) (rv c).toArray,toks:=tk }:=λc h1 h2=>by
  obtain⟨e,he⟩:=sortedHeap_at (out:=(rv c).toArray) f;have T:(sortedHeap h' D (rv ps) (rv c).toArray).Ns X.env.locals m:=by
   obtain⟨o',x,y,e',rr⟩:=F'.ns;exact⟨o',x,y,(sortedHeap_old a4 (bN e')).trans e',rr⟩
  refine⟨.ref D,_,I.laidF (t':=tk) (o:=.lst (CF c)) hm T (λb u nb eb=>?_) E G ⟨?_,_,e,JE c,he⟩,rfl,k D c E (λq w=>v q (h1.mem_iff.mp w)) (by rw[<-a2];exact h1.map _) h2⟩
  ·have e4:=N'.get (bT _ (KR nb (Att.noObjs_get _ _) eb));rw[sortedHeap_old (show b≠D fromλz=>G u (by rw[<-z];exact eb)) (bN e4)];exact e4
  ·rw[aA,h1.length_eq,cT];lia
 have nL:∀b o,H b=some o->b≠X.env.locals:=λb o e z=>by subst z;rw[I.free]at e;cases e
 have d:∀q∈ps,∀o,s.heap.get? q.1=some o->(FA h' D (rv ps)).get? q.1=some o:=λq w o e =>
  RX (λz=>G o (by rw[<-z];exact e)) (N'.get (bT _ (KR (nL _ _ (v q w)) (Att.noObjs_get _ _) e)))
 by_cases h2:ps.length<2
 ·refine cP slot_list_sort ⟨_,f,rfl⟩ entry_list_sort (QP f (by simpa using h2) ⟨_,rfl,B ps (List.Perm.refl _) ?_⟩) (args_list_sort _)
  match ps,h2 with
  |[],_=>exact List.Pairwise.nil
  |[_],_=>exact pairwise_singleton _ _
 ·have l:=Rg v;have i:∀q∈ps,q.2.length=n:=λq w=>hn _ (by rw[<-a2];exact aP w);have hu:=hr.un;rcases Nat.eq_zero_or_pos n with e|n0
  ·subst e;refine cP slot_list_sort ⟨_,f,rfl⟩ entry_list_sort (L5 (κ:=oneType') (O:=Df) (ky:=Cy ps) (s:={ s with heap:=h',toks:=tk }) f (by simpa using h2) (by simp;lia) (Rb (s:={ s with heap:=_,toks:=tk }) (Ea I v d) i h2) (Ra (s:={ s with heap:=_,toks:=tk }) (by simp;lia) (Ea I v d) l i) λst C M=>⟨_,rfl,?_⟩) (args_list_sort _);obtain⟨c,b1,b2,b3⟩:=HZ l C M;rw[b3];exact B c b1 b2
  ·refine cP slot_list_sort ⟨_,f,rfl⟩ entry_list_sort (L5 (κ:=tuples' true) (O:=Df) (ky:=Cy ps) (s:={ s with heap:=h',toks:=tk }) f (by simpa using h2) (by simp;lia) (RZ (s:={ s with heap:=_,toks:=tk }) (Ea I v d) n0 i h2) (RY (s:={ s with heap:=_,toks:=tk }) (Ea I v d) l i) λst C M=>⟨_,rfl,?_⟩) (args_list_sort _);obtain⟨c,b1,b2,b3⟩:=HZ l C M;rw[b3];exact B c b1 b2
def L9:pC:=p1 λx f K=>∃(ks:List By) (xs:dH),x=.dT ks xs/\ks.length<=1000000/\(∃n,∀r∈ks,r.length=n)/\∀rs':List By,rs'.Perm ks->BR rs'->K (.lst (rs'.map AT)) .nw
theorem Yj:B3 Rh L9:=λW ρ σ Hs H Q K xs vs ok st r c q=>by
 unfold L9 p1 at c;split at c
 ·obtain⟨v,rfl,rv⟩:=r.one;obtain⟨ks,xs,rfl,g,j,n⟩:=c;obtain⟨p,us,rfl,_,u,s,o⟩:=HN ok rv;refine⟨p,ks,us,rfl,u,by rw[s,o.length],g,j,λl a f h e d=>q _ _ _ _ (n _ e d) (Step.new ok.bag f) ?_⟩;have i:AB W.b (AC W ρ σ .nw) H ((a.map (·.2)).map AT) (CF a):=by
   have:=JI (b:=W.b) (Z:=AC W ρ σ .nw) (H:=H) (ps:=a) h;rw[bZ];exact this
  exact ET ok st (by simp) (by simp) i f
 ·exact c.elim
end L2
namespace L2
open PySem
abbrev Tl:=List (By×Int)
theorem Yk(t:Tl)(r:By)(c:Int)(r':By):AX (BS t r c) r'=if r'=r then some c else AX t r':=by
 unfold BS;split
 ·rename_i f;by_cases e:r'=r
  ·subst e;rw[aC rfl];obtain⟨q,hq,e⟩:=bU.mp f;unfold AX
   induction t with
   |nil=>simp at hq
   |cons p t g =>
    rw[map_cons,find?_cons];by_cases a:p.1=r'
    ·simp[a]
    ·rw[aB a];simp only[a,decide_false];refine g ?_ ?_
     ·rcases bU.mp f with⟨z,hz,h⟩
      rcases aF.mp hz with rfl|hz
      ·exact bS h a
      ·exact bU.mpr ⟨z,hz,h⟩
     ·rcases aF.mp hq with rfl|hq
      ·exact bS e a
      ·exact hq
  ·rw[aB e];unfold AX;clear f
   induction t with
   |nil=>rfl
   |cons p t g =>
    rw[map_cons,find?_cons,find?_cons];by_cases a:p.1=r
    ·rw[aC a];have:¬p.1=r':=λz=>e (by rw[<-z,a]);simp only[this,decide_false];exact g
    ·rw[aB a];by_cases d:p.1=r'
     ·simp[d]
     ·simp only[d,decide_false];exact g
 ·rename_i f;unfold AX;rw[find?_append];by_cases e:r'=r
  ·subst e;rw[aC rfl];have:t.find? (λq=>decide (q.1=r'))=none:=find?_eq_none.mpr λq hq=>by
    simp only[decide_eq_true_eq];exactλz=>f (bU.mpr ⟨q,hq,z⟩)
   rw[this];simp
  ·rw[aB e];have:([(r,c)]:Tl).find? (λq=>decide (q.1=r'))=none:=by
    have:¬r=r':=λz=>e z.symm;simp[this]
   rw[this];cases t.find? (λq=>decide (q.1=r'))<;>rfl
theorem JU{t:Tl}(h:r∉t.map (·.1)):AX t r=none:=by
 unfold AX;rw[find?_eq_none.mpr λq a=>?_]
 ·rfl
 ·simp only[decide_eq_true_eq];exactλz=>h (bU.mpr ⟨q,a,z⟩)
theorem JV{t:Tl}(nd:(t.map (·.1)).Nodup)(h:q∈t):AX t q.1=some q.2:=by
 induction t with
 |nil=>cases h
 |cons p t a =>
  unfold AX;rw[find?_cons];rw[map_cons,bC]at nd;rcases aF.mp h with rfl|h
  ·simp
  ·have:¬p.1=q.1:=λz=>nd.1 (by rw[z];exact aP h);simp only[this,decide_false];exact a nd.2 h
theorem Yl(t:Tl)(r:By)(c:Int)(r':By):r'∈(BS t r c).map (·.1)↔r'=r\/r'∈t.map (·.1):=by
 rw[Q0];split
 ·rename_i h;exact⟨.inr,λz=>z.elim (λz=>z▸h) id⟩
 ·rw[bA,bI,or_comm]
def CW(a:Tl)(q:By×Int):Tl:=BS a q.1 ((AX a q.1).getD 0+q.2)
def BY(t:Tl):Tl:=t.foldl CW []
def cnt(t:Tl)(r:By):Int:=(t.map λq=>if q.1=r then q.2 else 0).sum
theorem Ym(a:Tl)(q:By×Int)(r:By):(AX (CW a q) r).getD 0=(AX a r).getD 0+if q.1=r then q.2 else 0:=by
 unfold CW;rw[Yk];by_cases e:r=q.1
 ·subst e;simp
 ·rw[aB e,aB (λz=>e z.symm)];simp
theorem Yn(t:Tl):∀(a:Tl) (r:By),(AX (t.foldl CW a) r).getD 0=(AX a r).getD 0+cnt t r:=by
 induction t with
 |nil=>intro a r;simp[cnt]
 |cons q t c =>
  intro a r;rw[foldl_cons,c,Ym];unfold cnt;rw[map_cons,sum_cons];lia
theorem F3(t:Tl)(r:By):(AX (BY t) r).getD 0=cnt t r:=by
 unfold BY;rw[Yn];simp[AX]
theorem Yo(t:Tl):∀(a:Tl) (r:By),r∈(t.foldl CW a).map (·.1)↔r∈a.map (·.1)\/r∈t.map (·.1):=by
 induction t with
 |nil=>intro a r;simp
 |cons q t c =>
  intro a r;rw[foldl_cons,c];unfold CW;rw[Yl,map_cons,aF];constructor
  ·rintro((h|h)|h)
   ·exact .inr (.inl h)
   ·exact .inl h
   ·exact .inr (.inr h)
  ·rintro(h|h|h)
   ·exact .inl (.inr h)
   ·exact .inl (.inl h)
   ·exact .inr h
theorem JW(t:Tl)(r:By):r∈(BY t).map (·.1)↔r∈t.map (·.1):=by
 unfold BY;rw[Yo];simp
theorem sum_len(t:Tl):∀a:Tl,(t.foldl CW a).length<=a.length+t.length:=by
 induction t with
 |nil=>intro a;simp
 |cons q t c =>
  intro a;have h1:=c (CW a q);have h2:(CW a q).length<=a.length+1:=Qz _ _ _;simp only[foldl_cons,length_cons];lia
theorem MA(t:Tl):(BY t).length<=t.length:=by have:=sum_len t [];simpa[BY]using this
theorem Yp(t:Tl):∀a:Tl,(a.map (·.1)).Nodup->((t.foldl CW a).map (·.1)).Nodup:=by
 induction t with
 |nil=>intro a h;exact h
 |cons q t c=>intro a h;exact c (CW a q) (Q3 h)
theorem F4(t:Tl):((BY t).map (·.1)).Nodup:=Yp t [] (by simp)
theorem MB{t:Tl}(h:∀q∈t,q.1.length=n):∀q∈BY t,q.1.length=n:=λq a=>by
 have:q.1∈(BY t).map (·.1):=aP a;obtain⟨p,c,e⟩:=bU.mp ((JW t q.1).mp this);rw[<-e];exact h p c
def D5(t:Tl):Tl:=((CV (t.map (·.1))).filter λr=>decide (0<(AX t r).getD 0)).map λr=>(r,(AX t r).getD 0)
theorem Yq{t:Tl}(h:∀r,0<=(AX t r).getD 0):D5 t=A6 t:=by
 unfold D5 A6
 congr 1
 refine filter_congr λr _=>?_;have:=h r;by_cases e:(AX t r).getD 0=0
 ·simp[e]
 ·have:0<(AX t r).getD 0:=⋯;simp[e,this]
theorem Ri{t:Tl}(h:∀q∈t,0<=q.2)(r:By):0<=cnt t r:=by
 unfold cnt
 induction t with
 |nil=>simp
 |cons q t a =>
  rw[map_cons,sum_cons];have h1:=a λp c=>h p (bT _ c);have h2:=h q cA;split<;>lia
theorem Yr(t:Tl)(r:By):(AX (A6 t) r).getD 0=(AX t r).getD 0:=by
 by_cases h:r∈t.map (·.1)/\(AX t r).getD 0≠0
 ·have i:(r,(AX t r).getD 0)∈A6 t:=by
   unfold A6;exact bU.mpr ⟨r,cW.mpr ⟨(DP _).mem_iff.mpr h.1,by simpa using h.2⟩,rfl⟩
  unfold AX at *;cases c:(A6 t).find? λq=>decide (q.1=r)with
  |none=>have:=find?_eq_none.mp c _ i;simp at this
  |some p =>
   have h1:p.1=r:=by simpa using find?_some c
   have h2:=mem_of_find?_eq_some c;unfold A6 at h2;obtain⟨f,_,e⟩:=bU.mp h2;rw[<-e]at h1 ⊢;simp only at h1;subst h1;rfl
 ·have g:r∉(A6 t).map (·.1):=λz=>by
   obtain⟨q,d,e⟩:=bU.mp z;unfold A6 at d;obtain⟨f,a,j⟩:=bU.mp d;rw[<-j]at e;simp only at e;subst e;obtain⟨h1,h2⟩:=cW.mp a;exact h ⟨(DP _).mem_iff.mp h1,by simpa using h2⟩
  rw[JU g];by_cases h1:r∈t.map (·.1)
  ·have:(AX t r).getD 0=0:=Classical.byContradiction λz=>h ⟨h1,z⟩;rw[this];rfl
  ·rw[JU h1]
theorem Rj{t:Tl}(h:(t.map (·.1)).Nodup):((A6 t).map (·.1)).Nodup:=by
 unfold A6;rw[bZ,show((λq:By×Int=>q.1) ∘ λr=>(r,(AX t r).getD 0))=id from rfl,map_id];exact((DP _).nodup_iff.mpr h).filter _
theorem Ys{t:Tl}(h:∀q∈t,q.1.length=n):∀q∈A6 t,q.1.length=n:=λq a=>by
 obtain⟨p,c,e⟩:=bU.mp (Lq a);rw[<-e];exact h p c
theorem Yt{t:Tl}(h:q∈A6 t):q.2=(AX t q.1).getD 0/\q.2≠0:=by
 unfold A6 at h;obtain⟨r,a,rfl⟩:=bU.mp h;exact⟨rfl,by simpa using(cW.mp a).2⟩
theorem Rk{t:Tl}(h:(t.map (·.1)).Nodup):JN t=t:=by
 have key:∀(t a:Tl),(∀q∈t,q.1∉a.map (·.1))->(t.map (·.1)).Nodup->t.foldl (λa q=>BS a q.1 q.2) a=a++t:=by
  intro t
  induction t with
  |nil=>intro a _ _;simp
  |cons q t d =>
   intro a h1 h2;rw[map_cons,bC]at h2;rw[foldl_cons,show BS a q.1 q.2=a++[q] by unfold BS;rw[aB (h1 q cA)]];rw[d _ (λp c=>?_) h2.2]
   ·simp
   ·rw[cN,bA];rintro(z|z)
    ·exact h1 p (bT _ c) z
    ·have:p.1=q.1:=by simpa using z
     exact h2.1 (by rw[<-this];exact aP c)
 have:=key t [] (by simp) h;simpa[JN]using this
def idx(ss:At)(z:Str):Nat:=ss.findIdx λx=>decide (x=z)
theorem FC{ss:At}{z:Str}(h:z∈ss):ss[idx ss z]?=some z/\∀m,m<idx ss z->ss[m]?≠some z:=by
 have a:idx ss z<ss.length:=findIdx_lt_length_of_exists ⟨z,h,aK rfl⟩;refine⟨?_,λm d e=>?_⟩
 ·have:=findIdx_getElem (p:=λx=>decide (x=z)) (xs:=ss) (w:=a);rw[aH a];exact aT some (aL this)
 ·have:=not_of_lt_findIdx d;obtain⟨c,f⟩:=aI.mp e;simp[f]at this
theorem FD{ss:At}{z:Str}(h:z∈ss):idx ss z<ss.length:=(aI.mp (FC h).1).1
def AU(qK:At)(r:By)(qC:At):By:=qC.map λn=>r.getD (idx qK n) 0
def A9(qK:At)(t:Tl)(qC:At):Tl:=t.map λq=>(AU qK q.1 qC,q.2)
theorem MC(qK:At)(r:By)(qC:At):(AU qK r qC).length=qC.length:=by unfold AU;rw[aA]
theorem MD(qK:At)(t:Tl)(qC:At):(A9 qK t qC).length=t.length:=by unfold A9;rw[aA]
theorem Rl(qK:At)(t:Tl)(qC:At):∀q∈A9 qK t qC,q.1.length=qC.length:=λq a=>by
 obtain⟨p,_,rfl⟩:=bU.mp a;exact MC _ _ _
theorem Ro{t:Tl}(h:∀q∈t,0<=q.2):∀q∈A9 qK t qC,0<=q.2:=λq a=>by
 obtain⟨p,c,rfl⟩:=bU.mp a;exact h p c
def Ab(qK:At)(t:Tl)(qC:At):Tl:=A6 (BY (A9 qK t qC))
structure Sh(qK:At)(t:Tl)(qC:At):Prop where
 len:qC.length<=100
 sub:∀n∈qC,n∈qK
 few:t.length<=100000
 rows:∀q∈t,q.1.length=qK.length
structure Tal(n:Nat)(t:Tl):Prop where
 few:t.length<=1000
 rows:∀q∈t,q.1.length=n
 pos:∀q∈t,0<q.2
 nd:(t.map (·.1)).Nodup
theorem Rq{t:Tl}(h:∀q∈t,0<=q.2):D5 (BY (A9 qK t qC))=Ab qK t qC :=
 Yq λr=>by rw[F3];exact Ri (Ro h) r
theorem Rr{t:Tl}(d:t.length<=1000)(h1:∀q∈t,q.1.length=n)(h2:(t.map (·.1)).Nodup)(e:∀r,0<=(AX t r).getD 0):Tal n (A6 t) where
 few:=aR (Lp t) d
 rows:=Ys h1
 pos:=λq c=>by
  obtain⟨a,b⟩:=Yt c;have:=e q.1;lia
 nd:=Rj h2
theorem Hc{t:Tl}(h:∀q∈t,0<=q.2)(a:t.length<=1000):Tal qC.length (Ab qK t qC):=by
 refine Rr ?_ (MB (Rl qK t qC)) (F4 _) λr=>by rw[F3];exact Ri (Ro h) r
 exact aR (MA _) (by rw[MD];exact a)
theorem ME(qK:At)(t:Tl)(qC:At):(Ab qK t qC).length<=t.length:=aR (Lp _) (aR (MA _) (by rw[MD];exact aQ _))
def MF(a b:Tl):List By:=(a.map (·.1)++b.map (·.1)).filter λr=>decide ((AX a r).getD 0≠(AX b r).getD 0)
def Eb(a b:Tl):Option By:=(CV (MF a b)).head?
theorem Rs(a:Tl):Eb a a=none:=by
 unfold Eb MF;rw[filter_eq_nil_iff.mpr (by simp)];rfl
theorem Yu(b:By)(r:List By):(CV (b::r)).head?=some (r.foldl (λm x=>if HT.lexLt x m=true then x else m) b):=by
 have key:∀(r:List By) (b:By),(r.foldl (λm x=>if HT.lexLt x m=true then x else m) b)∈b::r/\∀x∈b::r,HT.lexLt x (r.foldl (λm x=>if HT.lexLt x m=true then x else m) b)=false:=by
  intro r
  induction r with
  |nil=>intro b;exact⟨by simp,λx hx=>by rw[bI.mp hx];exact FZ b⟩
  |cons y r g =>
   intro b;rw[foldl_cons];obtain⟨h1,h2⟩:=g (if HT.lexLt y b=true then y else b);refine⟨?_,λx hx=>?_⟩
   ·rcases aF.mp h1 with e|h1
    ·rw[e];split<;>simp
    ·exact bT _ (bT _ h1)
   ·generalize r.foldl (λm x=>if HT.lexLt x m=true then x else m) (if HT.lexLt y b=true then y else b)=m at h1 h2 ⊢;have a:=h2 _ cA;rcases aF.mp hx with rfl|hx
    ·split at a
     ·rename_i f;cases e:HT.lexLt x m
      ·rfl
      ·have:=Gx _ _ _ f e;rw[this]at a;cases a
     ·exact a
    ·rcases aF.mp hx with rfl|hx
     ·split at a
      ·exact a
      ·rename_i f;cases e:HT.lexLt x m
       ·rfl
       ·rcases Kw x b m e with q|q
        ·exact bS q f
        ·rw[q]at a;cases a
     ·exact h2 x (bT _ hx)
 obtain⟨h1,h2⟩:=key r b;have c:=DP (b::r);have d:=Fx (b::r);generalize r.foldl (λm x=>if HT.lexLt x m=true then x else m) b=m at h1 h2 ⊢
 match h:CV (b::r),c,d with
 |[],c,_=>exact bS c.length_eq (by simp)
 |x::xs,c,d =>
  have j:=h2 x (c.mem_iff.mp cA);have i:HT.lexLt m x=false:=by
   rcases aF.mp (c.mem_iff.mpr h1)with rfl|hm
   ·exact FZ m
   ·exact(cS.mp d).1 m hm
  rw[head?_cons,Fa x m j i]
def Hd:Option By->P
 |none=>.non
 |some r=>AT r
def Au(a b:At):At:=a.filter λn=>decide (n∈b)
theorem DF(a b:At):(∀n∈Au a b,n∈a)/\∀n∈Au a b,n∈b:=⟨λn c=>(cW.mp c).1,λn c=>by simpa using(cW.mp c).2⟩
theorem Rt(a b:At):(Au a b).length<=a.length:=length_filter_le _ _
theorem JX{t:Tl}(h:Tal n t):∀q∈t,0<=q.2:=λq a=>Int.le_of_lt (h.pos q a)
theorem JY{t:Tl}(a:Tal qK.length t)(d:qC.length<=100)(c:∀n∈qC,n∈qK):Sh qK t qC:=⟨d,c,aR a.few (by decide),a.rows⟩
end L2
variable{J:L2.Tl}{ts:List L2.Tl}
namespace L2
open PySem PyProof.Rows
abbrev Ec(a b:Str):Prop:=¬(b.cps.toList<a.cps.toList)
abbrev CG(l:At):Prop:=l.Pairwise Ec
theorem Yv{a b c:Str}(h:Ec a b)(g:Ec b c):Ec a c:=λz=>h (List.lt_of_le_of_lt (List.not_lt.mp g) z)
theorem Yw{a b:Str}(h:a.cps.toList=b.cps.toList):a=b:=PyProof.Rows.ext_toList h
theorem Yx{a b:Str}(h:Ec a b)(g:Ec b a):a=b:=Yw (List.le_antisymm (List.not_lt.mp h) (List.not_lt.mp g))
theorem Ru:∀(l:At) (p:Str),risingS p l=true->(p::l).Pairwise Ec
 |[],p,_=>pairwise_singleton _ _
 |x::r,p,h=>by
  rw[risingS,cB]at h;have h1:Ec p x:=by have:=h.1;rw[ltCps_eq]at this;simpa using this
  have h2:=Ru r x h.2;refine cS.mpr ⟨λy hy=>?_,h2⟩;rcases aF.mp hy with rfl|hy
  ·exact h1
  ·exact Yv h1 ((cS.mp h2).1 y hy)
theorem Rv{l:At}(h:sortedS l=true):CG l:=by
 cases l with
 |nil=>exact List.Pairwise.nil
 |cons x r=>exact Ru r x h
theorem JZ:∀{a b:At},a.Perm b->CG a->CG b->a=b
 |[],b,h,_,_=>(nil_perm.mp h).symm
 |x::xs,[],h,_,_=>bS h.length_eq (by simp)
 |x::xs,y::ys,h,h1,h2=>by
  have e:x=y:=by
   have hx:x∈y::ys:=h.mem_iff.mp cA;have hy:y∈x::xs:=h.mem_iff.mpr cA;rcases aF.mp hx with e|hx
   ·exact e
   ·rcases aF.mp hy with e|hy
    ·exact e.symm
    ·exact Yx ((cS.mp h1).1 y hy) ((cS.mp h2).1 x hx)
  subst e;rw[JZ ((perm_cons x).mp h) (cS.mp h1).2 (cS.mp h2).2]
structure Rm(ns r:At):Prop where
 sub:∀n∈r,n∈ns
 nd:r.Nodup
 srt:CG r
theorem Rm.len{r:At}(h:Rm ns r):r.length<=ns.length:=h.nd.length_le_of_subset h.sub
structure Nms(ns:At):Prop where
 pos:1<=ns.length
 len:ns.length<=6
 nd:ns.Nodup
 srt:CG ns
theorem Nms.rm{p:At}(h:Nms ns)(s:p.Sublist ns):Rm ns p:=⟨λn hn=>s.subset hn,h.nd.sublist s,h.srt.sublist s⟩
end L2
namespace L2
open PySem PySem.Spec PyProof.Rows
def mroIn(K:Fg)(C C':Addr):Bool:=match K.lookup C with
 |some ⟨_,_,.cls cd,_⟩=>cd.mro.contains (.ref C')
 |_=>true
section
variable{M:Model}{nm q:Str}{C N:Addr}{bs bm:Do}{hdct:Bool}{sn:At}{sub:Do}{ab:Bool}{col:Option Bool}{dd:Go}{k0 k1 k2 k3 k5:Ex}{newId:String}
 {nm' q':Str} {C' N':Addr} {bs' bm':Do} {hdct':Bool} {sn':At} {sub':Do} {ab':Bool} {col':Option Bool} {dd':Go} {l0 l1 l2 l3 l5:Ex} {newId':String}
end
end L2
namespace L2
open PySem PySem.Spec PyProof.Rows PySem.W Builtin Builtin.ObjectAttr
end L2
namespace L2
open PySem PySem.Spec PyProof.Rows PySem.W
end L2
namespace L2
open PySem PySem.Spec PyProof.Rows
mutual
def P.dry:P->Bool
 |.lst _=>false|.dT _ _=>false|.dK _ _=>false|.fT _ _=>false|.bag=>false
 |.tup xs=>P.drys xs
 |.non=>true|.bl _=>true|.int _=>true|.str _=>true
def P.drys:dH->Bool
 |[]=>true
 |x::r=>x.dry&&P.drys r
end
@[simp] theorem Yy(i:Int):(P.int i).dry=true:=by simp[P.dry]
@[simp] theorem Yz(i:Str):(P.str i).dry=true:=by simp[P.dry]
@[simp] theorem Y0(xs:dH):(P.tup xs).dry=P.drys xs:=by simp[P.dry]
@[simp] theorem Y1:P.drys []=true:=by simp[P.drys]
@[simp] theorem Y2(x:P)(xs:dH):P.drys (x::xs)=(x.dry&&P.drys xs):=by simp[P.drys]
@[simp] theorem Rw:∀ns:By,P.drys (ns.map P.int)=true
 |[]=>by simp
 |n::r=>by simp[Rw r]
abbrev Y3:=Xn->Hp->Prop
abbrev pX:=dI->(P->Fl->Prop)->(Xn->Prop)->Prop
abbrev Y4:=dI->(List (P×Fl)->Prop)->(Xn->Prop)->Prop
section
variable{ι:Type}
variable{Xs:ι->Cx}{EX:Y3}{a e:Expr}{pa:pX}{pr:Y4}
def Y5(k:Nat)(E:PEnds):PEnds:={ E with nx:=λρ=>ρ[k]?=some .emp/\E.nx ρ,bk:=λρ=>ρ[k]?=some .emp/\E.bk ρ,ct:=λρ=>ρ[k]?=some .emp/\E.ct ρ }
end
section
variable{ι:Type}
end
end L2
namespace L2
open PySem PySem.Spec PyProof.Rows PySem.W
end L2
namespace L2
open PySem
def Bz(t:Tl):Tl:=A6 (BY t)
theorem Rx{t:Tl}(h:(t.map (·.1)).Nodup)(r:By):cnt t r=(AX t r).getD 0:=by
 induction t with
 |nil=>rfl
 |cons q t c =>
  simp only[map_cons,bC]at h;have e:cnt (q::t) r=(if q.1=r then q.2 else 0)+cnt t r:=by unfold cnt;simp
  rw[e,c h.2];unfold AX;rw[find?_cons];by_cases z:q.1=r
  ·have f:t.find? (λp=>decide (p.1=r))=none:=find?_eq_none.mpr λp d=>by
    simp only[decide_eq_true_eq];exactλa=>h.1 (by rw[z,<-a];exact bU.mpr ⟨p,d,rfl⟩)
   rw[f];simp[z]
  ·simp[z]
theorem MG(t:Tl)(r:By):cnt (Bz t) r=cnt t r:=by
 unfold Bz;rw[Rx (Rj (F4 t)),Yr,F3]
theorem Ry{t u:Tl}(d:(t.map (·.1)).Nodup)(c:(u.map (·.1)).Nodup)(h:∀r,(AX t r).getD 0=(AX u r).getD 0):A6 t=A6 u:=by
 have mem:∀{t:Tl} (r:By),(AX t r).getD 0≠0->r∈t.map (·.1):=λ{t} r z=>by
  by_cases a:r∈t.map (·.1)
  ·exact a
  ·rw[JU a]at z;exact bS rfl z
 have key:((CV (t.map (·.1))).filter λr=>decide ((AX t r).getD 0≠0))=((CV (u.map (·.1))).filter λr=>decide ((AX u r).getD 0≠0)):=by
  refine Lm ((perm_ext_iff_of_nodup ?_ ?_).mpr λr=>?_) ((Fx _).filter _) ((Fx _).filter _)
  ·exact((DP _).nodup_iff.mpr d).filter _
  ·exact((DP _).nodup_iff.mpr c).filter _
  ·simp only[cW,(DP _).mem_iff,decide_eq_true_eq];exact⟨λz=>⟨mem r (by rw[<-h];exact z.2),by rw[<-h];exact z.2⟩,λz=>⟨mem r (by rw[h];exact z.2),by rw[h];exact z.2⟩⟩
 unfold A6;rw[key];exact cF λr _=>by rw[h]
theorem Ja{t u:Tl}(h:∀r,cnt t r=cnt u r):Bz t=Bz u:=Ry (F4 t) (F4 u) λr=>by rw[F3,F3,h]
theorem Y6{t:Tl}(h:(t.map (·.1)).Nodup):A6 t=Bz t:=Ry h (F4 t) λr=>by rw[F3,Rx h]
theorem Rz(t:Tl):Bz (Bz t)=Bz t:=Ja (MG t)
def Ag(φ:By->Int)(t:Tl):Int:=(t.map λq=>φ q.1 * q.2).sum
theorem Y7(c:By->Int)(a b:Tl):Ag c (a++b)=Ag c a+Ag c b:=by unfold Ag;rw[cN,sum_append]
theorem R0(a:By->Int)(x:By)(c:Int):∀(L:List By),L.Nodup->(L.map λr=>a r * (if x=r then c else 0)).sum=if x∈L then a x * c else 0
 |[],_=>by simp
 |y::L,d=>by
  simp only[bC]at d;rw[map_cons,sum_cons,R0 a x c L d.2];by_cases e:x=y
  ·subst e;simp[d.1]
  ·simp[e]
theorem MH{α:Type}(f g:α->Int):∀L:List α,(L.map λr=>f r+g r).sum=(L.map f).sum+(L.map g).sum
 |[]=>rfl
 |x::L=>by simp only[map_cons,sum_cons,MH f g L];lia
theorem MI(a:By->Int){L:List By}(nd:L.Nodup):∀{t:Tl},(∀q∈t,q.1∈L)->Ag a t=(L.map λr=>a r * cnt t r).sum
 |[],_=>by
  have:(L.map λr=>a r * cnt [] r).sum=0:=by
   induction L with
   |nil=>rfl
   |cons x L c=>rw[map_cons,sum_cons,c (bC.mp nd).2 (λ_ z=>bS z (by simp))];simp[cnt]
  rw[this];rfl
 |q::t,h=>by
  have c:=MI a nd (t:=t) λp d=>h p (bT _ d);have e:∀r,a r * cnt (q::t) r=a r * (if q.1=r then q.2 else 0)+a r * cnt t r:=λr=>by
   have:cnt (q::t) r=(if q.1=r then q.2 else 0)+cnt t r:=by unfold cnt;simp
   rw[this,Int.mul_add]
  have f:Ag a (q::t)=a q.1 * q.2+Ag a t:=by unfold Ag;simp
  rw[f,c,cF λr _=>e r,MH,R0 a q.1 q.2 L nd,aC (h q cA)]
theorem Y8(a:By->Int){t u:Tl}(h:∀r,cnt t r=cnt u r):Ag a t=Ag a u:=by
 have d:=F4 (t++u);have f:∀q∈t,q.1∈(BY (t++u)).map (·.1):=λq c=>(JW _ _).mpr (bU.mpr ⟨q,mem_append_left _ c,rfl⟩);have e:∀q∈u,q.1∈(BY (t++u)).map (·.1):=λq c=>(JW _ _).mpr (bU.mpr ⟨q,cC _ c,rfl⟩);rw[MI a d f,MI a d e];exact aT List.sum (cF λr _=>by rw[h])
theorem Y9(a:By->Int)(t:Tl):Ag a (Bz t)=Ag a t:=Y8 a (MG t)
theorem Jb(qK:At)(t:Tl)(qC:At)(s:By):cnt (A9 qK t qC) s=Ag (λr=>if AU qK r qC=s then 1 else 0) t:=by
 unfold cnt A9 Ag;rw[bZ];refine aT List.sum (cF λq _=>?_);show(if AU qK q.1 qC=s then q.2 else 0)=(if AU qK q.1 qC=s then(1:Int)else 0) * q.2;by_cases z:AU qK q.1 qC=s
 ·rw[aC z,aC z,Int.one_mul]
 ·rw[aB z,aB z,Int.zero_mul]
def Cz(t:Tl):Int:=(t.map (·.2)).sum
theorem D6(qK:At)(t:Tl)(qC:At):Ab qK t qC=Bz (A9 qK t qC):=rfl
theorem Jc{less:At}(c:∀n∈less,n∈qC):AU qC (AU qK r qC) less=AU qK r less:=by
 unfold AU;refine cF λn a=>?_;have h:=(FC (c n a)).1;rw[bW,bO,h];rfl
theorem Ed{less:At}(t:Tl)(a:∀n∈less,n∈qC):Ab qC (Ab qK t qC) less=Ab qK t less:=by
 rw[D6,D6,D6];refine Ja λs=>?_;rw[Jb,Y9,Jb];unfold Ag A9;rw[bZ];refine aT List.sum (cF λq _=>?_);show(if AU qC (AU qK q.1 qC) less=s then(1:Int)else 0) * q.2=_;rw[Jc a]
theorem MJ(nd:qK.Nodup)(h:r.length=qK.length):AU qK r qK=r:=by
 refine ext_getElem? λi=>?_;unfold AU;rw[bO];rcases cE i qK.length with hi|hi
 ·have e:idx qK qK[i]=i:=by
   have a:=FC (getElem_mem hi);exact(getElem_inj nd).mp (aI.mp a.1).2
  rw[aH hi];show some (r.getD (idx qK qK[i]) 0)=_;rw[e,bW,aH ⋯];rfl
 ·rw[bQ hi,bQ ⋯];rfl
theorem ZA(nd:qK.Nodup){t:Tl}(h:∀q∈t,q.1.length=qK.length):Ab qK t qK=Bz t:=by
 have e:A9 qK t qK=t:=by
  unfold A9
  conv=>rhs;rw[<-map_id t]
  exact cF λq a=>by rw[MJ nd (h q a)];rfl
 rw[D6,e]
end L2
namespace L2
open PySem PySem.Spec PyProof.Rows PySem.W
theorem ZB(t:SetTable)(n:Nat):(t.orStandIn n).led=t.led:=by unfold SetTable.orStandIn;split<;>rfl
theorem ZC(t:SetTable)(es:Array (Int×Value))(h:Int)(x:Value):(layNew t es h x).2.1.led=t.led:=by
 unfold layNew;split
 ·exact ZB _ _
 ·rfl
theorem R1{c a f:Nat}{led plain:Bool}{g:Array Int}{t':SetTable}{d:Array Nat}(e:SetTable.laid c a f led plain g=some (t',d)):t'.led=led/\t'.plain=plain:=by
 unfold SetTable.laid at e;cases h:SetTable.layClean c g with
 |none=>rw[h]at e;cases e
 |some ow =>
  rw[h]at e;injection e with e
  injection e with i j
  subst i;exact⟨rfl,rfl⟩
theorem ZD(t:SetTable)(es:Array (Int×Value))(n:Nat):(relayAll t es n).2.1.led=t.led:=by
 unfold relayAll;split
 ·rename_i t' a e;dsimp only;split
  ·exact(R1 e).1
  ·rfl
 ·rfl
theorem ZE{t:SetTable}(es:Array (Int×Value))(n:Nat)(p:t.plain=false):(relayAll t es n).2.1.plain=false:=by
 unfold relayAll;split
 ·rename_i t' a e;dsimp only;split
  ·rw[(R1 e).2];exact p
  ·rfl
 ·rfl
theorem MK{α:Type}:∀{l:List α} {i:Nat} (h:i<l.length),(l[i]::l.eraseIdx i).Perm l
 |[],_,h=>by cases h
 |x::r,0,h=>by simp
 |x::r,i+1,h=>by
  have a:=MK (l:=r) (i:=i) (by simpa using h);simp only[getElem_cons_succ,eraseIdx_cons_succ];exact(List.Perm.swap _ _ _).trans (a.cons _)
theorem ZF{a:Source}{Q:Nat->Shared->Prop}(c:n≠0)(h:∀i,i<n->∀dr,Q i { s with drawn:=dr }):wpAny (model prog w) A (choose a n) Q E s:=λd p _=>by
 unfold choose;rw[Sem.wp];exact⟨c,by rw[Sem.wp];exact h _ (Nat.mod_lt _ (Nat.pos_of_ne_zero c)) _⟩
theorem R3{α:Type}:∀(n:Nat) (xs:List α) (s:Shared) (Q:List α->Shared->Prop),xs.length=n->(∀ys dr,ys.Perm xs->Q ys { s with drawn:=dr })->wpAny (model prog w) A (drawOrder n xs) Q E s
 |0,xs,s,Q,a,h=>by
  unfold drawOrder;obtain rfl:=cM a;exact wP (h [] s.drawn (List.Perm.refl _))
 |n+1,[],s,Q,a,h=>by cases a
 |n+1,x::xs,s,Q,a,h=>by
  unfold drawOrder;refine wB (ZF (by simp) λi hi dr=>?_);rw[aH hi];dsimp only;refine wB (R3 n _ _ _ (by rw[length_eraseIdx_of_lt hi];simp at a ⊢;lia) λys dr c=>wP ?_);exact h _ dr ((c.cons _).trans (MK hi))
theorem R4{α:Type}(next:Nat->Nat):∀(n k:Nat) (left:List α) (out:Array α),left.length=n->(pickOrder.go next n k left out).toList.Perm (out.toList++left)
 |0,k,left,out,a=>by
  obtain rfl:=cM a;unfold pickOrder.go;simp
 |n+1,k,left,out,a=>by
  unfold pickOrder.go;have hi:next k % left.length<left.length:=Nat.mod_lt _ ⋯;rw[aH hi];dsimp only;refine(R4 next n (k+1) _ _ (by rw[length_eraseIdx_of_lt hi];lia)).trans ?_;rw[Array.toList_push,bK];exact(MK hi).append_left _
theorem ML{α:Type}(next:Nat->Nat)(xs:Array α):(pickOrder next xs).toList.Perm xs.toList:=by
 unfold pickOrder;simpa using R4 next xs.size 0 xs.toList #[] rfl
theorem R5:Manifest.owners.lookup (String.ofList ['r','o','t','a','r','e','t','i','_','t','e','s'].reverse)=some Manifest.sig_set_iterator:=by kernel_rfl
theorem Hf:Slot "set_iterator" "__next__" "set_iterator.__next__":=.of (owner:="set_iterator") (n:="__next__") (by rw[typeLookup_type,builtinLookup_eq_fast];kernel_rfl) nofun nofun nofun (by first|exact .inl nofun|exact .inr nofun) (by rw[isSubtype_type];kernel_rfl)
theorem ZG:entryFor table "set_iterator.__next__"=some Builtin.«set_iterator.__next__»:=entryFor_of_tree (by kernel_rfl)
theorem ZH(a:Value):argsOk "set_iterator.__next__" ⟨[a],[]⟩:=by
 unfold argsOk;rw[signature?_of (id:="set_iterator.__next__") (n:=['_','_','t','x','e','n','_','_']) (o:=['r','o','t','a','r','e','t','i','_','t','e','s']) (by kernel_rfl) R5];kernel_rfl
theorem ZI:entryFor table "set.__iter__"=some Builtin.«frozenset.__iter__»:=entryFor_alias (id':="frozenset.__iter__") (by kernel_rfl) rfl nofun (by kernel_rfl)
def BZ(es:Array (Int×Value))(ep:Nat)(t:SetTable):Obj:={ cls:=.type "set",dict:=none,data:=.set es ep t,slots:=#[] }
def Ch(vs:FG):Obj:={ cls:=.type "set_iterator",dict:=none,data:=.fields vs,slots:=#[] }
abbrev iF(first:Value)(i:Nat)(a:Addr)(n ep:Nat):FG:=#[first,.int i 0,.ref a,.int n 0,.int ep 0]
section
variable{es:Array (Int×Value)}{t:SetTable}{first:Value}
def Jd(I:Addr):Sem PySem.Fin:=do setField (.ref I) 2 .none;raiseNew (<-newExc (.type "StopIteration") [])
theorem Je{F:PySem.Fin->Shared->Prop}(c:s.heap.get? I=some (Ch (iF (.int j 0) i a es.size ep)))(d:s.heap.get? a=some (BZ es ep t))(e:t.fits es.size=true)
  (h:wpAny (model prog w) A (setNext a j i ep >>= λr=>match r with|some (x,next)=>(do setField (.ref I) 0 (rawInt next);setField (.ref I) 1 (rawInt ((i:Int)+1));ret x)|none=>Jd I) F E s) :
  wpAny (model prog w) A (Builtin.«set_iterator.__next__» ⟨[.ref I],[]⟩) F E s:=by
 unfold Builtin.«set_iterator.__next__»;refine wB (m:=slotArgs "__next__" 0 _) (wP ?_);refine wB (wpAny_fieldsOf c rfl ?_);dsimp only;refine wB (wpAny_setEntries_of d rfl e ?_);rw[aB (by simp)];simp only[Int.toNat_natCast];exact h
theorem R6{T:Addr}{ps:Ge}{F:PySem.Fin->Shared->Prop}(c:s.heap.get? I=some (Ch (iF (.ref T) i a es.size ep)))(d:s.heap.get? a=some (BZ es ep t))(f:t.fits es.size=true)(g:s.heap.get? T=some (seqObj "tuple" (ps.map λp:Nat=>rawInt p).toArray 0))
  (h:wpAny (model prog w) A (match ps[i]? with|some p=>(do let x <-setNextDrawn a p ep;setField (.ref I) 1 (rawInt ((i:Int)+1));ret x)|none=>(do setField (.ref I) 0 (rawInt 0);Jd I)) F E s) :
  wpAny (model prog w) A (Builtin.«set_iterator.__next__» ⟨[.ref I],[]⟩) F E s:=by
 unfold Builtin.«set_iterator.__next__»;refine wB (m:=slotArgs "__next__" 0 _) (wP ?_);refine wB (wpAny_fieldsOf c rfl ?_);dsimp only;refine wB (wpAny_setEntries_of d rfl f ?_);rw[aB (by simp)];refine wB (wpAny_seqItems g rfl ?_);dsimp only;simp only[Int.toNat_natCast,getElem?_toArray,bO];cases e:ps[i]? with
 |none=>rw[e]at h;exact h
 |some p=>rw[e]at h;exact h
end
section
variable{es:Array (Int×Value)}{t:SetTable}{first:Value}
theorem F5{Q:Ex->Shared->Prop}(a:s.TypeIs (.ref I) "set_iterator")(h:wpAny (model prog w) A.in1 (Builtin.«set_iterator.__next__» ⟨[.ref I],[]⟩) (λfin s'=>∃v,fin=.done (.ret v)/\Q (some v) s') (λe s'=>s'.TypeIs e "StopIteration"/\Q none s') s):wpAny (model prog w) A (pyNext (.ref I)) Q E s:=by
 unfold pyNext;refine wB (wpAny_attempt (wpAny_callSpecial?_slot (name:=Str.ofString "__next__") a Hf (cP Hf a ZG (bL h (λfin s' x=>?_) λe s' x=>?_) (ZH _))))
 ·obtain⟨v,rfl,q⟩:=x;exact⟨_,rfl,wP q⟩
 ·exact wB (wpAny_isInstance (T:="StopIteration") (b:=true) x.1 isSubtype_stop (wP x.2))
theorem MM{vs:FG}{F:PySem.Fin->Shared->Prop}(f:A.handled=none)(c:s.heap.get? I=some (Ch vs))(d:2<vs.size)
  (h:∀h' e,Heap.ExtBut I s.heap h'->Shared.TypeIs { s with heap:=h' } e "StopIteration"->E e { s with heap:=h' }):wpAny (model prog w) A (Jd I) F E s:=by
 unfold Jd;refine wB (wpAny_setField c rfl d ?_);refine wB ?_;simp only[newExc,newTuple];refine wB (cG ?i (by size_fits));refine wB (m:=firstArgMember _ _) (wpAny_of_eq (a:=Value.none) (by first|rfl|(simp only[firstArgMember];rfl)) (cG ?g (by size_fits)));simp only[raiseNew];refine wB (wpAny_handled ?_);rw[f];refine wB (wP (wpAny_throw ?_));exact h _ _ (((Heap.SameBut.update ..).extBut.push _).push _) ⟨_,bP _ rfl,rfl⟩
def D7(w:World)(a:Addr)(es:Array (Int×Value))(ep:Nat):Do:=(pickOrder (w.params.setOrder a ep) es).toList.map (·.2)
theorem R7{Q:Option (Value×Nat)->Shared->Prop}(e:w.params.followText "set-order"=true)(c:s.heap.get? a=some (BZ es ep t))(d:t.fits es.size=true)(h:Q ((D7 w a es ep)[i]?.map λx=>(x,j)) s):wpAny (model prog w) A (setNext a j i ep) Q E s:=by
 unfold setNext;refine wB (wpAny_setState_of c rfl d ?_);dsimp only;refine wB ?_;unfold setsByText;refine wB (wpAny_askSetting (wP ?_));show wpAny _ _ (if w.params.followText "set-order"=true then _ else _) _ _ _;rw[aC e];rw[aB (by simp)];refine wB ?_;unfold setWalk;refine wB (wpAny_setState_of c rfl d ?_);dsimp only;refine wB ?_;unfold setsByText;refine wB (wpAny_askSetting (wP ?_));show wpAny _ _ (if w.params.followText "set-order"=true then _ else _) _ _ _;rw[aC e];refine wB (wpAny_askSetting (wP (wP ?_)));unfold D7 at h;rw[bO,Array.getElem?_toList,Option.map_map]at h;exact h
end
section
variable{es:Array (Int×Value)}{t:SetTable}
theorem R8:Slot "set_iterator" "__iter__" "set_iterator.__iter__":=.of (owner:="set_iterator") (n:="__iter__") (by rw[typeLookup_type,builtinLookup_eq_fast];kernel_rfl) nofun nofun nofun (by first|exact .inl nofun|exact .inr nofun) (by rw[isSubtype_type];kernel_rfl)
theorem ZJ:entryFor table "set_iterator.__iter__"=some Builtin.«dict_keyiterator.__iter__»:=entryFor_alias (id':="dict_keyiterator.__iter__") (by kernel_rfl) rfl nofun (by kernel_rfl)
theorem ZK(a:Value):argsOk "set_iterator.__iter__" ⟨[a],[]⟩:=by
 unfold argsOk;rw[signature?_of (id:="set_iterator.__iter__") (n:=['_','_','r','e','t','i','_','_']) (o:=['r','o','t','a','r','e','t','i','_','t','e','s']) (by kernel_rfl) R5];kernel_rfl
theorem MN{vs:FG}(a:s.heap.get? I=some (Ch vs))(d:Q (.ref I) s):wpAny (model prog w) A (pyIter (.ref I)) Q E s:=by
 have c:s.TypeIs (.ref I) "set_iterator":=⟨_,a,rfl⟩;refine wpAny_pyIter_slot c R8 (cP R8 c ZJ ?_ (ZK _));exact wP ⟨_,rfl,"set_iterator",_,c,Hf.lookup,d⟩
theorem ZL(r:A.handled=none)(d:a≠I)(l:w.params.followText "set-order"=true)(f:t.fits es.size=true):WalksS prog w A I [I,a] [I] (λx y=>y=x) es.size (λi v=>(D7 w a es ep)[i]?=some v)
  (λi s=>s.heap.get? I=some (Ch (iF (.int 0 0) i a es.size ep))/\s.heap.get? a=some (BZ es ep t)) where
 sub:=λb h=>by simp at h;simp[h]
 grefl:=λ_=>rfl
 gtrans:=λ_ _ _ h1 h2=>h2.trans h1
 frame:=λi s h' tk st _ g=>⟨g I (by simp) _ st.1,g a (by simp) _ st.2⟩
 item:=λi s Q E hi st c=>by
  have q:(D7 w a es ep).length=es.size:=by unfold D7;rw[aA,(ML _ _).length_eq,bR]
  refine F5 ⟨_,st.1,rfl⟩ (Je (j:=0) st.1 st.2 f (wB (R7 l st.2 f ?_)));rw[aH (show i<(D7 w a es ep).length by lia),Option.map_some];dsimp only;refine wB (wpAny_setField_rec st.1 (by simp) λh1 B p=>wB (wpAny_setField_rec B (by simp) λh2 u n=>wP ⟨_,rfl,c _ _ (by rw[aH]) ⟨?_,?_⟩ ⟨?_,rfl,rfl,rfl,aQ _⟩⟩))
  ·rw[u];simp[Ch,rawInt]
  ·exact n.extBut _ _ d (p.extBut _ _ d st.2)
  ·exactλb o nb e=>n.extBut _ _ (λz=>nb (by simp[z])) (p.extBut _ _ (λz=>nb (by simp[z])) e)
 done:=λs Q E st c=>by
  have q:(D7 w a es ep).length=es.size:=by unfold D7;rw[aA,(ML _ _).length_eq,bR]
  refine F5 ⟨_,st.1,rfl⟩ (Je (j:=0) st.1 st.2 f (wB (R7 l st.2 f ?_)));rw[bQ ⋯,Option.map_none];dsimp only;exact MM r st.1 (by simp) λh' e x y=>⟨y,c _ ⟨λb o nb e=>x b o (λz=>nb (by simp[z])) e,rfl,rfl,rfl,aQ _⟩⟩
 self:=λi s Q E st c=>MN st.1 c
theorem ZM{T:Addr}{ps:Ge}(C:A.handled=none)(n:a≠I)(q:T≠I)(l:t.fits es.size=true)(D:ps.length=es.size)(B:∀p∈ps,p<es.size):WalksS prog w A I [I,a,T] [I] (λx y=>y=x) es.size (λi v=>∃p,ps[i]?=some p/\∃h,es[p]?=some (h,v))
  (λi s=>s.heap.get? I=some (Ch (iF (.ref T) i a es.size ep))/\s.heap.get? a=some (BZ es ep t)/\s.heap.get? T=some (seqObj "tuple" (ps.map λp:Nat=>rawInt p).toArray 0)) where
 sub:=λb u=>by simp at u;simp[u]
 grefl:=λ_=>rfl
 gtrans:=λ_ _ _ h1 h2=>h2.trans h1
 frame:=λi s h' tk st _ j=>⟨j I (by simp) _ st.1,j a (by simp) _ st.2.1,j T (by simp) _ st.2.2⟩
 item:=λi s Q E hi st f=>by
  have c:i<ps.length:=⋯;have d:=B _ (getElem_mem c);refine F5 ⟨_,st.1,rfl⟩ (R6 st.1 st.2.1 l st.2.2 ?_);rw[aH c];dsimp only;refine wB ?_;unfold setNextDrawn;refine wB (wpAny_setState_of st.2.1 rfl l ?_);dsimp only;rw[aB (by simp),cK d];dsimp only;refine wP ?_;refine wB (wpAny_setField_rec st.1 (by simp) λh1 r g=>wP ⟨_,rfl,f _ _ ⟨_,aH c,es[ps[i]].1,by rw[cK d]⟩ ⟨?_,?_,?_⟩ ⟨?_,rfl,rfl,rfl,aQ _⟩⟩)
  ·rw[r];simp[Ch,rawInt]
  ·exact g.extBut _ _ n st.2.1
  ·exact g.extBut _ _ q st.2.2
  ·exactλb o nb e=>g.extBut _ _ (λz=>nb (by simp[z])) e
 done:=λs Q E st f=>by
  refine F5 ⟨_,st.1,rfl⟩ (R6 st.1 st.2.1 l st.2.2 ?_);rw[bQ ⋯];dsimp only;refine wB (wpAny_setField_rec st.1 (by simp) λh1 r g=>?_);exact MM C r (by simp) λh' e x y=>⟨y,f _ ⟨λb o nb e=>x b o (λz=>nb (by simp[z])) (g.extBut _ _ (λz=>nb (by simp[z])) e),rfl,rfl,rfl,aQ _⟩⟩
 self:=λi s Q E st f=>MN st.1 f
theorem R9{Q:Option (Value×Nat)->Shared->Prop}(g:w.params.followText "set-order"=false)(h1:es.size<=1)(c:t.led=true)(e:s.heap.get? a=some (BZ es ep t))(f:t.fits es.size=true)
  (h:Q (match es[SetTable.below t.place j]?,t.place[SetTable.below t.place j]? with|some (_,x),some k=>some (x,k+1)|_,_=>none) s):wpAny (model prog w) A (setNext a j i ep) Q E s:=by
 unfold setNext;refine wB (wpAny_setState_of e rfl f ?_);dsimp only;refine wB ?_;unfold setsByText;refine wB (wpAny_askSetting (wP ?_));show wpAny _ _ (if w.params.followText "set-order"=true then _ else _) _ _ _;rw[aB (by rw[g];exact cH)];refine wpAny_ite_split (λd=>bS d ?_) (λ_=>?_)
 ·show¬((!t.plain&&decide (es.size > 1))=true);simp;lia
 ·refine wB (?_:wpAny _ _ (if(!t.led&&!es.isEmpty)=true then _ else pure ()) _ _ _);rw[aB (by rw[c];simp)];exact wP (wP h)
theorem ZN(xs:Array Nat):SetTable.below xs 0=0:=by
 unfold SetTable.below;have:∀n hi,SetTable.below.go xs 0 n 0 hi=0:=by
  intro n
  induction n with
  |zero=>intro hi;rfl
  |succ n a =>
   intro hi;unfold SetTable.below.go;split
   ·simp only[Nat.not_lt_zero,if_false];exact a _
   ·rfl
 exact this _ _
theorem ZO{xs:Array Nat}(h:xs.size=1)(k:Nat)(a:xs[0]?=some k):SetTable.below xs (k+1)=1:=by
 unfold SetTable.below;rw[h];unfold SetTable.below.go;have e:xs.getD 0 (k+1)=k:=by rw[Array.getD_eq_getD_getElem?,a];rfl
 simp[e,SetTable.below.go]
theorem ZP(L:A.handled=none)(l:a≠I)(q:w.params.followText "set-order"=false)(h1:es.size<=1)(c:t.led=true)(d:t.fits es.size=true):WalksS prog w A I [I,a] [I] (λx y=>y=x) es.size (λi v=>∃h,es[i]?=some (h,v))
  (λi s=>(∃j:Nat,s.heap.get? I=some (Ch (iF (.int j 0) i a es.size ep))/\(i=0->j=0)/\(i=1->∃k,t.place[0]?=some k/\j=k+1))/\s.heap.get? a=some (BZ es ep t)) where
 sub:=λb p=>by simp at p;simp[p]
 grefl:=λ_=>rfl
 gtrans:=λ_ _ _ h1 h2=>h2.trans h1
 frame:=λi s h' tk st _ n=>⟨let⟨j,e,r⟩:=st.1;⟨j,n I (by simp) _ e,r⟩,n a (by simp) _ st.2⟩
 item:=λi s Q E hi st g=>by
  obtain⟨⟨j,e,r,_⟩,f⟩:=st;have G:i=0:=⋯;subst G;obtain rfl:=r rfl;have H:t.place.size=es.size:=by simp[SetTable.fits]at d;exact d.1
  refine F5 ⟨_,e,rfl⟩ (Je e f d (wB (R9 q h1 c f d ?_)));rw[ZN,cK hi,cK (show 0<t.place.size by lia)];dsimp only;refine wB (wpAny_setField_rec e (by simp) λh1 N B=>wB (wpAny_setField_rec N (by simp) λh2 M u=>wP ⟨_,rfl,g _ _ ⟨es[0].1,by rw[cK hi]⟩ ⟨⟨t.place[0]+1,?_,(λz=>bS z ⋯),(λ_=>⟨_,cK _,rfl⟩)⟩,?_⟩ ⟨?_,rfl,rfl,rfl,aQ _⟩⟩))
  ·rw[M];simp[Ch,rawInt]
  ·exact u.extBut _ _ l (B.extBut _ _ l f)
  ·exactλb o nb e=>u.extBut _ _ (λz=>nb (by simp[z])) (B.extBut _ _ (λz=>nb (by simp[z])) e)
 done:=λs Q E st g=>by
  obtain⟨⟨j,e,O,D⟩,f⟩:=st;have H:t.place.size=es.size:=by simp[SetTable.fits]at d;exact d.1
  refine F5 ⟨_,e,rfl⟩ (Je e f d (wB (R9 q h1 c f d ?_)));have J:es[SetTable.below t.place j]?=none:=by
   by_cases z:es.size=0
   ·exact Array.getElem?_eq_none ⋯
   ·have C:es.size=1:=⋯;obtain⟨k,n,rfl⟩:=D C;rw[ZO ⋯ k n];exact Array.getElem?_eq_none ⋯
  rw[J];dsimp only;exact MM L e (by simp) λh' e x y=>⟨y,g _ ⟨λb o nb e=>x b o (λz=>nb (by simp[z])) e,rfl,rfl,rfl,aQ _⟩⟩
 self:=λi s Q E st g=>let⟨⟨_,e,_⟩,_⟩:=st;MN e g
end
def FE(w:World)(es:Array (Int×Value))(t:SetTable):Prop:=t.fits es.size=true/\es.size<=4096/\t.led=!w.params.followText "set-order"/\(0<es.size->t.plain=false)
def MO(prog:Program)(w:World)(A:Around)(a:Addr)(es:Array (Int×Value))(s:Shared)(I:Addr)(h1:Heap)(dr:PySem.Drawn):Prop :=
 s.heap.objs.size<=I/\(∀b o,s.heap.get? b=some o->h1.get? b=some o)/\∃(vs:Do) (fp:Ha) (St:Nat->Shared->Prop),
  vs.Perm (es.toList.map (·.2))/\(∀b∈fp,b=a\/s.heap.objs.size<=b/\b<h1.objs.size)/\I<h1.objs.size/\WalksS prog w A I fp [I] (λx y=>y=x) es.size (λi v=>vs[i]?=some v) St/\St 0 { s with heap:=h1,drawn:=dr }
section
variable{es:Array (Int×Value)}{t:SetTable}
theorem WalksS.wk{wr:Ha}{G:Array GenState->Array GenState->Prop}{P P':Nat->Value->Prop}{St:Nat->Shared->Prop}(W:WalksS prog w A I fp wr G n P St)(h:∀i v,i<n->P i v->P' i v):WalksS prog w A I fp wr G n P' St where
 sub:=W.sub
 grefl:=W.grefl
 gtrans:=W.gtrans
 frame:=W.frame
 item:=λi s Q E hi st c=>W.item i s Q E hi st λv s' a=>c v s' (h i v hi a)
 done:=W.done
 self:=W.self
theorem ZQ(B:A.handled=none)(f:s.heap.get? a=some (BZ es ep t))(ok:FE w es t)(L:∀I h1 dr,MO prog w A a es s I h1 dr->Q (.ref I) { s with heap:=h1,drawn:=dr }):wpAny (model prog w) A (pyIter (.ref a)) Q E s:=by
 obtain⟨g,hz,n,y⟩:=ok;have J:s.TypeIs (.ref a) "set":=⟨_,f,rfl⟩;have D:=bN f;refine wpAny_pyIter_slot J F.slot_set_iter (cP F.slot_set_iter J ZI ?_ (F.args_set_iter_1 _));unfold Builtin.«frozenset.__iter__» Builtin.Frozenset.slot0 Builtin.Frozenset.addrOf Builtin.Frozenset.sizeOf;refine wB (wB (m:=slotArgs "__iter__" 0 _) (wP (wP ?_)));refine wB (wB (wpAny_setEntries_of f rfl g (wP ?_)));unfold setDrawn;refine wB (wB (wpAny_setState_of f rfl g ?_));dsimp only;refine wB ?_;unfold setsByText;refine wB (wpAny_askSetting (wP (wP ?_)));have M:∀(first:Value),∀{G:VS},G (.ref s.heap.objs.size) { s with heap:=s.heap.push (Ch (iF first 0 a es.size ep)) }->wpAny (model prog w) A.in1 (do let d <-setEpoch a;newFields "set_iterator" [first,rawInt 0,Value.ref a,rawInt ↑es.size,rawInt ↑d]) G E s:=λfirst G q =>
  wB (wpAny_setEpoch_of f rfl g (cG q))
 refine wpAny_ite_split (λC=>?_) (λC=>?_)
 ·have j:(!w.params.followText "set-order"&&(!t.plain&&decide (es.size > 1)))=true:=C;refine wB (R3 es.size _ _ _ (bG) λps dr pp=>?_);have H:ps.length=es.size:=by rw[pp.length_eq,bG]
  refine wB (wpAny_newTuple ?_ (by rw[aA,H,cT];lia));have l:(s.heap.push (seqObj "tuple" (ps.map λp:Nat=>rawInt p).toArray 0)).get? a=some (BZ es ep t):=aS _ f;refine wB (wpAny_setEpoch_of (s:={ s with heap:=s.heap.push (seqObj "tuple" (ps.map λp:Nat=>rawInt p).toArray 0),drawn:=dr }) l rfl g ?_);refine wB (cG (wP ⟨_,rfl,"set_iterator",_,⟨_,bP _ rfl,rfl⟩,Hf.lookup,L _ _ _ ?_⟩));have c:(s.heap.push (seqObj "tuple" (ps.map λp:Nat=>rawInt p).toArray 0)).objs.size=s.heap.objs.size+1:=size_push' _ _;show MO prog w A a es s (s.heap.push (seqObj "tuple" (ps.map λp:Nat=>rawInt p).toArray 0)).objs.size ((s.heap.push (seqObj "tuple" (ps.map λp:Nat=>rawInt p).toArray 0)).push (Ch (iF (.ref s.heap.objs.size) 0 a es.size ep))) dr;have lt:∀p∈ps,p<es.size:=λp N=>bH.mp (pp.mem_iff.mp N);refine⟨by rw[c];exact cR _,λb o e=>aS _ (aS _ e),ps.map λp=>((es[p]?).map (·.2)).getD .none,[_,a,s.heap.objs.size],_,?_,?_,by simp only[size_push'];exact Nat.lt_succ_self _,WalksS.wk (ZM (T:=s.heap.objs.size) (ps:=ps) B (by rw[c];exact bX (Nat.lt_succ_of_lt D)) (by rw[c];exact bX (Nat.lt_succ_self _)) g H lt) ?_,bP _ rfl,aS _ l,aS _ (bP _ rfl)⟩
  ·refine(pp.map _).trans ?_;have:(List.range es.size).map (λp=>((es[p]?).map (·.2)).getD .none)=es.toList.map (·.2):=by
    apply ext_getElem
    ·simp
    ·intro i h1 h2;have O:i<es.size:=by simpa using h1
     simp[O]
   rw[this]
  ·intro b r;simp only[aF,bB,or_false]at r;rw[size_push',c];rcases r with rfl|rfl|rfl
   ·right;rw[c];exact⟨cR _,Nat.lt_succ_self _⟩
   ·left;rfl
   ·right;exact⟨aQ _,Nat.lt_succ_of_lt (Nat.lt_succ_self _)⟩
  ·rintro i v hi ⟨p,Y,h,U⟩;rw[bO,Y,Option.map_some,U];rfl
 ·have j:¬(!w.params.followText "set-order"&&(!t.plain&&decide (es.size > 1)))=true:=C;refine wB (wP ?_);refine wB (wpAny_setEpoch_of f rfl g ?_);refine wB (cG (wP ⟨_,rfl,"set_iterator",_,⟨_,bP _ rfl,rfl⟩,Hf.lookup,L _ _ s.drawn ?_⟩));show MO prog w A a es s s.heap.objs.size (s.heap.push (Ch (iF (.int 0 0) 0 a es.size ep))) s.drawn;have u:∀b∈[s.heap.objs.size,a],b=a\/s.heap.objs.size<=b/\b<(s.heap.push (Ch (iF (.int 0 0) 0 a es.size ep))).objs.size:=by
   intro b r;simp only[aF,bB,or_false]at r;rw[size_push'];rcases r with rfl|rfl
   ·right;exact⟨aQ _,Nat.lt_succ_self _⟩
   ·left;rfl
  cases x:w.params.followText "set-order" with
  |true =>
   refine⟨aQ _,λb o e=>aS _ e,D7 w a es ep,_,_,(ML _ _).map _,u,by rw[size_push'];exact Nat.lt_succ_self _,ZL (ep:=ep) B (bX D) x g,bP _ rfl,aS _ f⟩
  |false =>
   have h1:es.size<=1:=by
    rw[x]at j;by_cases z:es.size<=1
    ·exact z
    ·exfalso;apply j;rw[y ⋯];simp;lia
   refine⟨aQ _,λb o e=>aS _ e,es.toList.map (·.2),_,_,List.Perm.refl _,u,by rw[size_push'];exact Nat.lt_succ_self _,WalksS.wk (ZP (ep:=ep) B (bX D) x h1 (by rw[n,x];rfl) g) ?_,⟨0,bP _ rfl,λ_=>rfl,λz=>bS z ⋯⟩,aS _ f⟩;rintro i v hi ⟨h,e⟩;rw[bO,Array.getElem?_toList,e];rfl
end
section
variable{es:Array (Int×Value)}{t:SetTable}
theorem ZR{Q:Bool->Shared->Prop}(e:s.TypeIs (.ref a) "set")(h:Q false s):wpAny (model prog w) A (Builtin.List.listLengthHint (.ref a)) Q E s:=by
 unfold Builtin.List.listLengthHint;refine wB (wpAny_specialOf e F.slot_set_len.lookup ?_);generalize c:("set.__len__":String)=d
 wp_delta
 rw[show splitId d=some ("set","__len__")from by subst c;decide +kernel];subst c;refine wB (wpAny_isInstance (T:="set") (b:=true) e sub_set_self ?_);refine wpAny_ite_split (λz=>bS z (by decide)) (λ_=>wpAny_ite_split (λ_=>wB (wpAny_typeOf e (wP h))) (λz=>bS nofun z))
theorem ZS{R:Result->Shared->Prop}(Y:A.handled=none)(x:s.heap.get? a=some (BZ es ep t))(ok:FE w es t)(S:Addr)(res:Value)(q:S≠a)(D:s.heap.get? S=some { cls:=.type "list",data:=.seq #[] })
  (hR:∀h' tk dr cg c',(∀b o,b≠S->s.heap.get? b=some o->h'.get? b=some o)->h'.get? S=some { cls:=.type "list",dict:=none,data:=.seq cg c',slots:=#[] }->cg.toList.Perm (es.toList.map (·.2))->R (.ok (.ret res)) { s with heap:=h',toks:=tk,drawn:=dr }) :
  wpAny (model prog w) A.in1 (Builtin.List.listExtendWith (.ref S) (.ref a) res)
   (λfin s'=>match fin with|.done f=>R (.ok f) s'|.again c'=>c'.quiet=true/\codeAny (model prog w) A c' R s') (λe s'=>R (.error e) s') s:=by
 have j:=bN D;have hz:es.size<=sizeLine:=by rw[cT];have:=ok.2.1;lia
 unfold Builtin.List.listExtendWith;refine wB (wpAny_typeOf (T:="set") ⟨_,x,rfl⟩ ?_);have O:Builtin.List.listSameRef (.ref S) (.ref a)=false:=by simp[Builtin.List.listSameRef,q]
 rw[aB (by rw[O];decide)];refine wB (ZQ Y x ok λI h1 dr W=>?_);obtain⟨E,keep,vs,fp,St,pp,y,a1,W,st⟩:=W;have a0:S≠I:=λz=>bS j (by rw[z];exact Nat.not_lt.mpr E);have p:S∉fp:=λhb=>(y S hb).elim q λz=>bS j (Nat.not_lt.mpr z.1);have key:∀(h:Heap) (d:Nat),St 0 { s with heap:=h,drawn:=dr }->(∀b o,b≠S->s.heap.get? b=some o->h.get? b=some o)->h.get? S=some { cls:=.type "list",data:=.seq #[] d } ->
   codeAny (model prog w) A (.builtin "list.extend.loop" ⟨[.ref S,.ref I,res],[]⟩) R { s with heap:=h,drawn:=dr }:=by
  intro h d v U l;refine codeAny_extend_loopS W hz S p res es.size 0 _ #[] d rfl (cD _) v l (ItemsOf.nil _) λs' cg c' u C g=>?_;have e:s'={ s with heap:=s'.heap,toks:=s'.toks,drawn:=dr }:=by
   have L:=u.gens;have J:=u.drawn;have H:=u.os;obtain⟨Q,g',d',M,N⟩:=s';simp only at L J H;subst L;subst J;subst H;rfl
  rw[e];refine hR _ _ _ cg c' (λb o nb G=>u.heap b o (λhb=>?_) (U b o nb G)) C ?_
  ·rcases aF.mp hb with z|hb
   ·exact nb z
   ·exact bS (bN G) (by rw[bI.mp hb];exact Nat.not_lt.mpr E)
  ·have hl:vs.length=es.size:=by rw[pp.length_eq];simp
   have:cg.toList=vs:=by
    apply ext_getElem?;intro i;by_cases hi:i<cg.size
    ·have:=g.2 i cg[i] (by rw[cK hi]);rw[this,Array.getElem?_toList,cK hi]
    ·rw[bQ (by simpa using hi),bQ (by have:=g.1;lia)]
   rw[this];exact pp
 have n:=keep _ _ D;refine wB (bM (ZR ⟨_,keep _ _ x,rfl⟩ ?_));refine wpAny_ite_split (λ_=>?_) (λ_=>wP ⟨plainId_quiet PySem.F.plain_extend_loop _,key _ _ st (λb o _ e=>keep b o e) n⟩);refine wB (wpAny_rule (wB ?_));show wpAny _ _ (updateSeq S (·.push .none) >>= λ_=>updateSeq S (·.pop)) _ _ _;refine wB (wpAny_updateSeq n rfl ?_);have r:=Heap.get?_update_self (Obj.mapSeq (·.push Value.none)) n rfl;refine wpAny_updateSeq (hz:=by seq_fits) r rfl ?_;have B:=Heap.get?_update_self (Obj.mapSeq (·.pop)) r rfl;refine wP ⟨plainId_quiet PySem.F.plain_extend_loop _,key _ _ (W.frame 0 _ _ _ st (aQ _) λb hb o e=>?_) (λb o nb e=>?_) B⟩
 ·have nb:S≠b:=λz=>p (z▸hb);exact(cL _ _ nb).trans ((cL _ _ nb).trans e)
 ·exact(cL _ _ nb.symm).trans ((cL _ _ nb.symm).trans (keep b o e))
theorem ZT{R:Do->Shared->Prop}(p:A.handled=none)(l:s.heap.get? a=some (BZ es ep t))(ok:FE w es t)
  (h:∀h' tk dr cg,(∀b o,s.heap.get? b=some o->h'.get? b=some o)->cg.Perm (es.toList.map (·.2))->R cg { s with heap:=h',toks:=tk,drawn:=dr }):wpAny (model prog w) A (collect (.ref a)) R E s:=by
 have r:=bN l;unfold collect;refine wB (wpAny_runValue (codeAny_builtin entry_proto_collect' ?_));rw[Around.under_plainId PySem.F.plain_proto_collect _];refine wB (m:=newList []) (cG (wP ⟨plainId_quiet PySem.F.plain_list_iadd _,codeAny_builtin entry_list_iadd' ?_⟩));rw[Around.under_plainId PySem.F.plain_list_iadd _];have g:(s.heap.push { cls:=.type "list",data:=.seq ([]:Do).toArray }).get? s.heap.objs.size=some { cls:=.type "list",data:=.seq #[] }:=bP _ rfl;have key:=ZS (prog:=prog) (A:=A) (s:={ s with heap:=s.heap.push { cls:=.type "list",data:=.seq ([]:Do).toArray } })
  (R:=λq s'=>∃h' tk dr cg d,q=.ok (.ret (.ref s.heap.objs.size))/\s'={ s with heap:=h',toks:=tk,drawn:=dr }/\(∀b o,s.heap.get? b=some o->h'.get? b=some o)/\h'.get? s.heap.objs.size=some { cls:=.type "list",dict:=none,data:=.seq cg d,slots:=#[] }/\cg.toList.Perm (es.toList.map (·.2)))
  p (aS _ l) ok s.heap.objs.size (.ref s.heap.objs.size) (Nat.ne_of_gt r) g λh' tk dr cg d k1 k2 k3=>⟨h',tk,dr,cg,d,rfl,rfl,λb o e=>k1 b o (bX (bN e)) (aS _ e),k2,k3⟩
 refine bL key (λi s' x=>?_) λe s' x=>?_
 ·cases i with
  |done f =>
   obtain⟨h',tk,dr,cg,d,e,rfl,k1,k2,k3⟩:=x;cases e;exact wB (wpAny_load k2 (wP (h h' tk dr _ k1 k3)))
  |again n =>
   refine⟨x.1,codeAny_mono x.2 λq j y=>?_⟩;obtain⟨h',tk,dr,cg,d,rfl,rfl,k1,k2,k3⟩:=y;exact wB (wpAny_load k2 (wP (h h' tk dr _ k1 k3)))
 ·obtain⟨_,_,_,_,_,u,_⟩:=x;cases u
theorem ZU{ss:At}(B:A.handled=none)(x:s.heap.get? a=some (BZ es ep t))(ok:FE w es t)(n:StrsAre (es.toList.map (·.2)) ss)(G:es.size<64)
  (h:∀h' tk dr (D:Addr) (out:Do) (c:At) e,(∀u,s.heap.get? D≠some u)->(∀b o,s.heap.get? b=some o->h'.get? b=some o)->h'.get? D=some (seqObj "list" out.toArray e)->StrsAre out c->c.Perm ss->sortedS c=true->Q (.ref D) { s with heap:=h',toks:=tk,drawn:=dr }) :
  wpAny (model prog w) A (call (.builtin "sorted") [.ref a]) Q E s:=by
 refine Calls.call_function_entry kind_sorted plain_sorted entry_sorted (args_sorted1 _) ?_;unfold Builtin.«sorted»;refine wB (m:=checkCount "sorted" 1 1 _) (wP (wB (ZT (A:=A.in1) B x ok λh' tk dr cg k1 k2=>?_)));have z:cg.length=es.size:=by rw[k2.length_eq];simp
 refine wB (wpAny_newList ?_ (by rw[z,cT];lia));have i:(h'.push (seqObj "list" cg.toArray 0)).get? h'.objs.size=some (seqObj "list" cg.toArray 0):=bP _ rfl;have g:StrsAre cg (cg.map strOf):=strsAre_map cg λv f=>n.all v (k2.mem_iff.mp f);have y:(cg.map strOf).Perm ss:=by
  have:=k2.map strOf
  rwa [n.strs]at this
 refine wB (bM (cP slot_list_sort ⟨_,i,rfl⟩ entry_list_sort (list_sort_treeK strKind_oneLt i g.keysOf (λl j qF e=>keyKind_strs (by rw[<-e];exact g)) ⋯ λd O N=>⟨_,rfl,?_⟩) (args_list_sort _)));obtain⟨c,M,L,J⟩:=sorted_out_str g O N;obtain⟨e,C⟩:=sortedHeap_at (out:=(arrOf d).map (·.2)) i;refine wP ⟨_,rfl,h _ _ _ _ ((arrOf d).map (·.2)).toList c e ?_ (λb o I=>?_) ?_ M (L.trans y) J⟩
 ·exactλu H=>bS (bN (k1 _ _ H)) (aX _)
 ·have q:=k1 b o I;have r:b≠h'.objs.size:=bX (bN q);have p:(h'.push (seqObj "list" cg.toArray 0)).get? b=some o:=aS _ q;rw[sortedHeap_old r (bN p)];exact p
 ·rw[Array.toArray_toList];exact C
end
theorem SA(y:Str)(tk:Tok):(PySem.strKind prog w).is y (.str y tk)=true:=by
 show Value.isStrOf y (.str y tk)=true;simp[Value.isStrOf]
theorem MP{y:Str}{v:Value}(h:(PySem.strKind prog w).is y v=true):strOf v=y/\∃tk,v=.str y tk:=by
 obtain⟨tk,rfl⟩:=Value.isStrOf_shape h;exact⟨rfl,tk,rfl⟩
abbrev SB(es:Array (Int×Value)):At:=es.toList.map λe=>strOf e.2
def C0(prog:Program)(w:World)(h:Heap)(a:Addr)(ks:At):Prop:=∃es ep t,h.get? a=some (BZ es ep t)/\FE w es t/\es.size<scanBound/\ElemsOf (PySem.strKind prog w) es.toList/\(SB es).Perm ks
def B7(ks:At)(y:Str):At:=if y∈ks then ks else ks++[y]
theorem C0.at{ks:At}(x:C0 prog w h a ks)(k:∀o,h.get? a=some o->h'.get? a=some o):C0 prog w h' a ks:=let⟨es,ep,t,e,r⟩:=x;⟨es,ep,t,k _ e,r⟩
theorem SC{es c:Array (Int×Value)}{t t':SetTable}{Q:Unit->Shared->Prop}(d:s.heap.get? a=some (BZ es ep t))(hz:c.size<scanBound)(h:∀h',Heap.SameBut a s.heap h'->h'.get? a=some (BZ c (ep+1) t')->Q () { s with heap:=h' }):wpAny (model prog w) A (storeSet a c t') Q E s:=by
 refine wpAny_storeSet_of d rfl (h _ (Heap.SameBut.update ..) ?_) (fits_of_scanBound hz);exact Heap.get?_update_self (Obj.putSet c t') d rfl
theorem SD(g:Bool->Sem Unit)(c:g=λb=>match b with|true=>rule "set.scan.the-table-gave-way" | false=>pure ())(b:Bool){Q:Unit->Shared->Prop}(a:Q () s):wpAny (model prog w) A (g b) Q E s:=by
 subst c;cases b<;>first|exact wP a|exact wpAny_rule a
theorem ZV{ks:At}{y:Str}{tk:Tok}{Q:Bool->Shared->Prop}(x:C0 prog w s.heap a ks)(U:ks.length+1<scanBound)(h:∀b h',Heap.SameBut a s.heap h'->C0 prog w h' a (B7 ks y)->Q b { s with heap:=h' }) :
  wpAny (model prog w) A (setAddHashed a (.str y tk) ((PySem.strKind prog w).hash y)) Q E s:=by
 obtain⟨es,ep,t,M,⟨hf,hz,f,Y⟩,hb,g,J⟩:=x;have hk:=SA (prog:=prog) (w:=w) y tk;have a2:es.size=ks.length:=by rw[<-J.length_eq];simp
 have mem:y∈ks↔∃e∈es.toList,(PySem.strKind prog w).is y e.2=true:=by
  rw[<-J.mem_iff,bU];constructor
  ·rintro⟨e,B,rfl⟩;obtain⟨⟨k,D,_⟩,_⟩:=g e B;refine⟨e,B,?_⟩;rw[(MP D).1];exact D
  ·rintro⟨e,B,q⟩;exact⟨e,B,(MP q).1⟩
 unfold setAddHashed setAddHashedIn;refine bM (wB (wpAny_setState_of M rfl hf ?_));dsimp only;rw[aC (byScan_of rfl hb g)];unfold setAddByScan;refine wB (wB (wpAny_rule (wB (wpAny_setScan_of hk M rfl hf g ?_))));cases hr:findIdx? (λe=>(PySem.strKind prog w).is y e.2) es.toList with
 |some j =>
  obtain⟨hj,a0,_⟩:=findIdx?_eq_some_iff_getElem.mp hr;have hm:y∈ks:=mem.mpr ⟨_,getElem_mem hj,a0⟩;refine wP (wP (h _ s.heap (Heap.SameBut.refl a s.heap) ⟨es,ep,t,M,⟨hf,hz,f,Y⟩,hb,g,?_⟩));unfold B7;rw[aC hm];exact J
 |none =>
  have hm:y∉ks:=λz=>by
   obtain⟨e,B,q⟩:=mem.mp z;have:=findIdx?_eq_none_iff.mp hr e B;rw[q]at this;cases this
  dsimp only;have v:=layNew_perm t es ((PySem.strKind prog w).hash y) (.str y tk);have N:=layNew_fits t es ((PySem.strKind prog w).hash y) (.str y tk);have ld:=ZC t es ((PySem.strKind prog w).hash y) (.str y tk);generalize layNew t es ((PySem.strKind prog w).hash y) (.str y tk)=L at v N ld ⊢;obtain⟨c,O,wd,gv⟩:=L;dsimp only at v N ld ⊢;rw[Array.toList_push]at v;have z1:c.size=es.size+1:=by have:=v.length_eq;simpa using this
  have i:ElemsOf (PySem.strKind prog w) c.toList:=(g.push hk rfl).perm v;have H:c.size<scanBound:=⋯;have C:(SB c).Perm (B7 ks y):=by
   unfold B7;rw[aB hm];refine(v.map _).trans ?_;rw[cN];exact J.append (List.Perm.refl _)
  have I:∀(t2:SetTable),t2.fits c.size=true->t2.led=t.led->t2.plain=false->wpAny (model prog w) A (do
    storeSet a c t2
    if(!wd&&t2.tooFull)=true then do
      (match (relayAll t2 c (SetTable.grown c.size)).2.2 with|true=>rule "set.scan.the-table-gave-way" | false=>pure ():Sem Unit)
      storeSet a (relayAll t2 c (SetTable.grown c.size)).1 (relayAll t2 c (SetTable.grown c.size)).2.1
      pure (some true)
     else pure (some true)) (λr s'=>wpAny (model prog w) A (match r with|some u=>pure u|none=>setAddHashedIn a (.str y tk) ((PySem.strKind prog w).hash y) 99999) Q E s') E s:=by
   intro t2 f2 l2 p2;have T:FE w c t2:=⟨f2,by have:scanBound=4096:=rfl;lia,by rw[l2,f],λ_=>p2⟩;refine wB (SC M H λh1 b1 e1=>?_);split
   ·have d:=relayAll_perm t2 c (SetTable.grown c.size);have o:=relayAll_fits t2 c (SetTable.grown c.size);have n:=ZD t2 c (SetTable.grown c.size);have l:=ZE c (SetTable.grown c.size) p2;generalize relayAll t2 c (SetTable.grown c.size)=L at d o n l ⊢;obtain⟨p,t3,a1⟩:=L;dsimp only at d o n l ⊢;have z3:p.size=c.size:=by have:=d.length_eq;simpa using this
    have G:p.size<scanBound:=⋯;refine wB (SD _ rfl a1 (wB (SC (s:={ s with heap:=h1 }) e1 G λh3 b3 e3=>wP (wP (h _ _ (b1.trans b3) ⟨p,_,t3,e3,⟨o,by have:scanBound=4096:=rfl;lia,by rw[n,l2,f],λ_=>l⟩,G,i.perm d,(d.map _).trans C⟩)))))
   ·exact wP (wP (h _ _ b1 ⟨c,_,t2,e1,T,H,i,C⟩))
  refine wB (SD _ rfl gv ?_);by_cases p1:O.plain=true
  ·rw[aC p1];refine wB (wP ?_);exact I { O with plain:=false } (SetTable.fits_plain_off N) ld rfl
  ·rw[aB p1];refine wB (wP ?_);exact I O N ld (by simpa using p1)
def Ci(ys:At):At:=ys.foldl B7 []
theorem ZW{P:Nat->Value->Prop}{R:Result->Shared->Prop}{wr:Ha}{G:Array GenState->Array GenState->Prop}{ys:At}{vs:Do}{St:Nat->Shared->Prop}(W:WalksS prog w A.in1 I fp wr G n P St)(O:n=vs.length)(J:∀i v,P i v->vs[i]?=some v)(d:StrsAre vs ys)(S:Addr)(u:S∉fp)(c:vs.length+1<scanBound) :
  ∀(k i:Nat) (s:Shared) (ks:At),vs.length - i=k->i<=vs.length->ks.length<=i->St i s->C0 prog w s.heap S ks->(∀s',Moved (S::wr) G s s'->C0 prog w s'.heap S ((ys.drop i).foldl B7 ks)->R (.ok (.ret .none)) s') ->
   codeAny (model prog w) A (.builtin "set.update.loop" ⟨[.ref S,.ref I],[]⟩) R s:=by
 have r:S∉wr:=λh=>u (W.sub _ h);have U:vs.length=ys.length:=d.length;subst O;intro k
 induction k with
 |zero =>
  intro i s ks Q hi D st tx H;have E:i=vs.length:=⋯;subst E;refine codeAny_builtin PyProof.Rows.F.entry_set_update_loop ?_;rw[Around.under_plainId PyProof.Rows.F.plain_set_update_loop _];refine wB (m:=pyNext (.ref I)) (W.done s _ _ st λs' l=>?_);refine wP (H s' (l.mono λb c=>bT _ c) ?_);rw[drop_of_length_le ⋯];exact tx.at λo e=>l.heap S o r e
 |succ k M =>
  intro i s ks Q hi D st tx H;have a:i<vs.length:=⋯;have p:i<ys.length:=⋯;refine codeAny_builtin PyProof.Rows.F.entry_set_update_loop ?_;rw[Around.under_plainId PyProof.Rows.F.plain_set_update_loop _];refine wB (m:=pyNext (.ref I)) (W.item i s _ _ a st λv s' hP z l=>?_)
  replace hP:=J i v hP
  have N:∃tk,v=.str ys[i] tk:=by
   have C:vs[i]=v:=by rw[aH a]at hP;exact oI hP
   obtain⟨x,tk,e⟩:=d.all v (C▸getElem_mem a);have T:=d.strs;have:ys[i]=x:=by
    have L:(vs.map strOf)[i]?=ys[i]?:=by rw[T]
    rw[bO,hP,aH p,e]at L;exact(oI L).symm
   exact⟨tk,by rw[this];exact e⟩
  obtain⟨tk,rfl⟩:=N;refine wB (m:=holding _ _) (bM ?_);unfold setAdd;refine bM (wB ((PySem.strKind prog w).pyHash (SA ys[i] tk) ?_));refine ZV (s:={ s' with toks:=s'.toks+1 }) (tx.at λo e=>l.heap S o r e) ⋯ λb h' g y=>?_;have q:(B7 ks ys[i]).length<=i+1:=by
   unfold B7;split
   ·lia
   ·simp;lia
  refine wP ⟨plainId_quiet PyProof.Rows.F.plain_set_update_loop _,M (i+1) _ _ ⋯ a q (W.frame _ s' _ _ z (cR _) λb c o e=>?_) y λB j f=>?_⟩
  ·rw[g.2 b (λh:b=S=>u (by rw[<-h];exact c))];exact e
  ·refine H B (Moved.trans W.gtrans ((l.mono λb c=>bT _ c).then_heap (cR _) λb o c e=>?_) j) ?_
   ·rw[g.2 b (λh:b=S=>c (by rw[h];exact cA))];exact e
   ·rw[drop_eq_getElem_cons p];exact f
theorem ZX(x:Value){Q₁:VS}(h:Q₁ (.ref s.heap.objs.size) { s with heap:=s.heap.push (BZ #[] 0 (.fresh 0 0 (!w.params.followText "set-order"))) }) :
  codeAny (model prog w) A (.call (.builtin "set.__new__") ⟨[.type "set",x],[]⟩) (wants Q₁ E) s:=by
 refine codeAny_of_tree ?_;show wpAny _ A.in1 (do checkBuiltinCall "set.__new__" ⟨[.type "set",x],[]⟩;again (.builtin "set.__new__" ⟨[.type "set",x],[]⟩)) _ _ s;refine wB (wpAny_of_eq (F.newCall_set_1 x) (wP ⟨plainId_quiet F.plain_set_new _,codeAny_builtin F.entry_set_new ?_⟩));rw[Around.under_plainId F.plain_set_new _];unfold Builtin.«set.__new__» Builtin.Frozenset.newClass;have a:=sub_set_self;obtain⟨c,g,d,tk,os⟩:=s;dsimp only
 wp_walk
 refine wpAny_askSetting (wP ?_);dsimp only;simp only[newObj];exact wB (wpAny_alloc (wP (wP h)))
theorem ZY:FE w #[] (.fresh 0 0 (!w.params.followText "set-order")):=⟨rfl,by decide,rfl,λh=>bS h (by decide)⟩
theorem SE{l:Addr}{c:String}{G:Go}{U:Data}{D:Array Ex}{vs:Do}{ys:At}(hh:A.handled=none)(y:s.heap.get? l=some { cls:=.type c,dict:=G,data:=U,slots:=D })(q:StrsAre vs ys)(M:ys.length+1<scanBound)
  (a1:isSubtype (.type c) (.type "set")=pure false) (a2:isSubtype (.type c) (.type "frozenset")=pure false) (a8:(Value.type c==Value.type "dict")=false)
  (L:∀(Y:Around) (s':Shared),Y.handled=none->s'.heap.get? l=some { cls:=.type c,dict:=G,data:=U,slots:=D }->∃(oI:Obj) (St:Nat->Heap->Prop),(∀(E':VS) (Q':VS),Q' (.ref s'.heap.objs.size) { s' with heap:=s'.heap.push oI }->wpAny (model prog w) Y (pyIter (.ref l)) Q' E' s')/\Walks prog w Y.in1 s'.heap.objs.size [s'.heap.objs.size,l] [s'.heap.objs.size] vs.toArray.size (λi v=>vs.toArray[i]?=some v) St/\St 0 (s'.heap.push oI))
  (h:∀(h':Heap) (tk:Nat),C0 prog w h' s.heap.objs.size (Ci ys)->(∀b o,s.heap.get? b=some o->h'.get? b=some o)->Q (.ref s.heap.objs.size) { s with heap:=h',toks:=tk }) :
  wpAny (model prog w) A (call (.type "set") [.ref l]) Q E s:=by
 obtain⟨c',tl,a3⟩:=F.called_set.mro;have I:=F.called_set.made;have a0:=F.called_set.sub;have J:=bN y;refine wpAny_call (codeAny_of_tree (?_:wpAny _ _ (callAny (.type "set") _) _ _ _));refine wP ⟨Code.quiet_builtin _ nofun,codeAny_builtin F.entry_type_call ?_⟩;rw[Around.under_plain (weight_type_call_type "set" [.ref l] []) rfl];have q1:=F.called_set.notType;have q2:=F.called_set.canCreate;have aa:=F.typeCall_set_1 (.ref l)
 repeat (any_goals (first|assumption|wp_step))
 generalize B:SetTable.fresh 0 0 (!w.params.followText "set-order")=g;refine codeAny_mono (ZX (.ref l) (E:=E) (Q₁:=λp f=>p=.ref s.heap.objs.size/\f={ s with heap:=s.heap.push (BZ #[] 0 g) }) (by rw[B];exact⟨rfl,rfl⟩)) λr f H=>?_;cases r with
 |error e=>exact H
 |ok fl =>
  cases fl with
  |ret p =>
   obtain⟨rfl,rfl⟩:=H;have O:(s.heap.push (BZ #[] 0 g)).get? s.heap.objs.size=some (BZ #[] 0 g):=bP _ rfl;have hT:Shared.TypeIs { s with heap:=s.heap.push (BZ #[] 0 g) } (.ref s.heap.objs.size) "set":=⟨_,O,rfl⟩;have a9:=F.called_set.init.lookup;have ab:=F.called_set.init.bind (.ref s.heap.objs.size)
   repeat (any_goals (first|assumption|wp_step))
   refine codeAny_mono (codeAny_call_builtin (R:=wants (λr d=>r=.none/\∃h' tk,d={ s with heap:=h',toks:=tk }/\C0 prog w h' s.heap.objs.size (Ci ys)/\(∀b o,s.heap.get? b=some o->h'.get? b=some o)) E) F.called_set.init.plain F.entry_set_init (check_set_init_1 hT ?_)) λn d a=>?_
   ·have x:(s.heap.push (BZ #[] 0 g)).get? l=some { cls:=.type c,dict:=G,data:=U,slots:=D }:=aS _ y;have ac:(s.heap.push (BZ #[] 0 g)).get? s.heap.objs.size=some { cls:=.type "set",dict:=none,data:=.set #[] 0 g,slots:=#[] }:=O;subst B;unfold Builtin.«set.__init__» noKeywords Builtin.Frozenset.updateFrom;generalize T:pyIter=PI
    wp_walk
    subst T;obtain⟨oI,St,z,W,st⟩:=L A.in1.in1 { s with heap:=s.heap.push (BZ #[] 0 (SetTable.fresh 0 0 (!w.params.followText "set-order"))) } hh x;refine z _ _ (wB (wpAny_runValue ?_));have u:=size_push' s.heap (BZ #[] 0 (SetTable.fresh 0 0 (!w.params.followText "set-order")));have N:s.heap.objs.size∉[(s.heap.push (BZ #[] 0 (SetTable.fresh 0 0 (!w.params.followText "set-order")))).objs.size,l]:=by
     rw[u];simp only[aF,bB,or_false,not_or];exact⟨bX (Nat.lt_succ_self _),Nat.ne_of_gt J⟩
    have a4:=q.length;refine ZW W.toS (size_toArray) (vs:=vs) (λi v e=>by simpa using e) q s.heap.objs.size N ⋯ (vs.length - 0) 0 _ [] rfl (cD _) (aQ _) st ⟨#[],0,_,aS _ O,ZY,by decide,λe he=>by simp at he,List.Perm.refl _⟩ λs' C tx=>?_;have e:s'={ s with heap:=s'.heap,toks:=s'.toks }:=by
     have e1:=C.gens;have e2:=C.drawn;have e3:=C.os;obtain⟨a7,g',d',a5,a6⟩:=s';simp only at e1 e2 e3;subst e1;subst e2;subst e3;rfl
    refine wP (wP ⟨rfl,_,_,e,tx,λb o eb=>?_⟩);have M:=bN eb;refine C.heap b o ?_ (aS _ (aS _ eb));rw[u];simp only[aF,bB,or_false,not_or];exact⟨bX M,bX (Nat.lt_succ_of_lt M)⟩
   ·cases n with
    |error e=>exact a
    |ok j =>
     cases j with
     |ret r =>
      obtain⟨rfl,h',tk,rfl,x1,x2⟩:=a
      repeat (any_goals (first|assumption|wp_step))
      exact h _ _ x1 x2
     |_=>exact a.elim
  |_=>exact H.elim
theorem ZZ:isSubtype (.type "tuple") (.type "set")=pure false:=by rw[isSubtype_type];kernel_rfl
theorem Za:isSubtype (.type "tuple") (.type "frozenset")=pure false:=by rw[isSubtype_type];kernel_rfl
theorem Zb{l:Addr}{vs:Do}{ys:At}(p:A.handled=none)(j:s.heap.IsList l vs.toArray)(c:StrsAre vs ys)(r:ys.length+1<scanBound)
  (h:∀(h':Heap) (tk:Nat),C0 prog w h' s.heap.objs.size (Ci ys)->(∀b o,s.heap.get? b=some o->h'.get? b=some o)->Q (.ref s.heap.objs.size) { s with heap:=h',toks:=tk }):wpAny (model prog w) A (call (.type "set") [.ref l]) Q E s:=by
 obtain⟨⟨f,y,z,x⟩,d,i,n,g⟩:=j;simp only at i g;subst i;subst g;exact SE p d c r F.sub_list_set F.sub_list_frozenset (by decide) (λv s' u e=>have a:s'.heap.IsList l vs.toArray:=⟨_,e,rfl,n,rfl⟩;⟨_,_,λC B q=>wpAny_pyIter_list a q,Walks.list (A:=v.in1) u _ l (bX (bN e)) vs.toArray,⟨_,bP _ rfl,rfl,rfl⟩,a.push _⟩) h
theorem Zd{l:Addr}{vs:Do}{ys:At}(p:A.handled=none)(j:s.heap.IsTuple l vs.toArray)(a:StrsAre vs ys)(r:ys.length+1<scanBound)
  (h:∀(h':Heap) (tk:Nat),C0 prog w h' s.heap.objs.size (Ci ys)->(∀b o,s.heap.get? b=some o->h'.get? b=some o)->Q (.ref s.heap.objs.size) { s with heap:=h',toks:=tk }):wpAny (model prog w) A (call (.type "set") [.ref l]) Q E s:=by
 obtain⟨⟨f,y,z,x⟩,c,i,n,g⟩:=j;simp only at i g;subst i;subst g;exact SE p c a r ZZ Za (by decide) (λv s' u e=>have d:s'.heap.IsTuple l vs.toArray:=⟨_,e,rfl,n,rfl⟩;⟨_,_,λC B q=>wpAny_pyIter_tuple d q,Walks.tuple (A:=v.in1) u _ l (bX (bN e)) vs.toArray,⟨_,bP _ rfl,rfl,rfl⟩,⟨_,aS _ e,rfl,n,rfl⟩⟩) h
def Jf(prog:Program)(w:World)(a:Addr)(ks:At):HO:=.ext λh=>C0 prog w h a ks
def MQ(prog:Program)(w:World):dG->Hp->VK->Prop:=λxs H Q=>∃(p:Addr) (ss:At),xs=[.ref p]/\(H p=some (.lst (ss.map V.str))\/H p=some (.tup (ss.map V.str)))/\ss.length<4000/\∀a:Addr,H a=none->Q (.ref a) (AD H a (Jf prog w a (Ci ss)))
def MR(prog:Program)(w:World):dG->Hp->VK->Prop:=λxs H Q=>∃(a:Addr) (ks:At),xs=[.ref a]/\H a=some (Jf prog w a ks)/\ks.length<64/\∀(l:Addr) (ss':At),H l=none->ss'.Perm ks->sortedS ss'=true->Q (.ref l) (AD H l (.lst (ss'.map V.str)))
theorem Inv.dr{d:PySem.Drawn}(I:Inv X qA σ H s):Inv X qA σ H { s with drawn:=d }:=⟨I.ok,I.os,I.bare,I.base,I.loc,I.cell,I.free,I.freeC,I.pin,I.hok,I.len⟩
theorem Ze(d:X.calm=true):BJ X (.type "set") (MQ X.prog X.w):=by
 intro qA s σ H xs us Q I r h;obtain⟨p,c,rfl,hp,i,q⟩:=h;obtain⟨u,rfl,g⟩:=r.one;cases g;have a:∀(h':Heap) (tk:Nat),C0 X.prog X.w h' s.heap.objs.size (Ci c)->(∀b o,s.heap.get? b=some o->h'.get? b=some o)->EP X qA σ Q (.ref s.heap.objs.size) { s with heap:=h',toks:=tk }:=λh' tk tx k =>
  ⟨.ref s.heap.objs.size,_,I.laid (t':=tk) (o:=Jf X.prog X.w s.heap.objs.size (Ci c)) k (aQ _) ⟨tx,(let⟨_,_,_,e,_⟩:=tx;⟨_,e⟩),λh1 h2 x y=>x.at y⟩,rfl,q _ (I.hok.fresh (aQ _))⟩
 have f:c.length+1<scanBound:=by show c.length+1<4096;lia
 rcases hp with hp|hp
 ·obtain⟨qH,r,pl,_⟩:=I.list (.of hp);exact Zb (I.ok.hd d) pl.isList (Gw r) f a
 ·obtain⟨qH,r,tt,_⟩:=I.tuple (.of hp);exact Zd (I.ok.hd d) tt (Gw r) f a
theorem Zg(C:X.calm=true):BJ X (.builtin "sorted") (MR X.prog X.w):=by
 intro qA s σ H xs us Q I r h;obtain⟨a,ks,rfl,E,J,q⟩:=h;obtain⟨u,rfl,y⟩:=r.one;cases y;obtain⟨⟨es,ep,t,e,ok,_,g,n⟩,_⟩:=I.hok a _ E;have M:es.size=ks.length:=by rw[<-n.length_eq];simp
 have G:StrsAre (es.toList.map (·.2)) ((es.toList.map (·.2)).map strOf):=strsAre_map _ λv A=>by
  obtain⟨x,z,rfl⟩:=bU.mp A;obtain⟨⟨k,B,_⟩,_⟩:=g x z;obtain⟨_,tk,e⟩:=MP B;exact⟨_,tk,e⟩
 have d:((es.toList.map (·.2)).map strOf).Perm ks:=by rw[bZ];exact n
 obtain⟨m,p,_⟩:=I.loc;refine ZU (I.ok.hd C) e ok G ⋯ λh' tk dr D out c i j k1 k2 k3 l k5=>?_;have f:H D=none:=by
  cases e:H D with
  |none=>rfl
  |some o=>obtain⟨u,L⟩:=(I.hok D o e).there;exact bS L (j u)
 refine⟨.ref D,_,(Inv.laidF (t':=tk) (o:=.lst (c.map V.str)) I p (p.at' λo e=>k1 _ o e) (λb u _ e=>k1 b u e) f j ⟨?_,out,i,Ku k3,k2⟩).dr,rfl,q D c f (l.trans d) k5⟩;rw[aA,(l.trans d).length_eq];exact aY (Dx ⋯)
theorem Zh{ks:At}{y:Str}:x∈B7 ks y↔x∈ks\/x=y:=by
 unfold B7;split
 ·rename_i h;exact⟨.inl,λz=>z.elim id λe=>e▸h⟩
 ·simp
theorem Zi{ks:At}{y:Str}(h:ks.Nodup):(B7 ks y).Nodup:=by
 unfold B7;split
 ·exact h
 ·rename_i n;exact nodup_append.mpr ⟨h,by simp,λa d b c e=>n (by rw[bI]at c;rw[<-c,<-e];exact d)⟩
theorem SF:∀(ys ks:At) (x:Str),x∈ys.foldl B7 ks↔x∈ks\/x∈ys
 |[],ks,x=>by simp
 |y::r,ks,x=>by
  rw[foldl_cons,SF r,Zh,aF,or_assoc]
theorem SG:∀(ys ks:At),ks.Nodup->(ys.foldl B7 ks).Nodup
 |[],ks,h=>h
 |y::r,ks,h=>SG r _ (Zi h)
theorem SH:∀(ys ks:At),(ys.foldl B7 ks).length<=ks.length+ys.length
 |[],ks=>by simp
 |y::r,ks=>by
  have:=SH r (B7 ks y);have h2:(B7 ks y).length<=ks.length+1:=by unfold B7;split<;>simp
  simp only[foldl_cons,length_cons];lia
theorem Zj{ys:At}:x∈Ci ys↔x∈ys:=by unfold Ci;rw[SF];simp
theorem Zk(ys:At):(Ci ys).Nodup:=SG ys [] List.Pairwise.nil
theorem Zl(ys:At):(Ci ys).length<=ys.length:=by unfold Ci;simpa using SH ys []
def Jg:pC:=p1 λx f K=>∃ss:At,(x=.lst (ss.map P.str)\/x=.tup (ss.map P.str))/\ss.length<64/\∀ss':At,ss'.Nodup->(∀z,z∈ss'↔z∈ss)->CG ss'->K (.lst (ss'.map P.str)) .nw
def SI(prog:Program)(w:World):dG->Hp->VK->Prop:=λxs H Q=>MQ prog w xs H λv H1=>MR prog w [v] H1 Q
section
theorem Zm{x:P}{ss:At}(ok:Ok W ρ σ H)(rv:RF W ρ σ Hs f H x v)(d:x=.lst (ss.map P.str)\/x=.tup (ss.map P.str)):∃p,v=.ref p/\(H p=some (.lst (ss.map V.str))\/H p=some (.tup (ss.map V.str))):=by
 rcases d with rfl|rfl
 ·obtain⟨p,us,rfl,c,a⟩:=Bx ok rv;rw[AB.strs.mp a]at c;exact⟨p,rfl,.inl c⟩
 ·obtain⟨p,us,rfl,c,a⟩:=Dh ok rv;rw[AB.strs.mp a]at c;exact⟨p,rfl,.inr c⟩
theorem Zn:B3 (SI prog w) Jg:=λW ρ σ Hs H Q K xs vs ok st r e q=>by
 unfold Jg p1 at e;split at e
 ·obtain⟨v,rfl,rv⟩:=r.one;obtain⟨c,i,s,j⟩:=e;obtain⟨p,rfl,n⟩:=Zm ok rv i;refine⟨p,c,rfl,n,⋯,λa o=>⟨a,Ci c,rfl,Aa,by have:=Zl c;lia,λl f h h1 h2=>?_⟩⟩;have d:Step W.b W.a H (AD H a (Jf prog w a (Ci c))):=Step.new ok.bag o;exact q _ _ _ _ (j f (h1.nodup_iff.mpr (Zk c)) (λz=>h1.mem_iff.trans Zj) (Rv h2)) (d.trans (Step.new d.bag h)) (ET (g:=.nw) (ok.step d) (st.trans d) (by simp) (by simp) (AB.strs.mpr rfl) h)
 ·exact e.elim
section
variable{ι:Type}{Xs:ι->Cx}{a:Expr}{p:pA}{p1 p2 pos2:Pos}
theorem MS(e:∀i,(Xs i).prog=prog/\(Xs i).w=w)(f:∀i,(Xs i).calm=true)(j:∀i,(Xs i).mg "sorted"=none)(c:∀i,(Xs i).mg "set"=none)(o:QA Xs [a] p)
  (l:∀i,Gl (Xs i) "sorted":=by intro _;rfl) (d:∀i,Gl (Xs i) "set":=by intro _;rfl) (n:∀i,starEach [a] (Xs i).env=(false,eval a (Xs i).env)::starEach [] (Xs i).env:=by intro _;rfl) :
  QE Xs (.Call (.Name "sorted" p1) [.Call (.Name "set" p2) [a] [] pos2] [] pos) (Fc Jg p):=by
 obtain⟨t,h1,h2⟩:=o;refine⟨Da (MR prog w) (CC (Da (MQ prog w) t) CB),λi=>?_,show BH (Da (SI prog w) t) _ from Ib Zn h2⟩;have h:=Zg (X:=Xs i) (f i);have g:=Ze (X:=Xs i) (f i);rw[(e i).1,(e i).2]at h g;exact Er h (l i) (j i) (show bootBuiltins _=some (.builtin "sorted") from nofun) (Av (Gc g (d i) (c i) nofun (h1 i) nofun nofun (n i) rfl) BE rfl) nofun nofun rfl rfl
end
end
theorem Zo(bs:List Bool):((List.range bs.length).any λi=>(bs[i]?).getD true)=bs.any id:=by
 have e:(List.range bs.length).map (λi=>(bs[i]?).getD true)=bs:=by
  apply ext_getElem
  ·simp
  ·intro i h1 h2;simp[h2]
 have:((List.range bs.length).any λi=>(bs[i]?).getD true)=((List.range bs.length).map λi=>(bs[i]?).getD true).any id:=by rw[any_map];rfl
 rw[this,e]
theorem Zp(n:X.calm=true):BJ X (.builtin "any") (λxs H Q=>∃(p:Addr) (bs:List Bool),xs=[.ref p]/\Aq X.K H p (bs.map V.bl)/\Q (.bl (bs.any id)) H):=by
 intro qA s σ H xs us Q I r h;obtain⟨p,bs,rfl,j,q⟩:=h;obtain⟨u,rfl,g⟩:=r.one;cases g;obtain⟨qH,r,pl,w⟩:=I.list j;have d:=Kr r;have c:=pl.isList;have a:p<s.heap.objs.size:=by obtain⟨_,e,_⟩:=c;exact bN e
 refine call_any_walk (wpAny_pyIter_list c ⟨s.heap.objs.size,[s.heap.objs.size,p],[s.heap.objs.size],qH.toArray.size,_,_,λi=>(bs[i]?).getD true,rfl,Walks.list (A:=X.A.in1) (I.ok.hd n) _ p (bX a) qH.toArray,⟨⟨_,bP _ rfl,rfl,rfl⟩,c.push _⟩,λi v s' x y o f=>?_,λh' tk l=>?_⟩)
 ·obtain⟨b,e,rfl⟩:=d.get i v (by simpa using o);simp only[e,Option.getD_some]at f;exact wpAny_truthy_bool f
 ·have e:((List.range qH.toArray.size).any λi=>(bs[i]?).getD true)=bs.any id:=by
   rw[size_toArray,d.length];exact Zo bs
  rw[e];exact⟨.bl _,H,I.kept (t':=tk) (LSm.kept_iter l),rfl,q⟩
def MT:pC:=p1 λx f K=>∃bs:List Bool,x=.lst (bs.map P.bl)/\K (.bl (bs.any id)) .fr
theorem Zq:B3 (λxs H Q=>∃(p:Addr) (bs:List Bool),xs=[.ref p]/\Aq Kf H p (bs.map V.bl)/\Q (.bl (bs.any id)) H) MT:=λW ρ σ Hs H Q K xs vs ok st r a q=>by
 unfold MT p1 at a;split at a
 ·obtain⟨v,rfl,rv⟩:=r.one;obtain⟨bs,rfl,e⟩:=a;obtain⟨p,us,rfl,c,d⟩:=Bx ok rv;rw[AB.bls.mp d]at c;exact⟨p,bs,rfl,.of c,q _ _ _ H e (Step.refl ok.bag) C9⟩
 ·exact a.elim
end L2
namespace L2
open PySem PySem.Spec PyProof.Rows
abbrev Bs(ce tg iter tg2 ci:Expr)(scope:Scope)(pos:Pos):Expr:=.ListComp ce [⟨tg,iter,[],0⟩,⟨tg2,ci,[],0⟩] scope pos
theorem Zr(ce tg iter tg2 ci:Expr)(scope:Scope)(pos:Pos)(it cg:Value)(env:Env):compTurn (Bs ce tg iter tg2 ci scope pos) 0 it cg env=(do
  standAt iter.pos
  match <-pyNext it with
  |none=>pure (.done .next)
  |some v =>
   letOwnedTupleGo tg it v
   assign tg env v
   let x <-eval ci env
   standAt ci.pos
   let x <-foldedSetIterable ci env x
   let i2 <-holding [x] (pyIter x)
   let _ <-runOwn (.compStart (Bs ce tg iter tg2 ci scope pos) 1 i2 cg env) env
   again (.compLoop (Bs ce tg iter tg2 ci scope pos) 0 it cg env)):=by rfl
theorem Zs(ce tg iter tg2 ci:Expr)(scope:Scope)(pos:Pos)(it cg:Value)(env:Env):compTurn (Bs ce tg iter tg2 ci scope pos) 1 it cg env=(do
  standAt ci.pos
  match <-pyNext it with
  |none=>pure (.done .next)
  |some v =>
   letOwnedTupleGo tg2 it v
   assign tg2 env v
   (do let _ <-call (.builtin "list.append") [cg,<-eval ce env])
   again (.compLoop (Bs ce tg iter tg2 ci scope pos) 1 it cg env)):=by rfl
section
variable{R:Result->Shared->Prop}{tg2 ci:Expr}{it cg:Value}
theorem Zt(I:Nat->Shared->Prop)
  (turn:∀n s,I n s->wpAny (model prog w) A (pyNext it) (λr s₁=>match r with
   |none=>R (.ok .next) s₁
   |some v=>wpAny (model prog w) A (letOwnedTupleGo tg2 it v) (λ_ a=>wpAny (model prog w) A (assign tg2 env v) (λ_ s₂ =>
     wpAny (model prog w) A (eval ce env) (λx d=>wpAny (model prog w) A (call (.builtin "list.append") [cg,x]) (λ_ c=>∃m,m<n/\I m c) (λ_ _=>False) d) (λ_ _=>False) s₂) (λ_ _=>False) a) (λ_ _=>False) s₁) (λ_ _=>False) s)
  (n:Nat) (h:I n s):codeAny (model prog w) A (.compLoop (Bs ce tg iter tg2 ci scope pos) 1 it cg env) R s:=by
 refine codeAny_loop rfl I (λn s l=>?_) n h;show wpAny _ A ((compTurn (Bs ce tg iter tg2 ci scope pos) 1 it cg env).onRaise (λx=>do noteFrame x env;theTreesLotGoes x)) _ _ s;refine wpAny_noted ?_;rw[Zs];refine wB (wpAny_standAt (wB (bL (turn n s l) (λr s₁ e=>?_) λ_ _ h'=>h'.elim)));cases r with
 |none=>exact wP e
 |some v =>
  refine wB (bL e (λ_ a f=>?_) λ_ _ h'=>h'.elim);refine wB (bL f (λ_ s₂ j=>?_) λ_ _ h'=>h'.elim);exact wB (wB (bL j (λx d i=>wB (bL i (λ_ c g=>wP (wP ⟨rfl,g⟩)) λ_ _ h'=>h'.elim)) λ_ _ h'=>h'.elim))
theorem Zu(h:codeAny (model prog w) A (.compLoop (Bs ce tg iter tg2 ci scope pos) 1 it cg env) R s)
  (h2:wpAny (model prog w) A (pyIter it) (λa s'=>codeAny (model prog w) A (.compLoop (Bs ce tg iter tg2 ci scope pos) 1 a cg env) R s') (notedBy (model prog w) A env λx s'=>R (.error x) s') s) :
  codeAny (model prog w) A (.compStart (Bs ce tg iter tg2 ci scope pos) 1 it cg env) R s:=by
 refine codeAny_of_tree ?_;show wpAny _ _ ((compStart (Bs ce tg iter tg2 ci scope pos) 1 it cg env).onRaise (λx=>do noteFrame x env;standAt theWindowsPlace)) _ _ s;refine wpAny_notedAt ?_;unfold compStart;refine wpAny_ite ?_;rw[aB (show¬(((clausesOf (Bs ce tg iter tg2 ci scope pos))[1]?).elim false λx=>x.is_async != 0)=true from cH)];refine wB (wpAny_askSetting (wpAny_ite ?_));split
 ·exact wP ⟨rfl,h⟩
 ·refine wB (wpAny_rule (?_:wpAny _ _ (standAt ci.pos >>= _) _ _ s));exact wB (wpAny_standAt (wB (bL h2 (λa s' h'=>wP ⟨rfl,h'⟩) λ_ _ x=>x)))
theorem Zv(p:∀x,foldedSetIterable ci env x=pure x)(I:Nat->Shared->Prop)
  (turn:∀n s,I n s->wpAny (model prog w) A (pyNext it) (λr s₁=>match r with
   |none=>R (.ok .next) s₁
   |some v=>wpAny (model prog w) A (letOwnedTupleGo tg it v) (λ_ a=>wpAny (model prog w) A (assign tg env v) (λ_ s₂ =>
     wpAny (model prog w) A (eval ci env) (λx f=>wpAny (model prog w) A (pyIter x) (λi2 e=>codeAny (model prog w) A (.compStart (Bs ce tg iter tg2 ci scope pos) 1 i2 cg env) (λr d=>r=.ok .next/\∃m,m<n/\I m d) e) (λ_ _=>False) f) (λ_ _=>False) s₂) (λ_ _=>False) a) (λ_ _=>False) s₁) (λ_ _=>False) s)
  (n:Nat) (h:I n s):codeAny (model prog w) A (.compLoop (Bs ce tg iter tg2 ci scope pos) 0 it cg env) R s:=by
 refine codeAny_loop rfl I (λn s q=>?_) n h;show wpAny _ A ((compTurn (Bs ce tg iter tg2 ci scope pos) 0 it cg env).onRaise (λx=>do noteFrame x env;theTreesLotGoes x)) _ _ s;refine wpAny_noted ?_;rw[Zr];refine wB (wpAny_standAt (wB (bL (turn n s q) (λr s₁ g=>?_) λ_ _ h'=>h'.elim)));cases r with
 |none=>exact wP g
 |some v =>
  refine wB (bL g (λ_ a i=>?_) λ_ _ h'=>h'.elim);refine wB (bL i (λ_ s₂ o=>?_) λ_ _ h'=>h'.elim);refine wB (bL o (λx f l=>?_) λ_ _ h'=>h'.elim);refine wB (wpAny_standAt (wB (wpAny_of_eq (p x) ?_)));refine wB (bM (bL l (λi2 e j=>?_) λ_ _ h'=>h'.elim));refine wB (wpAny_runOwn (codeAny_mono j λr d c=>?_));obtain⟨rfl,c⟩:=c;exact wP ⟨rfl,c⟩
end
def SJ(D:Addr)(M:dG->Hp->Prop)(i2:Nat)(te:TE)(ys:dG)(σ4:St)(J2:It)(H5:Hp):Prop:=∃W2:Nat->Nat->dG->Hp->Prop,(∃m2,W2 0 m2 ys H5)/\∀k m2 zs H6,W2 k m2 zs H6->H6 D=some (.lst zs)/\((J2.stop k H6/\M zs H6)\/(J2.go k H6/\∃M2:dG->Hp->Prop,(∀us H',M2 us H'->∃m',m'<m2/\W2 (k+1) m' us H') /\
 ∀y H7,J2.yld k H6 y H7->te (σ4.set i2 (some y)) H7 λz H9=>H9 D=some (.lst zs)/\zs.length<sizeLine/\M2 (zs++[z]) (AD H9 D (.lst (zs++[z])))))
def Zw(J:It)(qD:List (Option Nat))(i1:Nat)(wi2:TI)(i2:Nat)(te:TE)(σ:St)(Q:VK)(H1:Hp):Prop:=∀D,H1 D=none->∃W:Nat->Nat->dG->Hp->Prop,(∃m,W 0 m [] (AD H1 D (.lst []))) /\
 ∀i m ys H2,W i m ys H2->H2 D=some (.lst ys)/\((J.stop i H2/\Q (.ref D) H2)\/(J.go i H2/\∃M:dG->Hp->Prop,(∀zs H',M zs H'->∃m',m'<m/\W (i+1) m' zs H') /\
  ∀x H3,J.yld i H2 x H3->wi2 ((L2.picked σ qD).set i1 (some x)) H3 (SJ D M i2 te ys ((L2.picked σ qD).set i1 (some x)))))
def Jh(wi:TI)(qD:List (Option Nat))(i1:Nat)(wi2:TI)(i2:Nat)(te:TE):TE:=λσ H Q=>wi σ H λJ H1=>Zw J qD i1 wi2 i2 te σ Q H1
section
variable{tg2 ci:Expr}{wi2:TI}{i1 i2:Nat}
theorem Zx{Q:VK}{a8:Option (Value->Sem Unit)}{QQ:VS}
  (S:CompScope N sc N' qD scope) (hN:X.N=N) (ao:X.env.scope=sc) (hc:X.calm=true) (hi:PI X tg iter wi) (bj:qD[i1]?=some none) (bi:qD[i2]?=some none) (bl:i1≠i2) (hg:∀p,PG (X.comp N' scope p) tg (CI i1)) (bo:∀p,PI (X.comp N' scope p) tg2 ci wi2) (bp:∀p,PG (X.comp N' scope p) tg2 (CI i2))
  (he:∀p,PE (X.comp N' scope p) ce te) (hs:∀x,foldedSetIterable iter X.env x=pure x) (bh:∀p x,foldedSetIterable ci (X.comp N' scope p).env x=pure x)
  (I:Inv X qA σ H s) (h:Jh wi qD i1 wi2 i2 te σ H Q)
  (fin:∀(D C:Addr) (H':Hp) (s':Shared) (m:Str->Ex),Inv X qA σ H' s'->Q (.ref D) H'->H' C=none->C≠X.env.locals->X.s₀.heap.objs.size<=C->(∀x c,X.env.cells.lookup x=some c->c≠C)->(∀p∈X.pn++qA,p.1≠C)->s'.heap.Ns C m ->
   compPost (model X.prog X.w) X.A X.xe a8 QQ (.ref D) C (.ok .next) s') :
  wpAny (model X.prog X.w) X.A (comprehension (Bs ce tg iter tg2 ci scope pos) scope X.env (firstIterPos [⟨tg,iter,[],0⟩,⟨tg2,ci,[],0⟩] pos) (newList []) false (eval iter X.env) a8) QQ X.xe s:=by
 have aq:∀y∈scope.names,y.2=NameKind.free->∃c,X.env.cells.lookup y.1=some c:=λy hy e=>by
  have q:=S.has y hy e;rw[<-ao]at q;exact I.ok.has y.1 q
 refine wpAny_comprehension_free rfl hs (Ob aq) S.kind S.names (AG (hi qA s σ H _ I h) λv s1 h1=>AG h1 λcc f h2=>?_);obtain⟨it,fp,tn,J,H2,e,I2,T,ae,U,q⟩:=h2;subst e;have au:H2 f.heap.objs.size=none:=I2.fresh;obtain⟨W,⟨m0,w0⟩,ah⟩:=q f.heap.objs.size au;refine cG (T:="list") (wpAny_newFunctionEnv S.nocell (by intro y hy;simp at hy) (λh₁ j g=>?_) S.kind);dsimp only at j g ⊢;have I3:Inv X qA σ (AD H2 f.heap.objs.size (.lst [])) { f with heap:=f.heap.push { cls:=.type "list",dict:=none,data:=.seq ([]:Do).toArray } } :=
  I2.lnew (t':=f.toks) (qH:=[]) .nil (cD _)
 generalize a0:f.heap.push { cls:=.type "list",dict:=none,data:=.seq ([]:Do).toArray }=G3 at j g I3 ⊢;have f3:∀b∈fp,Bq X qA (AD H2 f.heap.objs.size (.lst [])) b:=λb a=>by
  obtain⟨o,e,_⟩:=T.obj _ _ ae b a;refine⟨?_,(U b a).2⟩;rw[AK (bX (bN e))];exact(U b a).1
 have ap:∀b∈fp,∃o,G3.get? b=some o:=λb a=>by
  obtain⟨o,e,_⟩:=T.obj _ _ ae b a;exact⟨o,a0▸aS _ e⟩
 have am:∀b o,G3.get? b=some o->h₁.get? b=some o:=λb o e=>(g.2 b (bX (bN e))).trans (aS _ e);have I4:=Vz (s4:={ f with heap:=h₁,toks:=f.toks+([]:List (Str×Value)).length }) S hN ao I3 f3 ap (aQ G3.objs.size) am j rfl rfl;have ak:tn 0 h₁:=T.keep _ _ _ ae λb a o e=>am b o (a0▸aS _ e);have Y:f.heap.objs.size<=G3.objs.size:=by rw[<-a0,Heap.size_push];exact cR _
 generalize O:(⟨BO X.env.cells scope.names [],G3.objs.size,{ f with heap:=G3 },AD H2 f.heap.objs.size (.lst []),fp,qA⟩:CompP)=p at I4;have sub:∀y c,(X.comp N' scope p).env.cells.lookup y=some c->X.env.cells.lookup y=some c:=λy c e=>by
  subst O;rcases Gs (cs:=[]) e with q|q
  ·exact q
  ·simp at q
 have E:∀{H':Hp},(∀b∈fp,H' b=none)->∀b∈fp,Bq (X.comp N' scope p) [] H' b:=λhn b a=>by
  refine⟨hn b a,λz=>?_,λz=>?_,.inl (by subst O;exact a),λx c e=>(U b a).2.2.2.2.1 x c (sub x c e),λq hq=>?_⟩
  ·subst O;obtain⟨o,e⟩:=ap b a;have z:b=G3.objs.size:=z;exact bS (bN e) (by rw[z];exact aX _)
  ·subst O;rcases aF.mp (I2.stkSub b z)with q|q
   ·exact(U b a).2.1 q
   ·exact(U b a).2.2.1 q
  ·refine(U b a).2.2.2.2.2 q ?_;subst O;have hq:q∈(X.pn++qA)++[]:=hq;simpa using hq
 have a6:codeAny (model X.prog X.w) X.A (.compLoop (Bs ce tg iter tg2 ci scope pos) 0 (.ref it) (.ref f.heap.objs.size) (X.comp N' scope p).env)
   (compPost (model X.prog X.w) X.A X.xe a8 QQ (.ref f.heap.objs.size) G3.objs.size) { f with heap:=h₁,toks:=f.toks+([]:List (Str×Value)).length }:=by
  refine Zv (bh p) (λn s'=>∃i ys H',Inv (X.comp N' scope p) [] (L2.picked σ qD) H' s'/\tn i s'.heap/\(∀b∈fp,H' b=none)/\W i n ys H') ?_ m0 ⟨0,[],_,I4,ak,λb a=>(f3 b a).1,w0⟩;rintro n s5 ⟨i,ys,H5,I5,aj,as,w5⟩;obtain⟨hD,bz⟩:=ah i n ys H5 w5;rcases bz with⟨ai,qn⟩|⟨go,M,hM,step⟩
  ·refine AG (T.done (X.comp N' scope p) rfl rfl rfl hc i [] s5 _ H5 _ I5 (E as) aj ai) λr s6 ⟨hr,I6⟩=>?_;subst hr;obtain⟨m6,bm,_⟩:=I6.loc;have un:Un (CN X.stack) fp H2 H5 f.heap s6.heap:=by
    have u1:Un (CN X.stack) fp H2 (AD H2 f.heap.objs.size (.lst [])) f.heap G3:=Un.laid (λb o e=>a0▸aS _ e) (aQ _) au;have u2:=I6.base;subst O;exact u1.trans u2
   have IO:Inv X qA σ H5 s6:=I2.call' (by have e:=I6.os;subst O;exact e) un (by have e:=I6.hok;subst O;exact e) I6.bare λb a=>⟨(U b a).2.2.2.1,(U b a).2.1,(U b a).2.2.2.2.1,(U b a).2.2.2.2.2⟩;refine fin _ _ H5 s6 m6 IO qn ?_ ?_ ?_ ?_ ?_ ?_
   ·have e:=I6.free;subst O;exact e
   ·exact Nat.ne_of_gt (aU I2.lt Y)
   ·exact aR I2.sz Y
   ·intro x c e z;obtain⟨v,q⟩:=I2.cell x c e;exact bS (aU q.lt Y) (by rw[z];exact aX _)
   ·intro q hq z;exact bS (aU (bN (I2.pin q hq).1) Y) (by rw[z];exact aX _)
   ·subst O;exact bm
  ·refine AG (T.item (X.comp N' scope p) rfl rfl rfl hc i [] s5 _ H5 _ I5 (E as) aj go) λr s6 ⟨u,hr,h6⟩=>?_;subst hr;refine AG h6 λ_ s7 ⟨x,H7,I7,r7,y7,ac,bv⟩=>?_;have c0:=I7.pinned (E bv) (T.obj _ _ ac);refine AG (hg p _ s7 _ H7 x u (λσ' H'=>σ'=(L2.picked σ qD).set i1 (some x)/\wi2 σ' H' (SJ f.heap.objs.size M i2 te ys σ')) c0 r7 ⟨rfl,step x H7 y7⟩) λ_ s8 ⟨B,H8,I8,e8,q8⟩=>?_;have w8:∀(k:Nat) v,(L2.picked σ qD)[k]?=some (some v)->B[k]?=some (some v):=λk v e=>by
    rw[e8,bV (λz=>by subst z;rw[Eu bj]at e;cases e)];exact e
   have n8:B[i2]?=some none:=by rw[e8,bV bl];exact Eu bi
   refine AG (bo p _ s8 B H8 _ I8 q8) λv2 s9 h9=>AG h9 λc8 s10 bt=>?_;obtain⟨bg,af,b5,J2,c7,bx,c4,T2,a5,aw,W2,⟨m2,b3⟩,a9⟩:=bt;subst bx;have back:∀{H':Hp} {s':Shared},Inv (X.comp N' scope p) ([]++EF fp s7.heap) B H' s'->∀{zs:dG},M zs H' ->
     ∃m,m<n/\∃i ys H'',Inv (X.comp N' scope p) [] (L2.picked σ qD) H'' s'/\tn i s'.heap/\(∀b∈fp,H'' b=none)/\W i m ys H'':=λ{H' s'} I' {zs} mz=>by
    obtain⟨m',hm,w'⟩:=hM _ _ mz;refine⟨m',hm,i+1,zs,H',?_,T.keep _ _ _ ac λb a o e=>(I'.pin (b,o) (cC _ (cC _ (EG a e)))).1,λb a=>?_,w'⟩
    ·refine(I'.unpinned).weak ?_ w8;rw[(I'.unpinned).len,I7.len]
    ·obtain⟨o,e,d⟩:=T.obj _ _ ac b a;exact(I'.pin (b,o) (cC _ (cC _ (EG a e)))).2.1
   have l:∀{H':Hp},(∀b∈af,H' b=none)->∀b∈af,Bq (X.comp N' scope p) ([]++EF fp s7.heap) H' b:=λhn b a=>⟨hn b a,(aw b a).2⟩;have L:codeAny (model X.prog X.w) X.A (.compLoop (Bs ce tg iter tg2 ci scope pos) 1 (.ref bg) (.ref f.heap.objs.size) (X.comp N' scope p).env) (λr s₆=>r=.ok .next/\∃m,m<n/\∃i ys H',Inv (X.comp N' scope p) [] (L2.picked σ qD) H' s₆/\tn i s₆.heap/\(∀b∈fp,H' b=none)/\W i m ys H') s10:=by
    refine Zt (λn2 s'=>∃k zs H',Inv (X.comp N' scope p) ([]++EF fp s7.heap) B H' s'/\b5 k s'.heap/\(∀b∈af,H' b=none)/\W2 k n2 zs H') ?_ m2 ⟨0,ys,c7,c4,a5,λb a=>(aw b a).1,b3⟩;rintro n2 al ⟨k,zs,ag,b0,a4,a7,b4⟩;obtain⟨c9,ax⟩:=a9 k n2 zs ag b4;rcases ax with⟨aa,bf⟩|⟨bu,M2,bq,ab⟩
    ·refine AG (T2.done (X.comp N' scope p) rfl rfl rfl hc k _ al _ ag _ b0 (l a7) a4 aa) λr b9 ⟨hr,c3⟩=>?_;subst hr;exact⟨rfl,back c3 bf⟩
    ·refine AG (T2.item (X.comp N' scope p) rfl rfl rfl hc k _ al _ ag _ b0 (l a7) a4 bu) λr b9 ⟨u2,hr,br⟩=>?_;subst hr;refine AG br λ_ b8 ⟨x2,b1,az,bb,b2,G,av⟩=>?_;have ay:=az.pinned (l av) (T2.obj _ _ G);refine AG (bp p _ b8 _ b1 x2 u2 (λσ' H'=>σ'=B.set i2 (some x2)/\te σ' H' λz a2=>a2 f.heap.objs.size=some (.lst zs)/\zs.length<sizeLine/\M2 (zs++[z]) (AD a2 f.heap.objs.size (.lst (zs++[z])))) ay bb ⟨rfl,ab x2 b1 b2⟩) λ_ b7 ⟨a3,a2,c2,bw,be⟩=>?_;refine AG (he p _ b7 a3 a2 _ c2 be) λv b6 ⟨z,c6,c1,ba,ar,an,bd⟩=>?_;refine AG (Gk (X:=X.comp N' scope p) _ b6 a3 c6 (.ref f.heap.objs.size) [z] _ [v] (λ_ H'=>M2 (zs++[z]) H') c1 rfl (.cons ba .nil) ⟨_,zs,z,rfl,rfl,ar,an,bd⟩) λw ca ⟨z',c5,a1,cb,bc⟩=>?_;obtain⟨m',bn,w'⟩:=bq _ _ bc;refine⟨m',bn,k+1,zs++[z],c5,?_,T2.keep _ _ _ G λb a o e=>(a1.pin (b,o) (cC _ (cC _ (EG a e)))).1,λb a=>?_,w'⟩
     ·refine(a1.unpinned).weak ?_ λk v e=>?_
      ·rw[(a1.unpinned).len,az.len]
      ·rw[bw,bV (λz=>by subst z;rw[n8]at e;cases e)];exact e
     ·obtain⟨o,e,d⟩:=T2.obj _ _ G b a;exact(a1.pin (b,o) (cC _ (cC _ (EG a e)))).2.1
   exact Zu L (T2.self _ 0 _ _ _ a5 L)
 subst O;exact codeAny_compStart_list a6 (T.self _ 0 _ _ _ ak a6)
theorem Zy(S:CompScope N sc N' qD scope)(E:X.calm=true)(hi:PI X tg iter wi)(g:qD[i1]?=some none)(f:qD[i2]?=some none)(i:i1≠i2)(A:∀p,PG (X.comp N' scope p) tg (CI i1))(j:∀p,PI (X.comp N' scope p) tg2 ci wi2)(l:∀p,PG (X.comp N' scope p) tg2 (CI i2))
  (B:∀p,PE (X.comp N' scope p) ce te) (J:X.N=N:=by rfl) (a:X.env.scope=sc:=by rfl) (y:∀x,foldedSetIterable iter X.env x=pure x:=by intro _;rfl) (c:∀p x,foldedSetIterable ci (X.comp N' scope p).env x=pure x:=by intro _ _;rfl) :
  PE X (Bs ce tg iter tg2 ci scope pos) (Jh wi qD i1 wi2 i2 te):=by
 intro qA s σ H Q I h;rw[eval_ListComp];refine Zx S J a E hi g f i A j l B y c I h λD C H' s' m IO q w v u r n z=>?_;exact⟨m,z,λh' d=>⟨.ref D,H',IO.turned (t':=s'.toks) (λb o G e=>(d.2 b G).trans e) w (Ne.symm (Ne.symm v)) (.inr u) r n,rfl,q⟩⟩
end
def MU(pi:pI):pE:=λρ K=>pi ρ λxs f _=>f≠.bo/\∃rs:List At,xs=rs.map AJ/\rs.flatten.length<=1000000/\K (.lst (rs.flatten.map P.str)) .nw
theorem Zz(e:f≠.bo)(h:RF W ρ σ Hs f H (AJ ns) v):∃a,v=.ref a/\H a=some (.tup (ns.map V.str)):=by
 have k:∀{Z:Addr->Prop},Rp W.b Z H (AJ ns) v->∃a,v=.ref a/\H a=some (.tup (ns.map V.str)):=λ{Z} h=>by
  obtain⟨a,us,rfl,c,d⟩:=h;rw[AB.strs.mp d]at c;exact⟨a,rfl,c⟩
 cases f with
 |bo=>exact bS rfl e
 |nw=>exact k h.1
 |fr=>exact k h
 |cl=>exact k h
 |rf=>exact k h
 |an=>exact k h
theorem SK{α:Type}{l:List α}(h:i<l.length):l.take (i+1)=l.take i++[l[i]]:=by
 apply ext_getElem?;intro k;rw[getElem?_append,getElem?_take,getElem?_take,aO];by_cases h1:k<i
 ·simp[h1,Nat.lt_succ_of_lt h1,show k<min i l.length by lia]
 ·by_cases h2:k=i
  ·subst h2;simp[h,show¬k<min k l.length by lia,show k - min k l.length=0 by lia]
  ·simp[show¬k<i+1 by lia,show¬k<min i l.length by lia,show k - min i l.length≠0 by lia]
theorem MV(h:i<rs.length):(rs.take (i+1)).flatten=(rs.take i).flatten++rs[i]:=by
 rw[SK h,flatten_append,flatten_cons,flatten_nil,cO]
theorem flat_le:((rs.take i).flatten).length<=rs.flatten.length:=by
 have:=take_append_drop i rs;have e:rs.flatten=(rs.take i).flatten++(rs.drop i).flatten:=by rw[<-flatten_append,this]
 rw[e,aG];lia
theorem Z0{i1 i2:Nat}(a3:qD[i1]?=some none)(a2:qD[i2]?=some none)(a7:i1≠i2)(hi:Ih wi pi):BH (Jh wi qD i1 (IG Kf (CH i1)) i2 (CH i2)) (MU pi):=by
 intro W ρ σ H Q K ok hk q;refine hi W ρ σ H _ _ ok hk λxs f _ J H1 ⟨a4,rs,a1,a6,B⟩ U jC _=>?_;subst a1;have c:=ok.step U;have w:∀{D H2},H1 D=none->Step W.b W.a H1 H2->∀{o},Step W.b W.a H1 (AD H2 D o):=λ{D H2} h s {o}=>⟨s.bag.put (c.bag.nb h) (c.bag.na h),λp u hp e=>by rw[AK (A2 e h)];exact s.same p u hp e⟩;intro D h;have a0:=c.bag.nb h;have A:∀v:V,((L2.picked σ qD).set i1 (some v))[i1]?=some (some v):=λv=>by
  have:=Eu (σ:=σ) a3;have hl:i1<(L2.picked σ qD).length:=(aI.mp this).1;rw[bY hl]
 have x:∀v u:V,(((L2.picked σ qD).set i1 (some v)).set i2 (some u))[i2]?=some (some u):=λv u=>by
  have:=Eu (σ:=σ) a2;have hl:i2<((L2.picked σ qD).set i1 (some v)).length:=by rw[length_set];exact(aI.mp this).1
  rw[bY hl]
 refine⟨λi m ys H2=>m=rs.length - i/\i<=rs.length/\ys=((rs.take i).flatten).map V.str/\H2 D=some (.lst ys)/\Step W.b W.a H1 H2,⟨rs.length,by simp,cD _,by simp,Aa,w h (Step.refl c.bag)⟩,?_⟩;rintro i m ys H2 ⟨rfl,hi,rfl,I,E⟩;refine⟨I,?_⟩;have Y:=c.step E;obtain⟨j1,j2,j3⟩:=jC (λp=>W.O p\/p=D) ρ σ H2 ⟨λp z=>z.elim .inl λz=>.inr (z▸h),rfl,rfl,Y,E⟩ i;rw[aA]at j1 j2;by_cases d:i<rs.length
 ·refine .inr ⟨j1 d,λzs H'=>zs=((rs.take (i+1)).flatten).map V.str/\H' D=some (.lst zs)/\Step W.b W.a H1 H',λzs H' ⟨T,N,M⟩=>⟨rs.length - (i+1),⋯,rfl,d,T,N,M⟩,λv H3 y=>?_⟩;obtain⟨y1,y2⟩:=j3 v H3 y (AJ rs[i]) (by rw[bO,aH d];rfl);obtain⟨a,rfl,G⟩:=Zz a4 y2;have s3:=E.trans y1;have C:=y1.same D _ a0 I;have a5:a≠D:=λz=>by rw[z,C]at G;cases G
  refine⟨_,A _,a,rfl,⟨_,.of G⟩,?_⟩;refine⟨λk m2 zs L=>m2=rs[i].length - k/\k<=rs[i].length/\zs=((rs.take i).flatten++rs[i].take k).map V.str/\L D=some (.lst zs)/\L a=some (.tup (rs[i].map V.str))/\Step W.b W.a H1 L,⟨rs[i].length,by simp,cD _,by simp,C,G,s3⟩,?_⟩;rintro k m2 zs L ⟨rfl,hk,rfl,r,n,s6⟩;refine⟨r,?_⟩;by_cases j:k<rs[i].length
  ·refine .inr ⟨⟨_,V.str rs[i][k],.of n,by rw[bO,aH j];rfl⟩,λus H'=>us=((rs.take i).flatten++rs[i].take (k+1)).map V.str/\H' D=some (.lst us)/\H' a=some (.tup (rs[i].map V.str))/\Step W.b W.a H1 H',λus H' ⟨T,N,M,z4⟩=>⟨rs[i].length - (k+1),⋯,rfl,j,T,N,M,z4⟩,λu H7 ⟨e7,y7⟩=>?_⟩;subst e7;have eu:u=V.str rs[i][k]:=by
    have:=y7 _ (.of n);rw[bO,aH j]at this;exact(oI this).symm
   subst eu;have e8:((rs.take i).flatten++rs[i].take k).map V.str++[V.str rs[i][k]]=((rs.take i).flatten++rs[i].take (k+1)).map V.str:=by
    rw[SK j,<-bK,cN (l₂:=[rs[i][k]])];rfl
   refine⟨_,x _ _,r,?_,?_⟩
   ·have h1:=flat_le (rs:=rs) (i:=i+1);rw[MV d]at h1;have a8:sizeLine=16777216:=rfl;have h3:(rs[i].take k).length<=rs[i].length:=by rw[aO];lia
    simp only[aA,aG]at h1 ⊢;lia
   ·rw[e8];exact⟨rfl,Aa,by rw[AK a5];exact n,w h s6⟩
  ·have e:k=rs[i].length:=⋯;subst e;refine .inl ⟨⟨_,.of n,by simp⟩,?_⟩;have e9:(rs.take (i+1)).flatten=(rs.take i).flatten++rs[i].take rs[i].length:=by rw[MV d,take_length]
   rw[e9];exact⟨rfl,r,s6⟩
 ·have e:i=rs.length:=⋯;subst e;rw[take_length]at I;refine .inl ⟨j2 (aQ _),q _ .nw _ H2 B (U.trans E) ?_⟩;have nz:∀g,¬AC W ρ σ g D:=λg z=>c.dom z h;exact⟨⟨D,_,rfl,nz .fr,I,AB.strs.mpr rfl⟩,λ_=>⟨D,rfl,U.free h⟩⟩
section
variable{ι:Type}{Xs:ι->Cx}{p1 p2 p3 p4:Pos}{y:Str}
theorem Z1{i1 i2:Nat}(S:CompScope N sc N' qD scope)(u:∀i,(Xs i).calm=true)(w:∀i,(Xs i).K=Kf)(c:qD[i1]?=some none)(a:qD[i2]?=some none)(d:i1≠i2)(hi:QI Xs (.Name x p1) iter pi)(nd:N'.Nodup)(g:N'[i1]?=some x)(f:N'[i2]?=some y)
  (r:∀q:ι×CompP,CA ((Cc Xs N' scope) q).env.scope x:=by intro _;trivial) (o:∀q:ι×CompP,CA ((Cc Xs N' scope) q).env.scope y:=by intro _;trivial)
  (A:∀q:ι×CompP,((Cc Xs N' scope) q).fn x=true\/((Cc Xs N' scope) q).env.scope.names.lookup x=some .local:=by intro _;trivial) (z:∀q:ι×CompP,((Cc Xs N' scope) q).fn y=true\/((Cc Xs N' scope) q).env.scope.names.lookup y=some .local:=by intro _;trivial)
  (n:∀q:ι×CompP,C2 ((Cc Xs N' scope) q).env.scope x:=by intro _;trivial) (l:∀q:ι×CompP,C2 ((Cc Xs N' scope) q).env.scope y:=by intro _;trivial)
  (dx:(x==("__debug__":Str))=false:=by decide) (B:(y==("__debug__":Str))=false:=by decide) (D:(x==("__classdict__":Str))=false:=by decide) (C:(y==("__classdict__":Str))=false:=by decide)
  (v:∀i,(Xs i).N=N:=by intro _;rfl) (e:∀i,(Xs i).env.scope=sc:=by intro _;rfl) (s:∀i,∀x,foldedSetIterable iter (Xs i).env x=pure x:=by intro _ _;rfl) :
  QE Xs (Bs (.Name y p4) (.Name x p1) iter (.Name y p2) (.Name x p3) scope pos) (MU pi):=by
 obtain⟨wi,j,h⟩:=hi;refine⟨Jh wi qD i1 (IG Kf (CH i1)) i2 (CH i2),λi=>?_,Z0 c a d h⟩;refine Zy S (u i) (j i) c a d (λp=>BD (i:=i1) nd g (r (i,p)) (A (i,p))) (λp=>?_) (λp=>BD (i:=i2) nd f (o (i,p)) (z (i,p))) (λp=>Du f (l (i,p)) B C) (v i) (e i) (s i) dF;have:=Nl (X:=(Xs i).comp N' scope p) (tg:=.Name y p2) (Du (pos:=p3) g (n (i,p)) dx D);rw[show((Xs i).comp N' scope p).K=Kf from w i]at this;exact this
end
theorem Z2(S:CompScopeC N sc N' qD scope)(z:X.calm=true)(hi:PI X tg iter wi)(v:EL qD g)
  (w:∀p,PG (X.compC N' scope p) tg g) (n:∀p,EK (X.compC N' scope p) ifs tt) (y:∀p,PE (X.compC N' scope p) ce te) (B:X.N=N:=by rfl) (a:X.env.scope=sc:=by rfl) (r:∀x,foldedSetIterable iter X.env x=pure x:=by intro _;rfl) :
  PE X (.ListComp ce [⟨tg,iter,ifs,0⟩] scope pos) (FX wi qD g tt te):=by
 intro qA s σ H Q I h;rw[eval_ListComp];refine Oi S B a z hi v w n y r I h λD C H' s' m IO q l j i f d u=>?_;exact⟨m,u,λh' c=>⟨.ref D,H',IO.turned (t':=s'.toks) (λb o A e=>(c.2 b A).trans e) l (Ne.symm (Ne.symm j)) (.inr i) f d,rfl,q⟩⟩
section
variable{ι:Type}{Xs:ι->Cx}{pt:pT}
abbrev MW(Xs:ι->Cx)(N':At)(scope:Scope):ι×CompP->Cx:=λq=>(Xs q.1).compC N' scope q.2
theorem Z3(S:CompScopeC N sc N' qD scope)(h:Fj qD)(n:∀i,(Xs i).calm=true)(hi:QI Xs tg iter pi)(j:HD (MW Xs N' scope) qD tg pg)(e:HE (MW Xs N' scope) ifs pt)(l:QE (MW Xs N' scope) ce pe)
  (o:∀i,(Xs i).N=N:=by intro _;rfl) (a:∀i,(Xs i).env.scope=sc:=by intro _;rfl) (f:∀i,∀x,foldedSetIterable iter (Xs i).env x=pure x:=by intro _ _;rfl) :
  QE Xs (.ListComp ce [⟨tg,iter,ifs,0⟩] scope pos) (HC pi qD pg pt pe):=by
 obtain⟨wi,i1,i2⟩:=hi;obtain⟨g,s,r,q⟩:=j;obtain⟨tt,d,c⟩:=e;obtain⟨te,v,u⟩:=l;exact⟨_,λi=>Z2 S (n i) (i1 i) q (λp=>s (i,p)) (λp=>d (i,p)) (λp=>v (i,p)) (o i) (a i) (f i),LC h i2 r c u⟩
end
end L2
namespace L2
open PySem PySem.Spec PyProof.Rows PySem.W
def Hg(a:Addr)(n:Int):HO:=.ext λh=>∃t u v,IsRange h a 0 n 1 t u v
def MX:dG->Hp->VK->Prop:=λxs H Q=>∃n:Int,xs=[.int n]/\0<=n/\n<=1000/\∀a:Addr,H a=none->Q (.ref a) (AD H a (Hg a n))
def MY:dG->Hp->VK->Prop:=λxs H Q=>∃(a:Addr) (n:Int),xs=[.ref a]/\H a=some (Hg a n)/\0<=n/\n<=1000/\∀l:Addr,H l=none->Q (.ref l) (AD H l (.lst ((List.range n.toNat).map λk:Nat=>V.int (k:Int))))
theorem SL:∀{xs:dG} {us:Do},xs.length=us.length->(∀(i:Nat) x u,xs[i]?=some x->us[i]?=some u->AH x u)->AQ xs us
 |[],[],_,_=>.nil
 |[],_::_,h,_=>by cases h
 |_::_,[],h,_=>by cases h
 |x::xs,u::us,h,k=>.cons (k 0 x u rfl rfl) (SL (by simpa using h) λi y v c a=>k (i+1) y v c a)
theorem Z4:BJ X (.type "range") MX:=by
 intro qA s σ H xs us Q I r h;obtain⟨n,rfl,c,h1,q⟩:=h;obtain⟨u,rfl,a⟩:=r.one;obtain⟨t,rfl⟩:=a;refine call_range_1 ⟨.ref s.heap.objs.size,_,I.laid (o:=Hg s.heap.objs.size n) (λb o e=>aS _ e) (aQ _) ⟨⟨_,_,_,IsRange.new ..⟩,⟨_,bP _ rfl⟩,λh1 h2 ⟨t,u,v,e⟩ k=>⟨t,u,v,k _ e⟩⟩,rfl,q _ (I.hok.fresh (aQ _))⟩
theorem Z5(y:X.calm=true):BJ X (.type "list") MY:=by
 intro qA s σ H xs us Q I r h;obtain⟨a,n,rfl,z,A,h1,q⟩:=h;obtain⟨u,rfl,l⟩:=r.one;cases l;obtain⟨⟨t,u,v,e⟩,_⟩:=I.hok a _ z;have d:Builtin.Range.rangeSize 0 n 1=(n.toNat:Nat):=by rw[rangeSize_one];split<;>lia
 refine call_list_range (I.ok.hd y) e (small_one ⋯ ⋯ ⋯ ⋯) d ⋯ λh' tk cg c k1 k2 k3=>?_;have p:AQ ((List.range n.toNat).map λk:Nat=>V.int (k:Int)) cg.toList:=by
  refine SL (by rw[aA,bG,bR,k3.1]) λi x u j g=>?_;rw[Array.getElem?_toList]at g;obtain⟨t,rfl⟩:=k3.2 i u g;rw[bO]at j;obtain⟨k,w,rfl⟩:=aJ.mp j;have f:k=i:=by
   have:=(aI.mp w);obtain⟨h,e⟩:=this;rw[getElem_range]at e;exact e.symm
  subst f;exact⟨t,by rw[Int.zero_add,Int.mul_one]⟩
 refine⟨.ref s.heap.objs.size,_,I.laid (t':=tk) (o:=.lst ((List.range n.toNat).map λk:Nat=>V.int (k:Int))) k1 (aQ _) ⟨?_,cg.toList,c,p,by rw[Array.toArray_toList];exact k2⟩,rfl,q _ (I.hok.fresh (aQ _))⟩;rw[aA,bG];exact aY (Dx ⋯)
def Ji:pC:=p1 λx f K=>∃n:Int,x=.int n/\0<=n/\n<=1000/\K (.lst ((List.range n.toNat).map λk:Nat=>P.int (k:Int))) .nw
def SM:dG->Hp->VK->Prop:=λxs H Q=>MX xs H λv H1=>MY [v] H1 Q
theorem Z6:B3 SM Ji:=λW ρ σ Hs H Q K xs vs ok st r d q=>by
 unfold Ji p1 at d;split at d
 ·obtain⟨v,rfl,rv⟩:=r.one;obtain⟨n,rfl,f,h1,h⟩:=d;cases Bw ok rv;refine⟨n,rfl,f,h1,λa i=>⟨a,n,rfl,Aa,f,h1,λl e=>?_⟩⟩;have c:Step W.b W.a H (AD H a (Hg a n)):=Step.new ok.bag i;refine q _ _ _ _ h (c.trans (Step.new c.bag e)) (ET (g:=.nw) (ok.step c) (st.trans c) (by simp) (by simp) ?_ e);have:=AB.ints (b:=W.b) (Z:=AC W ρ σ .nw) (H:=AD H a (Hg a n)) (ns:=(List.range n.toNat).map λk:Nat=>(k:Int)) (vs:=(List.range n.toNat).map λk:Nat=>V.int (k:Int));rw[bZ,bZ]at this;exact this.mpr rfl
 ·exact d.elim
section
variable{ι:Type}{Xs:ι->Cx}{a:Expr}{p:pA}{p1 p2 pos2:Pos}
theorem Z7(h:∀i,(Xs i).calm=true)(e:∀i,(Xs i).mg "list"=none)(c:∀i,(Xs i).mg "range"=none)(j:QA Xs [a] p)
  (f:∀i,Gl (Xs i) "list":=by intro _;rfl) (d:∀i,Gl (Xs i) "range":=by intro _;rfl) (g:∀i,starEach [a] (Xs i).env=(false,eval a (Xs i).env)::starEach [] (Xs i).env:=by intro _;rfl) :
  QE Xs (.Call (.Name "list" p1) [.Call (.Name "range" p2) [a] [] pos2] [] pos) (Fc Ji p):=by
 obtain⟨t,h1,h2⟩:=j;refine⟨Da MY (CC (Da MX t) CB),λi=>?_,show BH (Da SM t) _ from Ib Z6 h2⟩;exact Gc (Z5 (h i)) (f i) (e i) (show bootBuiltins _=some (.type "list") from nofun) (Av (Gc Z4 (d i) (c i) nofun (h1 i) nofun nofun (g i) rfl) BE rfl) nofun nofun rfl rfl
end
def SN(pa pb:pE):pI:=λρ K=>pa ρ λx f=>pb ρ λy g=>∃xs ys,x=.lst xs/\y=.lst ys/\P.imms xs=true/\K (zipWith HS xs ys) g.el (B4 f&&B4 g)
section
variable{ι:Type}{Xs:ι->Cx}{a b:Expr}{pa pb:pE}{p1 tp:Pos}{elts:Hb}{x1:Nat}
theorem Z8(hK:∀i,(Xs i).K=Kf)(hm:∀i,(Xs i).mg "zip"=none)(ha:QE Xs a pa)(hb:QE Xs b pb)(hg:∀i,Gl (Xs i) "zip":=by intro _;rfl)(hs:∀i,starEach [a,b] (Xs i).env=[(false,eval a (Xs i).env),(false,eval b (Xs i).env)]:=by intro _;rfl)(C:∀i,starEach [b] (Xs i).env=[(false,eval b (Xs i).env)]:=by intro _;rfl) :
  QI Xs (.Tuple elts x1 tp) (.Call (.Name "zip" p1) [a,b] [] pos) (SN pa pb):=by
 obtain⟨ta,a1,a2⟩:=ha;obtain⟨tb,b1,b2⟩:=hb;refine⟨Qn Kf (CC ta (CC tb CB)),λi=>?_,λW ρ σ H R K ok hk q=>a2 W ρ σ H _ _ ok hk λx f v H1 h1 s1 r1=>b2 W ρ σ H1 _ _ (ok.step s1) h1 λy g u H2 ⟨xs,ys,n,j,i1,a4⟩ s2 M=>?_⟩
 ·have:=Xm (elts:=elts) (x1:=x1) (tp:=tp) (p:=p1) (pos:=pos) (hg i) (hm i) (Av (a1 i) (Av (b1 i) BE (by rw[C i];rfl)) (by rw[hs i,C i])) (hs i) (C i);rw[hK i]at this;exact this
 ·subst n;subst j;have E:=s1.trans s2;have d:=ok.step E;have B:=r1.step (ok.step s1) s2;obtain⟨l1,vs,rfl,c1,G⟩:=Bx d B;obtain⟨l2,us,rfl,c2,A⟩:=Bx d M;have nb:∀{f:Fl} {xs:dH} {l:Addr} {Hs:Hp},RF W ρ σ Hs f H2 (.lst xs) (.ref l)->l≠W.b:=λr=>by
   obtain⟨p',a7,n,j,_⟩:=r.any d;cases n;exact j
  have a3:=nb B;have a0:=nb M;have a6:=G.length;have a5:=A.length;have j2:=PY (K:=Kf) d M c2 A;have z:∀O' ρ' σ' H',(∀i v c,(DI Kf l2).yld i H' v c->∀x,ys[i]?=some x->Step W.b W.a H' c/\RF { W with O:=O' } ρ' σ' H' g.el c x v)->H' l1=some (.lst vs)->H' l2=some (.lst us)->(∀p vs,H2 p=some (.tup vs)->H' p=some (.tup vs))->Bag H' W.b W.a->∀i,(i<(zipWith HS xs ys).length->(HR Kf l1 l2).go i H')/\((zipWith HS xs ys).length<=i->(HR Kf l1 l2).stop i H') /\
    ∀v c,(HR Kf l1 l2).yld i H' v c->∀x,(zipWith HS xs ys)[i]?=some x->Step W.b W.a H' c/\RF { W with O:=O' } ρ' σ' H' g.el c x v:=λO' ρ' σ' H' J U g2 gt hb i=>by
   refine⟨λhi=>?_,λhi=>?_,λv c yl x s=>?_⟩
   ·rw[length_zipWith]at hi;exact⟨vs,us,.of U,.of g2,⋯,⋯⟩
   ·rw[length_zipWith]at hi;exact⟨vs,us,.of U,.of g2,⋯⟩
   ·obtain⟨T,x',y',Q,rfl,rfl,e⟩:=yl;obtain⟨n,j⟩:=e vs us (.of U) (.of g2);rw[getElem?_zipWith]at s;cases ex:xs[i]? with
    |none=>rw[ex]at s;simp at s
    |some px =>
     cases Y:ys[i]? with
     |none=>rw[ex,Y]at s;simp at s
     |some N =>
      rw[ex,Y]at s;have s:HS px N=x:=by simpa using s
      subst s;obtain⟨v1,a1,a2⟩:=G.get ex;obtain⟨v2,b1,b2⟩:=A.get Y;rw[n]at a1;cases a1;rw[j]at b1;cases b1;have m1:px.imm=true:=Ky.mp i1 px (aM ex);refine⟨Step.new hb Q,?_⟩;have k1:∀{Z:Addr->Prop},Rp W.b Z (AD H' T (.tup [x',y'])) px x':=λ{Z}=>(((a2.imm m1:Rp W.b (λ_=>True) H2 px x').keep (Z':=λ_=>True) (H':=AD H' T (.tup [x',y'])) (λp o I=>bS trivial I) (λp L e=>by rw[AK (A2 (gt p L e) Q)];exact gt p L e)).imm m1);have D:=(J i y' H' ⟨rfl,λzs I=>by obtain⟨_,e3⟩:=e vs zs (.of U) I;exact e3⟩ N Y).2;have k2:∀{Z:Addr->Prop},Rp W.b Z H' N y'->Rp W.b Z (AD H' T (.tup [x',y'])) N y':=λ{Z} r=>r.keep (λp o I e=>⟨I,by rw[AK (A2 e Q)];exact e⟩) (λp L e=>by rw[AK (A2 e Q)];exact e);cases g with
      |bo=>exact⟨T,[x',y'],rfl,Aa,x',[y'],rfl,k1,y',[],rfl,k2 D,rfl⟩
      |nw=>exact⟨T,[x',y'],rfl,Aa,x',[y'],rfl,k1,y',[],rfl,k2 D,rfl⟩
      |fr=>exact⟨T,[x',y'],rfl,Aa,x',[y'],rfl,k1,y',[],rfl,k2 D,rfl⟩
      |cl=>exact⟨T,[x',y'],rfl,Aa,x',[y'],rfl,k1,y',[],rfl,k2 D,rfl⟩
      |rf=>exact⟨T,[x',y'],rfl,Aa,x',[y'],rfl,k1,y',[],rfl,k2 D,rfl⟩
      |an=>exact⟨T,[x',y'],rfl,Aa,x',[y'],rfl,k1,y',[],rfl,k2 D,rfl⟩
  refine⟨l1,l2,vs,us,rfl,.of c1,.of c2,q _ _ _ _ H2 a4 E (λO' ρ' σ' H' w i=>?_) (λh O' ρ' σ' H' w i=>?_)⟩
  ·have J:=λi=>(j2.1 O' ρ' σ' H' w i).2.2;obtain⟨_,rfl,rfl,a8,st⟩:=w;exact z O' _ _ H' J (st.same l1 _ a3 c1) (st.same l2 _ a0 c2) (λp L e=>st.same p _ (d.bag.neT e).1 e) st.bag i
  ·rw[cB]at h;have J:=λi=>(j2.2 h.2 O' ρ' σ' H' w i).2.2;obtain⟨rfl,w⟩:=w;have k1:=Fh d w (Fi h.1);have k2:=Fh d w (Fi h.2);have nz:∀{f:Fl} {xs:dH} {l:Addr} {Hs:Hp},B4 f=true->RF W ρ σ Hs f H2 (.lst xs) (.ref l)->¬AC W ρ σ f l:=λ{f xs l Hs} hf r=>by
    cases f with
    |nw=>obtain⟨q,us,n,j,_⟩:=r.1;cases n;exact j
    |fr=>obtain⟨q,us,n,j,_⟩:=r;cases n;exact j
    |cl=>obtain⟨q,us,n,j,_⟩:=r;cases n;exact j
    |_=>simp[B4]at hf
   exact z _ _ _ H' J (k1.1 l1 _ (nz h.1 B) c1).2 (k2.1 l2 _ (nz h.2 M) c2).2 k1.2 w.bag i
end
end L2
namespace L2
section
variable{α:Type}(adj:α->α->Prop)
variable{adj}
end
end L2
namespace L2
section
variable{α:Type}[DecidableEq α](r:Nat->List α)(there:Ge)
def SO(V:α->Prop)(i h:Nat):Prop:=i∈there/\h∈there/\h≠i/\∀x,V x->x∈r i->(∃o∈there,o≠i/\x∈r o)->x∈r h
variable{r there}
end
end L2
namespace L2
open PySem
def AZ(rs:List At)(i:Nat):At:=(rs[i]?).getD []
abbrev BF(rs:List At):Ge:=List.range rs.length
abbrev Cj(rs:List At)(i:Nat):At:=AZ rs i
def DG(rs:List At)(others:Ge)(place:Nat):At:=(Cj rs place).filter λn=>others.any λo=>decide (n∈Cj rs o)
def Bn(rs:List At)(there:Ge)(place:Nat):Ge:=(there.filter λo=>decide (¬o=place)).filter λo=>(DG rs (there.filter λo=>decide (¬o=place)) place).all λn=>decide (n∈Cj rs o)
abbrev Ee(rs:List At)(there:Ge)(i h:Nat):Prop:=SO (AZ rs) there (λ_=>True) i h
theorem Z9{there:Ge}{h:Nat}(hi:i∈there):h∈Bn rs there i↔Ee rs there i h:=by
 unfold Bn DG Ee SO;simp only[cW,all_eq_true,decide_eq_true_eq,any_eq_true];constructor
 ·rintro⟨⟨h1,h2⟩,f⟩;exact⟨hi,h1,h2,λx _ d ⟨o,e,c,a⟩=>f x ⟨d,o,⟨e,c⟩,a⟩⟩
 ·rintro⟨_,h1,h2,f⟩;exact⟨⟨h1,h2⟩,λx ⟨d,o,⟨e,c⟩,a⟩=>f x trivial d ⟨o,e,c,a⟩⟩
def Ck(rs:List At)(there:Ge):Option (Nat×Nat):=there.findSome? λp=>(Bn rs there p).head?.map λh=>(p,h)
theorem MZ{there:Ge}{q:Nat×Nat}(h:Ck rs there=some q):Ee rs there q.1 q.2:=by
 obtain⟨p,c,e⟩:=exists_of_findSome?_eq_some h;cases a:Bn rs there p with
 |nil=>rw[a]at e;cases e
 |cons k t =>
  rw[a]at e;cases e;exact(Z9 c).mp (by rw[a];simp)
def CL(rs:List At):Nat->Ge->Option (List (Nat×Nat))
 |0,_=>some []
 |f+1,there=>if there.length<=1 then some []else match Ck rs there with
  |none=>none
  |some q=>(CL rs f (there.erase q.1)).map (q::·)
def C1(rs:List At):Option (List (Nat×Nat)):=CL rs rs.length (BF rs)
theorem SQ{l:Ge}(nd:l.Nodup)(i o:Nat):o∈l.erase i↔o∈l/\o≠i:=by rw[nd.mem_erase_iff];exact And.comm
def D8(rs:List At):Ge->List (Nat×Nat)->Prop
 |there,[]=>there.length<=1
 |there,q::r=>Ee rs there q.1 q.2/\D8 rs (there.erase q.1) r
theorem SR{rs:List At}:∀(f:Nat) (there:Ge) (row:List (Nat×Nat)),there.length<=f->CL rs f there=some row->D8 rs there row
 |0,there,row,c,h=>by cases h;exact aR c ⋯
 |f+1,there,row,c,h=>by
  unfold CL at h;split at h
  ·rename_i h1;cases h;exact h1
  ·split at h
   ·cases h
   ·rename_i q h2;obtain⟨a,d,rfl⟩:=aJ.mp h;have e:=MZ h2;exact⟨e,SR f _ a (by rw[length_erase_of_mem e.1];lia) d⟩
theorem AAA{row:List (Nat×Nat)}(h:C1 rs=some row):D8 rs (BF rs) row:=SR rs.length (BF rs) row (by rw[bG];exact aQ _) h
abbrev gt(row:At)(k:Nat):Str:=row.getD k ⟨#[]⟩
end L2
namespace L2
open PySem PySem.Spec PyProof.Rows PySem.W
def SS:V->dG->Hp->VK->Prop:=λx xs H Q=>∃(p:Addr) (ns:By) (z:Int) (j:Nat),x=.ref p/\xs=[.int z]/\H p=some (.lst (ns.map V.int))/\ns[j]?=some z/\(∀m,m<j->ns[m]?≠some z)/\Q .non (AD H p (.lst ((ns.eraseIdx j).map V.int)))
theorem SU{α c:Type}(f:α->c):∀(l:List α) (j:Nat),(l.map f).eraseIdx j=(l.eraseIdx j).map f
 |[],_=>rfl
 |_::_,0=>rfl
 |a::t,j+1=>by simp[SU f t j]
theorem AAB:Gh X "list.remove" SS:=by
 intro qA s σ H x xs v us Q I M rv h;obtain⟨p,ns,z,j,rfl,rfl,G,J,w,q⟩:=h;cases M;obtain⟨u,rfl,N⟩:=rv.one;obtain⟨E,rfl⟩:=N;obtain⟨O,qH,n,r,B,D⟩:=I.lstM G;rw[aA]at B O;have f:∀(m:Nat) (c:m<qH.toArray.size),∃i t',ns[m]?=some i/\qH.toArray[m]=.int i t':=λm c=>by
  have l:m<ns.length:=by simpa[B]using c
  obtain⟨y,g,t',d⟩:=r.get (i:=m) (x:=V.int ns[m]) (by simp[l]);refine⟨ns[m],t',by simp[l],?_⟩;have L:qH[m]?=some (qH.toArray[m]):=by simp[show m<qH.length by simpa using c]
  rw[g]at L;exact(oI L).symm.trans d
 have C:j<ns.length:=(aI.mp J).1;have o:j<qH.toArray.size:=by simpa[<-B]using C
 refine call_meets PySem.F.slot_list_remove ⟨_,D,rfl⟩ PySem.F.entry_list_remove (PySem.F.args_list_remove_2 _ _)
  (MeetsSeq.list_remove p qH.toArray n (.int z E) (λy=>match y with|.int a _=>a==z|_=>false) (λy T=>?_) j o ?_ (λm c A=>?_) (by simp;lia)) ⟨D,?_⟩
 ·obtain⟨m,c,rfl⟩:=Array.getElem_of_mem T;obtain⟨i,t',_,d⟩:=f m c;rw[d];exact MeetsSeq.EqGives.int i z t' E
 ·obtain⟨i,t',g,d⟩:=f j o;rw[J]at g;cases g;rw[d];simp
 ·obtain⟨i,t',g,d⟩:=f m c;rw[d];have:i≠z:=λe=>w m A (by rw[g,e]);simpa using this
 ·refine⟨.non,_,I.lset (its':=qH.eraseIdx j) G D ?_ ?_ ?_,rfl,q⟩
  ·show qH.toArray.eraseIdxIfInBounds j=(qH.eraseIdx j).toArray;rw[eraseIdxIfInBounds_toArray]
  ·have:=r.eraseIdx j;rw[SU]at this;exact this
  ·rw[aA];have:=OR ns j;lia
def Jj(k:Nat)(pe:pE):pS:=λE ρ=>match ρ[k]? with
 |some (.own (.lst xs))=>pe ρ λi _=>∃(ns:By) (z:Int),xs=ns.map P.int/\i=.int z/\z∈ns/\E.nx (ρ.set k (.own (.lst ((ns.erase z).map P.int))))
 |_=>False
theorem AAC{ns:By}{z:Int}(h:z∈ns):∃j,ns[j]?=some z/\(∀m,m<j->ns[m]?≠some z)/\ns.erase z=ns.eraseIdx j:=by
 induction ns with
 |nil=>exact bS h (by simp)
 |cons a t d =>
  by_cases e:a=z
  ·subst e;exact⟨0,rfl,λm c=>bS c ⋯,by simp⟩
  ·obtain⟨j,h1,h2,f⟩:=d ((aF.mp h).resolve_left λq=>e q.symm);refine⟨j+1,by simpa using h1,λm c=>?_,?_⟩
   ·cases m with
    |zero=>simpa using e
    |succ m=>simpa using h2 m ⋯
   ·rw[erase_cons_tail (by simpa using e),f];rfl
section
variable{ι:Type}{Xs:ι->Cx}{a:Expr}{pa:pE}{p1:Pos}{k:Nat}{t:TE}
theorem AAD(h1:BH t pa):EQ (ID (Gi Kf "list" SS (CH k) (CC t CB))) (Jj k pa):=λW ρ σ H D E ok c r=>by
 unfold Jj at c;split at c
 ·rename_i xs e;obtain⟨p,vs,d,l,o,q⟩:=ok.ownL e;refine⟨.ref p,d,.inl ⟨rfl,vs,.of l⟩,h1 W ρ σ H _ _ ok c λy f v H1 ⟨ns,z,k0,k1,k2,k3⟩ i n=>?_⟩;subst k0 k1;have a:=ok.step i;cases Bw a n;obtain⟨h,g⟩:=ok.stepL i d l o q;have ev:=AB.ints.mp g;subst ev;obtain⟨j,w,u,s⟩:=AAC k2;refine⟨p,ns,z,j,rfl,rfl,h,w,u,r.nx _ _ _ k3 ?_⟩;rw[s];exact a.mutL (vs:=ns.map V.int) e d (AB.ints.mpr rfl)
 ·exact c.elim
theorem AAE(o:∀i,(Xs i).K=Kf)(l:QE Xs a pa)(n:∀i,(Xs i).N[k]?=some x:=by intro _;rfl)(e:∀i,C2 (Xs i).env.scope x:=by intro _;trivial)(h:(x==("__debug__":Str))=false:=by decide)(d:(x==("__classdict__":Str))=false:=by decide)
  (g:(qM.endLine==qL.line)=true:=by rfl) (f:∀i,swapsWith (.Call (.Attribute (.Name x p1) "remove" qM) [a] [] qL) none pos.line (Xs i).env=pure false:=by intro _;rfl)
  (j:∀i,attributeBase (.Name x p1) "remove" (Xs i).env (eval (.Name x p1) (Xs i).env)=eval (.Name x p1) (Xs i).env:=by intro _;rfl)
  (c:∀i,starEach [a] (Xs i).env=[(false,eval a (Xs i).env)]:=by intro _;rfl):QS Xs (.Expr (.Call (.Attribute (.Name x p1) "remove" qM) [a] [] qL) pos) (Jj k pa):=by
 obtain⟨t,h1,h2⟩:=l;refine⟨_,λi=>?_,AAD (Kf:=Kf) h2⟩;rw[<-o i];exact IE (Gj PySem.F.plainAttrs_list PySem.F.slot_list_remove PySem.F.type_list_remove AAB (Du (n i) (e i) h d) (Av (h1 i) BE (c i)) (j i) (by rw[c i];rfl) g (c i) rfl) (f i)
end
def SV(ta:TE):TT:=λσ H Q=>ta σ H λx H1=>∃p xs,x=.ref p/\H1 p=some (.lst xs)/\Q (!xs.isEmpty) H1
theorem AAF{e:Expr}{t:TE}(h:PE X e t)(u:∀f,isTrue e X.env f=(do let v <-f;standAt e.pos;holding [v] (truthy v)):=by intro _;rfl):PT X e (SV t):=by
 intro qA s σ H Q I l;refine isTrue_plain (AG (h qA s σ H _ I l) λv A ⟨x,H1,i,j,p,xs,ex,o,q⟩=>?_) (u _);subst ex;cases j;obtain⟨z,qH,n,r,g,y⟩:=i.lstM o;have w:(!qH.toArray.isEmpty)=!xs.isEmpty:=by
  cases xs with
  |nil=>cases qH with|nil=>rfl|cons a b=>simp at g
  |cons a b=>cases qH with|nil=>simp at g|cons c d=>simp
 refine PySem.wpAny_truthy_list ⟨_,y,rfl,⟨_,rfl⟩⟩ (by have:=cT;simp;lia) ?_;rw[w];exact⟨H1,i.tok _,q⟩
def SW(p:pE):pT:=λρ K=>p ρ λx _=>∃xs,x=.lst xs/\K (!xs.isEmpty)
theorem SX{ι:Type}{Xs:ι->Cx}{a:Expr}{pa:pE}(h:QE Xs a pa)(u:∀i,∀e,isTrue a (Xs i).env e=(do let v <-e;standAt a.pos;holding [v] (truthy v)):=by intro _ _;rfl):QT Xs a (SW pa):=by
 obtain⟨ta,j,g⟩:=h;refine⟨SV ta,λi=>AAF (j i) (u i),λW ρ σ H Q K ok s q=>g W ρ σ H _ _ ok s λx f v H1 ⟨xs,ex,h1⟩ l r=>?_⟩;subst ex;obtain⟨p,vs,rfl,c,o⟩:=Bx (ok.step l) r;refine⟨p,vs,rfl,c,?_⟩;have w:(!vs.isEmpty)=!xs.isEmpty:=by
  have n:=o.length;cases xs with
  |nil=>cases vs with|nil=>rfl|cons a b=>simp at n
  |cons a b=>cases vs with|nil=>simp at n|cons c d=>simp
 rw[w];exact q _ H1 h1 l
end L2
namespace L2
open PySem
abbrev Wd.at(W:Wd)(h:Hp):Wd:={ W with H₀:=h,F:=h }
section
variable{h:Hp}{k:Nat}
structure Sub(W:Wd)(h:Hp):Prop where
 fb:W.F W.b=none
 o:∀p x,p≠W.b->W.H₀ p=some x->h p=some x
 f:∀p x,W.F p=some x->h p=some x
end
end L2
namespace L2
open PySem PySem.Spec PyProof.Rows
end L2
namespace PySem
open PySem.Sem (wp)
section
variable{K:Type}[DecidableEq K]{knd:HeapKind prog w K}
theorem AAG{xs:List (K×Addr×Value)}{k:K}{v:Value}(u:knd.room A)(c:knd.is s.heap k a)(C:s.heap.DictOfH knd d xs)
  (h1:∀p,atKey xs k=some p->Q p.2 { s with toks:=s.toks+knd.draws k })
  (h2:atKey xs k=none->∀h',h'.DictOfH knd d (storedH xs k a v)->Heap.SameBut d s.heap h'->Q v { s with heap:=h',toks:=s.toks+knd.draws k })
  (hsz:xs.length<=sizeLine):wpAny (model prog w) A (dictSetDefault d (.ref a) v) Q E s:=by
 obtain⟨o,es,ep,g,D,f,n,l,q⟩:=C;unfold dictSetDefault
 try with_reducible refine bM ?_
 refine wB (knd.pyHash u c ?_);refine wB (wpAny_dictFind_heap (s:={ s with toks:=s.toks+knd.draws k }) u c g f n l q ?_ ?_)
 ·intro i;have h:k∉xs.map (·.1):=not_mem_keys_of_get i;have B:=atKey_none_of_get i;have h2:=h2 B;rw[storedH_new B]at h2;refine wB (wpAny_rule (wB (wpAny_updateDictKeys (hz:=by have e:=size_of_entries n;lia) (s:={ s with toks:=s.toks+knd.draws k }) g f (wP (h2 _ ⟨_,_,ep+1,Heap.get?_update_self _ g (Obj.isFreed_of_dict (Obj.data_mapDictKeys f _)),
   D.mapDictKeys _,Obj.data_mapDictKeys f _,?_,?_,?_⟩ (Heap.SameBut.update ..))))))
  ·simp[n,entryOfKey]
  ·intro x hx;rcases bA.mp hx with hx|hx
   ·exact knd.keeps (l x hx) g f (Heap.SameBut.update ..)
   ·simp only[bI]at hx;subst hx;exact knd.keeps c g f (Heap.SameBut.update ..)
  ·rw[cN,nodup_append];refine⟨q,by simp,?_⟩;intro x hx y r;simp only[map_cons,map_nil,bI]at r;subst r;exactλe=>h (e▸hx)
 ·intro j p z;have h1:=h1 p (atKey_of_get q z);refine wB (wpAny_dictEntries (s:={ s with toks:=s.toks+knd.draws k }) g f ?_);rw[entry_at n j,z];exact wB (wpAny_rule (wP h1))
theorem AAH(knd:HeapKind prog w K)(d a:Addr)(n:(d==sysModules)=false)(dflt:Value) :
  MeetsIn prog w (Builtin.«dict.setdefault» ⟨[.ref d,.ref a,dflt],[]⟩) (λA R s=>knd.room A.in1/\∃k xs,knd.is s.heap k a/\s.heap.DictOfH knd d xs/\xs.length<=sizeLine /\
   (∀p,atKey xs k=some p->R (.ok (.ret p.2)) { s with toks:=s.toks+knd.draws k }) /\
   (atKey xs k=none->∀h',h'.DictOfH knd d (storedH xs k a dflt)->Heap.SameBut d s.heap h'->R (.ok (.ret dflt)) { s with heap:=h',toks:=s.toks+knd.draws k })) :=
 .of_wp λA R s ⟨i,k,xs,c,g,h,h1,h2⟩=>by
  unfold Builtin.«dict.setdefault»;refine wB ?_;unfold Builtin.Dict.keyAndDefault;refine wB (wpAny_notOrdered_dict g.typeIs ?_);show wpAny _ _ (pure (d,Value.ref a,some dflt)) _ _ s;refine wP ?_;show wpAny _ _ (if(d==sysModules)=true then _ else(dictSetDefault d (.ref a) dflt >>= _)) _ _ s;rw[aB (by rw[n];exact cH)];exact wB (AAG i c g (λp j=>wP ⟨p.2,rfl,h1 p j⟩) (λl h' f e=>wP ⟨dflt,rfl,h2 l h' f e⟩) h)
end
end PySem
namespace L2
open PySem PySem.Spec PyProof.Rows
section
variable{b:Addr}{z:V}{r:Value}
theorem AAI{qI:List (List AO×V)}{k:List AO}(u:A.units+1<cLine)(I:Inv X qA σ H s)(e:H a=some (.dT qI))(n:H b=some (.tup (k.map kV)))(l:qI.length<sizeLine)(g:AH z r)
  (h1:∀v,BK qI k=some v->∀w' s',Inv X qA σ H s'->AH v w'->Q w' s') (h2:BK qI k=none->∀w' s',Inv X qA σ (AD H a (.dT (BV qI k z))) s'->AH z w'->Q w' s') :
  wpAny (model X.prog X.w) A (call (.builtin "dict.setdefault") [.ref a,.ref b,r]) Q E s:=by
 obtain⟨f,i,xs,rel,dd⟩:=Kl I.hok e;have o:xs.length<=sizeLine:=by rw[<-Paired.length rel];exact f
 have C:(BV qI k z).length<=sizeLine:=by have:=Gn qI k z;lia
 refine call_meetsIn PySem.F.slot_dict_setdefault dd.typeIs PySem.F.entry_dict_setdefault (PySem.F.args_dict_setdefault_3 _ _ _) (AAH (tupleKind (B0 X.prog X.w)) a b i r) ⟨tupleKind_room_in1 u,k,xs,FW I.hok n,dd,o,λp y=>?_,λB h' dd' x=>?_⟩
 ·have q:=rel.val k;rw[y]at q;cases d:BK qI k with
  |none=>rw[d]at q;exact q.elim
  |some v=>rw[d]at q;exact h1 v d _ _ (I.tok _) q
 ·have q:=rel.val k;rw[B]at q;cases d:BK qI k with
  |some v=>rw[d]at q;exact q.elim
  |none =>
   refine h2 d _ _ ?_ g;obtain⟨q,es,ep,h,L,J,G,_,D⟩:=dd';refine Gr I (by rw[e];exact True.intro) x ⟨q,h⟩ ⟨C,i,_,(rel.put k n g).keeps λc ys j=>?_,q,es,ep,h,L,J,G,D⟩;rw[AK (EC j e (λz=>nomatch z))];exact j
end
def Ma(td ty tx:TE):TE:=λσ H Q=>td σ H λx H1=>∃a,x=.ref a/\IU H1 a/\ty σ H1 λy H2=>tx σ H2 λz H3=>∃(qI:List (List AO×V)) (k:List AO) (b:Addr),H3 a=some (.dT qI)/\y=.ref b/\H3 b=some (.tup (k.map kV))/\qI.length<sizeLine /\
 (∀v,BK qI k=some v->Q v H3)/\(BK qI k=none->Q z (AD H3 a (.dT (BV qI k z))))
theorem AAJ{o e f:Expr}{td ty tx:TE}(L:X.A.units+1<cLine)(M:PE X o td)(U:PE X e ty)(T:PE X f tx)(m:M2 X o "setdefault" qM e f qL):PE X (.Call (.Attribute o "setdefault" qM) [e,f] [] qL) (Ma td ty tx):=by
 intro qA s σ H Q I h;refine wpAny_Call_method m.base m.few m.line PySem.F.plainAttrs_dict PySem.F.slot_dict_setdefault PySem.F.type_dict_setdefault (AG (M qA s σ H _ I h) λu r ⟨x,H1,i,C,a,ex,d,E⟩=>?_);subst ex;obtain rfl:u=Value.ref a:=C;obtain⟨n,l,_⟩:=OX i d;refine⟨n,l,?_⟩;rw[m.trees];refine Calls.callWith_builtin rfl (Calls.evalArgs_plain (Calls.spliced_cons (AG (U qA r σ H1 _ i E) λG q ⟨y,H2,I2,B,D⟩ =>
  Calls.spliced_cons (AG (T qA q σ H2 _ I2 D) λfv s3 ⟨z,H3,I3,w,qI,k,b,ea,ey,eb,O,g1,Y⟩=>Calls.spliced_nil ?_))))
 subst ey;cases(show G=Value.ref b from B);exact AAI L I3 ea eb O w (λv J j p g c=>⟨v,H3,g,c,g1 v J⟩) λN j p g c=>⟨z,_,g,c,Y N⟩
abbrev Wd.put(W:Wd)(O:Addr->Prop):Wd:={ W with O:=O }
section
variable{O O':Addr->Prop}{q:Addr}{k:Nat}
theorem AAK(h:∀p,O' p->O p)(z:AC (W.put O') ρ σ f p):AC (W.put O) ρ σ f p:=by
 have k:Ow (W.put O') ρ σ p->Ow (W.put O) ρ σ p:=λz=>z.elim (λz=>.inl (h p z)) .inr;cases f<;>simp only[AC]at z ⊢
 ·exact z.elim .inl λz=>.inr (z.elim (λz=>.inl (k z)) .inr)
 ·exact z.elim .inl λz=>.inr (z.elim (λz=>.inl (k z)) .inr)
 ·exact z.elim .inl λz=>.inr (k z)
 ·exact z.elim .inl λz=>.inr (z.elim (λz=>.inl (k z)) .inr)
 ·exact z
 ·exact z
theorem Ok.lessO(h:∀p,O' p->O p)(ok:Ok (W.put O) ρ σ H):Ok (W.put O') ρ σ H where
 bag:=ok.bag
 fb:=ok.fb
 old:=ok.old
 frm:=ok.frm
 oo:=λp z=>ok.oo p (h p z)
 len:=ok.len
 slot:=λi s e=>by
  obtain⟨u,h1,h2⟩:=ok.slot i s e;exact⟨u,h1,B2.mv (W:=W.put O) (Wb:=W.put O') rfl rfl rfl rfl (λf p o a e=>⟨λz=>a (AAK h z),e⟩) (λ_ _ e=>e) (λ_ _ _ e=>e) h2⟩
 uniq:=ok.uniq
theorem Ok.updO(ok:Ok W ρ σ H)(C:W.O q)(G:¬Ae ρ σ q)(E:∀ys,o≠.tup ys):Ok W ρ σ (AD H q o):=by
 obtain⟨Y,U,Q,T,o',A,D⟩:=ok.oo q C;have g:∀p vs,H p=some (.tup vs)->AD H q o p=some (.tup vs):=λp vs e=>by
  rw[AK (λz=>by subst z;rw[e]at A;cases A;exact D vs rfl)];exact e
 have d:∀{f:Fl},f=.cl\/f=.fr->∀p u,¬AC W ρ σ f p->H p=some u->¬AC W ρ σ f p/\AD H q o p=some u:=λI p u B e=>⟨B,by
  rw[AK (λz=>B (by subst z;rcases I with rfl|rfl<;>simp[AC,Ow,C]))];exact e⟩
 refine⟨ok.bag.put Q T,ok.fb,λp u x e=>?_,λp u e=>?_,λp x=>?_,ok.len,λi s e=>?_,ok.uniq⟩
 ·rw[AK (λz=>by subst z;rw[Y]at e;cases e)];exact ok.old p u x e
 ·rw[AK (λz=>by subst z;rw[U]at e;cases e)];exact ok.frm p u e
 ·obtain⟨h1,h2,N,M,u,L,J⟩:=ok.oo p x;refine⟨h1,h2,N,M,?_⟩;by_cases z:p=q
  ·subst z;exact⟨o,Aa,E⟩
  ·exact⟨u,by rw[AK z];exact L,J⟩
 ·obtain⟨u,h1,h2⟩:=ok.slot i s e;refine⟨u,h1,?_⟩;cases s with
  |emp=>trivial
  |sh y=>obtain⟨v,h,n⟩:=h2;exact⟨v,h,n.keep (d (.inl rfl)) g⟩
  |fr y=>obtain⟨v,h,n⟩:=h2;exact⟨v,h,n.keep (d (.inr rfl)) g⟩
  |own y =>
   obtain⟨r,h,n,e3,e4,e5,l⟩:=h2;have w:r≠q:=λz=>G ⟨i,y,e,by rw[h1,h,z]⟩;refine⟨r,h,n,e3,e4,e5,?_⟩;cases y with
   |lst xs=>obtain⟨vs,c,a⟩:=l;exact⟨vs,by rw[AK w];exact c,a.keep (d (f:=.fr) (.inr rfl)) g⟩
   |dT ks xs=>obtain⟨vs,c,j,a⟩:=l;exact⟨vs,by rw[AK w];exact c,j,a.keep (d (f:=.fr) (.inr rfl)) g⟩
   |fT ks xs=>obtain⟨vs,c,j,a⟩:=l;exact⟨vs,c.map λ_ e=>by rw[AK w];exact e,j,a.keep (d (f:=.fr) (.inr rfl)) g⟩
   |dK ks xs=>obtain⟨vs,c,j,a⟩:=l;exact⟨vs,by rw[AK w];exact c,j,a.keep (d (f:=.fr) (.inr rfl)) g⟩
   |_=>exact l.elim
theorem Ok.moreO(ok:Ok (W.put O) ρ σ H)(hn:H q=none)(d:∀ys,o≠.tup ys):Ok (W.put λp=>O p\/p=q) ρ σ (AD H q o):=by
 have c:=ok.step (Step.new (o:=o) ok.bag hn);refine⟨c.bag,ok.fb,c.old,c.frm,λp hp=>?_,ok.len,λi s e=>?_,ok.uniq⟩
 ·rcases hp with hp|hp
  ·exact c.oo p hp
  ·subst hp;have nb:=ok.bag.nb hn;refine⟨?_,?_,nb,ok.bag.na hn,o,Aa,d⟩
   ·cases z:(W.put O).H₀ p with
    |none=>rfl
    |some u=>rw[ok.old p u nb z]at hn;cases hn
   ·cases z:(W.put O).F p with
    |none=>rfl
    |some u=>rw[ok.frm p u z]at hn;cases hn
 ·obtain⟨u,h1,h2⟩:=ok.slot i s e;refine⟨u,h1,B2.mv (W:=W.put O) (Wb:=W.put λp=>O p\/p=q) rfl rfl rfl rfl (λf p u g a=>⟨λz=>g ?_,by rw[AK (A2 a hn)];exact a⟩) (λp vs a=>by rw[AK (A2 a hn)];exact a) (λp u _ a=>by rw[AK (A2 a hn)];exact a) h2⟩;have k:Ow (W.put λp=>O p\/p=q) ρ σ p->Ow (W.put O) ρ σ p:=λz=>z.elim (λz=>z.elim .inl λz=>by rw[z,hn]at a;cases a) .inr;cases f<;>simp only[AC]at z ⊢
  ·exact z.elim .inl λz=>.inr (z.elim (λz=>.inl (k z)) .inr)
  ·exact z.elim .inl λz=>.inr (z.elim (λz=>.inl (k z)) .inr)
  ·exact z.elim .inl λz=>.inr (k z)
  ·exact z.elim .inl λz=>.inr (z.elim (λz=>.inl (k z)) .inr)
  ·exact z
  ·exact z
theorem Ok.aside{x:P}(ok:Ok W ρ σ H)(noO:∀p,¬W.O p)(c:ρ[k]?=some (.own x))(g:σ[k]?=some (some (.ref q))):Ok (W.put λp=>p=q) (ρ.set k .emp) σ H/\∀p,Ae (ρ.set k .emp) σ p->p≠q:=by
 have a:Ae ρ σ q:=⟨k,x,c,g⟩;have l:k<ρ.length:=by
  rcases cE k ρ.length with z|z
  ·exact z
  ·rw[bQ z]at c;cases c
 have get:∀(i:Nat) (y:P),(ρ.set k S.emp)[i]?=some (S.own y)->i≠k/\ρ[i]?=some (S.own y):=λi y e=>by
  by_cases hi:k=i
  ·subst hi;rw[bY l]at e;cases e
  ·rw[bV hi]at e;exact⟨Ne.symm hi,e⟩
 have d:∀p,Ae (ρ.set k .emp) σ p->Ae ρ σ p:=λp ⟨i,y,h1,h2⟩=>⟨i,y,(get i y h1).2,h2⟩;refine⟨⟨ok.bag,ok.fb,ok.old,ok.frm,λp h=>?_,by rw[length_set];exact ok.len,λi s e=>?_,λi j y z h1 h2 r=>ok.uniq i j y z (get i y h1).2 (get j z h2).2 r⟩,λp ⟨i,y,h1,h2⟩ z=>?_⟩
 ·have h:p=q:=h;subst h;exact ok.ow (.inr a)
 ·by_cases hi:k=i
  ·subst hi;rw[bY l]at e;cases e;exact⟨_,g,trivial⟩
  ·rw[bV hi]at e;obtain⟨u,h1,h2⟩:=ok.slot i s e;refine⟨u,h1,B2.mv (W:=W) (Wb:=W.put λp=>p=q) rfl rfl rfl rfl (λf p u o v=>⟨λz=>o ?_,v⟩) (λ_ _ e=>e) (λ_ _ _ e=>e) h2⟩;have k:Ow (W.put λp=>p=q) (ρ.set k .emp) σ p->Ow W ρ σ p:=λz=>z.elim (λz=>by rw[show p=q from z];exact .inr a) λz=>.inr (d p z);cases f<;>simp only[AC]at z ⊢
   ·exact z.elim .inl λz=>.inr (z.elim (λz=>.inl (k z)) .inr)
   ·exact z.elim .inl λz=>.inr (z.elim (λz=>.inl (k z)) .inr)
   ·exact z.elim .inl λz=>.inr (k z)
   ·exact z.elim .inl λz=>.inr (z.elim (λz=>.inl (k z)) .inr)
   ·exact z
   ·exact z
 ·obtain⟨n,e⟩:=get i y h1;exact n (ok.uniq i k y x e c (by rw[h2,g,z]))
end
def Mb(k:Nat)(g:TG)(p:pG):Prop:=∀(W:Wd) (ρ:dI) (σ:St) (Hs H:Hp) (x:P) (f:Fl) (v:V) (Q:St->Hp->Prop) (K:dI->Prop),Ok W ρ σ Hs->Step W.b W.a Hs H->RF W ρ σ Hs f H x v->x.imm=true->p x f ρ K ->
 (∀ρ' σ',K ρ'->Ok W ρ' σ' H->σ'[k]?=σ[k]?->ρ'[k]?=ρ[k]?->(∀p,Ae ρ' σ' p->Ae ρ σ p)->Q σ' H)->g v σ H Q
def SY{ι:Type}(Xs:ι->Cx)(k:Nat)(tg:Expr)(p:pG):Prop:=∃g,(∀i,PG (Xs i) tg g)/\Mb k g p
section
variable{ι:Type}{Xs:ι->Cx}{k:Nat}
theorem AAL{x:P}{K:dI->Prop}(ok:Ok W ρ σ H)(hi:x.imm=true)(r:RF W ρ σ H .fr H x v)(h:BQ j x f ρ K):K (ρ.set j (.sh x))/\Ok W (ρ.set j (.sh x)) (σ.set j (some v)) H:=by
 unfold BQ at h;rw[aC hi]at h;obtain⟨ρ',e,a⟩:=Ok.set (k:=j) (K:=λρ'=>ρ'=ρ.set j (.sh x)) ok (Step.refl ok.bag) r (by unfold BQ;rw[aC hi]);subst e;exact⟨h,a⟩
theorem SZ{W:Wd}{H:Hp}{f:Fl}{Q:St->Hp->Prop}{K:dI->Prop}:∀{ks:Ge} {xs:dH} {vs:dG} {ρ:dI} {σ:St},k∉ks->P.imms xs=true->Ok W ρ σ H->AB W.b (λ_=>False) H xs vs->G7 ks xs f ρ K ->
  (∀ρ' σ',K ρ'->Ok W ρ' σ' H->σ'[k]?=σ[k]?->ρ'[k]?=ρ[k]?->(∀p,Ae ρ' σ' p->Ae ρ σ p)->Q σ' H)->DL ks vs σ H Q
 |[],[],vs,ρ,σ,_,_,ok,r,h,q=>⟨r,q ρ σ h ok rfl rfl λ_ z=>z⟩
 |[],_::_,_,_,_,_,_,_,_,h,_=>h.elim
 |_::_,[],_,_,_,_,_,_,_,h,_=>h.elim
 |j::ks,x::xs,vs,ρ,σ,i,hi,ok,r,h,q=>by
  obtain⟨v,t,w,o,n⟩:=r;subst w;rw[IX,cB]at hi;obtain⟨u,g⟩:=AAL ok hi.1 (o.imm hi.1) h;have l:j≠k:=λz=>i (by simp[z]);refine⟨v,t,rfl,SZ (λz=>i (by simp[z])) hi.2 g n u λρ' σ' a b c d e=>q ρ' σ' a b (by rw[c,bV l]) (by rw[d,bV l]) λp z=>Fd (s:=.sh x) (λ_ z=>nomatch z) p (e p z)⟩
theorem AAM{ks:Ge}(e:ks.length=n)(d:k∉ks):Mb k (Em Kf n (DL ks)) (E2 ks):=λW ρ σ Hs H x f v Q K ok st r hi h q=>by
 obtain⟨xs,rfl,g,h⟩:=h;have a:=ok.step st;obtain⟨p,vs,rfl,i,c⟩:=(r.any a);have hi:P.imms xs=true:=by simpa[P.imm]using hi
 exact⟨p,vs,rfl,.of i,by rw[<-c.length,g,e],SZ d hi a (c.imm hi) h q⟩
theorem AAN{k1:Nat}{ks:Ge}(k:Nat)(f:∀i,(Xs i).calm=true)(g:∀i,(Xs i).K=Kf)(h:∀i,El (Xs i) es (DL ks))(e:ks.length=n)(c:k∉ks:=by decide)
  (d:∀i,(assignEach es (Xs i).env).length=n:=by intro _;rfl) (a:∀i,(assignEach es (Xs i).env).findIdx? (·.1)=none:=by intro _;rfl):SY Xs k (.Tuple es k1 pos) (E2 ks) :=
 ⟨Em Kf n (DL ks),λi=>by have:=KW (k:=k1) (pos:=pos) (f i) (h i) (d i) (a i);rw[g i]at this;exact this,AAM e c⟩
end
structure Grp(b:Addr)(H:Hp)(g:Addr)(ks:List By)(gs:Ha)(xss:List dH):Prop where
 cell:H g=some (.dT ((ks.map AY).zip (gs.map V.ref)))
 l1:gs.length=ks.length
 l2:xss.length=ks.length
 kd:ks.Nodup
 nd:gs.Nodup
 ng:g∉gs
 inn:∀(j:Nat) q ys,gs[j]?=some q->xss[j]?=some ys->P.imms ys=true/\∃vs,H q=some (.lst vs)/\AB b (λ_=>False) H ys vs
def Dl(ks:List By)(xss:List dH)(r:By)(z:P):List dH:=if r∈ks then xss.modify (ks.idxOf r) (·++[z])else xss++[[z]]
theorem Mc{r:By}:∀{ks:List By} {gs:Ha},gs.length=ks.length->BK ((ks.map AY).zip (gs.map V.ref)) (AY r)=(gs[ks.idxOf r]?).map V.ref
 |[],[],_=>rfl
 |k0::ks,g::gs,h=>by
  have c:=Mc (r:=r) (ks:=ks) (gs:=gs) (by simpa using h);simp only[map_cons,zip_cons_cons];by_cases e:k0=r
  ·subst e;rw[Gm rfl,idxOf_cons_self];rfl
  ·have a:¬AY k0=AY r:=λz=>e (EY _ _ z);have d:BK ((AY k0,V.ref g)::(ks.map AY).zip (gs.map V.ref)) (AY r)=BK ((ks.map AY).zip (gs.map V.ref)) (AY r):=by unfold BK;rw[find?_cons];simp[a]
   rw[d,c,idxOf_cons,show(k0==r)=false from beq_eq_false_iff_ne.mpr e];rfl
abbrev BL(g:Addr)(gs:Ha):Addr->Prop:=λp=>p=g\/p∈gs
section
variable{g:Addr}{gs:Ha}{xss:List dH}{k:Nat}
theorem AB.still{b:Addr}(hi:P.imms ys=true)(c:∀p us,H p=some (.tup us)->H' p=some (.tup us))(h:AB b Z H ys vs):AB b (λ_=>False) H' ys vs :=
 AB.imm (Z:=λ_=>True) hi ((h.imm (Z':=λ_=>True) hi).keep (λp o a e=>bS trivial a) c)
theorem Rp.still{b:Addr}(hi:y.imm=true)(c:∀p us,H p=some (.tup us)->H' p=some (.tup us))(h:Rp b Z H y v):Rp b (λ_=>False) H' y v :=
 Rp.imm (Z:=λ_=>True) hi ((h.imm (Z':=λ_=>True) hi).keep (λp o a e=>bS trivial a) c)
theorem Grp.step(G:Grp W.b H g ks gs xss)(st:Step W.b W.a H H')(hb:Bag H W.b W.a)(nb:∀p,BL g gs p->p≠W.b):Grp W.b H' g ks gs xss :=
 ⟨st.same g _ (nb g (.inl rfl)) G.cell,G.l1,G.l2,G.kd,G.nd,G.ng,λj q ys h1 h2=>by
  obtain⟨a,vs,c,d⟩:=G.inn j q ys h1 h2;exact⟨a,vs,st.same q _ (nb q (.inr (aM h1))) c,d.still a λp us e=>st.same p _ (hb.neT e).1 e⟩⟩
theorem AAO{tK tV:TE}{pk pv:pE}{M:By->P->Prop}{Q:VK}(hK:BH tK pk)(hV:BH tV pv)(ok:Ok (W.put (BL g gs)) ρ σ H)(hs:σ[k]?=some (some (.ref g)))(U:∀p,Ae ρ σ p->¬BL g gs p)(G:Grp W.b H g ks gs xss)
  (hn:n<16777216) (h1:ks.length<=n) (h2:∀ys∈xss,ys.length<=n) (hk:pk ρ λy _=>∃r,Ce y=some r/\pv ρ λz _=>z.imm=true/\M r z)
  (q:∀r z a1 H',M r z->Ok (W.put (BL g a1)) ρ σ H'->(∀p,Ae ρ σ p->¬BL g a1 p)->Grp W.b H' g (A0 ks r) a1 (Dl ks xss r z)->Q .non H') :
  Gi Kf "list" IS (Ma (CH k) tK (Ke CB)) (CC tV CB) σ H Q:=by
 have nb:∀p,BL g gs p->p≠W.b:=λp z=>(ok.oo p z).2.2.1;refine⟨.ref g,hs,g,rfl,.inr ⟨_,.of G.cell⟩,hK _ ρ σ H _ _ ok hk λy f v Hy ⟨r,a7,hv⟩ s1 r1=>⟨cD _,λp hp=>?_⟩⟩;have i:=ok.step s1;have G1:=G.step s1 ok.bag nb;obtain⟨b,rfl,J⟩:=HP i a7 r1;have s2:Step W.b W.a Hy (AD Hy p (.lst [])):=Step.new i.bag hp;have D:=i.step s2;have G2:=G1.step s2 i.bag nb;have hl:((ks.map AY).zip (gs.map V.ref)).length<sizeLine:=by
  rw[length_zip,aA,aA,G.l1,Nat.min_self,cT];lia
 refine⟨_,_,b,G2.cell,rfl,s2.same b _ (i.bag.neT J).1 J,hl,λv d=>?_,λd=>?_⟩
 ·-- there
  rw[Mc G.l1]at d;have c:r∈ks:=by
   refine Classical.byContradiction λz=>?_;rw[idxOf_eq_length (by simpa using z),bQ (by rw[G.l1];exact aQ _)]at d;cases d
  have hj:ks.idxOf r<ks.length:=idxOf_lt_length_iff.mpr c;have a0:ks.idxOf r<gs.length:=by rw[G.l1];exact hj
  have a8:ks.idxOf r<xss.length:=by rw[G.l2];exact hj
  obtain⟨j,a9⟩:∃j,ks.idxOf r=j:=⟨_,rfl⟩;rw[a9]at hj a0 a8 d;rw[aH a0]at d;cases d;have eg:gs[j]?=some gs[j]:=aH a0;have ex:xss[j]?=some xss[j]:=aH a8;obtain⟨im,vs,c1,c2⟩:=G2.inn j _ _ eg ex;refine⟨.inl ⟨rfl,vs,.of c1⟩,hV _ ρ σ _ _ _ D hv λz f2 I L ⟨hz,hM⟩ N r3=>?_⟩;have C:=D.step N;have G3:=G2.step N D.bag nb;obtain⟨im,vs,c1,c2⟩:=G3.inn j _ _ eg ex;have A:BL g gs gs[j]:=.inr (aM eg);have ht:∀p us,L p=some (.tup us)->AD L gs[j] (.lst (vs++[I])) p=some (.tup us):=λp us e=>by rw[AK (λz=>by rw[z,c1]at e;cases e)];exact e
  have af:vs.length<16777216:=by rw[<-c2.length];have:=h2 _ (aM ex);lia
  refine⟨gs[j],vs,I,rfl,rfl,c1,by rw[cT];lia,q r z gs _ hM (C.updO A (λz=>U _ z A) λ_ z=>nomatch z) U ?_⟩;have ed:A0 ks r=ks:=by unfold A0;rw[aC c]
  have ab:g≠gs[j]:=λz=>G.ng (z▸aM eg);rw[ed];have a2:Dl ks xss r z=xss.modify j (·++[z]):=by unfold Dl;rw[aC c,a9]
  rw[a2];refine⟨by rw[AK ab];exact G3.cell,G.l1,by rw[length_modify];exact G.l2,G.kd,G.nd,G.ng,λB q' ys h l=>?_⟩;rw[getElem?_modify]at l;by_cases Y:j=B
  ·subst Y;rw[eg]at h;cases h;rw[ex]at l;simp only[Option.map_eq_map,Option.map_some,aC]at l;cases l;exact⟨by rw[WO,im];simp[hz],vs++[I],Aa,(c2.still im ht).snoc (Rp.still hz ht (r3.any C))⟩
  ·cases ex':xss[B]? with
   |none=>rw[ex']at l;cases l
   |some zs =>
    rw[ex']at l;simp only[Option.map_eq_map,Option.map_some,aB Y]at l;cases l;obtain⟨u,us,d1,d2⟩:=G3.inn B _ _ h ex';have nq:q'≠gs[j]:=λz=>Y (by
     have ac:B<gs.length:=by
      rcases cE B gs.length with w|w
      ·exact w
      ·rw[bQ w]at h;cases h
     rw[aH ac]at h;cases h;exact((getElem_inj G.nd).mp z).symm)
    exact⟨u,us,by rw[AK nq];exact d1,d2.still u ht⟩
 ·-- new
  have c:r∉ks:=λz=>by
   rw[Mc G.l1,aH (by rw[G.l1];exact idxOf_lt_length_iff.mpr z)]at d;cases d
  have E:g≠p:=A2 G1.cell hp;have a4:p∉gs:=λz=>by
   obtain⟨_,_,_,_,o,e,_⟩:=i.oo p (.inr z);rw[hp]at e;cases e
  have sub:∀x,BL g (gs++[p]) x->BL g gs x\/x=p:=λx z=>by
   rcases z with z|z
   ·exact .inl (.inl z)
   ·rcases bA.mp z with z|z
    ·exact .inl (.inr z)
    ·exact .inr (by simpa using z)
  have s:∀x,Ae ρ σ x->¬BL g (gs++[p]) x:=λx z w=>(sub x w).elim (U x z) λe=>by
   obtain⟨_,_,_,_,o,h,_⟩:=i.ow (.inr z);rw[e,hp]at h;cases h
  have C:Ok (W.put (BL g (gs++[p]))) ρ σ (AD Hy p (.lst [])):=Ok.lessO (W:=W) (O:=λx=>BL g gs x\/x=p) sub (i.moreO hp λ_ z=>nomatch z);have T:=C.updO (q:=g) (o:=.dT (BV ((ks.map AY).zip (gs.map V.ref)) (AY r) (.ref p))) (.inl rfl) (λz=>s g z (.inl rfl)) λ_ z=>nomatch z;have a5:∀x,BL g (gs++[p]) x->x≠W.b:=λx z=>(T.oo x z).2.2.1;have ep:BV ((ks.map AY).zip (gs.map V.ref)) (AY r) (V.ref p)=((A0 ks r).map AY).zip ((gs++[p]).map V.ref):=by
   rw[QX EY (by rw[aA,G.l1]),aB c,cN];rfl
  have ed:A0 ks r=ks++[r]:=by unfold A0;rw[aB c]
  refine⟨.inl ⟨rfl,[],.of (by rw[AK E.symm];exact Aa)⟩,hV _ ρ σ _ _ _ T hv λz f2 I L ⟨hz,hM⟩ N r3=>?_⟩;have a3:=T.step N;have a6:L p=some (.lst []):=N.same p _ (a5 p (.inr (by simp))) (by rw[AK E.symm];exact Aa);have ae:L g=some (.dT (((A0 ks r).map AY).zip ((gs++[p]).map V.ref))):=by rw[<-ep];exact N.same g _ (a5 g (.inl rfl)) Aa
  have A:BL g (gs++[p]) p:=.inr (by simp);have ht:∀x us,L x=some (.tup us)->AD L p (.lst ([]++[I])) x=some (.tup us):=λx us e=>by rw[AK (λz=>by rw[z,a6]at e;cases e)];exact e
  refine⟨p,[],I,rfl,rfl,a6,by rw[cT];simp,q r z (gs++[p]) _ hM (a3.updO A (λz=>s _ z A) λ_ z=>nomatch z) s ?_⟩;have a2:Dl ks xss r z=xss++[[z]]:=by unfold Dl;rw[aB c]
  rw[a2];refine⟨by rw[AK E];exact ae,by rw[ed];simp[G.l1],by rw[ed];simp[G.l2],by rw[ed];exact nodup_append.mpr ⟨G.kd,by simp,λa ha b J e=>c (by simp at J;rw[<-J,<-e];exact ha)⟩,nodup_append.mpr ⟨G.nd,by simp,λa ha b J e=>a4 (by simp at J;rw[<-J,<-e];exact ha)⟩,λz=>?_,λB q' ys h l=>?_⟩
  ·rcases bA.mp z with z|z
   ·exact G.ng z
   ·exact E (by simpa using z)
  ·have sg:∀x o,x≠W.b->x≠g->AD Hy p (.lst []) x=some o->L x=some o:=λx o h1 h2 e=>N.same x o h1 (by rw[AK h2];exact e);rcases cE B gs.length with w|w
   ·rw[getElem?_append_left w]at h;rw[getElem?_append_left (by rw[G.l2,<-G.l1];exact w)]at l;obtain⟨u,us,d1,d2⟩:=G2.inn B _ _ h l;have mq:q'∈gs:=aM h;have nq:q'≠p:=λz=>a4 (z▸mq);have aa:q'≠g:=λz=>G.ng (z▸mq);refine⟨u,us,by rw[AK nq];exact sg q' _ (nb q' (.inr mq)) aa d1,d2.still u λx us e=>ht x us (sg x _ (D.bag.neT e).1 (λz=>by rw[z,G2.cell]at e;cases e) e)⟩
   ·rw[getElem?_append_right w]at h;rw[getElem?_append_right (by rw[G.l2,<-G.l1];exact w)]at l;cases hd:B - gs.length with
    |succ m=>rw[hd]at h;cases h
    |zero =>
     rw[hd]at h;cases h;rw[show B - xss.length=0 by rw[G.l2,<-G.l1];exact hd]at l;cases l;exact⟨by simp[hz],[I],Aa,I,[],rfl,Rp.still hz ht (r3.any a3),rfl⟩
end
theorem AB.of_get{b:Addr}{Z:Addr->Prop}{H:Hp}:∀{xs:dH} {vs:dG},xs.length=vs.length->(∀(j:Nat) x v,xs[j]?=some x->vs[j]?=some v->Rp b Z H x v)->AB b Z H xs vs
 |[],[],_,_=>rfl
 |x::xs,v::vs,a,h=>⟨v,vs,rfl,h 0 x v rfl rfl,AB.of_get (by simpa using a) λj y u d c=>h (j+1) y u (by simpa using d) (by simpa using c)⟩
section
variable{g:Addr}{gs:Ha}{xss:List dH}{k:Nat}
theorem Ok.ownBack(ok:Ok (W.put (BL g gs)) ρ σ H)(noO:∀p,¬W.O p)(B:k<ρ.length)(n:σ[k]?=some (some (.ref g)))(d:∀p,Ae ρ σ p->¬BL g gs p)(G:Grp W.b H g ks gs xss):Ok W (ρ.set k (.own (.dT ks (xss.map .lst)))) σ H:=by
 have a:∀p,Ae (ρ.set k (.own (.dT ks (xss.map .lst)))) σ p->p=g\/Ae ρ σ p:=λp ⟨i,y,h1,h2⟩=>by
  by_cases hi:k=i
  ·subst hi;rw[n]at h2;cases h2;exact .inl rfl
  ·rw[bV hi]at h1;exact .inr ⟨i,y,h1,h2⟩
 have A:∀f p,AC W (ρ.set k (.own (.dT ks (xss.map .lst)))) σ f p->AC (W.put (BL g gs)) ρ σ f p:=λf p z=>by
  have k:Ow W (ρ.set k (.own (.dT ks (xss.map .lst)))) σ p->Ow (W.put (BL g gs)) ρ σ p:=λz=>z.elim (λz=>bS z (noO p)) λz=>(a p z).elim (λz=>.inl (.inl z)) .inr;cases f<;>simp only[AC]at z ⊢
  ·exact z.elim .inl λz=>.inr (z.elim (λz=>.inl (k z)) .inr)
  ·exact z.elim .inl λz=>.inr (z.elim (λz=>.inl (k z)) .inr)
  ·exact z.elim .inl λz=>.inr (k z)
  ·exact z.elim .inl λz=>.inr (z.elim (λz=>.inl (k z)) .inr)
  ·exact z
  ·exact z
 refine⟨ok.bag,ok.fb,ok.old,ok.frm,λp z=>bS z (noO p),by rw[length_set];exact ok.len,λi s e=>?_,λi j y z h1 h2 o=>?_⟩
 ·by_cases hi:k=i
  ·subst hi;rw[bY B]at e;cases e;obtain⟨Y,U,T,Q,_⟩:=ok.oo g (.inl rfl);refine⟨_,n,g,rfl,Y,U,T,Q,gs.map V.ref,G.cell,by rw[aA,G.l2],AB.of_get (by rw[aA,aA,G.l1,G.l2]) λj x v w r=>?_⟩;rw[bO]at w r;obtain⟨ys,E,rfl⟩:=aJ.mp w;obtain⟨q,eq,rfl⟩:=aJ.mp r;obtain⟨C,vs,L,J⟩:=G.inn j q ys eq E;have l:q∈gs:=aM eq;obtain⟨N,b2,M,b4,_⟩:=ok.oo q (.inr l);refine⟨q,vs,rfl,λz=>?_,L,J.imm C⟩;rcases z with z|z|z
   ·exact M z
   ·rcases z with z|z
    ·exact noO q z
    ·rcases a q z with z|z
     ·exact G.ng (z▸l)
     ·exact d q z (.inr l)
   ·exact z N
  ·rw[bV hi]at e;obtain⟨u,h1,h2⟩:=ok.slot i s e;exact⟨u,h1,B2.mv (W:=W.put (BL g gs)) (Wb:=W) rfl rfl rfl rfl (λf p u D I=>⟨λz=>D (A f p z),I⟩) (λ_ _ e=>e) (λ_ _ _ e=>e) h2⟩
 ·have c:∀(i:Nat) (y:P),k≠i->(ρ.set k (.own (.dT ks (xss.map .lst))))[i]?=some (S.own y)->σ[i]?≠σ[k]?:=λi y hi e z=>by
   rw[bV hi]at e;exact d g ⟨i,y,e,by rw[z,n]⟩ (.inl rfl)
  by_cases hi:k=i
  ·by_cases h:k=j
   ·exact hi.symm.trans h
   ·subst hi;exact bS o.symm (c j z h h2)
  ·by_cases h:k=j
   ·subst h;exact bS o (c i y hi h1)
   ·rw[bV hi]at h1;rw[bV h]at h2;exact ok.uniq i j y z h1 h2 o
end
def Md(k:Nat)(pi:pI)(pg:pG)(pk pv:pE):pS:=λE ρ=>ρ[k]?=some (.own (.dT [] []))/\pi ρ λxs f st=>st=true/\P.imms xs=true/\xs.length<16777216/\∃I:Nat->dI->List By->List dH->Prop,I 0 (ρ.set k .emp) [] [] /\
 (∀i ρ' ks xss x,xs[i]?=some x->I i ρ' ks xss->pg x .fr ρ' λρ2=>pk ρ2 λy _=>∃r,Ce y=some r/\pv ρ2 λz _=>z.imm=true/\I (i+1) ρ2 (A0 ks r) (Dl ks xss r z))/\∀ρ' ks xss,I xs.length ρ' ks xss->E.nx (ρ'.set k (.own (.dT ks (xss.map .lst))))
theorem AAP{xss:List dH}{z:P}(h:∀ys∈xss,ys.length<=n):∀ys∈Dl ks xss r z,ys.length<=n+1:=by
 unfold Dl;split
 ·intro ys hy;obtain⟨j,a⟩:=mem_iff_getElem?.mp hy;rw[getElem?_modify]at a;cases e:xss[j]? with
  |none=>rw[e]at a;cases a
  |some zs =>
   rw[e]at a;have:=h zs (aM e);simp only[Option.map_eq_map,Option.map_some]at a;split at a<;>cases a
   ·simp;lia
   ·lia
 ·intro ys hy;rcases bA.mp hy with hy|hy
  ·have:=h ys hy;lia
  ·rw[bI.mp hy];simp
theorem Sa(ks:List By)(r:By):(A0 ks r).length<=ks.length+1:=by
 unfold A0;split
 ·lia
 ·rw[aG];simp
theorem AAQ{tK tV:TE}{pk pv:pE}{k:Nat}(hi:Ih wi pi)(hg:Mb k g pg)(hK:BH tK pk)(hV:BH tV pv) :
  EQ (Nn wi g (ID (Gi Kf "list" IS (Ma (CH k) tK (Ke CB)) (CC tV CB)))) (Md k pi pg pk pv):=λW ρ σ H D E ok hh r=>by
 obtain⟨u,h⟩:=hh;refine hi W ρ σ H _ _ ok h λxs f st J H1 ⟨a6,a7,a9,I,h0,x,U⟩ s1 _ jS=>?_;have jS:=jS a6;have o:=ok.step s1;obtain⟨w,hs,a,e2,aa,gF,gb,ga,vs,c1,c2,c3⟩:=o.slot k _ u;subst e2;have kl:k<ρ.length:=by
  rcases cE k ρ.length with z|z
  ·exact z
  ·rw[bQ z]at u;cases u
 obtain⟨a2,N⟩:=Ok.aside o.frz r.noO u hs;have a1:Ok ((W.frz ρ σ H1).put (BL a [])) (ρ.set k .emp) σ H1:=Ok.lessO (W:=W.frz ρ σ H1) (O:=λp=>p=a) (λp z=>z.elim id λz=>nomatch z) a2;have M:∀p,Ae (ρ.set k .emp) σ p->¬BL a [] p:=λp z w=>w.elim (N p z) λw=>nomatch w;have G0:Grp W.b H1 a [] [] []:=⟨c1,rfl,rfl,nodup_nil,nodup_nil,(λz=>nomatch z),(λj q ys e=>nomatch e)⟩;refine⟨λi m σ' H'=>m=xs.length - i/\i<=xs.length/\∃ρ' ks gs xss,I i ρ' ks xss/\ρ'[k]?=some .emp/\σ'[k]?=some (some (.ref a))/\Ok ((W.frz ρ σ H1).put (BL a gs)) ρ' σ' H'/\(∀p,Ae ρ' σ' p->¬BL a gs p)/\Grp W.b H' a ks gs xss/\ks.length<=i/\(∀ys∈xss,ys.length<=i),
  ⟨xs.length,by simp,cD _,ρ.set k .emp,[],[],[],h0,bY kl,hs,a1,M,G0,aQ _,λ_ z=>nomatch z⟩,?_⟩
 rintro i m σ' H' ⟨rfl,hi,ρ',ks,gs,xss,hI,B,A,l,T,G,b1,b2⟩;have L:Ok (W.frz ρ σ H1) ρ' σ' H':=Ok.lessO (W:=W.frz ρ σ H1) (O':=W.O) (λp z=>bS z (r.noO p)) l;obtain⟨q1,q2,q3⟩:=jS W.O ρ' σ' H' ⟨rfl,L⟩ i;by_cases s:i<xs.length
 ·refine .inr ⟨q1 s,λd H2=>∃c ks gs xss,I (i+1) c ks xss/\c[k]?=some .emp/\d[k]?=some (some (.ref a))/\Ok ((W.frz ρ σ H1).put (BL a gs)) c d H2/\(∀p,Ae c d p->¬BL a gs p)/\Grp W.b H2 a ks gs xss/\ks.length<=i+1/\(∀ys∈xss,ys.length<=i+1),
   λd H2 z=>⟨xs.length - (i+1),⋯,rfl,s,z⟩,λv H2 y=>?_⟩
  have hx:xs[i]?=some xs[i]:=by simp[s]
  obtain⟨Y,y2⟩:=q3 v H2 y _ hx;have C:xs[i].imm=true:=Ky.mp a7 _ (getElem_mem s);have a0:Ok W ρ' σ' H2:=(o.thaw L).step Y;have y3:RF ((W.frz ρ σ H1).put (BL a gs)) ρ' σ' H' .fr H2 xs[i] v:=(y2.any a0).imm C;have nb:∀p,BL a gs p->p≠W.b:=λp z=>(l.oo p z).2.2.1;refine hg ((W.frz ρ σ H1).put (BL a gs)) ρ' σ' H' H2 _ .fr v _ _ l Y y3 C (x i ρ' ks xss _ hx hI) λc d e2 a4 es er eo=>?_;exact AAO (W:=W.frz ρ σ H1) (n:=i) hK hV a4 (by rw[es];exact A) (λp z=>T p (eo p z)) (G.step Y l.bag nb) ⋯ b1 b2 e2 λrr z a8 H3 hM a3 Q G3=>⟨c,_,a8,_,hM,by rw[er];exact B,by rw[es];exact A,a3,Q,G3,by have:=Sa ks rr;lia,AAP b2⟩
 ·have e:i=xs.length:=⋯;subst e;have a5:k<ρ'.length:=by
   rcases cE k ρ'.length with z|z
   ·exact z
   ·rw[bQ z]at B;cases B
  exact .inl ⟨q2 (aQ _),r.nx _ σ' H' (U ρ' ks xss hI) (o.thaw (Ok.ownBack (W:=W.frz ρ σ H1) l r.noO a5 A T G))⟩
section
variable{ι:Type}{Xs:ι->Cx}
theorem AAR{a d l:Expr}{k:Nat}{p1 j cp h f e r:Pos}{pk pv:pE}(J:∀i,(Xs i).K=Kf)(y:∀i,(Xs i).A.units+1<cLine)(B:∀i,PassesOwn (model (Xs i).prog (Xs i).w) (Xs i).A (Xs i).env (Xs i).xe)(G:∀i,(Xs i).calm=true)
  (hi:QI Xs tg a pi) (D:SY Xs k tg pg) (C:QE Xs d pk) (v:QE Xs l pv)
  (I:∀i,(Xs i).N[k]?=some x:=by intro _;rfl) (n:∀i,C2 (Xs i).env.scope x:=by intro _;trivial) (E:(x==("__debug__":Str))=false:=by decide) (q:(x==("__classdict__":Str))=false:=by decide)
  (m:∀i,M2 (Xs i) (.Name x p1) "setdefault" j d (.List [] h) cp:=by intro _;exact⟨rfl,rfl,rfl,rfl⟩)
  (p:(f.endLine==e.line)=true:=by rfl) (o:∀i,swapsWith (.Call (.Attribute (.Call (.Attribute (.Name x p1) "setdefault" j) [d,.List [] h] [] cp) "append" f) [l] [] e) none r.line (Xs i).env=pure false:=by intro _;rfl)
  (H:∀i,attributeBase (.Call (.Attribute (.Name x p1) "setdefault" j) [d,.List [] h] [] cp) "append" (Xs i).env (eval (.Call (.Attribute (.Name x p1) "setdefault" j) [d,.List [] h] [] cp) (Xs i).env)=eval (.Call (.Attribute (.Name x p1) "setdefault" j) [d,.List [] h] [] cp) (Xs i).env:=by intro _;rfl)
  (c:∀i,starEach [l] (Xs i).env=[(false,eval l (Xs i).env)]:=by intro _;rfl) (z:∀i,∀x,foldedSetIterable a (Xs i).env x=pure x:=by intro _ _;rfl) :
  QS Xs (.For tg a [.Expr (.Call (.Attribute (.Call (.Attribute (.Name x p1) "setdefault" j) [d,.List [] h] [] cp) "append" f) [l] [] e) r] [] pos) (Md k pi pg pk pv):=by
 obtain⟨wi,i1,i2⟩:=hi;obtain⟨g,M,L⟩:=D;obtain⟨Q,k1,k2⟩:=C;obtain⟨O,u,s⟩:=v;refine⟨_,λi=>GW (B i) (G i) (i1 i) (M i) (Co ?_) (z i),AAQ (Kf:=Kf) i2 L k2 s⟩;rw[<-J i];exact IE (Gj PySem.F.plainAttrs_list PySem.F.slot_list_append PySem.F.type_list_append Gk (AAJ (y i) (Du (I i) (n i) E q) (k1 i) (Ga BE) (m i)) (Av (u i) BE (c i)) (H i) (by rw[c i];rfl) p (c i) rfl) (o i)
end
end L2
namespace L2
open PySem PySem.Spec PyProof.Rows PySem.W
section
variable{qI:List (List AO×V)}
theorem Inv.freeze(I:Inv X qA σ H s)(e:H a=some (.dT qI)):∃o,Inv X qA σ (AD H a (.frz o (.dT qI))) s:=by
 obtain⟨z,hd,xs,rel,o,es,ep,h1,h2,f,d,c⟩:=(show A4 X.prog X.w H s.heap a (.dT qI)from I.hok a _ e);refine⟨o,Gr (t':=s.toks) (h':=s.heap) I (by rw[e];exact True.intro) ⟨rfl,λ_ _=>rfl⟩ ⟨o,h1⟩ ⟨h1,z,hd,xs,Paired.mapP rel λp q w=>⟨w.1,?_,w.2.2⟩,o,es,ep,h1,h2,f,d,c⟩⟩;rw[AK (EC w.2.1 e (λz=>nomatch z))];exact w.2.1
def AAS(k:Nat)(t:TS):TS:=λD σ H=>∃p qI,σ[k]?=some (some (.ref p))/\H p=some (.dT qI)/\∀o,t D σ (AD H p (.frz o (.dT qI)))
theorem AAT{st:Stmt}{t:TS}(k:Nat)(h:PS X st t):PS X st (AAS k t):=by
 intro qA s σ H D I ⟨p,qI,_,e,q⟩;obtain⟨o,a⟩:=I.freeze e;exact h qA s σ _ D a (q o)
def FF(d:Addr)(o:Obj)(qI:List (List AO×V)):It :=
 ⟨λi H=>H d=some (.frz o (.dT qI))/\i<qI.length,λi H v H'=>H'=H/\∃q k,v=.ref q/\(qI.map (·.1))[i]?=some k/\H q=some (.tup (k.map kV)),λi H=>H d=some (.frz o (.dT qI))/\qI.length<=i⟩
theorem Mf{o:Obj}(a:A7 P' w H h)(e:H p=some (.frz o (.dT qI))) :
  ∃(es:Array DictEntry) (ep:Nat) (ps:List (Addr×List AO)),o.data=.dict es ep/\Cf h p es ep/\(p==sysModules)=false/\qI.length<=sizeLine/\ps.map (·.2)=qI.map (·.1)/\(∀q∈ps,H q.1=some (.tup (q.2.map kV)))/\es.toList.map (·.key)=ps.map λq=>Value.ref q.1:=by
 obtain⟨d,z,f,xs,rel,o',es,ep,h1,h2,c,g,_⟩:=(show A4 P' w H h p (.frz o (.dT qI))from a p _ e);rw[d]at h1;cases h1;exact⟨es,ep,xs.map λx=>(x.2.1,x.1),c,⟨o,d,h2,c⟩,f,z,(HQ rel).1,(HQ rel).2,by rw[g,bZ,bZ];rfl⟩
theorem AAU{P:Program}{K:Fg}(d it:Addr)(o:Obj)(es:Array DictEntry)(ep:Nat)(U:o.data=.dict es ep):Turn P w K tg (FF d o qI) [it] it (λi h=>i<=es.size/\h.IsKeyIter it d i es.size ep) where
 mem:=by simp
 obj:=λi h st b j=>by
  have e:b=it:=by simpa using j
  subst e;obtain⟨_,o,e,c,d⟩:=st;exact⟨o,e,λv z=>by rw[d]at z;cases z⟩
 keep:=λi h h' st k=>by
  obtain⟨l,o,e,r⟩:=st;exact⟨l,o,k it (by simp) o e,r⟩
 item:=by
  intro X D y G Y i qA s σ H E I p st B;subst D y G;obtain⟨C,hi⟩:=B;obtain⟨Q,T,ps,a,x,A,hz,u,e2,q⟩:=Mf I.hok C;rw[U]at a;cases a;obtain⟨O,N,f2,M,L,J⟩:=p it (by simp);have lp:ps.length=qI.length:=by have:=aT length u;simpa using this
  have le:es.size=ps.length:=by have:=aT length q;simpa using this
  have g:i<es.size:=⋯;have f:i<ps.length:=⋯;have ek:es[i].key=.ref ps[i].1:=by
   have:=aT (·[i]?) q;simpa[g,f]using this
  refine Qh st.2 x g λh' n sb=>?_;have I1:Inv X qA σ H { s with heap:=h' }:=I.turned (t':=s.toks) (λb o j e=>(sb.2 b j).trans e) O N M L J;obtain⟨oi,e,c,dd⟩:=id n;refine⟨_,rfl,GV (s:={ s with heap:=h' }) e c dd (by decide) ⟨.ref ps[i].1,H,I1,by rw[ek];rfl,⟨rfl,ps[i].1,ps[i].2,rfl,?_,e2 _ (getElem_mem f)⟩,⟨g,n⟩,λb j=>(p b j).1⟩⟩;rw[<-u];simp[f]
 done:=by
  intro X D y G Y i qA s σ H E I p st B;subst D y G;obtain⟨C,hi⟩:=B;obtain⟨Q,T,ps,a,x,A,hz,u,e2,q⟩:=Mf I.hok C;rw[U]at a;cases a;obtain⟨O,N,f2,M,L,J⟩:=p it (by simp);have lp:ps.length=qI.length:=by have:=aT length u;simpa using this
  have le:es.size=ps.length:=by have:=aT length q;simpa using this
  have ei:i=es.size:=by have:=st.1;lia
  subst ei;exact Qi (I.ok.hd Y) st.2 x λh' eb=>⟨rfl,I.turned (t':=s.toks) (λb o j e=>eb b o j e) O N M L J⟩
 self:=λ_ _ _ _ _ st h=>wpAny_pyIter_keyiter st.2 h
def Sb(tl:TE):TI:=λσ H R=>tl σ H λx H1=>∃a o qI,x=.ref a/\H1 a=some (.frz o (.dT qI))/\R (FF a o qI) H1
theorem AAV{l:Expr}{tl:TE}(p:PE X l tl):PI X tg l (Sb tl):=by
 intro qA s σ H R I h;refine AG (p qA s σ H _ I h) λv c ⟨x,H1,d,j,n⟩=>?_;obtain⟨a,o,qI,e,r,q⟩:=n;subst e;cases j;obtain⟨es,ep,ps,g,i,f,_⟩:=Mf d.hok r;refine Qg f i ?_;refine⟨c.heap.objs.size,[c.heap.objs.size],_,_,H1,rfl,d.kept (t':=c.toks) λb o e=>aS _ e,AAU a _ o es ep g,⟨cD _,_,bP _ rfl,rfl,rfl⟩,λb u=>?_,q⟩;have e:b=c.heap.objs.size:=by simpa using u
 subst e;exact d.fpOk (aQ _) (d.hok.fresh (aQ _))
end
def Sc(p:pE):pI:=λρ K=>p ρ λx f=>∃ks vs,x=.fT ks vs/\K (ks.map AT) .fr (B4 f)
def Mg(k:Nat)(p:pS):pS:=λE ρ=>match ρ[k]? with
 |some (.own (.dT ks vs))=>p E (ρ.set k (.fr (.fT ks vs)))
 |_=>False
theorem AAW{o:Obj}(ok:Ok W ρ σ H)(r:RF W ρ σ Hs f H (.fT ks xs) (.ref p))(c:ks.length=vs.length)(z:H p=some (.frz o (.dT ((ks.map AY).zip vs)))) :
  Cv W (Ff W ρ σ H) (FF p o ((ks.map AY).zip vs)) (ks.map AT) .fr/\(B4 f=true->Cv W (Fe W ρ σ H) (FF p o ((ks.map AY).zip vs)) (ks.map AT) .fr):=by
 have s:p≠W.b:=by
  obtain⟨q,us,j,d,_⟩:=r.any ok;cases j;exact d
 have u:((ks.map AY).zip vs).length=ks.length:=by rw[length_zip,aA,<-c,Nat.min_self]
 have G:((ks.map AY).zip vs).map (·.1)=ks.map AY:=by
  rw[<-unzip_fst,unzip_zip]
  ·rw[aA];exact c
 have h:∀O' ρ' σ' H',H' p=some (.frz o (.dT ((ks.map AY).zip vs)))->Bag H' W.b W.a->∀i,(i<(ks.map AT).length->(FF p o ((ks.map AY).zip vs)).go i H')/\((ks.map AT).length<=i->(FF p o ((ks.map AY).zip vs)).stop i H') /\
   ∀v g,(FF p o ((ks.map AY).zip vs)).yld i H' v g->∀x,(ks.map AT)[i]?=some x->Step W.b W.a H' g/\RF { W with O:=O' } ρ' σ' H' .fr g x v:=λO' ρ' σ' H' e E i=>by
  refine⟨λhi=>⟨e,by rw[u];simpa using hi⟩,λhi=>⟨e,by rw[u];simpa using hi⟩,λv g y x l=>?_⟩;obtain⟨d,q,k,rfl,n,D⟩:=y;subst d;rw[G,bO]at n;rw[bO]at l;cases A:ks[i]? with
  |none=>rw[A]at l;cases l
  |some I =>
   rw[A]at n l;cases n;cases l;refine⟨Step.refl E,q,_,rfl,D,?_⟩;exact AB.ints.mpr (by simp[AY,bZ,Function.comp_def,kV])
 refine⟨λO' ρ' σ' H' c i=>?_,λw O' ρ' σ' H' c i=>?_⟩
 ·obtain⟨J,rfl,rfl,B,st⟩:=c;exact h _ _ _ H' (st.same p _ s z) st.bag i
 ·obtain⟨rfl,c⟩:=c;have n:=Fh ok c (Fi w);have C:¬AC W ρ σ f p:=by
   cases f with
   |nw=>obtain⟨q,us,j,d,_⟩:=r.1;cases j;exact d
   |fr=>obtain⟨q,us,j,d,_⟩:=r;cases j;exact d
   |cl=>obtain⟨q,us,j,d,_⟩:=r;cases j;exact d
   |_=>simp[B4]at w
  exact h _ _ _ H' (n.1 p _ C z).2 c.bag i
section
variable{ι:Type}{Xs:ι->Cx}{a:Expr}{pa:pE}
theorem AAX(h:QE Xs a pa):QI Xs tg a (Sc pa):=by
 obtain⟨t,h1,h2⟩:=h;refine⟨Sb t,λi=>AAV (h1 i),λW ρ σ H R K ok n q=>h2 W ρ σ H _ _ ok n λx f v H1 ⟨ks,xs,e,k1⟩ d g=>?_⟩;subst e;have c:=ok.step d;obtain⟨p,vs,rfl,_,⟨o,l⟩,s,r⟩:=LZ c g;have j:=AAW c g (s.trans r.length) l;exact⟨p,o,_,rfl,l,q _ _ _ _ H1 k1 d j.1 j.2⟩
theorem AAY{st:Stmt}{p:pS}(k:Nat)(h:QS Xs st p):QS Xs st (Mg k p):=by
 obtain⟨t,h1,h2⟩:=h;refine⟨_,λi=>AAT k (h1 i),λW ρ σ H D E ok c r=>?_⟩;unfold Mg at c;split at c
 ·rename_i ks xs e;obtain⟨w,j,g,s,C,B,y,A,vs,x,v,u⟩:=ok.slot k _ e;subst s;refine⟨g,_,j,x,λo=>?_⟩;have l:=E6 (o:=HO.frz o (.dT ((ks.map AY).zip vs))) ok ⟨k,_,e,j⟩ (f:=.fr) (.inr rfl);have d:=ok.mut (x':=.fT ks xs) (o:=HO.frz o (.dT ((ks.map AY).zip vs))) e j (λ_ z=>nomatch z) ⟨vs,⟨o,Aa⟩,v,u.keep l.1 l.2⟩;have a:=d.frzS (k:=k) r.noO;have n:k<ρ.length:=by
   rcases cE k ρ.length with z|z
   ·exact z
   ·rw[bQ z]at e;cases e
  have q:frzS k (ρ.set k (.own (.fT ks xs)))=ρ.set k (.fr (.fT ks xs)):=by
   unfold frzS;rw[bY n];exact set_set ..
  rw[q]at a;exact h2 W _ σ _ D E a c r
 ·exact c.elim
end
end L2
namespace L2
open PySem PySem.Spec PyProof.Rows PySem.W SeqAt
theorem Mj:∀{us:Do} {ns:By},IntsAre us ns->∀(j:Nat) (h:j<us.length),∃t,us[j]=.int (ns.getD j 0) t
 |_,_,.nil,j,h=>by simp at h
 |_,_,.cons n t r,0,h=>⟨t,rfl⟩
 |_,_,.cons n t r,j+1,h=>by
  obtain⟨u,e⟩:=Mj r j (by simpa using h);exact⟨u,by simpa using e⟩
theorem Sd:∀(ns ms:By),((List.range (min ns.length ms.length)).all (λj=>ns.getD j 0==ms.getD j 0)&&ns.length==ms.length)=decide (ns=ms)
 |[],[]=>rfl
 |[],_::_=>by simp
 |_::_,[]=>by simp
 |a::ns,b::ms=>by
  have c:=Sd ns ms;have e:min (a::ns).length (b::ms).length=min ns.length ms.length+1:=by simp[Nat.succ_min_succ]
  rw[e,range_succ_eq_map,all_cons,all_map];simp only[getD_cons_zero,Function.comp_def,getD_cons_succ,length_cons];have:((ns.length+1==ms.length+1):Bool)=(ns.length==ms.length):=by simp
  rw[this,Bool.and_assoc,c];by_cases h:a=b<;>simp[h]
theorem AAZ{l b:Addr}{vs:Do}{ns ms:By}(p:s.heap.IsTuple l us.toArray)(q:s.heap.IsTuple b vs.toArray)(hi:IntsAre us ns)(c:IntsAre vs ms)(y:A.units<cLine):EqAt A s (.ref l) (.ref b) (decide (ns=ms)):=by
 by_cases h:l=b
 ·subst h;obtain⟨o,i,_,n,d⟩:=p;obtain⟨o',u,_,w,a⟩:=q;rw[i]at u;cases u;rw[d]at a;have:us=vs:=by injection a with a _;exact toArray_inj a
  subst this;have:ns=ms:=by
   clear d a
   induction hi generalizing ms with
   |nil=>cases c;rfl
   |cons n t r x=>cases c with|cons w t' v=>rw[x v]
  subst this;rw[aK rfl];exact EqAt.same _
 ·have l1:=hi.length;have l2:=c.length;have k:=RcAt.tuples (e:=λj=>ns.getD j 0==ms.getD j 0) p q y λj h1 h2=>by
   have h1:j<us.length:=by simpa using h1
   have h2:j<vs.length:=by simpa using h2
   obtain⟨t,i⟩:=Mj hi j h1;obtain⟨t',d⟩:=Mj c j h2;have g:us.toArray[j]=.int (ns.getD j 0) t:=by simpa using i
   have f:vs.toArray[j]=.int (ms.getD j 0) t':=by simpa using d
   rw[g,f];exact EqAt.int_int _ _ _ _
  rw[size_toArray,size_toArray,l1,l2,Sd]at k;exact EqAt.of_refs h k
def Jk(h:Heap)(cf:By->Int)(ps:List (Addr×By)):Prop:=∀q∈ps,∃(r:Addr) (t:Tok) (us:Do) (o:Obj) (n:Nat),h.get? q.1=some o/\o.cls=.type "tuple"/\o.data=.seq #[.ref r,.int (cf q.2) t] n/\h.IsTuple r us.toArray/\IntsAre us q.2
theorem AAa{ps:List (Addr×By)}{cf:By->Int}(f:A.units<cLine)(g:Jk s.heap cf ps)(l:∀q∈ps,∀q'∈ps,q.1=q'.1->q.2=q'.2):Cmp (model prog w) A E s (tuples' false) Df (Cy ps) (·∈(pairsOf (rv ps)).toList) where
 ask:=λx y d c R st B h=>by
  rw[JT]at d c;obtain⟨p,j,rfl⟩:=bU.mp d;obtain⟨q,i,rfl⟩:=bU.mp c;rw[FB l j,FB l i]at h;refine L7 B h λT Q a=>?_;obtain⟨z,u,us,J,M,H,O,D,o,i1⟩:=g p j;obtain⟨v,r,vs,I,L,G,N,C,n,i2⟩:=g q i;refine kat_lt H D G C ?_;show KatLex prog w A false (decide (2<2)) Q [(Value.ref z,Value.ref v),(.int (cf p.2) u,.int (cf q.2) r)] 0 s;refine kat_cons (AAZ o n i1 i2 f prog w _ _ ?_);by_cases e:p.2=q.2
  ·rw[aK e];refine kat_yes (kat_cons (EqAt.int_int _ _ _ _ prog w _ _ ?_));rw[e,show(cf q.2==cf q.2)=true by simp];refine kat_yes (kat_nil ?_);rw[e]at a;have:Df.blt q.2 q.2=false:=FZ _;rw[this]at a;exact a
  ·rw[cJ e];refine kat_no ?_;exact kat_one _ _ (HT.lt_tupInts (E:=λ_ _=>False) o n (by simpa using i1) (by simpa using i2) f a)
theorem AAb{ps:List (Addr×By)}{cf:By->Int}(i:Jk s.heap cf ps)(h2:¬ps.length<2):wpAny (model prog w) A (keyKind' (rv ps).toArray) (λκ' s'=>κ'=tuples' false/\s'=s) E s:=by
 have key:∀{l:List (Addr×By)},Jk s.heap cf l->∃fs,KatTups s.heap (l.map λq=>Value.ref q.1) fs/\fs.length=l.length/\∀v∈fs,Looks (model prog w) s.heap (typeOf v) (.type "tuple"):=by
  intro l
  induction l with
  |nil=>exactλ_=>⟨[],.nil,rfl,λv g=>nomatch g⟩
  |cons q r f =>
   intro h;obtain⟨fs,a,b,c⟩:=f λq j=>h q (bT _ j);obtain⟨d,B,us,C,D,z,y,u,⟨or,o,n,_⟩,i1⟩:=h q cA;refine⟨.ref d::fs,.cons z y u (by simp) a,by simp[b],λx hx=>?_⟩;rcases aF.mp hx with rfl|hx
   ·rw[<-n];exact(Looks.ld o).andThen .now
   ·exact c x hx
 obtain⟨fs,e,G,p⟩:=key i;exact kat_kind (T:=.type "tuple") e ⋯ p rfl ⟨rfl,rfl⟩
def Se:dG->Hp->VK->Prop:=λxs H Q=>∃(p:Addr) (ps:List (Addr×By)) (cf:By->Int),xs=[.ref p]/\H p=some (.lst (CF ps))/\(∀q∈ps,∃r,H q.1=some (.tup [.ref r,.int (cf q.2)])/\H r=some (.tup (q.2.map V.int)))/\ps.length<=16777216 /\
 ∀(l:Addr) (ps':List (Addr×By)),H l=none->ps'.Perm ps->BR (ps'.map (·.2))->Q (.ref l) (AD H l (.lst (CF ps')))
theorem AAc{ps:List (Addr×By)}{cf:By->Int}(d:∀q∈ps,∃r,H q.1=some (.tup [.ref r,.int (cf q.2)])/\H r=some (.tup (q.2.map V.int))):∀q∈ps,∀q'∈ps,q.1=q'.1->q.2=q'.2:=λq f q' c e=>by
 obtain⟨r,h1,a⟩:=d q f;obtain⟨h,h2,g⟩:=d q' c;rw[e,h2]at h1;injection h1 with h1
 injection h1 with h1
 injection h1 with h1 _
 injection h1 with h1
 rw[<-h1,g]at a;injection a with a
 injection a with a
 exact(Rf a).symm
theorem Sf(I:Inv X qA σ H s){ps:List (Addr×By)}{cf:By->Int}(i:∀q∈ps,∃r,H q.1=some (.tup [.ref r,.int (cf q.2)])/\H r=some (.tup (q.2.map V.int))){h1:Heap}(k:∀b o,s.heap.get? b=some o->h1.get? b=some o):Jk h1 cf ps:=λq j=>by
 obtain⟨r,y,x⟩:=i q j;obtain⟨z,a,tt,_⟩:=I.tuple (.of y);obtain⟨o,w,v,h,u⟩:=tt;obtain⟨us,e,f,_⟩:=I.tuple (.of x);obtain⟨c,p,n,g,l⟩:=f;cases a with
 |cons x1 a =>
  cases a with
  |cons d a =>
   cases a;cases x1;obtain⟨t,rfl⟩:=d;exact⟨r,t,us,o,h,k _ o w,v,u,⟨c,k _ c p,n,g,l⟩,Es e⟩
theorem AAd{k:Nat}(w:Room k X.A):BJ X (.builtin "sorted") Se:=by
 intro qA s σ H xs us Q I r h;obtain⟨p,ps,G,rfl,g,f,i,k⟩:=h;obtain⟨u,rfl,l⟩:=r.one;cases l;obtain⟨qH,r,pl,n⟩:=I.list (.of g);have c:=LV r;subst c;have d:∀a:List (Addr×By),a.Perm ps->BR (a.map (·.2))->EP X qA σ Q (.ref (s.heap.objs.size+1)) { s with heap:=sortedAll s.heap (rv ps) (rv a).toArray }:=λa h1 h2=>by
  obtain⟨e,x⟩:=sortedAll_at s.heap (rv ps) (rv a).toArray;refine⟨.ref (s.heap.objs.size+1),_,I.laid (t':=s.toks) (o:=.lst (CF a)) (λb o q=>sortedAll_old q) (cR _) ⟨?_,_,e,JE a,x⟩,rfl,k _ a (I.hok.fresh (cR _)) h1 h2⟩;rw[aA,h1.length_eq,cT];exact i
 by_cases h2:ps.length<2
 ·refine QR pl.isList (by simpa using h2) (d ps (List.Perm.refl _) ?_)
  match ps,h2 with
  |[],_=>exact List.Pairwise.nil
  |[_],_=>exact pairwise_singleton _ _
 ·have j:=AAc f;have D:=w.un;refine L6 (κ:=tuples' false) (O:=Df) (ky:=Cy ps) pl.isList (by simpa using h2) (by simpa using i) (λC h1 _ k1=>AAb (s:={ s with heap:=h1 }) (Sf I f k1) h2) (λC h1 E k1=>AAa (s:={ s with heap:=h1 }) ⋯ (Sf I f k1) j) λst g v=>?_;obtain⟨a,B,z,y⟩:=HZ j g v;rw[y];exact d a B z
def Mk:pC:=p1 λx f K=>∃(t:List (By×Int)) (cf:By->Int),x=.lst (t.map λq=>.tup [AT q.1,.int q.2])/\t.length<=16777216/\(∀q∈t,q.2=cf q.1)/\∀t':List (By×Int),t'.Perm t->BR (t'.map (·.1))->K (.lst (t'.map λq=>.tup [AT q.1,.int q.2])) .nw
theorem Sg{b:Addr}{Z:Addr->Prop}{H:Hp}:∀{t:List (By×Int)} {vs:dG},AB b Z H (t.map λq=>.tup [AT q.1,.int q.2]) vs->∃ps:List (Addr×By×Int),vs=ps.map (λq=>V.ref q.1)/\ps.map (·.2)=t/\∀q∈ps,∃r,H q.1=some (.tup [.ref r,.int q.2.2])/\H r=some (.tup (q.2.1.map V.int))
 |[],vs,h=>⟨[],h,rfl,λq g=>nomatch g⟩
 |q::t,vs,h=>by
  obtain⟨v,r,rfl,⟨p,us,rfl,j,u,w,rfl,⟨p2,d,rfl,a,s⟩,c,f,rfl,o,n⟩,l⟩:=h;cases(show f=[]from n);cases(show c=.int q.2 from o);rw[AB.ints.mp s]at a;obtain⟨ps,rfl,e,i⟩:=Sg l;exact⟨(p,q)::ps,rfl,by rw[map_cons,e],λq' hq'=>by
   rcases aF.mp hq' with rfl|hq'
   ·exact⟨p2,j,a⟩
   ·exact i q' hq'⟩
theorem Si{b:Addr}{Z:Addr->Prop}{H:Hp}:∀{ps:List (Addr×By)} {cf:By->Int},(∀q∈ps,∃r,H q.1=some (.tup [.ref r,.int (cf q.2)])/\H r=some (.tup (q.2.map V.int)))->AB b Z H ((ps.map λq=>(q.2,cf q.2)).map λq=>.tup [AT q.1,.int q.2]) (CF ps)
 |[],_,_=>rfl
 |q::ps,cf,h=>by
  obtain⟨r,h1,h2⟩:=h q (by simp);exact⟨_,_,rfl,⟨q.1,_,rfl,h1,_,_,rfl,⟨r,_,rfl,h2,AB.ints.mpr rfl⟩,_,_,rfl,rfl,rfl⟩,Si λq' a=>h q' (by simp[a])⟩
theorem AAe:B3 Se Mk:=λW ρ σ Hs H Q K xs vs ok st r n q=>by
 unfold Mk p1 at n;split at n
 ·obtain⟨v,rfl,rv⟩:=r.one;obtain⟨t,cf,rfl,d,j,w⟩:=n;obtain⟨p,us,rfl,c,s⟩:=Bx ok rv;obtain⟨ps,rfl,e,u⟩:=Sg s;subst e;have h:∀q∈ps.map (λq=>(q.1,q.2.1)),∃r,H q.1=some (.tup [.ref r,.int (cf q.2)])/\H r=some (.tup (q.2.map V.int)):=λq o=>by
   obtain⟨z,d,rfl⟩:=bU.mp o;obtain⟨r,a,b⟩:=u z d;exact⟨r,by rw[a,j z.2 (aP d)],b⟩
  have x:(ps.map (·.2))=(ps.map (λq=>(q.1,q.2.1))).map λq=>(q.2,cf q.2):=by
   rw[bZ];refine cF λz d=>?_;show z.2=(z.2.1,cf z.2.1);rw[<-j z.2 (aP d)]
  refine⟨p,ps.map (λq=>(q.1,q.2.1)),cf,rfl,by rw[c];simp[CF,bZ,Function.comp_def],h,by rw[aA]at d ⊢;exact d,λl f i h1 h2=>q _ _ _ _ (w (f.map λq=>(q.2,cf q.2)) (by rw[x];exact h1.map _) (by rw[bZ];exact h2)) (Step.new ok.bag i) ?_⟩;have:=Si (b:=W.b) (Z:=AC W ρ σ .nw) (H:=H) (ps:=f) (cf:=cf) λq o=>h q (h1.mem_iff.mp o);exact ET (g:=.nw) ok st (by simp) (by simp) this i
 ·exact n.elim
end L2
namespace L2
open PySem PySem.Spec PyProof.Rows PySem.W
def AAf(t:TE)(i j:Nat):TS:=λD σ H=>t σ H λv H1=>D.nx ((σ.set i (some v)).set j (some v)) H1
def Sj(p:pE)(i j:Nat):pS:=λE ρ=>p ρ λx _=>x.imm=true/\E.nx ((ρ.set i (.sh x)).set j (.sh x))
theorem AAg{y:Str}{e:Expr}{p1 p2:Pos}(c:X.N.Nodup)(hi:X.N[i]?=some x)(n:X.N[j]?=some y)(g:CA X.env.scope x)(f:CA X.env.scope y)(q:PE X e te)
  (l:(assignEach [.Name x p1,.Name y p2] X.env).map (·.2)=[assign (.Name x p1) X.env,assign (.Name y p2) X.env]) (hw:swappedStores [.Name x p1,.Name y p2] e X.env=pure none)
  (p:X.fn x=true\/X.env.scope.names.lookup x=some .local) (o:X.fn y=true\/X.env.scope.names.lookup y=some .local):PS X (.Assign [.Name x p1,.Name y p2] e pos) (AAf te i j):=by
 intro qA s σ H D I h;refine wpAny_Assign_two (AG (q qA s σ H _ I h) λv C ⟨z,H1,w,a,d⟩=>?_) l hw;exact wpAny_assign_Name (GP w c hi g a (λB u=>wpAny_assign_Name (GP u c n f a (λA r=>⟨_,H1,r,d⟩) o)) p)
section
variable{ι:Type}{Xs:ι->Cx}{a:Expr}{pa:pE}{p1 p2:Pos}{y:Str}
theorem AAh(L:∀l,(Xs l).N.Nodup)(h:QE Xs a pa)(hi:∀l,(Xs l).N[i]?=some x:=by intro _;rfl)(G:∀l,(Xs l).N[j]?=some y:=by intro _;rfl)(A:∀l,CA (Xs l).env.scope x:=by intro _;trivial)(w:∀l,CA (Xs l).env.scope y:=by intro _;trivial)
  (B:∀l,(assignEach [.Name x p1,.Name y p2] (Xs l).env).map (·.2)=[assign (.Name x p1) (Xs l).env,assign (.Name y p2) (Xs l).env]:=by intro _;rfl) (hw:∀l,swappedStores [.Name x p1,.Name y p2] a (Xs l).env=pure none:=by intro _;rfl)
  (J:∀l,(Xs l).fn x=true\/(Xs l).env.scope.names.lookup x=some .local:=by intro _;trivial) (I:∀l,(Xs l).fn y=true\/(Xs l).env.scope.names.lookup y=some .local:=by intro _;trivial) :
  QS Xs (.Assign [.Name x p1,.Name y p2] a pos) (Sj pa i j):=by
 obtain⟨t,h1,h2⟩:=h;refine⟨_,λl=>AAg (L l) (hi l) (G l) (A l) (w l) (h1 l) (B l) (hw l) (J l) (I l),λW ρ σ H D E ok C r=>h2 W ρ σ H _ _ ok C λz f v H1 ⟨d,k⟩ q g=>?_⟩;have c:=ok.step q;have s:RF W ρ σ H1 .fr H1 z v:=(g.any c).imm d;obtain⟨p,O,n⟩:=Ok.set (k:=i) (K:=λρ'=>ρ'=ρ.set i (.sh z)) c (Step.refl c.bag) s (by unfold BQ;rw[aC d]);subst O;have e:RF W (ρ.set i (.sh z)) (σ.set i (some v)) H1 .fr H1 z v:=(g.any c).imm d;obtain⟨o,M,u⟩:=Ok.set (k:=j) (K:=λρ'=>ρ'=(ρ.set i (.sh z)).set j (.sh z)) n (Step.refl n.bag) e (by unfold BQ;rw[aC d]);subst M;exact r.nx _ _ _ k u
theorem QE.weak{p m:pE}(h:QE Xs a p)(hw:∀ρ K,m ρ K->p ρ K):QE Xs a m:=let⟨t,h1,h2⟩:=h;⟨t,h1,λW ρ σ H Q K ok c q=>h2 W ρ σ H Q K ok (hw ρ K c) q⟩
end
def FH(K:Fg)(l:Addr)(n:Nat):It :=
 ⟨λi H=>i<n/\∃xs,Aq K H l xs/\xs.length=n,λi H v H'=>H'=H/\∀xs,Aq K H l xs->xs[n - 1 - i]?=some v,λi H=>n<=i⟩
theorem AAi{P:Program}{K:Fg}(l it:Addr)(n:Nat):Turn P w K tg (FH K l n) [it] it (λi h=>i<=n/\h.IsRevIter it l ((n:Int) - 1 - (i:Int))) where
 mem:=by simp
 obj:=λi h st b g=>by
  have e:b=it:=by simpa using g
  subst e;obtain⟨_,o,e,c,d⟩:=st;exact⟨o,e,λv z=>by rw[d]at z;cases z⟩
 keep:=λi h h' st k=>⟨st.1,st.2.at λo e=>k it (by simp) o e⟩
 item:=by
  intro X y r A N i qA s σ H E I q st j;subst y r A;obtain⟨hi,xs,M,hl⟩:=j;obtain⟨qH,rv,p,hz⟩:=I.list M;have e:(n:Int) - 1 - (i:Int)=((n - 1 - i:Nat):Int):=⋯;have a:=st.2;rw[e]at a;have L:xs[n - 1 - i]?=some (xs[n - 1 - i]'⋯):=aH ⋯;obtain⟨u,U,Q⟩:=rv.get L;obtain⟨J,G,Y,D,C,B⟩:=q it (by simp);refine wpAny_pyNext_rev_item a p.isList (x:=u) (by simpa using U) λh' f O=>?_;have I1:Inv X qA σ H { s with heap:=h' }:=I.turned (t':=s.toks) (λb o g e=>(O.2 b g).trans e) J G D C B;have e2:((n - 1 - i:Nat):Int) - 1=(n:Int) - 1 - ((i+1:Nat):Int):=⋯;rw[e2]at f;obtain⟨o,e,c,d⟩:=id f;exact⟨u,rfl,GV (s:={ s with heap:=h' }) e c d (by decide) ⟨_,H,I1,Q,⟨rfl,λys T=>by rw[I.list_inj T M];exact L⟩,⟨hi,f⟩,λb g=>(q b g).1⟩⟩
 done:=by
  intro X y r A N i qA s σ H E I q st j;subst y r A;have j:n<=i:=j;have ei:i=n:=by have:=st.1;lia
  subst ei;obtain⟨J,G,Y,D,C,B⟩:=q it (by simp);have a:=st.2;rw[show(i:Int) - 1 - (i:Int)=-1 by lia]at a;exact wpAny_pyNext_rev_end (I.ok.hd N) a λh' eb=>⟨rfl,I.turned (t':=s.toks) (λb o g e=>eb b o g e) J G D C B⟩
 self:=λ_ _ _ _ _ st h=>wpAny_pyIter_revIter st.2 h
def Sk(K:Fg)(ta:TA):TI:=λσ H R=>ta σ H λvs H1=>∃l xs,vs=[.ref l]/\Aq K H1 l xs/\R (FH K l xs.length) H1
theorem AAj{a:Expr}{ta:TA}{p:Pos}(w:Gl X "reversed")(u:X.mg "reversed"=none)(y:PA X [a] ta)(j:starEach [a] X.env=[(false,eval a X.env)]:=by rfl):PI X tg (.Call (.Name "reversed" p) [a] [] pos) (Sk X.K ta):=by
 intro qA s σ H R I h;refine Call_ (ED I w u boot_reversed (PyProof.Rows.callWith_type1 (AG (y pos qA s σ H _ I h) λus c ⟨vs,H1,d,g,i⟩=>?_) j rfl));obtain⟨l,xs,e,n,q⟩:=i;subst e;cases g with
 |cons r f =>
  cases f;cases r;obtain⟨qH,rv,pl,z⟩:=d.list n;have v:=rv.length;refine call_reversed_list pl.isList (wpAny_pyIter_revIter ⟨_,bP _ rfl,rfl,rfl⟩ ?_);refine⟨c.heap.objs.size,[c.heap.objs.size],_,_,H1,rfl,d.kept (t':=c.toks) λb o e=>aS _ e,AAi l _ xs.length,⟨cD _,_,bP _ rfl,rfl,?_⟩,λb x=>?_,q⟩
  ·simp[revObj,v]
  ·have e:b=c.heap.objs.size:=by simpa using x
   subst e;exact d.fpOk (aQ _) (d.hok.fresh (aQ _))
def Sl(p:pA):pI:=λρ K=>p ρ λxs=>∃ys f,xs=[(P.lst ys,f)]/\K ys.reverse f.el (B4 f)
theorem AAk{K:Fg}(ok:Ok W ρ σ H)(r:RF W ρ σ Hs f H (.lst xs) (.ref p))(w:H p=some (.lst vs))(rv:AB W.b (AC W ρ σ f) H xs vs) :
  Cv W (Ff W ρ σ H) (FH K p vs.length) xs.reverse f.el/\(B4 f=true->Cv W (Fe W ρ σ H) (FH K p vs.length) xs.reverse f.el):=by
 have n:p≠W.b:=by
  obtain⟨q,us,j,c,_⟩:=r.any ok;cases j;exact c
 have g:=rv.length;have h:∀O' ρ' σ' H',H' p=some (.lst vs)->AB W.b (AC { W with O:=O' } ρ' σ' f) H' xs vs->Bag H' W.b W.a->∀i,(i<xs.reverse.length->(FH K p vs.length).go i H')/\(xs.reverse.length<=i->(FH K p vs.length).stop i H') /\
   ∀v d,(FH K p vs.length).yld i H' v d->∀x,xs.reverse[i]?=some x->Step W.b W.a H' d/\RF { W with O:=O' } ρ' σ' H' f.el d x v:=λO' ρ' σ' H' e A D i=>by
  rw[length_reverse];refine⟨λhi=>⟨⋯,vs,.of e,rfl⟩,λhi=>by show vs.length<=i;lia,λv d y x l=>?_⟩;obtain⟨c,y⟩:=y;subst c;have hi:i<xs.length:=by
   have:=(aI.mp l).1
   rwa [length_reverse]at this
  rw[getElem?_reverse hi,g]at l;obtain⟨u,I,G⟩:=A.get l;have z:=y vs (.of e);rw[I]at z;cases z;exact⟨Step.refl D,RF.ofEl (W:={ W with O:=O' }) G⟩
 refine⟨λO' ρ' σ' H' g i=>?_,λs O' ρ' σ' H' g i=>?_⟩
 ·obtain⟨E,rfl,rfl,B,st⟩:=g;exact h _ _ _ H' (st.same p _ n w) (rv.keep (LB st E) λq us e=>st.same q _ (ok.bag.neT e).1 e) st.bag i
 ·obtain⟨rfl,g⟩:=g;have o:=Fh ok g (Fi s);have C:¬AC W ρ σ f p:=by
   cases f with
   |nw=>obtain⟨q,us,j,c,_⟩:=r.1;cases j;exact c
   |fr=>obtain⟨q,us,j,c,_⟩:=r;cases j;exact c
   |cl=>obtain⟨q,us,j,c,_⟩:=r;cases j;exact c
   |_=>simp[B4]at s
  exact h _ _ _ H' (o.1 p _ C w).2 (rv.keep o.1 o.2) g.bag i
section
variable{ι:Type}{Xs:ι->Cx}{a:Expr}{pa:pA}
theorem AAl{p:Pos}(x:∀i,(Xs i).K=Kf)(s:∀i,(Xs i).mg "reversed"=none)(h:QA Xs [a] pa)(w:∀i,Gl (Xs i) "reversed":=by intro _;rfl)(r:∀i,starEach [a] (Xs i).env=[(false,eval a (Xs i).env)]:=by intro _;rfl):QI Xs tg (.Call (.Name "reversed" p) [a] [] pos) (Sl pa):=by
 obtain⟨t,h1,h2⟩:=h;refine⟨Sk Kf t,λi=>by have:=AAj (tg:=tg) (p:=p) (pos:=pos) (w i) (s i) (h1 i) (r i);rw[x i]at this;exact this,λW ρ σ H R K ok u q=>h2 W ρ σ H _ _ ok u λxs vs H1 ⟨ys,f,e,k1⟩ d o=>?_⟩;subst e;obtain⟨v,t,rfl,rv,y⟩:=o;cases(show t=[]from y);have c:=ok.step d;obtain⟨l,us,rfl,g,n⟩:=Bx c rv;have j:=AAk (K:=Kf) c rv g n;exact⟨l,us,rfl,.of g,q _ _ _ _ H1 k1 d j.1 j.2⟩
end
end L2
namespace L2
open PySem
def Ar{α:Type}(f:α->By)(t:List α):List By:=t.foldl (λks q=>A0 ks (f q)) []
section
variable{α:Type}{f:α->By}{g:α->P}
theorem Sm(t:List α)(q:α):Ar f (t++[q])=A0 (Ar f t) (f q):=by unfold Ar;rw[foldl_append];rfl
theorem AAm{x:By}:x∈A0 ks r↔x∈ks\/x=r:=by
 unfold A0;split
 ·rename_i h;exact⟨.inl,λz=>z.elim id λe=>e▸h⟩
 ·rw[bA,bI]
theorem AAn(h:ks.Nodup):(A0 ks r).Nodup:=by
 unfold A0;split
 ·exact h
 ·rename_i d;exact nodup_append.mpr ⟨h,by simp,λa f b c e=>d (by simp at c;rw[<-c,<-e];exact f)⟩
theorem Sn(t:List α):∀(ks:List By),(∀x,x∈t.foldl (λks q=>A0 ks (f q)) ks↔x∈ks\/∃q∈t,f q=x)/\(ks.Nodup->(t.foldl (λks q=>A0 ks (f q)) ks).Nodup):=by
 induction t with
 |nil=>intro ks;exact⟨λx=>by simp,id⟩
 |cons q t c =>
  intro ks;obtain⟨a,b⟩:=c (A0 ks (f q));refine⟨λx=>?_,λh=>b (AAn h)⟩;rw[foldl_cons,a,AAm];simp only[aF,exists_eq_or_imp];constructor
  ·rintro((z|z)|z)
   ·exact .inl z
   ·exact .inr (.inl z.symm)
   ·exact .inr (.inr z)
  ·rintro(z|z|z)
   ·exact .inl (.inl z)
   ·exact .inl (.inr z.symm)
   ·exact .inr z
theorem Jl{t:List α}{x:By}:x∈Ar f t↔∃q∈t,f q=x:=by
 have:=(Sn (f:=f) t []).1 x;simpa[Ar]using this
theorem F6(t:List α):(Ar f t).Nodup:=(Sn (f:=f) t []).2 nodup_nil
theorem Sq(t:List α):(Ar f t).length<=t.length:=by
 have:∀ks:List By,(t.foldl (λks q=>A0 ks (f q)) ks).length<=ks.length+t.length:=by
  induction t with
  |nil=>intro ks;simp
  |cons q t c =>
   intro ks;have a:=c (A0 ks (f q));have b:=Sa ks (f q);rw[foldl_cons,length_cons];lia
 simpa[Ar]using this []
def Ac(f:α->By)(t:List α)(r:By):List α:=t.filter λq=>decide (f q=r)
theorem Ml(t:List α)(q:α)(r:By):Ac f (t++[q]) r=if f q=r then Ac f t r++[q]else Ac f t r:=by
 unfold Ac;rw[filter_append,filter_cons,filter_nil];by_cases h:f q=r
 ·rw[aC h,aC (by simpa using h)]
 ·rw[aB h,aB (by simpa using h),cO]
theorem AAo(t:List α)(q:α):Dl (Ar f t) ((Ar f t).map λr=>(Ac f t r).map g) (f q) (g q)=(Ar f (t++[q])).map λr=>(Ac f (t++[q]) r).map g:=by
 have d:=F6 (f:=f) t;rw[Sm];unfold Dl;by_cases h:f q∈Ar f t
 ·rw[aC h,show A0 (Ar f t) (f q)=Ar f t by unfold A0;rw[aC h]];apply ext_getElem?;intro i;rw[getElem?_modify,bO,bO];cases e:(Ar f t)[i]? with
  |none=>rfl
  |some r =>
   simp only[Option.map_some,Option.map_eq_map];have hi:=(aI.mp e).1;have c:=(aI.mp e).2;rw[Ml];by_cases a:f q=r
   ·have:(Ar f t).idxOf (f q)=i:=by rw[a,<-c];exact d.idxOf_getElem i hi
    rw[aC this,aC a,cN];rfl
   ·have:(Ar f t).idxOf (f q)≠i:=λz=>a (by
     have h2:=getElem_idxOf (idxOf_lt_length_iff.mpr h);rw[<-c,<-h2];simp[z])
    rw[aB this,aB a]
 ·rw[aB h,show A0 (Ar f t) (f q)=Ar f t++[f q] by unfold A0;rw[aB h],cN]
  congr 1
  ·refine cF λr l=>?_;rw[Ml,aB (λz:f q=r=>h (z▸l))]
  ·rw[map_cons,map_nil,Ml,aC rfl];have:Ac f t (f q)=[]:=filter_eq_nil_iff.mpr λx j z=>h (Jl.mpr ⟨x,j,by simpa using z⟩);rw[this];rfl
end
abbrev Dm:=By×By×Int
def Ao:Tl->Tl->List Dm
 |[],_=>[]
 |_::_,[]=>[]
 |(r,c)::f,(s,d)::g=>(r,s,min c d)::if c=d then Ao f g else if c<d then Ao f ((s,d - c)::g)else Ao ((r,c - d)::f) g
termination_by f g=>f.length+g.length
theorem Ef(g:Tl):Ao [] g=[]:=by rw[Ao]
theorem FI(f:Tl):Ao f []=[]:=by cases f<;>rw[Ao]
theorem Mm(r:By)(c:Int)(f:Tl)(s:By)(d:Int)(g:Tl):Ao ((r,c)::f) ((s,d)::g)=(r,s,min c d)::if c=d then Ao f g else if c<d then Ao f ((s,d - c)::g)else Ao ((r,c - d)::f) g:=by rw[Ao]
abbrev Ps(t:Tl):Prop:=∀q∈t,0<q.2
theorem Eg{M:Tl->Tl->Prop}(h1:∀g,M [] g)(h2:∀q f,M (q::f) [])(l:∀r f s c g,0<c->Ps f->Ps g->M f g->M ((r,c)::f) ((s,c)::g))
  (j:∀r c f s d g,0<c->c<d->Ps f->Ps g->M f ((s,d - c)::g)->M ((r,c)::f) ((s,d)::g)) (i:∀r c f s d g,0<d->d<c->Ps f->Ps g->M ((r,c - d)::f) g->M ((r,c)::f) ((s,d)::g)) :
  ∀(n:Nat) (f g:Tl),f.length+g.length<=n->Ps f->Ps g->M f g
 |0,f,g,p,_,_=>by
  have:f=[]:=cM ⋯;subst this;exact h1 g
 |n+1,[],g,_,_,_=>h1 g
 |n+1,q::f,[],_,_,_=>h2 q f
 |n+1,(r,c)::f,(s,d)::g,p,o,pg=>by
  have u:0<c:=o (r,c) (by simp);have v:0<d:=pg (s,d) (by simp);have h:Ps f:=λq hq=>o q (by simp[hq]);have a:Ps g:=λq hq=>pg q (by simp[hq]);simp only[length_cons]at p;rcases Int.lt_trichotomy c d with e|e|e
  ·refine j r c f s d g u e h a (Eg h1 h2 l j i n _ _ (by simp;lia) h λq hq=>?_);rcases aF.mp hq with rfl|hq
   ·show 0<d - c;lia
   ·exact a q hq
  ·subst e;exact l r f s c g u h a (Eg h1 h2 l j i n _ _ ⋯ h a)
  ·refine i r c f s d g v e h a (Eg h1 h2 l j i n _ _ (by simp;lia) (λq hq=>?_) a);rcases aF.mp hq with rfl|hq
   ·show 0<c - d;lia
   ·exact h q hq
theorem F7{s:By}{f g:Tl}{c:Int}:Ao ((r,c)::f) ((s,c)::g)=(r,s,c)::Ao f g:=by rw[Mm,aC rfl,Int.min_self]
theorem F8{s:By}{f g:Tl}{c d:Int}(h:c<d):Ao ((r,c)::f) ((s,d)::g)=(r,s,c)::Ao f ((s,d - c)::g):=by rw[Mm,aB ⋯,aC h,Int.min_eq_left ⋯]
theorem F9{s:By}{f g:Tl}{c d:Int}(h:d<c):Ao ((r,c)::f) ((s,d)::g)=(r,s,d)::Ao ((r,c - d)::f) g:=by rw[Mm,aB ⋯,aB ⋯,Int.min_eq_right ⋯]
section
variable{f g:Tl}
theorem AAp(i:Ps f)(pg:Ps g):∀x∈Ao f g,0<x.2.2:=by
 refine Eg (M:=λf g=>∀x∈Ao f g,0<x.2.2) (λg x hx=>by rw[Ef]at hx;cases hx) (λq f x hx=>by rw[FI]at hx;cases hx) (λr f s c g e _ _ a x hx=>?_) (λr c f s d g e h _ _ a x hx=>?_) (λr c f s d g e h _ _ a x hx=>?_) _ f g (aQ _) i pg
 ·rw[F7]at hx;rcases aF.mp hx with rfl|hx
  ·exact e
  ·exact a x hx
 ·rw[F8 h]at hx;rcases aF.mp hx with rfl|hx
  ·exact e
  ·exact a x hx
 ·rw[F9 h]at hx;rcases aF.mp hx with rfl|hx
  ·exact e
  ·exact a x hx
theorem Jm(i:Ps f)(pg:Ps g):∀x∈Ao f g,x.1∈f.map (·.1)/\x.2.1∈g.map (·.1):=by
 refine Eg (M:=λf g=>∀x∈Ao f g,x.1∈f.map (·.1)/\x.2.1∈g.map (·.1)) (λg x hx=>by rw[Ef]at hx;cases hx) (λq f x hx=>by rw[FI]at hx;cases hx) (λr f s c g e _ _ a x hx=>?_) (λr c f s d g e h _ _ a x hx=>?_) (λr c f s d g e h _ _ a x hx=>?_) _ f g (aQ _) i pg
 ·rw[F7]at hx;rcases aF.mp hx with rfl|hx
  ·simp
  ·have:=a x hx;exact⟨bT _ this.1,bT _ this.2⟩
 ·rw[F8 h]at hx;rcases aF.mp hx with rfl|hx
  ·simp
  ·have:=a x hx;exact⟨bT _ this.1,this.2⟩
 ·rw[F9 h]at hx;rcases aF.mp hx with rfl|hx
  ·simp
  ·have:=a x hx;exact⟨this.1,bT _ this.2⟩
theorem AAq(l:Ps f)(pg:Ps g):f≠[]->g≠[]->(Ao f g).length<f.length+g.length:=by
 refine Eg (M:=λf g=>f≠[]->g≠[]->(Ao f g).length<f.length+g.length) (λg h=>bS rfl h) (λq f _ h=>bS rfl h) (λr f s c g i _ _ a _ _=>?_) (λr c f s d g i h _ _ a _ _=>?_) (λr c f s d g i h _ _ a _ _=>?_) _ f g (aQ _) l pg
 ·rw[F7];simp only[length_cons];by_cases e:f=[]
  ·rw[e,Ef];simp
  ·by_cases j:g=[]
   ·rw[j,FI];simp
   ·have:=a e j;lia
 ·rw[F8 h];simp only[length_cons]at a ⊢;by_cases e:f=[]
  ·rw[e,Ef];simp
  ·have:=a e (by simp);lia
 ·rw[F9 h];simp only[length_cons]at a ⊢;by_cases e:g=[]
  ·rw[e,FI];simp
  ·have:=a (by simp) e;lia
theorem AAr(i:Ps f)(pg:Ps g):(f.map (·.1)).Nodup->(g.map (·.1)).Nodup->((Ao f g).map λx=>(x.1,x.2.1)).Nodup:=by
 have key:∀{f g:Tl} {r s:By} {l:List Dm},(∀x∈l,x.1∈f.map (·.1)/\x.2.1∈g.map (·.1))->(r∉f.map (·.1)\/s∉g.map (·.1))->(r,s)∉l.map λx=>(x.1,x.2.1):=λ{f g r s l} h v z=>by
  obtain⟨x,u,e⟩:=bU.mp z;obtain⟨a,b⟩:=h x u;cases e;exact v.elim (λw=>w a) λw=>w b
 refine Eg (M:=λf g=>(f.map (·.1)).Nodup->(g.map (·.1)).Nodup->((Ao f g).map λx=>(x.1,x.2.1)).Nodup) (λg _ _=>by rw[Ef];exact nodup_nil) (λq f _ _=>by rw[FI];exact nodup_nil) (λr f s c g p i pg j h1 h2=>?_) (λr c f s d g p h i pg j h1 h2=>?_) (λr c f s d g p h i pg j h1 h2=>?_) _ f g (aQ _) i pg
 ·rw[F7,map_cons];rw[map_cons,bC]at h1 h2;exact bC.mpr ⟨key (Jm i pg) (.inl h1.1),j h1.2 h2.2⟩
 ·have n:Ps ((s,d - c)::g):=λq hq=>by
   rcases aF.mp hq with rfl|hq
   ·show 0<d - c;lia
   ·exact pg q hq
  rw[F8 h,map_cons];rw[map_cons,bC]at h1;exact bC.mpr ⟨key (Jm i n) (.inl h1.1),j h1.2 (by rw[map_cons]at h2 ⊢;exact h2)⟩
 ·have o:Ps ((r,c - d)::f):=λq hq=>by
   rcases aF.mp hq with rfl|hq
   ·show 0<c - d;lia
   ·exact i q hq
  rw[F9 h,map_cons];rw[map_cons,bC]at h2;exact bC.mpr ⟨key (Jm o pg) (.inr h2.1),j (by rw[map_cons]at h1 ⊢;exact h1) h2.2⟩
theorem Dn(q:By×Int)(t:Tl):Cz (q::t)=q.2+Cz t:=by unfold Cz;simp
theorem Jn{t:Tl}(h:Ps t):0<=Cz t/\(Cz t=0->t=[]):=by
 induction t with
 |nil=>exact⟨by simp[Cz],λ_=>rfl⟩
 |cons q t a =>
  have:=a λx c=>h x (by simp[c]);have:=h q (by simp);rw[Dn];exact⟨⋯,λz=>⋯⟩
theorem Sr(e:By->Int)(i:Ps f)(pg:Ps g):Cz f=Cz g->((Ao f g).map λx=>e x.1 * x.2.2).sum=Ag e f/\((Ao f g).map λx=>e x.2.1 * x.2.2).sum=Ag e g:=by
 have j:∀q (t:Tl),Ag e (q::t)=e q.1 * q.2+Ag e t:=λq t=>by unfold Ag;simp
 have w:Ag e []=0:=rfl;have l:=Eg (M:=λf g=>Ps f->Ps g->Cz f=Cz g->((Ao f g).map λx=>e x.1 * x.2.2).sum=Ag e f/\((Ao f g).map λx=>e x.2.1 * x.2.2).sum=Ag e g) (λg _ pg h=>?_) (λq f i _ h=>?_) (λr f s c g v i pg n _ _ h=>?_) (λr c f s d g v u i pg n _ _ h=>?_) (λr c f s d g v u i pg n _ _ h=>?_) _ f g (aQ _) i pg i pg
 ·exact l
 ·have:g=[]:=(Jn pg).2 (by rw[<-h];rfl);subst this;rw[Ef];exact⟨rfl,rfl⟩
 ·have:q::f=[]:=(Jn i).2 (by rw[h];rfl);cases this
 ·rw[Dn,Dn]at h;obtain⟨a,b⟩:=n i pg (by simp only at h;lia);rw[F7,map_cons,map_cons,sum_cons,sum_cons,a,b,j,j];exact⟨rfl,rfl⟩
 ·have o:Ps ((s,d - c)::g):=λq hq=>by
   rcases aF.mp hq with rfl|hq
   ·show 0<d - c;lia
   ·exact pg q hq
  rw[Dn,Dn]at h;obtain⟨a,b⟩:=n i o (by rw[Dn];simp only at h ⊢;lia);rw[F8 u,map_cons,map_cons,sum_cons,sum_cons,a,b,j,j,j];refine⟨rfl,?_⟩;show e s * c+(e s * (d - c)+Ag e g)=e s * d+Ag e g;rw[<-Int.add_assoc,<-Int.mul_add]
  congr 2
  lia
 ·have p:Ps ((r,c - d)::f):=λq hq=>by
   rcases aF.mp hq with rfl|hq
   ·show 0<c - d;lia
   ·exact i q hq
  rw[Dn,Dn]at h;obtain⟨a,b⟩:=n p pg (by rw[Dn];simp only at h ⊢;lia);rw[F9 u,map_cons,map_cons,sum_cons,sum_cons,a,b,j,j,j];refine⟨?_,rfl⟩;show e r * d+(e r * (c - d)+Ag e f)=e r * c+Ag e f;rw[<-Int.add_assoc,<-Int.mul_add]
  congr 2
  lia
end
abbrev Bo(qK qB qJ:At)(r s:By):By:=AU (qK++qB) (r++s) qJ
theorem Ss{a b:At}{n:Str}(h:n∈a):idx (a++b) n=idx a n:=by
 have h2:=FD h;unfold idx at h2 ⊢;rw[findIdx_append,aC h2]
theorem AAs{a b:At}{n:Str}(h:n∉a):idx (a++b) n=idx b n+a.length:=by
 unfold idx;have:¬a.findIdx (λx=>decide (x=n))<a.length:=λz=>by
  have:=findIdx_getElem (w:=z);simp only[decide_eq_true_eq]at this;exact h (this▸getElem_mem _)
 rw[findIdx_append,aB this]
section
variable{less:At}{s:By}
theorem AAt(d:r.length=qK.length)(c:∀n∈less,n∈qK):AU (qK++qB) (r++s) less=AU qK r less:=by
 unfold AU;refine cF λn a=>?_;have h:=c n a;have hi:=FD h;rw[Ss h,bW,getElem?_append_left ⋯,<-bW]
theorem AAu{r:By}{a b:At}{x:By}{y:By}(h:AU a x ns=AU b y ns){n:Str}(c:n∈ns):x.getD (idx a n) 0=y.getD (idx b n) 0:=by
 unfold AU at h;exact(map_inj_left.mp h) n c
theorem AAv(a:r.length=qK.length)(d:∀n∈less,n∈qB)(ag:AU qK r (Au qK qB)=AU qB s (Au qK qB)):AU (qK++qB) (r++s) less=AU qB s less:=by
 unfold AU;refine cF λn c=>?_;by_cases h:n∈qK
 ·have hi:=FD h;rw[Ss h,bW,getElem?_append_left ⋯,<-bW];exact AAu (r:=r) ag (cW.mpr ⟨h,by simpa using d n c⟩)
 ·rw[AAs h,bW,getElem?_append_right ⋯,<-bW,a,Nat.add_sub_cancel]
theorem AAw(nd:qK.Nodup)(a:r.length=qK.length)(c:∀n∈qK,n∈qJ):AU qJ (Bo qK qB qJ r s) qK=r:=by
 rw[Jc c,AAt a (λ_ h=>h),MJ nd a]
theorem AAx(nd:qB.Nodup)(d:r.length=qK.length)(c:s.length=qB.length)(a:∀n∈qB,n∈qJ)(ag:AU qK r (Au qK qB)=AU qB s (Au qK qB)):AU qJ (Bo qK qB qJ r s) qB=s:=by
 rw[Jc a,AAv d (λ_ h=>h) ag,MJ nd c]
end
abbrev Ah(qK qB:At)(side:At):By×Int->By:=λq=>AU side q.1 (Au qK qB)
def B8(qK qB qJ:At)(t u:Tl):Tl:=(Ar (Ah qK qB qK) t).flatMap λk=>(Ao (Ac (Ah qK qB qK) t k) (Ac (Ah qK qB qB) u k)).map λx=>(Bo qK qB qJ x.1 x.2.1,x.2.2)
structure Agr(qK qB:At)(t u:Tl):Prop where
 nd:qK.Nodup
 ndo:qB.Nodup
 ta:Tal qK.length t
 tb:Tal qB.length u
 ag:Ab qK t (Au qK qB)=Ab qB u (Au qK qB)
section
variable{α:Type}{f:α->By}
theorem FJ{t:List α}{k:By}{q:α}:q∈Ac f t k↔q∈t/\f q=k:=by unfold Ac;rw[cW];simp
theorem GA(t:List α)(k:By):(Ac f t k).Sublist t:=filter_sublist
end
theorem Eh(a:By->Int)(q:By×Int)(t:Tl):Ag a (q::t)=a q.1 * q.2+Ag a t:=by unfold Ag;simp
theorem Mn(a:By->Int)(f:By×Int->By){L:List By}(nd:L.Nodup):∀{t:Tl},(∀q∈t,f q∈L)->(L.map λk=>Ag a (Ac f t k)).sum=Ag a t
 |[],_=>by
  have:∀L:List By,(L.map λk=>Ag a (Ac f ([]:Tl) k)).sum=0:=λL=>by
   induction L with
   |nil=>rfl
   |cons k L d=>rw[map_cons,sum_cons,d];rfl
  rw[this];rfl
 |q::t,h=>by
  have d:=Mn a f nd (t:=t) λx i=>h x (by simp[i]);have e:∀k,Ag a (Ac f (q::t) k)=(if f q=k then a q.1 * q.2 else 0)+Ag a (Ac f t k):=λk=>by
   unfold Ac;rw[filter_cons];by_cases z:f q=k
   ·rw[aC (by simpa using z),aC z,Eh]
   ·rw[aB (by simpa using z),aB z,Int.zero_add]
  simp only[e];rw[MH,d,Eh]
  congr 1
  have j:=h q (by simp);have g:∀(c:Int) (x:By) (L:List By),L.Nodup->(L.map λr=>if x=r then c else 0).sum=if x∈L then c else 0:=by
   intro c x L
   induction L with
   |nil=>intro _;simp
   |cons y L d =>
    intro nd;simp only[bC]at nd;rw[map_cons,sum_cons,d nd.2];by_cases e:x=y
    ·subst e;simp[nd.1]
    ·simp[e]
  rw[g _ _ _ nd,aC j]
theorem Su(qK:At)(t:Tl)(qC:At)(k:By):Cz (Ac (λq=>AU qK q.1 qC) t k)=cnt (A9 qK t qC) k:=by
 induction t with
 |nil=>rfl
 |cons q t a =>
  have e:cnt (A9 qK (q::t) qC) k=(if AU qK q.1 qC=k then q.2 else 0)+cnt (A9 qK t qC) k:=by unfold cnt A9;simp
  rw[e,<-a];unfold Ac;rw[filter_cons];by_cases z:AU qK q.1 qC=k
  ·rw[aC (by simpa using z),aC z,Dn]
  ·rw[aB (by simpa using z),aB z,Int.zero_add]
section
variable{t u:Tl}
theorem Agr.tot(h:Agr qK qB t u)(k:By):Cz (Ac (Ah qK qB qK) t k)=Cz (Ac (Ah qK qB qB) u k):=by
 have e:∀(a:At) (t:Tl) (p:At),cnt (A9 a t p) k=cnt (Ab a t p) k:=λa t p=>by rw[D6,MG]
 rw[Su,Su,e,e,h.ag]
theorem Agr.pa(h:Agr qK qB t u)(k:By):Ps (Ac (Ah qK qB qK) t k):=λq a=>h.ta.pos q (FJ.mp a).1
theorem Agr.pb(h:Agr qK qB t u)(k:By):Ps (Ac (Ah qK qB qB) u k):=λq a=>h.tb.pos q (FJ.mp a).1
theorem Sv{α:Type}{f:α->By}{t:List α}{k:By}:k∈Ar f t↔Ac f t k≠[]:=by
 rw[Jl];constructor
 ·rintro⟨q,a,e⟩ z;have:q∈Ac f t k:=FJ.mpr ⟨a,e⟩;rw[z]at this;cases this
 ·intro z;obtain⟨q,a⟩:=exists_mem_of_ne_nil _ z;exact⟨q,(FJ.mp a).1,(FJ.mp a).2⟩
theorem Agr.both(h:Agr qK qB t u){k:By}:k∈Ar (Ah qK qB qK) t↔k∈Ar (Ah qK qB qB) u:=by
 rw[Sv,Sv];constructor
 ·intro z e;refine z ((Jn (h.pa k)).2 ?_);rw[h.tot,e];rfl
 ·intro z e;refine z ((Jn (h.pb k)).2 ?_);rw[<-h.tot,e];rfl
structure Mem3(qK qB:At)(t u:Tl)(k:By)(x:Dm):Prop where
 a:x.1∈t.map (·.1)
 b:x.2.1∈u.map (·.1)
 la:x.1.length=qK.length
 lb:x.2.1.length=qB.length
 ka:AU qK x.1 (Au qK qB)=k
 kb:AU qB x.2.1 (Au qK qB)=k
 ps:0<x.2.2
theorem Agr.mem(h:Agr qK qB t u){k:By}{x:Dm}(g:x∈Ao (Ac (Ah qK qB qK) t k) (Ac (Ah qK qB qB) u k)):Mem3 qK qB t u k x:=by
 obtain⟨a,b⟩:=Jm (h.pa k) (h.pb k) x g;obtain⟨q,c,f⟩:=bU.mp a;obtain⟨p,d,e⟩:=bU.mp b;have c:=FJ.mp c;have d:=FJ.mp d;exact⟨f▸aP c.1,e▸aP d.1,f▸h.ta.rows q c.1,e▸h.tb.rows p d.1,f▸c.2,e▸d.2,AAp (h.pa k) (h.pb k) x g⟩
structure Uni(qK qB qJ:At):Prop where
 nd:qJ.Nodup
 l:∀n∈qK,n∈qJ
 r:∀n∈qB,n∈qJ
 s:∀n∈qJ,n∈qK\/n∈qB
theorem Mem3.left{k:By}{x:Dm}(m:Mem3 qK qB t u k x)(nd:qK.Nodup)(un:Uni qK qB qJ):AU qJ (Bo qK qB qJ x.1 x.2.1) qK=x.1:=AAw nd m.la un.l
theorem Mem3.right{k:By}{x:Dm}(m:Mem3 qK qB t u k x)(nd:qB.Nodup)(un:Uni qK qB qJ):AU qJ (Bo qK qB qJ x.1 x.2.1) qB=x.2.1:=AAx nd m.la m.lb un.r (m.ka.trans m.kb.symm)
theorem Mem3.key{k:By}{x:Dm}(m:Mem3 qK qB t u k x)(nd:qK.Nodup)(un:Uni qK qB qJ):AU qJ (Bo qK qB qJ x.1 x.2.1) (Au qK qB)=k:=by
 have:=Jc (qK:=qJ) (qC:=qK) (less:=Au qK qB) (r:=Bo qK qB qJ x.1 x.2.1) (DF qK qB).1;rw[<-this,m.left nd un,m.ka]
theorem Agr.rows(h:Agr qK qB t u)(un:Uni qK qB qJ):((B8 qK qB qJ t u).map (·.1)).Nodup:=by
 unfold B8;rw[map_flatMap];refine pairwise_flatMap.mpr ⟨λk _=>?_,?_⟩
 ·rw[bZ];have nd:=AAr (h.pa k) (h.pb k) (h.ta.nd.sublist ((GA t k).map _)) (h.tb.nd.sublist ((GA u k).map _));refine(pairwise_map.mpr ((pairwise_map.mp nd).imp_of_mem λ{x y} g f c e=>c ?_));have j:=h.mem g;have i:=h.mem f;have e:Bo qK qB qJ x.1 x.2.1=Bo qK qB qJ y.1 y.2.1:=e;have o:=j.left h.nd un;have n:=j.right h.ndo un;rw[e,i.left h.nd un]at o;rw[e,i.right h.ndo un]at n;rw[o,n]
 ·refine(F6 t).imp_of_mem λ{k r} _ _ c=>?_;intro z l q d p;rw[bZ]at l d;obtain⟨x,g,rfl⟩:=bU.mp l;obtain⟨y,f,rfl⟩:=bU.mp d;have e:Bo qK qB qJ y.1 y.2.1=Bo qK qB qJ x.1 x.2.1:=p.symm;have a:=(h.mem g).key h.nd un;rw[<-e,(h.mem f).key h.nd un]at a;exact c a.symm
theorem Mo(a:By->Int){α:Type}(F:α->Tl):∀l:List α,Ag a (l.flatMap F)=(l.map λk=>Ag a (F k)).sum
 |[]=>rfl
 |k::l=>by rw[flatMap_cons,Y7,Mo a F l,map_cons,sum_cons]
theorem Agr.sums(h:Agr qK qB t u)(un:Uni qK qB qJ)(φ:By->Int):Ag (λx=>φ (AU qJ x qK)) (B8 qK qB qJ t u)=Ag φ t/\Ag (λx=>φ (AU qJ x qB)) (B8 qK qB qJ t u)=Ag φ u:=by
 unfold B8;rw[Mo,Mo];have a:∀k,Ag (λx=>φ (AU qJ x qK)) ((Ao (Ac (Ah qK qB qK) t k) (Ac (Ah qK qB qB) u k)).map λx=>(Bo qK qB qJ x.1 x.2.1,x.2.2))=Ag φ (Ac (Ah qK qB qK) t k):=λk=>by
  rw[<-(Sr φ (h.pa k) (h.pb k) (h.tot k)).1];unfold Ag;rw[bZ];refine aT List.sum (cF λx c=>?_);show φ (AU qJ (Bo qK qB qJ x.1 x.2.1) qK) * x.2.2=_;rw[(h.mem c).left h.nd un]
 have b:∀k,Ag (λx=>φ (AU qJ x qB)) ((Ao (Ac (Ah qK qB qK) t k) (Ac (Ah qK qB qB) u k)).map λx=>(Bo qK qB qJ x.1 x.2.1,x.2.2))=Ag φ (Ac (Ah qK qB qB) u k):=λk=>by
  rw[<-(Sr φ (h.pa k) (h.pb k) (h.tot k)).2];unfold Ag;rw[bZ];refine aT List.sum (cF λx c=>?_);show φ (AU qJ (Bo qK qB qJ x.1 x.2.1) qB) * x.2.2=_;rw[(h.mem c).right h.ndo un]
 simp only[a,b];exact⟨Mn φ _ (F6 t) λq d=>Jl.mpr ⟨q,d,rfl⟩,Mn φ _ (F6 t) λq d=>h.both.mpr (Jl.mpr ⟨q,d,rfl⟩)⟩
theorem Sw(t:Tl)(r:By):cnt t r=Ag (λx=>if x=r then 1 else 0) t:=by
 unfold cnt Ag;refine aT List.sum (cF λq _=>?_);show _=(if q.1=r then 1 else 0) * q.2;by_cases z:q.1=r
 ·rw[aC z,aC z,Int.one_mul]
 ·rw[aB z,aB z,Int.zero_mul]
theorem AAy(c:By->Int){a b:Tl}(h:a.Perm b):Ag c a=Ag c b:=by
 induction h with
 |nil=>rfl
 |cons q _ d=>rw[Eh,Eh,d]
 |swap q p _=>rw[Eh,Eh,Eh,Eh];lia
 |trans _ _ i1 i2=>rw[i1,i2]
theorem Agr.shares(h:Agr qK qB t u)(un:Uni qK qB qJ)(a:J.Perm (B8 qK qB qJ t u)):Ab qJ J qK=Bz t/\Ab qJ J qB=Bz u:=by
 have wp:∀φ,Ag φ J=Ag φ (B8 qK qB qJ t u):=λφ=>AAy φ a;constructor
 ·rw[D6];refine Ja λr=>?_;rw[Jb,wp,Sw,<-(h.sums un _).1]
 ·rw[D6];refine Ja λr=>?_;rw[Jb,wp,Sw,<-(h.sums un _).2]
end
end L2
namespace L2
def BG(f:Tl)(o:By)(a:Nat):Tl:=((f.map (·.1)).drop a).zip (o.drop a)
theorem Jo(f:Tl):BG f (f.map (·.2)) 0=f:=by
 unfold BG
 induction f with
 |nil=>rfl
 |cons q f a=>simp only[map_cons,drop_zero,zip_cons_cons]at a ⊢;rw[a]
theorem Jp{f:Tl}{o:By}{a:Nat}{c:Int}(h1:f[a]?=some q)(h2:o[a]?=some c):BG f o a=(q.1,c)::BG f o (a+1):=by
 unfold BG;have d:(f.map (·.1))[a]?=some q.1:=by rw[bO,h1];rfl
 have g:(f.map (·.1)).drop a=q.1::(f.map (·.1)).drop (a+1):=by
  have hi:=(aI.mp d).1;rw[drop_eq_getElem_cons hi,(aI.mp d).2]
 have e:o.drop a=c::o.drop (a+1):=by
  have hi:=(aI.mp h2).1;rw[drop_eq_getElem_cons hi,(aI.mp h2).2]
 rw[g,e,zip_cons_cons]
theorem GB(f:Tl)(o:By)(a:Nat)(c:Int):BG f (o.set a c) (a+1)=BG f o (a+1):=by
 unfold BG;rw[drop_set_of_lt (Nat.lt_succ_self a)]
theorem Sx{f:Tl}{o:By}{a:Nat}(h:f.length<=a):BG f o a=[]:=by
 unfold BG;rw[drop_eq_nil_of_le (by rw[aA];exact h)];rfl
theorem AAz{f g:Tl}{i h:By}{a b:Nat}{p:By×Int}{c d:Int}(h1:f[a]?=some q)(h2:i[a]?=some c)(s:g[b]?=some p)(r:h[b]?=some d)(o:Ps (BG f i a))(pg:Ps (BG g h b)) :
  Ao (BG f i a) (BG g h b)=(q.1,p.1,min c d)::Ao (BG f (i.set a (c - min c d)) (if c - min c d=0 then a+1 else a)) (BG g (h.set b (d - min c d)) (if d - min c d=0 then b+1 else b)) /\
  Ps (BG f (i.set a (c - min c d)) (if c - min c d=0 then a+1 else a))/\Ps (BG g (h.set b (d - min c d)) (if d - min c d=0 then b+1 else b)):=by
 have l1:=(aI.mp h2).1;have l2:=(aI.mp r).1;rw[Jp h1 h2]at o ⊢;rw[Jp s r]at pg ⊢;have l:Ps (BG f i (a+1)):=λx hx=>o x (by simp[hx]);have j:Ps (BG g h (b+1)):=λx hx=>pg x (by simp[hx]);have v:∀n,BG f (i.set a n) a=(q.1,n)::BG f i (a+1):=λn=>by rw[Jp h1 (bY l1),GB]
 have u:∀n,BG g (h.set b n) b=(p.1,n)::BG g h (b+1):=λn=>by rw[Jp s (bY l2),GB]
 rcases Int.lt_trichotomy c d with e|e|e
 ·rw[F8 e,Int.min_eq_left ⋯,aC ⋯,aB ⋯,GB,u];refine⟨rfl,l,λx hx=>?_⟩;rcases aF.mp hx with rfl|hx
  ·show 0<d - c;lia
  ·exact j x hx
 ·subst e;rw[F7,Int.min_self,aC ⋯,aC ⋯,GB,GB];exact⟨rfl,l,j⟩
 ·rw[F9 e,Int.min_eq_right ⋯,aB ⋯,aC ⋯,GB,v];refine⟨rfl,λx hx=>?_,j⟩;rcases aF.mp hx with rfl|hx
  ·show 0<c - d;lia
  ·exact l x hx
theorem Mp{f g:Tl}(a:Ps f)(pg:Ps g):(Ao f g).length<=f.length+g.length:=by
 by_cases h1:f=[]
 ·rw[h1,Ef];simp
 ·by_cases h2:g=[]
  ·rw[h2,FI];simp
  ·exact aY (AAq a pg h1 h2)
end L2
namespace L2
theorem FK{α:Type}(x:α)(r:List α):atI (x::r) 0=some x:=BU (j:=0) rfl
theorem Sy{a:Nat}(h:a<n):Cp n (a:Int)=some a:=by unfold Cp;rw[aC ⋯,aC ⋯];simp
theorem AA0(c d:Int):(if d<c then d else c)=min c d:=by
 by_cases h:d<c
 ·rw[aC h,Int.min_eq_right ⋯]
 ·rw[aB h,Int.min_eq_left ⋯]
end L2
namespace L2
open PySem
theorem Mq{κ:Type}[DecidableEq κ](F:κ->P):∀{ks:List κ} {k:κ},k∈ks->Bm ks (ks.map F) k=some (F k)
 |k0::ks,k,h=>by
  rw[map_cons];unfold Bm;by_cases e:k0=k
  ·rw[aC e,e]
  ·rw[aB e];exact Mq F ((aF.mp h).resolve_left (Ne.symm e))
def Cm(qK qB qJ:At)(t u:Tl)(k:By):Tl:=(Ao (Ac (Ah qK qB qK) t k) (Ac (Ah qK qB qB) u k)).map λx=>(Bo qK qB qJ x.1 x.2.1,x.2.2)
theorem Sz{t u:Tl}(h:Agr qK qB t u)(k:By):(Cm qK qB qJ t u k).length<=2000:=by
 unfold Cm;rw[aA];have a:=Mp (h.pa k) (h.pb k);have b:=(GA (f:=Ah qK qB qK) t k).length_le;have c:=(GA (f:=Ah qK qB qB) u k).length_le;have d:=h.ta.few;have e:=h.tb.few;lia
theorem flat_len{qK qB qJ:At}{t u:Tl}(h:Agr qK qB t u):∀ks:List By,(ks.flatMap (Cm qK qB qJ t u)).length<=2000 * ks.length
 |[]=>by simp
 |k::ks=>by
  rw[flatMap_cons,aG,length_cons];have a:=Sz (qJ:=qJ) h k;have b:=flat_len (qJ:=qJ) h ks;lia
theorem Jq(qK qB qJ:At)(t u:Tl):B8 qK qB qJ t u=(Ar (Ah qK qB qK) t).flatMap (Cm qK qB qJ t u):=rfl
theorem S0(h:∀x∈r,0<=x/\x<=9):∀x∈AU qK r qC,0<=x/\x<=9:=λx a=>by
 unfold AU at a;obtain⟨n,_,rfl⟩:=bU.mp a;rw[bW];cases e:r[idx qK n]? with
 |none=>simp
 |some y=>exact h y (aM e)
theorem S1{t:Tl}(h:q∈Ab qK t qC):∃p∈t,q.1=AU qK p.1 qC:=by
 have h:=Lq h;rw[JW]at h;obtain⟨p,c,e⟩:=bU.mp h;unfold A9 at c;obtain⟨d,a,rfl⟩:=bU.mp c;exact⟨d,a,e.symm⟩
theorem S2{a b c d:At}(h1:a.Nodup)(h2:b.Nodup)(g:∀z,z∈a↔z∈c\/z∈d)(f:∀z,z∈b↔z∈c\/z∈d)(s1:CG a)(e:CG b):a=b :=
 JZ ((perm_ext_iff_of_nodup h1 h2).mpr λz=>(g z).trans (f z).symm) s1 e
theorem Uni.mem(h:Uni qK qB qJ)(z:Str):z∈qJ↔z∈qK\/z∈qB:=⟨h.s z,λw=>w.elim (h.l z) (h.r z)⟩
theorem Mr{α:Type}(f:α->By):∀{L:List By},L.Nodup->∀t:List α,(L.map λk=>(Ac f t k).length).sum<=t.length
 |L,c,[]=>by
  have:∀L:List By,(L.map λk=>(Ac f ([]:List α) k).length).sum=0:=λL=>by
   induction L with
   |nil=>rfl
   |cons k L g=>rw[map_cons,sum_cons,g];rfl
  rw[this];exact aQ _
 |L,c,q::t=>by
  have g:=Mr f c t;have e:∀k,(Ac f (q::t) k).length=(if f q=k then 1 else 0)+(Ac f t k).length:=λk=>by
   unfold Ac;rw[filter_cons];by_cases z:f q=k
   ·rw[aC (by simpa using z),aC z,length_cons];lia
   ·rw[aB (by simpa using z),aB z];lia
  have h:∀(L:List By),L.Nodup->(L.map λk=>(if f q=k then 1 else 0)+(Ac f t k).length).sum<=(if f q∈L then 1 else 0)+(L.map λk=>(Ac f t k).length).sum:=by
   intro L
   induction L with
   |nil=>intro _;simp
   |cons y L d =>
    intro c;simp only[bC]at c;have a:=d c.2;simp only[map_cons,sum_cons,aF];by_cases z:f q=y
    ·have b:f q∉L:=λw=>c.1 (z▸w);rw[aB b]at a;rw[aC z,aC (.inl z)];lia
    ·rw[aB z];by_cases b:f q∈L
     ·rw[aC b]at a;rw[aC (.inr b)];lia
     ·rw[aB b]at a;rw[aB (λw=>w.elim z b)];lia
  simp only[e];have a:=h L c;rw[length_cons];split at a<;>lia
section
variable{t u:Tl}
theorem Agr.few(h:Agr qK qB t u):(B8 qK qB qJ t u).length<=t.length+u.length:=by
 have a:∀L:List By,(L.flatMap (Cm qK qB qJ t u)).length<=(L.map λk=>(Ac (Ah qK qB qK) t k).length).sum+(L.map λk=>(Ac (Ah qK qB qB) u k).length).sum:=λL=>by
  induction L with
  |nil=>simp
  |cons k L e =>
   rw[flatMap_cons,aG,map_cons,map_cons,sum_cons,sum_cons];have b:=Mp (h.pa k) (h.pb k);have c:(Cm qK qB qJ t u k).length=(Ao (Ac (Ah qK qB qK) t k) (Ac (Ah qK qB qB) u k)).length:=by unfold Cm;rw[aA]
   lia
 have b:=a (Ar (Ah qK qB qK) t);have c:=Mr (Ah qK qB qK) (F6 (f:=Ah qK qB qK) t) t;have d:=Mr (Ah qK qB qB) (F6 (f:=Ah qK qB qK) t) u;rw[Jq];lia
theorem Agr.at(h:Agr qK qB t u)(c:q∈B8 qK qB qJ t u):∃k x,k∈Ar (Ah qK qB qK) t/\x∈Ao (Ac (Ah qK qB qK) t k) (Ac (Ah qK qB qB) u k)/\q=(Bo qK qB qJ x.1 x.2.1,x.2.2):=by
 rw[Jq]at c;obtain⟨k,e,a⟩:=mem_flatMap.mp c;unfold Cm at a;obtain⟨x,d,rfl⟩:=bU.mp a;exact⟨k,x,e,d,rfl⟩
theorem S3{a b:By}(h:HT.lexLt b a=false)(c:a≠b):HT.lexLt a b=true:=by
 cases e:HT.lexLt a b with
 |true=>rfl
 |false=>exact bS (Fa _ _ e h) c
theorem AA1{l:List By}(s:BR l)(nd:l.Nodup):E8 l=true:=by
 rw[RB];intro k a b g f;have d:=(aI.mp g);have c:=(aI.mp f);have p:=pairwise_iff_getElem.mp s k (k+1) d.1 c.1 (Nat.lt_succ_self k);rw[d.2,c.2]at p;refine S3 p λe=>?_;have:=(getElem_inj nd).mp (show l[k]'d.1=l[k+1]'c.1 by rw[d.2,c.2,e]);lia
theorem Agr.tally(h:Agr qK qB t u)(un:Uni qK qB qJ)(rt:∀q∈t,∀x∈q.1,0<=x/\x<=9)(g:∀q∈u,∀x∈q.1,0<=x/\x<=9)(d:J.Perm (B8 qK qB qJ t u))(i:BR (J.map (·.1))) :
  RA qJ.length J=true/\(∀q∈J,q.1.length=qJ.length)/\(∀q∈J,0<q.2)/\(J.map (·.1)).Nodup/\∀q∈J,∀x∈q.1,0<=x/\x<=9:=by
 have nd:(J.map (·.1)).Nodup:=(d.map _).nodup_iff.mpr (h.rows un);have ln:∀q∈J,q.1.length=qJ.length:=λq c=>by
  obtain⟨k,x,_,_,rfl⟩:=h.at (d.mem_iff.mp c);exact MC _ _ _
 have ps:∀q∈J,0<q.2:=λq c=>by
  obtain⟨k,x,_,f,rfl⟩:=h.at (d.mem_iff.mp c);exact(h.mem f).ps
 have rg:∀q∈J,∀x∈q.1,0<=x/\x<=9:=λq c=>by
  obtain⟨k,x,_,f,rfl⟩:=h.at (d.mem_iff.mp c);have m:=h.mem f;refine S0 λy hy=>?_;rcases bA.mp hy with hy|hy
  ·obtain⟨p,d,e⟩:=bU.mp m.a;exact rt p d y (by rw[e];exact hy)
  ·obtain⟨p,d,e⟩:=bU.mp m.b;exact g p d y (by rw[e];exact hy)
 refine⟨?_,ln,ps,nd,rg⟩;unfold RA;rw[cB];refine⟨all_eq_true.mpr λq c=>?_,AA1 i nd⟩;rw[cB];refine⟨?_,aK (by have:=ps q c;lia)⟩;unfold Q9;rw[cB];exact⟨aK (ln q c),all_eq_true.mpr λx f=>aK (rg q c x f)⟩
end
end L2
namespace L2
end L2
namespace L2
open PySem
def Bu(th:Ge)(row:List (Nat×Nat))(k:Nat):Ge:=(row.take k).foldl (λth q=>th.erase q.1) th
theorem Hh(th:Ge)(row:List (Nat×Nat)):Bu th row 0=th:=by unfold Bu;rw[take_zero];rfl
theorem AA2{th:Ge}{row:List (Nat×Nat)}{k:Nat}{q:Nat×Nat}(h:row[k]?=some q):Bu th row (k+1)=(Bu th row k).erase q.1:=by
 unfold Bu;rw[take_add_one,h,foldl_append];rfl
theorem Jr(th:Ge)(q:Nat×Nat)(row:List (Nat×Nat))(k:Nat):Bu th (q::row) (k+1)=Bu (th.erase q.1) row k:=by unfold Bu;rw[take_succ_cons,foldl_cons]
theorem S4{rs:List At}:∀{row:List (Nat×Nat)} {th:Ge},D8 rs th row->∀{k:Nat} {q:Nat×Nat},row[k]?=some q->Ee rs (Bu th row k) q.1 q.2
 |[],th,_,k,q,h=>by simp at h
 |p::row,th,⟨e,a⟩,0,q,h=>by
  simp at h;subst h;rw[Hh];exact e
 |p::row,th,⟨e,a⟩,k+1,q,h=>by
  rw[Jr];exact S4 a (by simpa using h)
theorem S5{rs:List At}:∀{row:List (Nat×Nat)} {th:Ge},D8 rs th row->(Bu th row row.length).length<=1/\(th≠[]->Bu th row row.length≠[])
 |[],th,h=>by rw[length_nil,Hh];exact⟨h,id⟩
 |p::row,th,⟨e,c⟩=>by
  rw[length_cons,Jr];obtain⟨a,b⟩:=S5 c;refine⟨a,λ_=>b λz=>?_⟩;have:p.2∈th.erase p.1:=(mem_erase_of_ne e.2.2.1).mpr e.2.1;rw[z]at this;cases this
theorem AA3{th:Ge}(nd:th.Nodup)(row:List (Nat×Nat)):∀k,(Bu th row k).Nodup:=by
 induction row generalizing th with
 |nil=>intro k;unfold Bu;rw[take_nil];exact nd
 |cons p row a =>
  intro k;cases k with
  |zero=>rw[Hh];exact nd
  |succ k=>rw[Jr];exact a (nd.sublist (erase_sublist)) k
theorem S6{rs:List At}:∀{row:List (Nat×Nat)} {th:Ge},th.Nodup->Bu th row row.length=th.filter λi=>decide (i∉row.map (·.1))
 |[],th,_=>by rw[length_nil,Hh];exact(filter_eq_self.mpr λi _=>by simp).symm
 |p::row,th,a=>by
  rw[length_cons,Jr,S6 (rs:=rs) (a.sublist erase_sublist),a.erase_eq_filter,filter_filter];refine filter_congr λi _=>?_;simp only[map_cons,aF,not_or,Bool.decide_and];rw[Bool.and_comm]
  congr 1
  simp[bne];rw[Bool.eq_iff_iff];simp
abbrev BA(ts:List Tl)(i:Nat):Tl:=ts.getD i []
structure Ct(ns:At)(rs:List At)(ts:List Tl):Prop where
 len:ts.length=rs.length
 l8:rs.length<=8
 ln:ns.length<=6
 nd:∀i,(AZ rs i).Nodup
 srt:∀i,CG (AZ rs i)
 sub:∀i,∀n∈AZ rs i,n∈ns
 tal:∀i,Tal (AZ rs i).length (BA ts i)
 can:∀i,Bz (BA ts i)=BA ts i
 rng:∀i,∀q∈BA ts i,∀x∈q.1,0<=x/\x<=9
 sum:((BF rs).map λi=>(BA ts i).length).sum<=1000
 ag:∀i∈BF rs,∀j∈BF rs,Ab (AZ rs i) (BA ts i) (Au (AZ rs i) (AZ rs j))=Ab (AZ rs j) (BA ts j) (Au (AZ rs i) (AZ rs j))
structure Wh(rs:List At)(ts:List Tl)(S:Ge)(Q:At)(J:Tl):Prop where
 nd:Q.Nodup
 srt:CG Q
 mem:∀n,n∈Q↔∃i∈S,n∈AZ rs i
 tal:Tal Q.length J
 can:Bz J=J
 rng:∀q∈J,∀x∈q.1,0<=x/\x<=9
 sh:∀i∈S,Ab Q J (AZ rs i)=BA ts i
 few:J.length<=(S.map λi=>(BA ts i).length).sum
theorem Wh.one(c:Ct ns rs ts)(p:Nat):Wh rs ts [p] (AZ rs p) (BA ts p) where
 nd:=c.nd p
 srt:=c.srt p
 mem:=λn=>by simp
 tal:=c.tal p
 can:=c.can p
 rng:=c.rng p
 sh:=λi hi=>by
  rw[bI.mp hi,ZA (c.nd p) (c.tal p).rows,c.can p]
 few:=by simp
theorem S7{f:Nat->Nat}:∀{S T:Ge},S.Nodup->(∀i∈S,i∈T)->(S.map f).sum<=(T.map f).sum
 |[],T,_,_=>cD _
 |x::S,T,a,h=>by
  have c:=h x (by simp);have a:=bC.mp a;have p:=perm_cons_erase c;have e:(T.map f).sum=f x+((T.erase x).map f).sum:=by
   have:=(p.map f).sum_nat;simpa using this
  have d:=S7 (f:=f) (S:=S) (T:=T.erase x) a.2 λi hi=>(mem_erase_of_ne (λz:i=x=>a.1 (z▸hi))).mpr (h i (by simp[hi]));rw[map_cons,sum_cons,e];lia
theorem Wh.qlen(c:Ct ns rs ts){S:Ge}{Q:At}(w:Wh rs ts S Q J):Q.length<=6:=by
 have:=w.nd.length_le_of_subset (l₂:=ns) λn hn=>by
  obtain⟨i,_,h⟩:=(w.mem n).mp hn;exact c.sub i n h
 have:=c.ln;lia
theorem Wh.agr(c:Ct ns rs ts){S g:Ge}{Q:At}(w:Wh rs ts S Q J){p h:Nat}(e:Ee rs g p h)(j:∀i,i∈S↔i∈g/\i≠p)(l:∀i∈g,i∈BF rs):Agr Q (AZ rs p) J (BA ts p) where
 nd:=w.nd
 ndo:=c.nd p
 ta:=w.tal
 tb:=c.tal p
 ag:=by
  have f:h∈S:=(j h).mpr ⟨e.2.1,e.2.2.1⟩;have sub:∀n∈Au Q (AZ rs p),n∈AZ rs h:=λn hn=>by
   obtain⟨i,hi,hm⟩:=(w.mem n).mp ((DF _ _).1 n hn);have:=(j i).mp hi;exact e.2.2.2 n trivial ((DF _ _).2 n hn) ⟨i,this.1,this.2,hm⟩
  have d:∀n∈Au Q (AZ rs p),n∈Au (AZ rs h) (AZ rs p):=λn hn=>cW.mpr ⟨sub n hn,by simpa using(DF _ _).2 n hn⟩;have a:=c.ag h (l h e.2.1) p (l p e.1);rw[<-Ed (qK:=Q) (qC:=AZ rs h) J sub,w.sh h f,<-Ed (qK:=AZ rs h) (qC:=Au (AZ rs h) (AZ rs p)) _ d,a,Ed _ d]
theorem AA4{t:Tl}(nd:(t.map (·.1)).Nodup)(ps:Ps t)(s:BR (t.map (·.1))):Bz t=t:=by
 rw[<-Y6 nd];unfold A6;have e:CV (t.map (·.1))=t.map (·.1):=(Lo (List.Perm.refl _) s).symm;rw[e,filter_eq_self.mpr λr c=>?_,bZ]
 ·conv=>rhs;rw[<-map_id t]
  refine cF λq a=>?_;show(q.1,(AX t q.1).getD 0)=q;rw[JV nd a];rfl
 ·obtain⟨q,a,rfl⟩:=bU.mp c;rw[JV nd a];have:=ps q a;simp;lia
theorem Wh.add(c:Ct ns rs ts){S a:Ge}{Q:At}(w:Wh rs ts S Q J){p h:Nat}(e:Ee rs a p h)(s:S=a.erase p)(d:a.Nodup)(u:∀i∈a,i∈BF rs)
  (un:Uni Q (AZ rs p) qJ) (y:CG qJ) {J':Tl} (j:J'.Perm (B8 Q (AZ rs p) qJ J (BA ts p))) (r:BR (J'.map (·.1))):Wh rs ts a qJ J':=by
 have hm:∀i,i∈S↔i∈a/\i≠p:=λi=>by rw[s];exact SQ d p i
 have ag:=w.agr c e hm u;obtain⟨B,x,o,l,v⟩:=ag.tally un w.rng (c.rng p) j r;obtain⟨s1,s2⟩:=ag.shares un j;have q:(a.map λi=>(BA ts i).length).sum=(BA ts p).length+(S.map λi=>(BA ts i).length).sum:=by
  have:=((perm_cons_erase e.1).map λi=>(BA ts i).length).sum_nat;rw[s];simpa using this
 have D:=ag.few (qJ:=qJ);have C:=j.length_eq;have wf:=w.few;have tot:=S7 (f:=λi=>(BA ts i).length) d u;have E:=c.sum;refine⟨un.nd,y,λn=>?_,⟨⋯,x,o,l⟩,AA4 l o r,v,λi hi=>?_,⋯⟩
 ·rw[un.mem,w.mem];constructor
  ·rintro(⟨i,hi,h⟩|h)
   ·exact⟨i,((hm i).mp hi).1,h⟩
   ·exact⟨p,e.1,h⟩
  ·rintro⟨i,hi,h⟩;by_cases z:i=p
   ·exact .inr (z▸h)
   ·exact .inl ⟨i,(hm i).mpr ⟨hi,z⟩,h⟩
 ·by_cases z:i=p
  ·rw[z,s2,c.can p]
  ·have g:=(hm i).mpr ⟨hi,z⟩;have A:∀n∈AZ rs i,n∈Q:=λn hn=>(w.mem n).mpr ⟨i,g,hn⟩;rw[<-Ed (qK:=qJ) (qC:=Q) J' A,s1,w.can,w.sh i g]
theorem GC{f:Nat}{th:Ge}{q:Nat×Nat}{row:List (Nat×Nat)}(c:¬th.length<=1)(h:Ck rs th=some q)(a:CL rs f (th.erase q.1)=some row):CL rs (f+1) th=some (q::row):=by
 rw[CL,aB c,h];show(CL rs f (th.erase q.1)).map _=_;rw[a];rfl
theorem Ms{f x:Nat}:CL rs (f+1) [x]=some []:=rfl
theorem Hi{p h:Nat}{th:Ge}(e:Bn rs (p::th) p=[h]):Ck rs (p::th)=some (p,h):=by
 unfold Ck;rw[findSome?_cons,e];rfl
section
variable{a b c d e f:Str}
theorem AA5(nd:[a,b,c,d,e,f].Nodup):C1 [[a,b,c,d],[c,d,e,f]]=some [(0,1)]:=by
 have g:=(reverse_perm _).nodup_iff.mpr nd;simp only[reverse_cons,reverse_nil,nil_append,cons_append,bC,aF,bB,or_false,not_or]at nd g;exact GC (show¬(2:Nat)<=1 by decide) (Hi (th:=[1]) (by simp[Bn,DG,AZ,nd,g])) Ms
theorem AA6(nd:[a,b,c,d,e,f].Nodup):C1 [[a,b,c],[c,d,e],[d,e,f]]=some [(0,1),(1,2)]:=by
 have g:=(reverse_perm _).nodup_iff.mpr nd;simp only[reverse_cons,reverse_nil,nil_append,cons_append,bC,aF,bB,or_false,not_or]at nd g;exact GC (show¬(3:Nat)<=1 by decide) (Hi (th:=[1,2]) (by simp[Bn,DG,AZ,nd,g])) (GC (show¬(2:Nat)<=1 by decide) (Hi (th:=[2]) (by simp[Bn,DG,AZ,nd,g])) Ms)
theorem AA7(nd:[a,b,c,d,e,f].Nodup):C1 [[e,f],[b,c],[a,b],[c,d,e]]=some [(0,3),(2,1),(1,3)]:=by
 have g:=(reverse_perm _).nodup_iff.mpr nd;simp only[reverse_cons,reverse_nil,nil_append,cons_append,bC,aF,bB,or_false,not_or]at nd g;refine GC (show¬(4:Nat)<=1 by decide) (Hi (th:=[1,2,3]) (by simp[Bn,DG,AZ,nd,g])) (GC (show¬(3:Nat)<=1 by decide) (?_:Ck _ [1,2,3]=_) (GC (show¬(2:Nat)<=1 by decide) (Hi (th:=[3]) (by simp[Bn,DG,AZ,nd,g])) Ms));have h1:Bn [[e,f],[b,c],[a,b],[c,d,e]] [1,2,3] 1=[]:=by simp[Bn,DG,AZ,nd,g]
 have h2:Bn [[e,f],[b,c],[a,b],[c,d,e]] [1,2,3] 2=[1]:=by simp[Bn,DG,AZ,nd,g]
 unfold Ck;rw[findSome?_cons,h1,findSome?_cons,h2];rfl
end
theorem AA8{t:Tl}(y:ns.length<=6)(nd:ns.Nodup)(srt:CG ns)(o:rs.length<=8)(s:∀r∈rs,r.Sublist ns)(few:t.length<=100)(pos:∀q∈t,0<q.2)
  (g:∀q∈t,∀x∈q.1,0<=x/\x<=9):Ct ns rs (rs.map λr=>Ab ns t r):=by
 have rm:∀i,(AZ rs i).Sublist ns:=λi=>by
  unfold AZ;cases h:rs[i]? with
  |none=>exact nil_sublist _
  |some r=>exact s r (aM h)
 have a:∀i,BA (rs.map λr=>Ab ns t r) i=if i<rs.length then Ab ns t (AZ rs i)else []:=λi=>by
  show(rs.map λr=>Ab ns t r).getD i []=_;rw[bW,bO];by_cases hi:i<rs.length
  ·rw[aC hi,aH hi];unfold AZ;rw[aH hi];rfl
  ·rw[aB hi,bQ ⋯];rfl
 have z:∀i,¬i<rs.length->AZ rs i=[]:=λi hi=>by unfold AZ;rw[bQ ⋯];rfl
 refine⟨aA _,o,y,λi=>nd.sublist (rm i),λi=>srt.sublist (rm i),λi n w=>(rm i).subset w,λi=>?_,λi=>?_,λi=>?_,?_,λi hi j f=>?_⟩
 ·rw[a];split
  ·exact Hc (λq c=>by have:=pos q c;lia) ⋯
  ·exact⟨by simp,by simp,by simp,by simp⟩
 ·rw[a];split
  ·rw[D6,Rz]
  ·rfl
 ·rw[a];split
  ·intro q c x d;obtain⟨p,u,e⟩:=S1 c;rw[e]at d;unfold AU at d;obtain⟨n,_,rfl⟩:=bU.mp d;rw[bW];cases h:p.1[idx ns n]? with
   |none=>exact⟨by simp,by simp⟩
   |some v=>exact g p u v (aM h)
  ·intro q c;cases c
 ·have b:∀l:Ge,(l.map λi=>(BA (rs.map λr=>Ab ns t r) i).length).sum<=100 * l.length:=λl=>by
   induction l with
   |nil=>simp
   |cons i l A =>
    rw[map_cons,sum_cons,length_cons];have:(BA (rs.map λr=>Ab ns t r) i).length<=100:=by
     rw[a];split
     ·exact aR (ME _ _ _) few
     ·simp
    lia
  have:=b (BF rs);rw[bG]at this;lia
 ·have hi:=bH.mp hi;have f:=bH.mp f;rw[a,a,aC hi,aC f,Ed t (DF _ _).1,Ed t (DF _ _).2]
end L2
namespace L2
open PySem PyProof.Rows
theorem S8{x:P}(h:x.imm=true):A8 x f=.nw:=by cases f<;>simp[A8,h]
theorem B9{k:Nat}{x:P}{K:dI->Prop}(h:x.imm=true)(q:K (ρ.set k (.sh x))):BQ k x f ρ K:=by unfold BQ;rw[aC h];exact q
theorem S9{K:dI->Prop}(h:K ((ρ.set i (.sh (AT q.1))).set j (.sh (.int q.2)))):E2 [i,j] (Ax q) f ρ K:=⟨_,rfl,rfl,B9 (Dk _) (B9 rfl h)⟩
theorem AA9{x:P}(h:x.imm=true):D1 x f=true:=by unfold D1;rw[h];rfl
theorem ABA{x:P}:D1 x .nw=true:=by unfold D1;exact Bool.or_true _
theorem DR(ns:At):(AJ ns).imm=true:=by simp
theorem TB(f:Fl)(r:List By):Bb f (r.map AT)=.nw:=by unfold Bb;rw[aC (Xi r)]
theorem ABB{k:Nat}{K:dI->Prop}(h:P.imms xs=true)(q:K (ρ.set k (.own (.lst xs)))):BQ k (.lst xs) (Bb f xs) ρ K:=by unfold Bb;rw[aC h];exact q
theorem TC{α:Type}(l:List α)(x y:α):atI (l++[x,y]) (-1)=some y:=by
 unfold atI Cp;rw[aG,aB ⋯,aC (by simp only[length_cons,length_nil];lia)];have:(((-1:Int)+((l.length+[x,y].length:Nat):Int)).toNat)=l.length+1:=by simp only[length_cons,length_nil];lia
 rw[this];simp
theorem TD{α:Type}(l:List α)(x y:α):atI (l++[x,y]) (-2)=some x:=by
 unfold atI Cp;rw[aG,aB ⋯,aC (by simp only[length_cons,length_nil];lia)];have:(((-2:Int)+((l.length+[x,y].length:Nat):Int)).toNat)=l.length:=by simp only[length_cons,length_nil];lia
 rw[this];simp
theorem ABC{α:Type}{l:List α}(h:2<=l.length):∃p x y,l=p++[x,y]:=by
 rcases eq_nil_or_concat l with rfl|⟨p,y,rfl⟩
 ·simp at h
 ·rcases eq_nil_or_concat p with rfl|⟨q,x,rfl⟩
  ·simp at h
  ·exact⟨q,x,y,by simp⟩
theorem ABD{α:Type}:∀{l:List α},l.length=6->∃a b c d e f,l=[a,b,c,d,e,f]
 |[_,_,_,_,_,_],_=>⟨_,_,_,_,_,_,rfl⟩
end L2
open PySem L2
local macro_rules
 |`(tactic| simp! only[$ls,*] $[$l:location]?)=>do
  let ids:=("AW Fc Oz Oy HC Pa PZ Pb Pc Gz pK Fb Ic O5 O6 O7 O8 O9 K9 PN PL PJ PM Ig BQ Pj LA p1 LI LJ LK DO CT L2.ST Po Pp P.isNon LG LH Pz LN Fo P9 QB Iy QJ QF QH JB JC LU QL frzS B4 O0 O1 C7 A8 Fl.join Fl.el Fl.top Bb D1 E3 DN LL LM Lc Qc Qd Qf JH Pn Qp RE Lr L8 L9 Ls Lu RN E2 G7 Pe Pf Y5 Jj SW isEmpty_cons isEmpty_nil Jg MT MU Ji SN Sc Mg Sj Mk Sl replicate map_cons map_nil length_cons length_nil cons_append nil_append getElem?_cons_zero getElem?_cons_succ set_cons_zero set_cons_succ getElem?_nil Option.getD_some Option.getD_none Nat.reduceAdd Nat.reduceSub Nat.sub_self Nat.zero_add dC if_false Bool.false_eq_true exists_eq_left exists_eq_left' ite_self exists_and_left exists_and_right exists_eq exists_eq' exists_const and_true true_and Option.some.injEq P.int.injEq P.str.injEq P.bl.injEq P.tup.injEq P.lst.injEq P.fT.injEq List.cons.injEq Prod.mk.injEq ne_eq reduceCtorEq not_false_eq_true decide_true decide_false Bool.true_or Bool.or_true Bool.false_or Bool.or_false Bool.and_true Bool.true_and Bool.and_false Bool.false_and Bool.not_true Bool.not_false Yy Yz Y0 Y1 Y2 Rw WE WF WG WH WI WJ WK WL WM WN IX IY Kz WQ Lh Xr Dk HU WR WS WT WU WV WW LP QC XO XQ XR XS XT XU Xu Qr Xt all_cons all_nil EZ E7 Li Xv Xy JK Qx Bool.not_eq_true' decide_eq_false_iff_not decide_eq_true_eq".splitOn " ").toArray.map λs=>Lean.mkIdent s.toName
  `(tactic| simp only[$[$ids:term],*,$ls,*] $[$l]?)
local macro_rules
 |`(tactic| simp![$ls,*] $[$l:location]?)=>`(tactic| simp! only[X0,X1,X2,X3,aA,exists_prop,and_assoc,forall_const,forall_eq,forall_eq_apply_imp_iff,$ls,*] $[$l]?)
namespace K
open PySem L2
def top(i:Nat):Stmt:=PySem.Challenge.pw_roomtally_k24_wide_tallies.main.body.getD i (.Pass ⟨0,0,0,0⟩)
abbrev GD:Stmt:=top 6
theorem TF:FnScope ["part","room"] ["part","room"] (AR GD):=⟨rfl,rfl,rfl,nofun,rfl,nofun,nofun⟩
abbrev Mt:Stmt:=top 7
theorem ABE:FnScope ["one","other"] ["one","other"] (AR Mt):=⟨rfl,rfl,rfl,nofun,rfl,nofun,nofun⟩
abbrev Js:Stmt:=top 8
theorem ABF:FnScope ["one","other"] ["one","other"] (AR Js):=⟨rfl,rfl,rfl,nofun,rfl,nofun,nofun⟩
abbrev Jt:Stmt:=top 9
theorem ABG:FnScope ["room","part"] ["room","part"] (AR Jt):=⟨rfl,rfl,rfl,nofun,rfl,nofun,nofun⟩
abbrev Ju:Stmt:=top 10
theorem ABH:FnScope ["row","spots"] ["row","spots"] (AR Ju):=⟨rfl,rfl,rfl,nofun,rfl,nofun,nofun⟩
abbrev Jv:Stmt:=top 12
theorem Jw:FnScope ["papers","counts","row","count"] ["papers"] (AR Jv):=⟨rfl,rfl,rfl,nofun,rfl,nofun,nofun⟩
abbrev Jx:Stmt:=top 13
theorem TH:FnScope ["room","rows","part","spots"] ["room","rows","part"] (AR Jx):=⟨rfl,rfl,rfl,nofun,rfl,nofun,nofun⟩
abbrev Jy:Stmt:=top 15
theorem Hj:FnScope ["room","rows","other_room","other_rows","part","one","other","apart"] ["room","rows","other_room","other_rows"] (AR Jy):=⟨rfl,rfl,rfl,nofun,rfl,nofun,nofun⟩
abbrev Mu:Stmt:=top 16
theorem Hk:FnScope ["rooms","tallies","found","place","other","row"] ["rooms","tallies"] (AR Mu):=⟨rfl,rfl,rfl,nofun,rfl,nofun,nofun⟩
abbrev Mv:Stmt:=top 18
theorem Hl:FnScope ["room","rows","part","spots","groups","row","count"] ["room","rows","part"] (AR Mv):=⟨rfl,rfl,rfl,nofun,rfl,nofun,nofun⟩
abbrev Hm:Stmt:=top 19
theorem Ei:FnScope ["first","second","ones","others","found","at","by","many"] ["first","second"] (AR Hm):=⟨rfl,rfl,rfl,nofun,rfl,nofun,nofun⟩
abbrev Mw:Stmt:=top 20
theorem DS:FnScope ["room","rows","other_room","other_rows","row","part","ones","others","spots","found","key","one","other","many"] ["room","rows","other_room","other_rows"] (AR Mw):=⟨rfl,rfl,rfl,nofun,rfl,nofun,nofun⟩
abbrev Jz:Stmt:=top 24
theorem ABI:FnScope ["rooms"] ["rooms"] (AR Jz):=⟨rfl,rfl,rfl,nofun,rfl,nofun,nofun⟩
abbrev GF:Stmt:=top 25
theorem Mx:FnScope ["rooms","there","place","others","met"] ["rooms","there","place"] (AR GF):=⟨rfl,rfl,rfl,nofun,rfl,nofun,nofun⟩
abbrev Mz:Stmt:=top 26
theorem M0:FnScope ["rooms","there","place","found"] ["rooms","there"] (AR Mz):=⟨rfl,rfl,rfl,nofun,rfl,nofun,nofun⟩
abbrev M1:Stmt:=top 27
theorem J0:FnScope ["rooms","there","row","pair"] ["rooms"] (AR M1):=⟨rfl,rfl,rfl,nofun,rfl,nofun,nofun⟩
abbrev M3:Stmt:=top 33
theorem ABJ:FnScope ["rooms","part","row"] ["rooms"] (AR M3):=⟨rfl,rfl,rfl,nofun,rfl,nofun,nofun⟩
abbrev M4:Stmt:=top 34
theorem TJ:FnScope ["rooms","row"] ["rooms"] (AR M4):=⟨rfl,rfl,rfl,nofun,rfl,nofun,nofun⟩
abbrev Hn:Stmt:=top 36
theorem Ej:FnScope ["rooms","tallies","order","off","left","questions","rows","place"] ["rooms","tallies","order"] (AR Hn):=⟨rfl,rfl,rfl,nofun,rfl,nofun,nofun⟩
abbrev M5:Stmt:=top 37
theorem GG:FnScope ["rooms","tallies","found","place","other","row","told"] ["rooms","tallies"] (AR M5):=⟨rfl,rfl,rfl,nofun,rfl,nofun,nofun⟩
abbrev M6:Stmt:=top 39
theorem J1:FnScope ["_law_script","_law_salt","_law_one"] ["_law_script"] (AR M6):=⟨rfl,rfl,rfl,nofun,rfl,nofun,nofun⟩
abbrev M7:Stmt:=top 40
theorem GH:FnScope ["_law_bag_here","_law_many_here","_law_seed","_law_mixed","_law_drawn"] ["_law_bag_here","_law_many_here"] (AR M7):=⟨rfl,rfl,rfl,nofun,rfl,nofun,nofun⟩
abbrev J3:Stmt:=top 41
theorem TK:FnScope ["_law_bag_here","_law_size","_law_letters"] ["_law_bag_here","_law_size"] (AR J3):=⟨rfl,rfl,rfl,nofun,rfl,nofun,nofun⟩
abbrev M8:Stmt:=top 42
theorem Ek:FnScope ["_law_bag_here","_law_many_here","_law_letters","_law_found","_law_start","_law_k","_law_word_here","_law_step"] ["_law_bag_here","_law_many_here"] (AR M8):=⟨rfl,rfl,rfl,nofun,rfl,nofun,nofun⟩
abbrev J4:Stmt:=top 43
theorem ABK:FnScope ["_law_bag_here","_law_size","_law_base"] ["_law_bag_here","_law_size","_law_base"] (AR J4):=⟨rfl,rfl,rfl,nofun,rfl,nofun,nofun⟩
abbrev M9:Stmt:=top 44
theorem ABL:FnScope ["_law_bag_here"] ["_law_bag_here"] (AR M9):=⟨rfl,rfl,rfl,nofun,rfl,nofun,nofun⟩
abbrev J5:Stmt:=top 45
theorem ABM:FnScope ["_law_counts"] ["_law_counts"] (AR J5):=⟨rfl,rfl,rfl,nofun,rfl,nofun,nofun⟩
abbrev J6:Stmt:=top 46
theorem ABN:FnScope ["_law_room","_law_row","_law_part"] ["_law_room","_law_row","_law_part"] (AR J6):=⟨rfl,rfl,rfl,nofun,rfl,nofun,nofun⟩
abbrev NA:Stmt:=top 47
theorem Ho:FnScope ["_law_room","_law_rows","_law_part","_law_counts","_law_row","_law_count","_law_here"] ["_law_room","_law_rows","_law_part"] (AR NA):=⟨rfl,rfl,rfl,nofun,rfl,nofun,nofun⟩
abbrev NB:Stmt:=top 48
theorem ABO:FnScope ["_law_one","_law_other"] ["_law_one","_law_other"] (AR NB):=⟨rfl,rfl,rfl,nofun,rfl,nofun,nofun⟩
abbrev NC:Stmt:=top 49
theorem ABP:FnScope ["_law_found"] ["_law_found"] (AR NC):=⟨rfl,rfl,rfl,nofun,rfl,nofun,nofun⟩
abbrev J7:Stmt:=top 50
theorem ABQ:FnScope ["_law_found"] ["_law_found"] (AR J7):=⟨rfl,rfl,rfl,nofun,rfl,nofun,nofun⟩
abbrev J8:Stmt:=top 51
theorem ND:FnScope ["_law_room","_law_rows","_law_at","_law_one"] ["_law_room","_law_rows"] (AR J8):=⟨rfl,rfl,rfl,nofun,rfl,nofun,nofun⟩
abbrev NE:Stmt:=top 52
theorem J9:FnScope ["_law_rooms","_law_found","_law_room"] ["_law_rooms"] (AR NE):=⟨rfl,rfl,rfl,nofun,rfl,nofun,nofun⟩
abbrev KA:Stmt:=top 53
theorem KB:FnScope ["_law_rooms","_law_tallies","_law_told","_law_every_here","_law_room","_law_rows"] ["_law_rooms","_law_tallies","_law_told"] (AR KA):=⟨rfl,rfl,rfl,nofun,rfl,nofun,nofun⟩
abbrev D9:Stmt:=top 54
theorem CY:FnScope ["_law_script","_law_bag_here","_law_names_here","_law_counts","_law_k","_law_rows","_law_way","_law_rooms","_law_tallies","_law_one","_law_other","_law_found","_law_every_here"] ["_law_script"] (AR D9):=⟨rfl,rfl,rfl,nofun,rfl,nofun,nofun⟩
section
variable{b D:Addr}
structure StepD(b a D:Addr)(H H':Hp):Prop where
 bag:Bag H' b a
 same:∀p o,p≠b->p≠D->H p=some o->H' p=some o
 nb:D≠b
 na:D≠a
theorem StepD.new(h:Bag H b a)(n:H D=none):StepD b a D H (AD H D o) :=
 ⟨h.new n,λp u _ _ e=>by rw[AK (A2 e n)];exact e,h.nb n,h.na n⟩
theorem StepD.step(s:StepD b a D H H1)(t:Step b a H1 H2):StepD b a D H H2:=⟨t.bag,λp u c d e=>t.same p u c (s.same p u c d e),s.nb,s.na⟩
theorem StepD.put(s:StepD b a D H H1):StepD b a D H (AD H1 D o):=⟨s.bag.put s.nb s.na,λp u d c e=>by rw[AK c];exact s.same p u d c e,s.nb,s.na⟩
theorem StepD.out(s:StepD b a D H H1)(n:H D=none):Step b a H H1:=⟨s.bag,λp u c e=>s.same p u c (A2 e n) e⟩
end
def KC(K:Fg):Sp:=λvs H Q _=>∃(a:Addr) (ns:By),vs=[.ref a]/\Aq K H a (ns.map V.int)/\∀(b a':Addr) (H':Hp),H b=none->H a'=none->Bag H' b a'->CP H H'->Q (.ref b) H'
def KD:Sp:=λvs H Q _=>∃(b a:Addr) (m:Int),vs=[.ref b,.int m]/\Bag H b a/\0<m/\m<2 ^ 64/\∀(r:Int) (H':Hp),0<=r->r<m->Step b a H H'->Q (.int r) H'
def TL(x:Str):Prop:=∀c∈x.cps.toList,97<=c/\c<=122
def TM:Sp:=λvs H Q _=>∃(b a:Addr) (n:Int),vs=[.ref b,.int n]/\Bag H b a/\0<=n/\n<=1000/\∀(x:Str) (H':Hp),(x.length:Int)=n->TL x->Step b a H H'->Q (.str x) H'
section
variable{P:Program}{K:Fg}
structure TxtB(mg:Str->Ex):Prop where
 b_len:mg "len"=none
 b_list:mg "list"=none
 b_range:mg "range"=none
 b_isinstance:mg "isinstance"=none
 b_bool:mg "bool"=none
 b_int:mg "int"=none
 b_tuple:mg "tuple"=none
 b_all:mg "all"=none
 b_any:mg "any"=none
 b_sorted:mg "sorted"=none
 b_set:mg "set"=none
 b_sum:mg "sum"=none
 b_dict:mg "dict"=none
 b_zip:mg "zip"=none
 b_min:mg "min"=none
 b_max:mg "max"=none
theorem TN(ns:By):C5 (ns.map V.int) none (some 63)=(ns.take 63).map V.int:=by
 unfold C5;rw[map_take];simp[HT.sIx]
theorem ABR(D:Aw K mg "_law_bag" M6)(T:TxtB mg):Fn P w K mg base "_law_bag" 1 ["_law_script"] (KC K):=by
 refine FY D J1 (λ_ _ _ _ _ _ us N=>DH N dE) (λvs H Q E h=>?_) (λf O A j s H vs Q E U h=>?_)
 ·obtain⟨a,ns,rfl,_⟩:=h;rfl
 ·obtain⟨a,ns,rfl,u,k⟩:=h;refine⟨_,(Bp (CO (i:=1) J1.nd rfl (Or.inl rfl) (Er Kt (by rfl) T.b_len nofun (Av (Gg IQ (pv 0) Gd (Gf An)) BE)))
 (Bp (GW PassesOwn.never rfl (Nk (Gg IQ (pv 0) Gd (Gf An))) (BD (i:=2) J1.nd rfl (Or.inl rfl))
 (Co (CO (i:=1) J1.nd rfl (Or.inl rfl) (Ba FT (Ba DZ (Ba GY (pv 1) An) (pv 2)) An))))
 (Co (FP (Ga (Av (Gc Ew (by rfl) T.b_list nofun (Av (Gg IQ (pv 0) Gd (Gf An)) BE)) (Av An (Av An (Av (pv 1) BE))))))))),?_⟩
  refine⟨_,rfl,63,rfl,a,ns.map V.int,rfl,u,λp M=>?_⟩;have C:CP H (AD H p (.lst (C5 (ns.map V.int) none (some 63)))):=λb o e=>by rw[AK (A2 e M)];exact e
  refine⟨p,_,rfl,Aa,?_⟩;refine⟨_,rfl,63,rfl,a,ns.map V.int,rfl,C.seq u,λp2 q=>?_⟩;rw[TN]at *;have L:CP H (AD (AD H p (.lst ((ns.take 63).map V.int))) p2 (.lst ((ns.take 63).map V.int))):=C.trans λb o e=>by rw[AK (A2 e q)];exact e
  refine⟨p2,rfl,⟨_,.of Aa⟩,Uo (K:=K) (a:=p2) (xs:=(ns.take 63).map V.int) (λi σ H2=>∃(z:Int) (v:Option V),σ=[some (.ref a),some (.int z),v]/\CP H H2/\H2 p2=some (.lst ((ns.take 63).map V.int)))
   ⟨_,_,rfl,L,Aa⟩ (λi σ H2 _ ⟨_,_,_,_,e⟩=>.of e) ?_ ?_⟩
  ·rintro i y σ H2 hi ⟨z,v,rfl,d,I⟩;obtain⟨n,Y,rfl⟩:∃n,(ns.take 63)[i]?=some n/\y=V.int n:=by
    rw[bO]at hi;cases e:(ns.take 63)[i]? with
    |none=>rw[e]at hi;cases hi
    |some n=>rw[e]at hi;exact⟨n,rfl,(oI hi).symm⟩
   simp[En,CI,FS,rI,CZ,CH,tC,GX];exact⟨d,by simpa[map_take]using I⟩
  ·rintro σ H2 ⟨z,v,rfl,d,I⟩;refine⟨_,rfl,63,rfl,a,ns.map V.int,rfl,d.seq u,λp3 l=>?_⟩;refine⟨p3,_,rfl,.inl Aa,λp4 g=>⟨_,rfl,(by show 4<=sizeLine;decide),λb r=>?_⟩⟩;rw[TN]at *;have B:CP H2 (AD H2 p3 (.lst ((ns.take 63).map V.int))):=λb o e=>by rw[AK (A2 e l)];exact e
   have x:=B.trans (λb o e=>by rw[AK (A2 e g)];exact e:CP _ (AD (AD H2 p3 (.lst ((ns.take 63).map V.int))) p4 (.lst ((ns.take 63).map V.int))));have J:CP _ (AD (AD (AD H2 p3 (.lst ((ns.take 63).map V.int))) p4 (.lst ((ns.take 63).map V.int))) b (.lst [.ref p4,.int 0,.int 0,.int z])):=λc o e=>by rw[AK (A2 e r)];exact e
   have G:p4≠b:=A2 (o:=.lst ((ns.take 63).map V.int)) Aa r;refine k b p4 _ ((d.trans x).free r) ((d.trans B).free g) ⟨ns.take 63,0,0,z,Aa,?_,Int.le_refl _,G⟩ ((d.trans x).trans J);rw[AK G,Aa]
def KF(b a:Addr)(m z:Int)(D:Ends)(H:Hp):Prop:=∀r i c,0<=i->D.rt (.int (r % m)) (AD H b (Dy a i c z))
abbrev Hr(b:Addr)(m:Int)(x y w:Option V):List (Option V):=[some (.ref b),some (.int m),x,y,w]
def TQ(b a:Addr)(m z:Int):TS:=λD σ H=>∃i c x y w,σ=Hr b m x y w/\0<=i/\H b=some (Dy a i c z)/\KF b a m z D H
def ABS(b a:Addr)(m z:Int)(ns:By):TS:=λD σ H=>∃i c s y w,σ=Hr b m (some (.int s)) y w/\0<=i/\H b=some (Dy a i c z)/\H a=some (.lst (ns.map V.int))/\KF b a m z D H/\∀c,D.nx (Hr b m (some (.int s)) y w) (AD H b (Dy a i c z))
def ABT(b a:Addr)(m z:Int):TS:=λD σ H=>∃i c s y w,σ=Hr b m (some (.int s)) y w/\0<=i/\H b=some (Dy a i c z)/\KF b a m z D H
theorem ABU(D:Aw K mg "_law_pull" M7)(T:TxtB mg):Fn P w K mg base "_law_pull" 1 ["_law_bag_here","_law_many_here"] KD:=by
 refine FY D GH (λ_ _ _ _ _ _ us hl=>CM hl dF) (λvs H Q E h=>?_) (λf a1 A N s H vs Q E hr h=>?_)
 ·obtain⟨b,a,m,rfl,_⟩:=h;rfl
 ·obtain⟨b,a,m,rfl,⟨ns,i,c,z,g,ha,hi,I⟩,G,O,k⟩:=h;have B:∀o,AD H b o a=some (HO.lst (map V.int ns)):=λo=>by rw[AK I];exact ha
  have J:∀r u l,0<=u->Q (V.int (r % m)) (AD H b (Dy a u l z)):=λr u l U =>
   k _ _ (Int.emod_nonneg _ (Int.ne_of_gt G)) (Int.emod_lt_of_pos _ G) ⟨⟨ns,u,l,z,Aa,B _,U,I⟩,λp o hp e=>by rw[AK hp];exact e⟩
  refine⟨_,(Bp (GR (FU IL (CD Cb (pv 0) An dF) An (A5 _))
 (Bp (Ng (pv 0) An Os An KZ IP)
 (Bp (CO (i:=2) GH.nd rfl (Or.inl rfl) (CD Cb (pv 0) An dF))
 (Bp (GR (FU IL (CD Cb (pv 0) An dF) (Er Kt (by rfl) T.b_len nofun (Av (CD Cb (pv 0) An dF) BE)) (A5 _))
 (Co (CO (i:=2) GH.nd rfl (Or.inl rfl) (CD Cb (CD Cb (pv 0) An dF) (Ba Kd (CD Cb (pv 0) An dF) An) dF)))
 GQ)
 (Bf.weak (m:=(ABS b a m z ns)) (Bp (GR (PW.pt (Nb (FU GZ (CD Cb (pv 0) An dF) (Er Kt (by rfl) T.b_len nofun (Av (CD Cb (pv 0) An dF) BE)) (A5 _)) (Na (FU IK (pv 2) (Ba Nt An An) (A5 _)))))
 (Bf.weak (m:=(ABT b a m z)) (Bp (CO (i:=3) GH.nd rfl (Or.inl rfl) (Ba FT (Ba DZ (Ba DZ (Ba GY (pv 2) An) (Ba GY (CD Cb (pv 0) An dF) An)) An) An))
 (Bp (CO (i:=3) GH.nd rfl (Or.inl rfl) (Ba FT (Ba GY (pv 3) (pv 3)) An))
 (Co (FP (Ba FT (Ba Oq (Ba FT (Ba GY (Ba DZ (pv 3) (CD Cb (pv 0) An dF)) An) An) An) (pv 1)))))) ?j)
 GQ)
 (Co (KY (pv 2) (Nc (pv 0) An IP)))) ?q))))
 GQ)
 (Bf.weak (m:=(TQ b a m z)) (Bp (CO (i:=4) GH.nd rfl (Or.inl rfl) (Ba FT (CD Cb (pv 0) An dF) (pv 1)))
 (Bp (KY (Ba Oq (CD Cb (pv 0) An dF) (pv 1)) (Nc (pv 0) An IP))
 (Co (FP (pv 4))))) ?L)),?C⟩
  case L =>
   rintro D σ H ⟨i,c,x,y,w,rfl,hi,g,d⟩;refine⟨_,rfl,b,2,_,rfl,rfl,g,_,rfl,_,rfl,_,_,rfl,rfl,G,?_⟩;refine⟨_,rfl,b,2,_,rfl,rfl,g,_,rfl,_,rfl,_,_,rfl,rfl,⟨G,O⟩,?_⟩;exact⟨_,rfl,b,_,2,2,rfl,rfl,g,rfl,_,rfl,d c i (c / m) hi⟩
  case q =>
   rintro D σ H ⟨i,c,s,y,w,rfl,hi,g,ha,d,n⟩;refine⟨_,rfl,b,1,_,rfl,rfl,g,_,rfl,_,rfl,b,0,_,rfl,rfl,g,_,rfl,_,_,rfl,ha,_,_,rfl,rfl,_,rfl,Bj (λ_=>?_) λ_=>?_⟩
   ·exact⟨i,c,s,y,w,rfl,hi,g,d⟩
   ·refine⟨_,rfl,_,_,rfl,rfl,⟨by decide,by decide,by decide⟩,_,_,rfl,rfl,_,rfl,Bj (λ_=>?_) λ_=>?_⟩
    ·exact⟨i,c,s,y,w,rfl,hi,g,d⟩
    ·exact⟨_,rfl,_,rfl,b,_,2,2,rfl,rfl,g,rfl,n s⟩
  case j =>
   rintro D σ H ⟨i,c,s,y,w,rfl,hi,g,d⟩;have M:∀{x y:Int},y<2 ^ 64->0<=y->GX x y:=λh0 h1=>.inr ⟨⋯,h0⟩;have p1:(0:Int)<2147483647:=by decide
   have p2:(0:Int)<2147483629:=by decide
   have p3:(0:Int)<998244353:=by decide
   have p4:(0:Int)<13:=by decide
   have p5:(13:Int)<2 ^ 64:=by decide
   refine⟨_,rfl,_,_,rfl,rfl,M (by decide) (by decide),?_⟩;refine⟨_,rfl,b,1,_,rfl,rfl,g,_,rfl,_,_,rfl,rfl,M (by decide) (by decide),_,_,rfl,rfl,_,_,rfl,rfl,_,_,rfl,rfl,p1,?_⟩;have r0:=Int.emod_nonneg (s * 48271+i * 16807+11) (b:=2147483647) (by decide);have r1:=Int.emod_lt_of_pos (s * 48271+i * 16807+11) (b:=2147483647) (by decide);refine⟨_,rfl,_,rfl,_,_,rfl,rfl,M (by show _ % _<_;lia) r0,_,_,rfl,rfl,p2,?_⟩;refine⟨_,rfl,_,rfl,b,1,_,rfl,rfl,g,_,rfl,_,_,rfl,rfl,_,_,rfl,rfl,M (by decide) (by decide),_,_,rfl,rfl,p3,_,_,rfl,rfl,⟨p4,p5⟩,_,rfl,_,_,rfl,rfl,G,?_⟩;have e:AD H b (Dy a i c z)=H:=funext λp=>by
    by_cases h:p=b
    ·rw[h,Aa,g]
    ·rw[AK h]
   have d2:∀r,D.rt (.int (r % m)) H:=λr=>by
    have:=d r i c hi;rw[e]at this;exact this
   exact d2 _
  case C =>
   refine⟨_,rfl,b,2,_,rfl,rfl,g,_,rfl,_,_,rfl,rfl,_,rfl,Bj (λ_=>?_) λ_=>?_⟩
   ·refine⟨_,rfl,b,1,_,rfl,rfl,g,_,rfl,_,_,rfl,rfl,b,_,1,1,rfl,rfl,g,rfl,?_⟩;have h1:0<=i+1:=⋯;have dd:∀o,KF b a m z { nx:=λx H'=>Q V.non H',rt:=Q } (AD H b o):=λo r u l h=>by rw[H0];exact J r u l h
    have nn:∀o i,0<=i->∀x y w l,TQ b a m z { nx:=λx H'=>Q V.non H',rt:=Q } (Hr b m x y w) (AD (AD H b o) b (Dy a i l z)):=λo i h x y w l=>⟨i,l,x,y,w,rfl,h,Aa,by rw[H0];exact dd _⟩;refine⟨_,rfl,b,3,_,rfl,rfl,Aa,_,rfl,?_⟩;refine⟨_,rfl,b,1,_,rfl,rfl,Aa,_,rfl,_,rfl,b,0,_,rfl,rfl,Aa,_,rfl,_,_,rfl,B _,_,_,rfl,rfl,_,rfl,Bj (λY=>?_) λ_=>?_⟩
    ·have Y:i+1<=((ns.map V.int).length:Int):=aL Y;rw[aA]at Y;obtain⟨v,hv⟩:∃v,ns[i.toNat]?=some v:=⟨_,aH ⋯⟩;have a0:atI (ns.map V.int) (i+1 - 1)=some (V.int v):=by
      rw[show i+1 - 1=((i.toNat:Nat):Int) by lia];exact BU (by rw[bO,hv];rfl)
     refine⟨_,rfl,b,0,_,rfl,rfl,Aa,_,rfl,_,rfl,b,1,_,rfl,rfl,Aa,_,rfl,_,_,rfl,rfl,a,_,_,rfl,rfl,B _,_,a0,?_⟩;exact⟨i+1,c,v,_,_,rfl,h1,Aa,B _,dd _,λl=>nn _ _ h1 _ _ _ l⟩
    ·exact⟨i+1,c,z,_,_,rfl,h1,Aa,B _,dd _,λl=>nn _ _ h1 _ _ _ l⟩
   ·exact⟨i,c,_,_,_,rfl,hi,g,J⟩
theorem ABV{i:Int}(a:0<=i)(h1:i<26):∃c:Nat,atI (Str.ofString "abcdefghijklmnopqrstuvwxyz").cps.toList i=some c/\97<=c/\c<=122:=by
 obtain⟨n,rfl⟩:=Int.eq_ofNat_of_zero_le a;have h:n<26:=⋯;have e:(Str.ofString "abcdefghijklmnopqrstuvwxyz").cps.toList=[97,98,99,100,101,102,103,104,105,106,107,108,109,110,111,112,113,114,115,116,117,118,119,120,121,122]:=by decide +kernel
 rw[e];have q:∀m:_root_.Fin 26,[97,98,99,100,101,102,103,104,105,106,107,108,109,110,111,112,113,114,115,116,117,118,119,120,121,122][m.val]?=some (97+m.val):=by decide +kernel
 exact⟨97+n,BU (q ⟨n,h⟩),⋯,⋯⟩
theorem TR:∀cs:Ge,(cs.map ((λx=>x.cps.toList) ∘ λc=>(⟨#[c]⟩:Str))).flatten=cs
 |[]=>rfl
 |x::r=>by simp[TR r]
theorem ABW(D:Aw K mg "_law_word" J3)(T:TxtB mg)(L:Fn P w K mg base "_law_pull" 1 ["_law_bag_here","_law_many_here"] KD):Fn P w K mg base "_law_word" 2 ["_law_bag_here","_law_size"] TM:=by
 refine FY D TK (λ_ _ _ _ _ _ us o=>CM o dF) (λvs H Q E h=>?_) (λf a0 A v s H vs Q E O h=>?_)
 ·obtain⟨b,a,m,rfl,_⟩:=h;rfl
 ·obtain⟨b,a,n,rfl,J,Y,U,k⟩:=h;refine⟨_,(Bp (CO (i:=2) TK.nd rfl (Or.inr rfl) IC)
 (Co (FP (Gj PySem.F.plainAttrs_str PySem.F.slot_str_join PySem.F.type_str_join V4 IC (Av (Ol (N:=["_law_bag_here","_law_size","_law_letters"]) (sc:=AR J3) (N':=["_law_k","_law_letters","_law_bag_here"]) (qD:=[none,some 2,some 0]) ⟨rfl,nofun,nofun,nofun,nofun,rfl,nofun⟩ rfl (IH (by rfl) T.b_range (Av (pv 1) BE)) (Og rfl) (λp=>(BD (i:=0) (show List.Nodup (["_law_k","_law_letters","_law_bag_here"]:At) from nofun) rfl (Or.inl rfl))) (λp=>Oe) (λp=>(CD Kh (pv 1) (Ev L (O.m) (by rfl) (Av (pv 2) (Av An BE))) dF))) BE))))),?_⟩
  refine⟨rfl,_,rfl,n,rfl,⋯,⋯,?_⟩;refine V2 (Pv:=λD i ys H2=>∃cs:Ge,ys=cs.map (λc=>V.str ⟨#[c]⟩)/\cs.length=i/\(∀c∈cs,97<=c/\c<=122)/\H2 D=some (.lst ys)/\StepD b a D H H2)
   (λD u=>⟨[],rfl,rfl,by simp,Aa,StepD.new J u⟩) (λD i ys H2 _ _ ⟨cs,_,_,_,e,_⟩=>e) ?_ ?_
  ·rintro D u i ys H2 hi ⟨cs,rfl,o,G,g,st⟩;refine⟨_,rfl,_,rfl,b,a,26,rfl,st.bag,by decide,by decide,λr H3 h0 h1 j=>?_⟩;obtain⟨c,C,B,y⟩:=ABV h0 h1;refine⟨_,r,c,rfl,rfl,nofun,C,?_⟩;have I:D≠b:=J.nb u;refine⟨j.same D _ I g,?_,cs++[c],by simp,by simp[o],?_,Aa,(st.step j).put⟩
   ·rw[aA,o];exact Dx ⋯
   ·intro d hd;rcases bA.mp hd with z|z
    ·exact G d z
    ·rw[bI.mp z];exact⟨B,y⟩
  ·rintro D ys H2 u ⟨cs,rfl,o,G,g,st⟩;refine⟨⟨#[]⟩,D,cs.map (λc=>⟨#[c]⟩),rfl,rfl,.of (by rw[bZ];exact g),?_,?_⟩
   ·have e:∀l:Ge,((l.map (λc=>(⟨#[c]⟩:Str))).map (·.length)).sum=l.length:=λl=>by
     induction l with
     |nil=>rfl
     |cons x r M=>simp only[map_cons,sum_cons,M,length_cons];show 1+r.length=_;lia
    rw[e,aA];show cs.length+cs.length * 0<=_;lia
   ·have e:(Txt.join ⟨#[]⟩ (cs.map (λc=>(⟨#[c]⟩:Str)))).cps.toList=cs:=by
     rw[V7,bZ];exact TR cs
    refine k _ H2 ?_ ?_ (st.out u)
    ·have z:(Txt.join ⟨#[]⟩ (cs.map (λc=>(⟨#[c]⟩:Str)))).cps.toList.length=cs.length:=by rw[e]
     have z2:(Txt.join ⟨#[]⟩ (cs.map (λc=>(⟨#[c]⟩:Str)))).length=cs.length:=by rw[<-z];exact bR.symm
     lia
    ·intro c q;rw[e]at q;exact G c q
end
def Ht(x:Str):Prop:=1<=x.length/\x.length<=8/\TL x
def TU:Sp:=λvs H Q _=>∃(b a:Addr) (n:Int),vs=[.ref b,.int n]/\Bag H b a/\0<=n/\n<=9 /\
 ∀(p:Addr) (xs:At) (H':Hp),H p=none->H' p=some (.lst (xs.map V.str))->(xs.length:Int)=n->(∀x∈xs,Ht x)->xs.Nodup->Step b a H H'->Q (.ref p) H'
theorem ABX(h:n<26):atI (Str.ofString "abcdefghijklmnopqrstuvwxyz").cps.toList (n:Int)=some (97+n):=by
 have e:(Str.ofString "abcdefghijklmnopqrstuvwxyz").cps.toList=[97,98,99,100,101,102,103,104,105,106,107,108,109,110,111,112,113,114,115,116,117,118,119,120,121,122]:=by decide +kernel
 rw[e];have q:∀m:_root_.Fin 26,[97,98,99,100,101,102,103,104,105,106,107,108,109,110,111,112,113,114,115,116,117,118,119,120,121,122][m.val]?=some (97+m.val):=by decide +kernel
 exact BU (q ⟨n,h⟩)
def Dp(pre:Ge)(j:Nat):Str:=⟨(pre++[97+j]).toArray⟩
theorem ABY{pre:Ge}(h:Dp pre i=Dp pre j):i=j:=by
 have e:pre++[97+i]=pre++[97+j]:=by
  have:=aT (λz:Str=>z.cps.toList) h;simpa[Dp]using this
 have:=append_cancel_left e;simp at this;exact this
theorem ABZ{pre:Ge}{xs:At}(g:xs.length<26)(h:∀j,j<26->Dp pre j∈xs):False:=by
 have c:((List.range 26).map (Dp pre)).Nodup:=by
  exact List.Pairwise.map (Dp pre) (λi j a e=>a (ABY e)) nodup_range
 have sub:(List.range 26).map (Dp pre) ⊆ xs:=λx d=>by
  obtain⟨j,f,rfl⟩:=bU.mp d;exact h j (bH.mp f)
 have:=c.length_le_of_subset sub;simp at this;lia
section
variable{P:Program}{K:Fg}
theorem ABa:∀{r:Int},0<=r->r<4->∃k:Int,atI [V.int 0,V.int 0,V.int 3,V.int 7] r=some (V.int k)/\0<=k/\k<=7:=by
 intro r a h1;obtain⟨n,rfl⟩:=Int.eq_ofNat_of_zero_le a;have h:n=0\/n=1\/n=2\/n=3:=⋯;rcases h with rfl|rfl|rfl|rfl
 ·exact⟨0,rfl,by decide,by decide⟩
 ·exact⟨0,rfl,by decide,by decide⟩
 ·exact⟨3,rfl,by decide,by decide⟩
 ·exact⟨7,rfl,by decide,by decide⟩
theorem KG(p q:Str):(p++q).cps.toList=p.cps.toList++q.cps.toList:=cI
theorem Hu(p q:Str):(p++q).length=p.length+q.length:=Array.size_append
theorem ABb(D:Aw K mg "_law_names" M8)(T:TxtB mg)(qN:Fn P w K mg base "_law_pull" 1 ["_law_bag_here","_law_many_here"] KD)(qO:Fn P w K mg base "_law_word" 2 ["_law_bag_here","_law_size"] TM):Fn P w K mg base "_law_names" 3 ["_law_bag_here","_law_many_here"] TU:=by
 refine FY D Ek (λ_ _ _ _ _ _ us hl=>CM hl dF) (λvs H Q E h=>?_) (λf ac A a0 s H vs Q E hr h=>?_)
 ·obtain⟨b,a,m,rfl,_⟩:=h;rfl
 ·obtain⟨b,a,n,rfl,hb,ab,aa,k⟩:=h;refine⟨_,(Bp (CO (i:=2) Ek.nd rfl (Or.inl rfl) IC)
 (Bp (CO (i:=3) Ek.nd rfl (Or.inl rfl) (Ga BE))
 (Bp (CO (i:=4) Ek.nd rfl (Or.inl rfl) (Ev qO (hr.m) (by rfl) (Av (pv 0) (Av (CD Cb (Ga (Av An (Av An (Av An (Av An BE))))) (Ev qN (hr.m) (by rfl) (Av (pv 0) (Av An BE))) dF) BE))))
 (Bp (GW PassesOwn.never rfl (IH (by rfl) T.b_range (Av (pv 1) BE)) (BD (i:=5) Ek.nd rfl (Or.inl rfl))
 (Bp (CO (i:=6) Ek.nd rfl (Or.inl rfl) (Ba N0 (pv 4) (Ev qO (hr.m) (by rfl) (Av (pv 0) (Av (Ba DZ An (Ev qN (hr.m) (by rfl) (Av (pv 0) (Av (Ba Kd An (Er OP (by rfl) T.b_len nofun (Av (pv 4) BE))) BE)))) BE)))))
 (Bp (GW PassesOwn.never rfl (IH (by rfl) T.b_range (Av An BE)) (BD (i:=7) Ek.nd rfl (Or.inl rfl))
 (Co (GR (FU V9 (pv 6) (pv 3) (by rfl))
 (Co (CO (i:=6) Ek.nd rfl (Or.inl rfl) (Ba N0 (Gg Op (pv 6) Gd (Gf (Nq Nu An))) (CD Kh (pv 2) (pv 7) dF))))
 GQ)))
 (Co (IE (Gj PySem.F.plainAttrs_list PySem.F.slot_list_append PySem.F.type_list_append Gk (pv 3) (Av (pv 6) BE)))))))
 (Co (FP (pv 3))))))),?_⟩
  refine⟨cD _,λp hp=>?_⟩;have sp:=StepD.new (o:=.lst []) hb hp;refine⟨_,rfl,(by show 4<=sizeLine;decide),λq hq=>?_⟩;have a3:p≠q:=A2 (o:=.lst []) Aa hq;have sq:=sp.step (Step.new (o:=.lst [V.int 0,V.int 0,V.int 3,V.int 7]) sp.bag hq);have a1:=sp.bag.nb hq;refine⟨_,rfl,b,a,4,rfl,sq.bag,by decide,by decide,λr H1 r0 r1 l=>?_⟩;obtain⟨k0,hk,k1,k2⟩:=ABa r0 r1;refine⟨q,r,_,rfl,rfl,l.same q _ a1 Aa,_,hk,?_⟩;refine⟨b,a,k0,rfl,l.bag,k1,⋯,λI H2 a9 a2 M=>?_⟩;have u:=hb.nb hp;have e2:H2 p=some (.lst []):=M.same p _ u (l.same p _ u (by rw[AK a3,Aa]));have s2:StepD b a p H H2:=(sq.step l).step M;have a7:I.length<=7:=⋯;refine⟨_,rfl,n,rfl,⋯,⋯,Np (lo:=0) (n:=n.toNat) (λi σ U=>∃(xs:At) (v5 v6 v:Option V),σ=[some (.ref b),some (.int n),some (.str (Str.ofString "abcdefghijklmnopqrstuvwxyz")),some (.ref p),some (.str I),v5,v6,v] /\
   U p=some (.lst (xs.map V.str))/\xs.length=i/\(∀x∈xs,Ht x)/\xs.Nodup/\StepD b a p H U) ⟨[],_,_,_,rfl,e2,rfl,by simp,nodup_nil,s2⟩ ?_ ?_⟩
  ·rintro i σ U hi ⟨xs,v5,v6,v,rfl,e3,hl,hg,nd,Y⟩;refine⟨_,rfl,_,rfl,_,rfl,_,rfl,I,rfl,aY (Dx ⋯),_,_,rfl,rfl,?_⟩;refine⟨b,a,_,rfl,Y.bag,⋯,⋯,λr2 H4 a5 a4 B=>?_⟩;refine⟨_,_,rfl,rfl,b,a,_,rfl,B.bag,⋯,⋯,λw1 H5 a8 N L=>?_⟩;refine⟨_,_,rfl,rfl,aY (Dx ⋯),?_⟩;have e5:H5 p=some (.lst (xs.map V.str)):=L.same p _ u (B.same p _ u e3);have s5:StepD b a p H H5:=(Y.step B).step L;have g0:Ht (I++w1):=by
    refine⟨by rw[Hu];lia,by rw[Hu];lia,λc O=>?_⟩;rw[KG]at O;rcases bA.mp O with z|z
    ·exact a2 c z
    ·exact N c z
   generalize I++w1=d at g0;refine⟨26,rfl,by decide,by decide,Np (lo:=0) (n:=26) (λs σ H6=>H6=H5/\∃(x:Str) (v:Option V),σ=[some (.ref b),some (.int n),some (.str (Str.ofString "abcdefghijklmnopqrstuvwxyz")),some (.ref p),some (.str I),some (.int (0+(i:Int))),some (.str x),v] /\
    Ht x/\x.cps.toList.take (x.length - 1)=d.cps.toList.take (d.length - 1)/\(x∉xs\/((0<s->x=Dp (d.cps.toList.take (d.length - 1)) (s - 1))/\∀j,j+1<s->Dp (d.cps.toList.take (d.length - 1)) j∈xs)))
    ⟨rfl,d,_,rfl,g0,rfl,.inr ⟨λz=>bS z (aX _),λj z=>bS z (Nat.not_lt_zero _)⟩⟩ ?_ ?_⟩
   ·rintro t σ H6 ht ⟨rfl,x,v,rfl,J,e,C⟩;refine⟨_,rfl,_,rfl,x,p,xs,rfl,rfl,.inl e5,_,rfl,?_⟩;refine Bj (λg=>?_) (λg=>?_)
    ·have g:x∈xs:=aL g;obtain⟨i1,i2⟩:=C.resolve_left λz=>z g;have G:0<x.length:=J.1;have a6:=J.2.1;refine⟨_,rfl,1,rfl,-1,rfl,x,rfl,aY (Dx ⋯),?_⟩;refine⟨_,rfl,_,rfl,_,_,_,rfl,rfl,nofun,(by rw[Int.zero_add];exact ABX ht),?_⟩;have es:(Txt.slice x none (some (-1))).cps.toList=d.cps.toList.take (d.length - 1):=by rw[Kv G,e]
     have el:(Txt.slice x none (some (-1))).length=x.length - 1:=by
      have z:(Txt.slice x none (some (-1))).cps.toList.length=(Txt.slice x none (some (-1))).length:=bR;have z2:x.cps.toList.length=x.length:=bR;rw[<-z,Kv G,aO];lia
     have lc:(⟨#[97+t]⟩:Str).length=1:=rfl;refine⟨_,_,rfl,rfl,aY (Dx (by rw[el,lc];lia)),rfl,_,_,rfl,⟨?_,?_,?_⟩,?_,.inr ⟨λ_=>?_,λj hj=>?_⟩⟩
     ·rw[Hu,lc];lia
     ·rw[Hu,lc,el];lia
     ·intro c O;rw[KG]at O;rcases bA.mp O with z|z
      ·rw[Kv G]at z;exact J.2.2 c (mem_of_mem_take z)
      ·have z:c=97+t:=by simpa using z
       lia
     ·rw[Hu,lc,KG,es];have z3:(d.cps.toList.take (d.length - 1)).length=x.length - 1:=by rw[<-es];exact bR.trans el
      rw[el,take_append_of_le_length ⋯,aZ ⋯]
     ·refine PyProof.Rows.ext_toList ?_;rw[KG,es];simp[Dp]
     ·by_cases z:j+1<t
      ·exact i2 j z
      ·have z':j=t - 1:=⋯;have z0:0<t:=⋯;rw[z',<-i1 z0];exact g
    ·have g:x∉xs:=λz=>g (aK z);exact⟨rfl,x,_,rfl,J,e,.inl g⟩
   ·rintro σ H6 ⟨rfl,x,v,rfl,J,e,C⟩;have hx:x∉xs:=by
     intro g;obtain⟨i1,i2⟩:=C.resolve_left λz=>z g;refine ABZ (pre:=d.cps.toList.take (d.length - 1)) (xs:=xs) ⋯ λj hj=>?_;by_cases z:j+1<26
     ·exact i2 j z
     ·have z':j=25:=⋯;rw[z',<-i1 (by decide)];exact g
    refine⟨_,rfl,.inl ⟨rfl,_,.of e5⟩,_,rfl,p,_,_,rfl,rfl,e5,by rw[aA];exact Dx ⋯,?_⟩;refine⟨xs++[x],_,_,_,rfl,?_,by simp[hl],?_,?_,s5.put⟩
    ·rw[Aa];simp
    ·intro y hy;rcases bA.mp hy with z|z
     ·exact hg y z
     ·rw[bI.mp z];exact J
    ·exact Oa nd hx
  ·rintro σ U ⟨xs,v5,v6,v,rfl,e3,hl,hg,nd,Y⟩;exact⟨_,rfl,k p xs U hp e3 ⋯ hg nd (Y.out hp)⟩
end
def KH:pF:=λxs K=>∃m,xs=[.bag,.int m]/\0<m/\m<2 ^ 64/\∀r,0<=r->r<m->K (.int r)
def TV:pF:=λxs K=>∃n,xs=[.bag,.int n]/\0<=n/\n<=9/\∀ns:At,(ns.length:Int)=n->(∀x∈ns,Ht x)->ns.Nodup->K (.lst (ns.map P.str))
section
variable{K:Fg}
theorem TW{b:Addr}{m:Int}(r:AB b (λp=>p=b) H [.bag,.int m] vs):vs=[.ref b,.int m]:=by
 obtain⟨v,t,rfl,h1,u,a,rfl,h2,c⟩:=r;rw[show v=_ from h1,show u=_ from h2,show a=_ from c]
theorem ABc(G:Fn P' w K mg base "_law_pull" 1 ["_law_bag_here","_law_many_here"] KD):Fn P' w K mg base "_law_pull" 1 ["_law_bag_here","_law_many_here"] (AM KH):=G.imp λvs H Q E h=>by
 obtain⟨b,a,xs,j,f,r,⟨m,rfl,i,h1,e⟩,g⟩:=h;exact⟨b,a,m,TW r,f,i,h1,λr H' d c st=>g _ _ H' (e r d c) st rfl⟩
theorem ABd(G:Fn P' w K mg base "_law_names" 3 ["_law_bag_here","_law_many_here"] TU):Fn P' w K mg base "_law_names" 3 ["_law_bag_here","_law_many_here"] (AM TV):=G.imp λvs H Q E h=>by
 obtain⟨b,a,xs,o,j,r,⟨m,rfl,n,h1,g⟩,l⟩:=h;exact⟨b,a,m,TW r,j,n,h1,λp ns H' c e f i d st=>l _ _ H' (g ns f i d) st ⟨p,_,rfl,λz=>z c,e,AB.strs.mpr rfl⟩⟩
end
def KI(K:Fg):Sp:=λvs H Q _=>∃(a:Addr) (ns:By),vs=[.ref a]/\Aq K H a (ns.map V.int)/\∀H',Q (.bl true) H'
theorem ABe{b a:Addr}{v:Option V}(c:Bag H b a):Ok ⟨b,a,H,λ_=>none,λ_=>False⟩ (.emp::.sh .bag::replicate n .emp) (v::some (.ref b)::replicate n none) H where
 bag:=c
 fb:=rfl
 old:=λ_ _ _ e=>e
 frm:=λ_ _ e=>nomatch e
 oo:=λ_ z=>z.elim
 len:=by simp
 slot:=λi s e=>by
  match i with
  |0=>cases e;exact⟨v,rfl,trivial⟩
  |1=>cases e;exact⟨_,rfl,_,rfl,rfl⟩
  |i+2 =>
   simp only[getElem?_cons_succ,getElem?_replicate]at e;split at e
   ·cases e;rename_i hi;exact⟨none,by simp only[getElem?_cons_succ,getElem?_replicate,aC hi],trivial⟩
   ·cases e
 uniq:=λi j x y h=>by
  exfalso
  match i with
  |0=>cases h
  |1=>cases h
  |i+2 =>
   simp only[getElem?_cons_succ,getElem?_replicate]at h;split at h
   ·cases h
   ·cases h
theorem ABf{K:Fg}{c:Stmt}{qF:He}{p:pS}(l:PS X c (En (Gb (KC K) [] E0 (CC (CH 0) CB)) (CI 1)))(h:Ay (λ_:Unit=>X) qF p)
  (i:p { nx:=λ_=>False,rt:=λx=>x=.bl true } (.emp::.sh .bag::replicate n .emp)) :
  ∃t,Bf X (c::qF) t/\∀(a:Addr) (ns:By) (H:Hp) (Q:VK),Aq K H a (ns.map V.int)->(∀H',Q (.bl true) H')->t { nx:=λ_ H'=>Q .non H',rt:=Q } (some (.ref a)::none::replicate n none) H:=by
 obtain⟨t,f,d⟩:=h;refine⟨_,Bp l (f ()),λa ns H Q j k=>⟨_,rfl,a,ns,rfl,j,λb q H1 nb na B o=>?_⟩⟩;refine d _ _ _ H1 _ _ (ABe (n:=n) B) i ⟨λ_ _ _ e=>e.elim,λx v H' e g=>?_,λ_ _ _ e=>e.elim,λ_ _ _ e=>e.elim,λ_ z=>z,λ_ _ _ e=>e.elim⟩;subst e;rw[show v=.bl true from g.2.2];exact k H'
section
variable{K:Fg}
theorem ABg{n:Int}(a:0<=n):DM 0 n.toNat=(List.range n.toNat).map λ(k:Nat)=>P.int (0+k):=rfl
theorem ABh(D:Aw K mg "_law_answers" J4)(T:TxtB mg)(g:Fn P' w K mg base "_law_pull" 1 ["_law_bag_here","_law_many_here"] (AM KH)):Fn P' w K mg base "_law_answers" 2 ["_law_bag_here","_law_size","_law_base"] (AM Q6):=by
 refine BC D ABK (λ_ _ _ _ _ _ us c=>EB c (λ_ _ _=>rfl)) (λxs K h=>?_) (by decide) (λv p A a s H E j=>⟨_,(AV (Al (Bv (λ_=>EN) EU (λ_=>T.b_tuple) nofun (AA (B5 (N:=["_law_bag_here","_law_size","_law_base"]) (sc:=AR J4) (N':=["_law_k","_law_bag_here","_law_base"]) (qD:=[none,some 0,some 2]) ⟨rfl,nofun,nofun,nofun,nofun,rfl,nofun⟩ (by decide) dE (HB (λ_=>T.b_range) (AA (qv 1) AE)) (Br (k:=0) rfl (λ_=>show List.Nodup (["_law_k","_law_bag_here","_law_base"]:At) from nofun)) CJ (Ad (λ_=>g) (λ_=>j.m) (AA (qv 1) (AA (qv 2) AE)))) AE)))),λxs K h=>?_⟩)
 ·obtain⟨_,_,rfl,_⟩:=h;rfl
 ·obtain⟨n,b,rfl,o,h1,u,q,h⟩:=h;simp! only[AW];refine⟨⋯,⋯,by rw[D2];lia,?_⟩;rw[ABg o];refine A3.rel P.int (λ_ x=>0<=x/\x<b) (λk _ M l=>⟨b,rfl,u,q,λr f e=>l r _ ⟨f,e⟩⟩) dE (λbs d=>?_);have c:=d.length;rw[bG]at c;simp! only[AW];exact h bs ⋯ λx i=>let⟨_,_,z⟩:=d.mem x i;z
theorem ABi{a b c d:Int}{r:Int}(e:0<=r)(h1:r<4):atI [P.int a,P.int b,P.int c,P.int d] r=some (.int (if r=0 then a else if r=1 then b else if r=2 then c else d)):=by
 obtain⟨n,rfl⟩:=Int.eq_ofNat_of_zero_le e;have h:n=0\/n=1\/n=2\/n=3:=⋯;rcases h with rfl|rfl|rfl|rfl<;>rfl
theorem ABj(D:Aw K mg "_law_many" M9)(T:TxtB mg)(e:Fn P' w K mg base "_law_pull" 1 ["_law_bag_here","_law_many_here"] (AM KH)):Fn P' w K mg base "_law_many" 2 ["_law_bag_here"] (AM Q7):=by
 refine BC D ABL (λ_ _ _ _ _ _ us j=>DH j dE) (λxs K h=>?_) (by decide) (λo l A c s H E f=>⟨_,(AV (Al (C6 (λ_=>DZ) HH AS (Ad (λ_=>e) (λ_=>f.m) (AA (qv 0) (AA (Ai (λ_=>Aj) Ak (D0 (AA AS (AA AS (AA AS (AA (C6 (λ_=>Nt) W3 AS AS) AE))))) (Ad (λ_=>e) (λ_=>f.m) (AA (qv 0) (AA AS AE))) dF) AE)))))),λxs K h=>?_⟩)
 ·obtain⟨rfl,_⟩:=h;rfl
 ·obtain⟨rfl,h⟩:=h;simp! only[IJ];refine⟨by decide,4,rfl,by decide,by decide,λr i g=>?_⟩;simp! only[AW];refine⟨_,ABi i g,?_⟩;have a:(10:Int) ^ (12:Int).toNat=1000000000000:=by decide
  refine⟨_,rfl,?_,?_,λz n d=>?_⟩
  ·rw[a];split<;>(try split)<;>(try split)<;>decide
  ·rw[a];split<;>(try split)<;>(try split)<;>decide
  ·simp! only[AW];refine h _ ⋯ ?_;rw[a]at d;have:z<1000000000000:=by
    revert d;split
    ·intro;lia
    ·split
     ·intro;lia
     ·split<;>intro<;>lia
   lia
def NF:pF:=λxs K=>∃t,xs=[CK t]/\t.length<=100000/\(∃n,∀q∈t,q.1.length=n)/\K (AL (A6 t))
theorem ABk(D:Aw K mg "_law_settled" J5)(T:TxtB mg):Fn P' w K mg base "_law_settled" 1 ["_law_counts"] (AM NF):=by
 refine BC D ABM (λ_ _ _ _ _ _ us p=>DH p dE) (λxs K h=>?_) (by decide) (λC B A g s H E a=>?_)
 ·obtain⟨_,rfl,_⟩:=h;rfl
 ·have l:=EJ a;refine⟨_,(AV (Al (B5 (N:=["_law_counts"]) (sc:=AR J5) (N':=["_law_row","_law_counts"]) (qD:=[none,some 0]) ⟨rfl,nofun,nofun,nofun,nofun,rfl,nofun⟩ (by decide) dE (Bk dE (BP (λ_=>(Yg a)) Yh (λ_=>T.b_sorted) nofun (AA (Bv (λ_=>(Lb rfl)) Lf (λ_=>T.b_list) nofun (AA (qv 0) AE)) AE))) (Br (k:=0) rfl (λ_=>show List.Nodup (["_law_row","_law_counts"]:At) from nofun)) (ES (BB (λ_=>(DB a)) DC (Fv (λ_=>l) (qv 1) (qv 0) dF) AS (A5 _))) (C8 (AA (qv 0) (AA (Fv (λ_=>l) (qv 1) (qv 0) dF) AE)))))),λxs K h=>?_⟩;obtain⟨t,rfl,p,j,h⟩:=h;simp! only[AW];obtain⟨n,j⟩:=j;refine⟨t.map (·.1),rfl,by rw[aA];lia,⟨n,λr a=>by obtain⟨q,v,rfl⟩:=bU.mp a;exact j q v⟩,λf i u=>?_⟩
  ·have o:f.length=t.length:=by rw[i.length_eq,aA]
   have e:=Lo i u;simp! only[aA];refine⟨⋯,?_⟩;have get:∀r∈f,Bm (t.map (·.1)) (t.map λq=>P.int q.2) r=some (.int ((AX t r).getD 0)):=λr a=>by
    rw[JL];have x:r∈t.map (·.1):=i.mem_iff.mp a;obtain⟨c,y⟩:=Q5 x;rw[y];rfl
   refine A3.filter (λr=>decide ((AX t r).getD 0≠0)) (λr=>Ax (r,(AX t r).getD 0)) (λr _ _=>by simp) (λr a M d=>?_) ?_
   ·simp! only[AW];refine⟨_,get r a,?_⟩;have d:=d .nw;simp! only[AW];refine Bj (λz=>?_) (λz=>?_)
    ·rw[aC (by simpa using z)]at d;exact⟨_,get r a,d⟩
    ·rw[aB (by simpa using z)]at d;exact d
   ·simp! only[AW];rw[e];have:((CV (t.map (·.1))).filter λr=>decide ((AX t r).getD 0≠0)).map (λr=>Ax (r,(AX t r).getD 0))=(A6 t).map Ax:=by
     unfold A6;rw[bZ];rfl
    have h':=h;rw[show AL (A6 t)=.lst _ from aT P.lst this.symm]at h';exact h'
theorem KJ(a:List (By×Int))(r:By):(Bm (a.map (·.1)) (a.map λq=>P.int q.2) r).getD (.int 0)=.int ((AX a r).getD 0):=by
 rw[JL];cases AX a r<;>rfl
theorem KL(t:List (By×Int)):P.imms (t.map λq=>P.int q.2)=true:=by
 have:=IY (t.map (·.2));simpa[bZ,Function.comp_def]using this
def NG:pF:=λxs K=>∃qC qK,xs=[AJ qC,AJ qK]/\qC.length<=100/\K (.bl (qC.all λn=>decide (n∈qK)))
theorem ABl(D:Aw K mg "within" GD)(T:TxtB mg):Fn P' w K mg base "within" 1 ["part","room"] (AM NG):=by
 refine BC D TF (λ_ _ _ _ _ _ us c=>CM c dF) (λxs K h=>?_) (by decide) (λg f A a s H E d=>⟨_,(AV (Al (BP (λ_=>(IW rfl)) Iq (λ_=>T.b_all) nofun (AA (B5 (N:=["part","room"]) (sc:=AR GD) (N':=["name","room"]) (qD:=[none,some 1]) ⟨rfl,nofun,nofun,nofun,nofun,rfl,nofun⟩ (by decide) dE (E4 dE (qv 0)) (Br (k:=0) rfl (λ_=>show List.Nodup (["name","room"]:At) from nofun)) CJ (K1 (λ_=>(Ix d)) Iz (qv 0) (qv 1) (by rfl))) AE)))),λxs K h=>?_⟩)
 ·obtain⟨_,_,rfl,_⟩:=h;rfl
 ·obtain⟨qC,qK,rfl,c,h⟩:=h;simp![AW];refine⟨⋯,A3.map (λn=>.bl (decide (n∈qK))) dF (λn _ M e=>?_) ?_⟩
  ·simp![JA];exact e _
  ·refine⟨qC.map λn=>decide (n∈qK),by rw[bZ];rfl,?_⟩;rw[all_map];exact h
def NH:pF:=λxs K=>∃one qE,xs=[AJ one,AJ qE]/\one.length<=100/\K (AJ (Au one qE))
theorem ABm(D:Aw K mg "common" Js)(T:TxtB mg):Fn P' w K mg base "common" 1 ["one","other"] (AM NH):=by
 refine BC D ABF (λ_ _ _ _ _ _ us d=>CM d dF) (λxs K h=>?_) (by decide) (λi g A c s H E f=>⟨_,(AV (Al (Bv (λ_=>EN) EU (λ_=>T.b_tuple) nofun (AA (B5 (N:=["one","other"]) (sc:=AR Js) (N':=["name","other"]) (qD:=[none,some 1]) ⟨rfl,nofun,nofun,nofun,nofun,rfl,nofun⟩ (by decide) dE (E4 dE (qv 0)) (Br (k:=0) rfl (λ_=>show List.Nodup (["name","other"]:At) from nofun)) (ES (BB (λ_=>(Ix f)) Iz (qv 0) (qv 1) (by rfl))) (qv 0)) AE)))),λxs K h=>?_⟩)
 ·obtain⟨_,_,rfl,_⟩:=h;rfl
 ·obtain⟨one,e,rfl,d,h⟩:=h;simp![AW];refine⟨⋯,A3.filter (λn=>decide (n∈e)) P.str (λ_ _ _=>rfl) (λn _ M a=>?_) ?_⟩
  ·simp![JA];have a:=a .cl;refine Bj (λz=>?_) (λz=>?_)
   ·rw[aC (by simpa using z)]at a;exact a
   ·rw[aB (by simpa using z)]at a;exact a
  ·simp![AW];exact h
def NI:pF:=λxs K=>∃qK r qC,xs=[AJ qK,AT r,AJ qC]/\qC.length<=100/\r.length=qK.length/\(∀n∈qC,n∈qK)/\K (AT (AU qK r qC))
theorem ABn(D:Aw K mg "_law_row_of" J6)(T:TxtB mg):Fn P' w K mg base "_law_row_of" 1 ["_law_room","_law_row","_law_part"] (AM NI):=by
 refine BC D ABN (λ_ _ _ _ _ _ us f=>EB f (λ_ _ _=>rfl)) (λxs K h=>?_) (by decide) (λo j A a s H E l=>⟨_,(AV (Al (Bv (λ_=>EN) EU (λ_=>T.b_tuple) nofun (AA (B5 (N:=["_law_room","_law_row","_law_part"]) (sc:=AR J6) (N':=["_law_name","_law_row","_law_room"]) (qD:=[none,some 1,some 0]) ⟨rfl,nofun,nofun,nofun,nofun,rfl,nofun⟩ (by decide) dE (E4 dE (qv 2)) (Br (k:=0) rfl (λ_=>show List.Nodup (["_law_name","_law_row","_law_room"]:At) from nofun)) CJ (Ai (λ_=>Aj) Ak (qv 1) (RG (qv 2) (qv 0)) dF)) AE)))),λxs K h=>?_⟩)
 ·obtain⟨_,_,_,rfl,_⟩:=h;rfl
 ·obtain⟨qK,r,qC,rfl,f,g,c,h⟩:=h;simp![AW];refine⟨⋯,A3.map (λn=>.int (r.getD (idx qK n) 0)) dF (λn d M i=>?_) ?_⟩
  ·simp![AW];have hi:=FD (c n d);refine⟨idx qK n,(FC (c n d)).1,(FC (c n d)).2,.int (r.getD (idx qK n) 0),BU ?_,i _⟩;rw[bO,bW,aH ⋯];rfl
  ·simp![AW];have e:AT (AU qK r qC)=.tup (qC.map λn=>P.int (r.getD (idx qK n) 0)):=by
    show P.tup ((qC.map _).map _)=_;rw[bZ];rfl
   rw[e]at h;exact h
def GI:pF:=λxs K=>∃qK qC,xs=[AJ qK,AJ qC]/\qC.length<=100/\(∀n∈qC,n∈qK)/\K (.lst ((qC.map (idx qK)).map λ(j:Nat)=>.int (j:Int)))
theorem ABo(D:Aw K mg "places" Jt)(T:TxtB mg)(f:Fn P' w K mg base "within" 1 ["part","room"] (AM NG)):Fn P' w K mg base "places" 2 ["room","part"] (AM GI):=by
 refine BC D ABG (λ_ _ _ _ _ _ us e=>CM e dF) (λxs K h=>?_) (by decide) (λo l A c s H E g=>⟨_,(AN (Bd (DK (Cu (Ad (λ_=>f) (λ_=>g.m) (AA (qv 1) (AA (qv 0) AE)))))
 (AV PP)
 Bc)
 (AV (Al (B5 (N:=["room","part"]) (sc:=AR Jt) (N':=["name","room"]) (qD:=[none,some 0]) ⟨rfl,nofun,nofun,nofun,nofun,rfl,nofun⟩ (by decide) dE (E4 dE (qv 1)) (Br (k:=0) rfl (λ_=>show List.Nodup (["name","room"]:At) from nofun)) CJ (RG (qv 1) (qv 0)))))),λxs K h=>?_⟩)
 ·obtain⟨_,_,rfl,_⟩:=h;rfl
 ·obtain⟨qK,qC,rfl,e,d,h⟩:=h;have i:(qC.all λn=>decide (n∈qK))=true:=all_eq_true.mpr λn a=>aK (d n a);simp![NG,i];refine⟨⋯,⋯,A3.map (λn=>.int (idx qK n:Int)) dF (λn a M j=>?_) ?_⟩
  ·simp![AW];exact⟨idx qK n,(FC (d n a)).1,(FC (d n a)).2,j _⟩
  ·simp![AW];rw[bZ]at h;exact h
def GJ:pF:=λxs K=>∃(r:By) (js:Ge),xs=[AT r,.lst (js.map λ(j:Nat)=>.int (j:Int))]/\js.length<=100/\(∀j∈js,j<r.length)/\K (AT (js.map λ(j:Nat)=>r.getD j 0))
theorem ABp(D:Aw K mg "picked" Ju)(T:TxtB mg):Fn P' w K mg base "picked" 1 ["row","spots"] (AM GJ):=by
 refine BC D ABH (λ_ _ _ _ _ _ us d=>CM d dF) (λxs K h=>?_) (by decide) (λo l A a s H E n=>⟨_,(AV (Al (Bv (λ_=>EN) EU (λ_=>T.b_tuple) nofun (AA (B5 (N:=["row","spots"]) (sc:=AR Ju) (N':=["spot","row"]) (qD:=[none,some 0]) ⟨rfl,nofun,nofun,nofun,nofun,rfl,nofun⟩ (by decide) dE (Bk dE (qv 1)) (Br (k:=0) rfl (λ_=>show List.Nodup (["spot","row"]:At) from nofun)) CJ (Ai (λ_=>Aj) Ak (qv 1) (qv 0) dF)) AE)))),λxs K h=>?_⟩)
 ·obtain⟨_,_,rfl,_⟩:=h;rfl
 ·obtain⟨r,c,rfl,d,g,h⟩:=h;simp![AW];refine⟨⋯,A3.map (λ(j:Nat)=>.int (r.getD j 0)) dF (λj f M i=>?_) ?_⟩
  ·simp![AW];refine⟨.int (r.getD j 0),BU ?_,i _⟩;rw[bO,bW,aH (g j f)];rfl
  ·simp![AW];have e:AT (c.map λ(j:Nat)=>r.getD j 0)=.tup (c.map λ(j:Nat)=>P.int (r.getD j 0)):=by
    show P.tup ((c.map _).map _)=_;rw[bZ];rfl
   rw[e]at h;exact h
def NJ:pF:=λxs K=>∃t,xs=[AL t]/\t.length<=100000/\(∃n,∀q∈t,q.1.length=n)/\K (AL (D5 (BY t)))
def ABq:pS:=λE ρ=>∃x a r c,ρ=[x,.own (CK a),.sh (AT r),.sh (.int c)]/\a.length<=100000/\E.nx [x,.own (CK (CW a (r,c))),.sh (AT r),.sh (.int c)]
def ABr:pS:=λE ρ=>∃t,ρ=[.sh (AL t),.own (.dT [] []),.emp,.emp]/\t.length<=100000/\∀v1 v2,E.nx [.sh (AL t),.own (CK (BY t)),v1,v2]
theorem ABs(D:Aw K mg "summed" Jv)(T:TxtB mg):Fn P' w K mg base "summed" 1 ["papers"] (AM NJ):=by
 refine BC D Jw (λ_ _ _ _ _ _ us y=>DH y dE) (λxs K h=>?_) (by decide) (λfa a1 A C s H E d=>?_)
 ·obtain⟨_,rfl,_⟩:=h;rfl
 ·have B:=EJ d;refine⟨_,(AN (Am (k:=1) (λ_=>Jw.nd) JG)
 (AN (QS.weak (m:=ABr) (Ft 0 (DA (λ_=>PassesOwn.never) dE (Bk dE (qv 0)) (G8 (ks:=[2,3]) dE dE (λ_=>(Bi (BD (i:=2) Jw.nd rfl (Or.inl rfl)) (Bi (BD (i:=3) Jw.nd rfl (Or.inl rfl)) DY))) rfl)
 (Ay.weak (m:=ABq) (AV (La (k:=1) (λ_=>B) (qv 2) (C6 (λ_=>DZ) HH (JF (λ_=>B) (qv 1) (qv 2) AS) (qv 3)))) ?g))) ?f)
 (AV (Al (B5 (N:=["papers","counts","row","count"]) (sc:=AR Jv) (N':=["row","counts"]) (qD:=[none,some 1]) ⟨rfl,nofun,nofun,nofun,nofun,rfl,nofun⟩ (by decide) dE (Bk dE (BP (λ_=>(Yi rfl d)) Yj (λ_=>T.b_sorted) nofun (AA (qv 1) AE))) (Br (k:=0) rfl (λ_=>show List.Nodup (["row","counts"]:At) from nofun)) (ES (BB (λ_=>GZ) Ip (Fv (λ_=>B) (qv 1) (qv 0) dF) AS (A5 _))) (C8 (AA (qv 0) (AA (Fv (λ_=>B) (qv 1) (qv 0) dF) AE)))))))),λxs K h=>?_⟩
  case g =>
   rintro E ρ ⟨x,a,r,c,rfl,y,h⟩;simp![KL,KJ];refine⟨⋯,?_⟩;rw[Ll];exact h
  case f =>
   rintro E ρ ⟨t,rfl,y,h⟩;simp![AW];refine⟨λi ρ=>∃o l,ρ=[.sh (AL t),.own (CK ((t.take i).foldl CW [])),o,l],⟨_,_,rfl⟩,λi ρ' x O L=>?_,λρ' L=>?_⟩
   ·obtain⟨o,l,rfl⟩:=L;rw[bO]at O;obtain⟨q,G,rfl⟩:=aJ.mp O;simp![AW];have v:=sum_len (t.take i) [];have a0:(t.take i).length<=t.length:=by rw[aO];lia
    refine⟨_,_,q.1,q.2,rfl,by simp at v;lia,.sh (AT q.1),.sh (.int q.2),?_⟩;rw[take_add_one,G,foldl_append];rfl
   ·obtain⟨o,l,rfl⟩:=L;have:=h o l;rw[aZ (aQ _)];exact this
  ·obtain⟨t,rfl,y,J,h⟩:=h;simp![AW];refine⟨t,rfl,y,λo l=>?_⟩;simp![AW];obtain⟨n,J⟩:=J;have v:(BY t).length<=t.length:=by have:=sum_len t [];simp only[length_nil,Nat.zero_add]at this;exact this
   refine⟨(BY t).map (·.1),⟨_,rfl⟩,by rw[aA];lia,⟨n,λr d=>by obtain⟨q,G,rfl⟩:=bU.mp d;exact MB J q G⟩,λp I U=>?_⟩
   ·have Q:p.length=(BY t).length:=by rw[I.length_eq,aA]
    have e:=Lo I U;generalize BY t=u at *;refine⟨⋯,?_⟩;have get:∀r∈p,Bm (u.map (·.1)) (u.map λq=>P.int q.2) r=some (.int ((AX u r).getD 0)):=λr d=>by
     rw[JL];have Y:r∈u.map (·.1):=I.mem_iff.mp d;obtain⟨c,hc⟩:=Q5 Y;rw[hc];rfl
    refine A3.filter (λr=>decide (0<(AX u r).getD 0)) (λr=>Ax (r,(AX u r).getD 0)) (λr _ _=>by simp) (λr d M j=>?_) ?_
    ·simp![get r d];have j:=j .nw;refine Bj (λz=>?_) (λz=>?_)
     ·rw[aC (by simpa using z)]at j;exact j
     ·rw[aB (by simpa using z)]at j;exact j
    ·simp![AW];rw[e];have e2:((CV (u.map (·.1))).filter λr=>decide (0<(AX u r).getD 0)).map (λr=>Ax (r,(AX u r).getD 0))=(D5 u).map Ax:=by
      unfold D5;rw[bZ];rfl
     rw[e2];exact h
def TX:pF:=λxs K=>∃qK t qC,xs=[AJ qK,AL t,AJ qC]/\Sh qK t qC/\K (AL (D5 (BY (A9 qK t qC))))
theorem ABt(D:Aw K mg "shared" Jx)(T:TxtB mg)(r:Fn P' w K mg base "places" 2 ["room","part"] (AM GI))(o:Fn P' w K mg base "picked" 1 ["row","spots"] (AM GJ))(l:Fn P' w K mg base "summed" 1 ["papers"] (AM NJ)):Fn P' w K mg base "shared" 3 ["room","rows","part"] (AM TX):=by
 refine BC D TH (λ_ _ _ _ _ _ us v=>EB v (λ_ _ _=>rfl)) (λxs K h=>?_) (by decide) (λB y A d s H E f=>⟨_,(AN (Am (k:=3) (λ_=>TH.nd) (Ad (λ_=>r) (λ_=>f.m) (AA (qv 0) (AA (qv 2) AE))))
 (AV (Al (Ad (λ_=>l) (λ_=>f.m) (AA (B5 (N:=["room","rows","part","spots"]) (sc:=AR Jx) (N':=["row","count","spots"]) (qD:=[none,none,some 3]) ⟨rfl,nofun,nofun,nofun,nofun,rfl,nofun⟩ (by decide) dE (Bk dE (qv 1)) (Im (i:=0) (j:=1) rfl rfl dE dE (λ_=>(Bi (BD (i:=0) (show List.Nodup (["row","count","spots"]:At) from nofun) rfl (Or.inl rfl)) (Bi (BD (i:=1) (show List.Nodup (["row","count","spots"]:At) from nofun) rfl (Or.inl rfl)) DY)))) CJ (C8 (AA (Ad (λ_=>o) (λ_=>f.m) (AA (qv 0) (AA (qv 2) AE))) (AA (qv 1) AE)))) AE))))),λxs K h=>?_⟩)
 ·obtain⟨_,_,_,rfl,_⟩:=h;rfl
 ·obtain⟨qK,t,qC,rfl,a,h⟩:=h;simp![GI,GJ,NJ];have h1:=a.len;have h2:=a.few;refine⟨⋯,a.sub,?_⟩;refine⟨⋯,A3.map (λq=>Ax (AU qK q.1 qC,q.2)) (λ_ _=>HU _) (λq g M c=>?_) ?_⟩
  ·simp![AW];have c:=c .nw;have e:AU qK q.1 qC=(qC.map (idx qK)).map λ(j:Nat)=>q.1.getD j 0:=by unfold AU;rw[bZ];rfl
   rw[e]at c;refine⟨qC.map (idx qK),rfl,by rw[aA];lia,λj x=>?_,c⟩;obtain⟨n,u,rfl⟩:=bU.mp x;rw[a.rows q g];exact FD (a.sub n u)
  ·simp![AW];refine⟨A9 qK t qC,by unfold A9;rw[bZ];rfl,by unfold A9;rw[aA];lia,⟨qC.length,λq g=>?_⟩,h⟩;obtain⟨p,z,rfl⟩:=bU.mp g;exact MC _ _ _
def NK:pF:=λxs K=>∃qK t qC,xs=[AJ qK,AL t,AJ qC]/\Sh qK t qC/\K (AL (Ab qK t qC))
def ABu:pS:=λE ρ=>∃qK t qC a r c x,ρ=[.sh (AJ qK),.sh (AL t),.sh (AJ qC),.own (CK a),.sh (AT r),.sh (.int c),x]/\a.length<=100000/\qC.length<=100/\r.length=qK.length/\(∀n∈qC,n∈qK)/\∀y,E.nx [.sh (AJ qK),.sh (AL t),.sh (AJ qC),.own (CK (CW a (AU qK r qC,c))),.sh (AT r),.sh (.int c),y]
def ABv:pS:=λE ρ=>∃qK t qC,ρ=[.sh (AJ qK),.sh (AL t),.sh (AJ qC),.own (.dT [] []),.emp,.emp,.emp]/\Sh qK t qC/\∀x y z,E.nx [.sh (AJ qK),.sh (AL t),.sh (AJ qC),.own (CK (BY (A9 qK t qC))),x,y,z]
theorem ABw(D:Aw K mg "_law_portion" NA)(T:TxtB mg)(O:Fn P' w K mg base "_law_row_of" 1 ["_law_room","_law_row","_law_part"] (AM NI))(N:Fn P' w K mg base "_law_settled" 1 ["_law_counts"] (AM NF)):Fn P' w K mg base "_law_portion" 2 ["_law_room","_law_rows","_law_part"] (AM NK):=by
 refine BC D Ho (λ_ _ _ _ _ _ us L=>EB L (λ_ _ _=>rfl)) (λxs K h=>?_) (by decide) (λfa Y A l s H E o=>?_)
 ·obtain⟨_,_,_,rfl,_⟩:=h;rfl
 ·have I:=EJ o;refine⟨_,(AN (Am (k:=3) (λ_=>Ho.nd) JG)
 (AN (QS.weak (m:=ABv) (Ft 1 (DA (λ_=>PassesOwn.never) dE (Bk dE (qv 1)) (G8 (ks:=[4,5]) dE dE (λ_=>(Bi (BD (i:=4) Ho.nd rfl (Or.inl rfl)) (Bi (BD (i:=5) Ho.nd rfl (Or.inl rfl)) DY))) rfl)
 (Ay.weak (m:=ABu) (AN (Am (k:=6) (λ_=>Ho.nd) (Ad (λ_=>O) (λ_=>o.m) (AA (qv 0) (AA (qv 4) (AA (qv 2) AE)))))
 (AV (La (k:=3) (λ_=>I) (qv 6) (C6 (λ_=>DZ) HH (JF (λ_=>I) (qv 3) (qv 6) AS) (qv 5))))) ?g))) ?d)
 (AV (Al (Ad (λ_=>N) (λ_=>o.m) (AA (qv 3) AE)))))),λxs K h=>?_⟩
  case g =>
   rintro E ρ ⟨qK,t,qC,a,r,c,x,rfl,L,Q,n,j,h⟩;simp![NI,KL,KJ];refine⟨Q,n,j,⋯,?_⟩;rw[Ll];exact h _
  case d =>
   rintro E ρ ⟨qK,t,qC,rfl,f,h⟩;simp![AW];refine⟨λi ρ=>∃x y z,ρ=[.sh (AJ qK),.sh (AL t),.sh (AJ qC),.own (CK ((A9 qK (t.take i) qC).foldl CW [])),x,y,z],⟨_,_,_,rfl⟩,λi ρ' x G u=>?_,λρ' u=>?_⟩
   ·obtain⟨C,B,v,rfl⟩:=u;rw[bO]at G;obtain⟨q,J,rfl⟩:=aJ.mp G;simp![AW];have p:=sum_len (A9 qK (t.take i) qC) [];have U:(A9 qK (t.take i) qC).length<=t.length:=by unfold A9;rw[aA,aO];lia
    have M:=f.few;refine⟨qK,t,qC,_,q.1,q.2,_,rfl,by simp at p;lia,f.len,f.rows q (aM J),f.sub,λy=>⟨.sh (AT q.1),.sh (.int q.2),y,?_⟩⟩;have e:A9 qK (t.take (i+1)) qC=A9 qK (t.take i) qC++[(AU qK q.1 qC,q.2)]:=by
     unfold A9;rw[take_add_one,J,cN];rfl
    rw[e,foldl_append];rfl
   ·obtain⟨C,B,v,rfl⟩:=u;have:=h C B v;rw[aZ (aQ _)];exact this
  ·obtain⟨qK,t,qC,rfl,f,h⟩:=h;simp![AW];refine⟨qK,t,qC,rfl,f,λx y z=>?_⟩;simp![AW];have M:=f.few;exact⟨_,rfl,aR (MA _) (by rw[MD];exact M),⟨_,MB (Rl qK t qC)⟩,h⟩
end
section
variable{K:Fg}
def KM:pF:=λxs K=>∃i,xs=[.int i]/\K (.bl true)
theorem ABx(D:Aw K mg "_law_whole" NC)(T:TxtB mg):Fn P' w K mg base "_law_whole" 1 ["_law_found"] (AM KM):=by
 refine BC D ABP (λ_ _ _ _ _ _ us c=>DH c dE) (λxs K h=>?_) (by decide) (λf d A a s H E e=>⟨_,(AV (Al (Wa (E5 (n:="int") (by simp) dE (λ_=>T.b_isinstance) (λ_=>T.b_int) nofun (qv 0)) (WZ (Wc (E5 (n:="bool") (by simp) dE (λ_=>T.b_isinstance) (λ_=>T.b_bool) nofun (qv 0))))))),λxs K h=>?_⟩)
 ·obtain⟨_,rfl,_⟩:=h;rfl
 ·obtain⟨i,rfl,h⟩:=h;simp![AW];exact h
def TY:pF:=λxs K=>∃r,xs=[AT r]/\r.length<=100/\K (.bl true)
theorem ABy(D:Aw K mg "_law_tuple" J7)(T:TxtB mg)(d:Fn P' w K mg base "_law_whole" 1 ["_law_found"] (AM KM)):Fn P' w K mg base "_law_tuple" 2 ["_law_found"] (AM TY):=by
 refine BC D ABQ (λ_ _ _ _ _ _ us c=>DH c dE) (λxs K h=>?_) (by decide) (λi g A a s H E e=>⟨_,(AN (Bd (DK (Cu (E5 (n:="tuple") (by simp) dE (λ_=>T.b_isinstance) (λ_=>T.b_tuple) nofun (qv 0))))
 (AV (Al Cs))
 Bc)
 (AV (Al (BP (λ_=>(IW rfl)) Iq (λ_=>T.b_all) nofun (AA (B5 (N:=["_law_found"]) (sc:=AR J7) (N':=["_law_one"]) (qD:=[none]) ⟨rfl,nofun,nofun,nofun,nofun,rfl,nofun⟩ (by decide) dE (E4 dE (qv 0)) (Br (k:=0) rfl (λ_=>show List.Nodup (["_law_one"]:At) from nofun)) CJ (Ad (λ_=>d) (λ_=>e.m) (AA (qv 0) AE))) AE))))),λxs K h=>?_⟩)
 ·obtain⟨_,rfl,_⟩:=h;rfl
 ·obtain⟨r,rfl,c,h⟩:=h;simp![KM];refine⟨⋯,A3.map (λ_=>.bl true) dF (λx _ M f=>?_) ?_⟩
  ·simp![AW];exact f _
  ·refine⟨r.map λ_=>true,by rw[bZ];rfl,?_⟩;rw[all_map,show r.all (id ∘ λ_=>true)=true by simp];exact h
def KN:pF:=λxs K=>∃qK t qB u,xs=[AJ qK,AL t,AJ qB,AL u]/\qK.length<=100/\qB.length<=100/\Tal qK.length t/\Tal qB.length u/\K (Hd (Eb (Ab qK t (Au qK qB)) (Ab qB u (Au qK qB))))
theorem ABz(D:Aw K mg "bar" Jy)(T:TxtB mg)(p:Fn P' w K mg base "common" 1 ["one","other"] (AM NH))(j:Fn P' w K mg base "shared" 3 ["room","rows","part"] (AM TX)):Fn P' w K mg base "bar" 4 ["room","rows","other_room","other_rows"] (AM KN):=by
 refine BC D Hj (λ_ _ _ _ _ _ us q=>NX q (λ_ _ _ _=>rfl)) (λxs K h=>?_) (by decide) (λG B A i s H E d=>?_)
 ·obtain⟨_,_,_,_,rfl,_⟩:=h;rfl
 ·have l:=EJ d;refine⟨_,(AN (Am (k:=4) (λ_=>Hj.nd) (Ad (λ_=>p) (λ_=>d.m) (AA (qv 0) (AA (qv 2) AE))))
 (AN (Am (k:=5) (λ_=>Hj.nd) (Bv (λ_=>(RJ rfl d)) RM (λ_=>T.b_dict) nofun (AA (Ad (λ_=>j) (λ_=>d.m) (AA (qv 0) (AA (qv 1) (AA (qv 4) AE)))) AE)))
 (AN (Am (k:=6) (λ_=>Hj.nd) (Bv (λ_=>(RJ rfl d)) RM (λ_=>T.b_dict) nofun (AA (Ad (λ_=>j) (λ_=>d.m) (AA (qv 2) (AA (qv 3) (AA (qv 4) AE)))) AE)))
 (AN (HF (k:=7) (λ_=>Hj.nd) (N:=["room","rows","other_room","other_rows","part","one","other","apart"]) (sc:=AR Jy) (N':=["row","one","other"]) (qD:=[none,some 5,some 6]) ⟨rfl,nofun,nofun,nofun,nofun,rfl,nofun⟩ (by decide) dE (Bk dE (C6 (λ_=>HI) HJ (Bv (λ_=>(Lb rfl)) Lf (λ_=>T.b_list) nofun (AA (qv 5) AE)) (Bv (λ_=>(Lb rfl)) Lf (λ_=>T.b_list) nofun (AA (qv 6) AE)))) (Br (k:=0) rfl (λ_=>show List.Nodup (["row","one","other"]:At) from nofun)) (ES (BB (λ_=>(DB d)) DC (JF (λ_=>l) (qv 1) (qv 0) AS) (JF (λ_=>l) (qv 2) (qv 0) AS) (A5 _))) (qv 0))
 (AV (Al (YQ dE (λ_=>d) (λ_=>T.b_min) (qv 7) Ez))))))),λxs K h=>?_⟩
  obtain⟨qK,t,qB,u,rfl,l1,l2,g,c,h⟩:=h;have C:=Rt qK qB;have y:D5 (BY (A9 qK t (Au qK qB)))=Ab qK t (Au qK qB):=Rq (JX g);have v:D5 (BY (A9 qB u (Au qK qB)))=Ab qB u (Au qK qB):=Rq (JX c);have o:Tal (Au qK qB).length (Ab qK t (Au qK qB)):=Hc (JX g) g.few;have n:Tal (Au qK qB).length (Ab qB u (Au qK qB)):=Hc (JX c) c.few;have J:=o.few;have I:=n.few;refine⟨qK,qB,rfl,⋯,B9 (DR _) ⟨qK,t,_,rfl,JY g ⋯ (DF _ _).1,?_⟩⟩;rw[y];refine⟨_,rfl,⋯,?_⟩;rw[Rk o.nd];refine⟨qB,u,_,rfl,JY c ⋯ (DF _ _).2,?_⟩;rw[v];refine⟨_,rfl,⋯,?_⟩;rw[Rk n.nd];generalize Ab qK t (Au qK qB)=a at *;generalize Ab qB u (Au qK qB)=b at *;refine⟨by rw[aA,aA,aA,aA];lia,_,rfl,by rw[TB,TB];nofun,by rw[aG,aA,aA,aA,aA];lia,?_⟩;rw[<-cN];refine A3.filter (λr=>decide ((AX a r).getD 0≠(AX b r).getD 0)) AT (λ_ _ _=>Dk _) (λr _ M f=>B9 (Dk _) ⟨⟨rfl,λ_ h=>nomatch h⟩,_,EZ r,KL _,rfl,⟨rfl,λ_ h=>nomatch h⟩,_,EZ r,KL _,rfl,?_⟩) ?_
  ·have f:=f .cl;rw[KJ,KJ];refine⟨⟨rfl,rfl⟩,_,rfl,Bj (λz=>?_) (λz=>?_)⟩<;>rw[E7]at z
   ·rw[aC (by simpa using z)]at f;exact f
   ·rw[aB (by simpa using z)]at f;exact f
  ·unfold Eb MF at h;refine⟨_,rfl,rfl,λz=>⟨rfl,?_⟩,λx r e=>⟨AA9 (Dk _),?_⟩⟩
   ·rw[z]at h;exact h
   ·rw[e,Yu]at h;exact h
def FL:pF:=λxs K=>∃one qE,xs=[AJ one,AJ qE]/\one.length<=20/\qE.length<=20/\∀ss:At,ss.Nodup->(∀z,z∈ss↔z∈one\/z∈qE)->CG ss->K (AJ ss)
theorem AB0(D:Aw K mg "united" Mt)(T:TxtB mg):Fn P' w K mg base "united" 1 ["one","other"] (AM FL):=by
 refine BC D ABE (λ_ _ _ _ _ _ us i=>CM i dF) (λxs K h=>?_) (by decide) (λn j A a s H E l=>⟨_,(AV (Al (Bv (λ_=>EN) EU (λ_=>T.b_tuple) nofun (AA (MS (λ_=>⟨rfl,rfl⟩) dE (λ_=>T.b_sorted) (λ_=>T.b_set) (AA (C6 (λ_=>HI) HJ (qv 0) (qv 1)) AE)) AE)))),λxs K h=>?_⟩)
 ·obtain⟨_,_,rfl,_⟩:=h;rfl
 ·obtain⟨one,d,rfl,l1,l2,h⟩:=h;simp![AW];exact⟨⋯,one++d,.inr (by rw[cN]),by rw[aG];lia,λc e g f=>h c e (λz=>(g z).trans bA) f⟩
theorem AB1(D:Aw K mg "_law_all" NB)(T:TxtB mg):Fn P' w K mg base "_law_all" 1 ["_law_one","_law_other"] (AM FL):=by
 refine BC D ABO (λ_ _ _ _ _ _ us i=>CM i dF) (λxs K h=>?_) (by decide) (λn j A a s H E l=>⟨_,(AV (Al (Bv (λ_=>EN) EU (λ_=>T.b_tuple) nofun (AA (MS (λ_=>⟨rfl,rfl⟩) dE (λ_=>T.b_sorted) (λ_=>T.b_set) (AA (C6 (λ_=>HI) HJ (Bv (λ_=>Ew) Fm (λ_=>T.b_list) nofun (AA (qv 0) AE)) (Bv (λ_=>Ew) Fm (λ_=>T.b_list) nofun (AA (qv 1) AE))) AE)) AE)))),λxs K h=>?_⟩)
 ·obtain⟨_,_,rfl,_⟩:=h;rfl
 ·obtain⟨one,d,rfl,l1,l2,h⟩:=h;simp![AW];exact⟨⋯,one++d,.inl (by rw[cN]),by rw[aG];lia,λc e g f=>h c e (λz=>(g z).trans bA) f⟩
end
section
variable{K:Fg}
def TZ:pF:=λxs K=>∃qK t qC,xs=[AJ qK,AL t,AJ qC]/\Sh qK t qC/\K (.dT (Ar (λq=>AU qK q.1 qC) t) ((Ar (λq=>AU qK q.1 qC) t).map λr=>AL (Ac (λq=>AU qK q.1 qC) t r)))
abbrev Hv(qK:At)(t:Tl)(qC:At)(a b c:S):dI:=[.sh (AJ qK),.sh (AL t),.sh (AJ qC),.own (.lst ((qC.map (idx qK)).map λ(j:Nat)=>.int (j:Int))),a,b,c]
def AB2:pS:=λE ρ=>∃qK t qC,ρ=Hv qK t qC (.own (.dT [] [])) .emp .emp/\Sh qK t qC/\∀b c,E.nx (Hv qK t qC (.own (.dT (Ar (λq=>AU qK q.1 qC) t) ((Ar (λq=>AU qK q.1 qC) t).map λr=>AL (Ac (λq=>AU qK q.1 qC) t r)))) b c)
def AB3:pE:=λρ K=>∃qK t qC a r c,ρ=Hv qK t qC a (.sh (AT r)) c/\Sh qK t qC/\r.length=qK.length/\K (AT (AU qK r qC)) .nw
def AB4:pE:=λρ K=>∃qK t qC a r c,ρ=Hv qK t qC a (.sh (AT r)) (.sh (.int c))/\K (Ax (r,c)) .nw
theorem AB5(D:Aw K mg "grouped" Mv)(T:TxtB mg)(J:Fn P' w K mg base "places" 2 ["room","part"] (AM GI))(I:Fn P' w K mg base "picked" 1 ["row","spots"] (AM GJ)):Fn P' w K mg base "grouped" 3 ["room","rows","part"] (AM TZ):=by
 refine BC D Hl (λ_ _ _ _ _ _ us y=>EB y (λ_ _ _=>rfl)) (λxs K h=>?_) (by decide) (λU Q A u s H E v=>?_)
 ·obtain⟨_,_,_,rfl,_⟩:=h;rfl
 ·have L:=EJ v;refine⟨_,(AN (Am (k:=3) (λ_=>Hl.nd) (Ad (λ_=>J) (λ_=>v.m) (AA (qv 0) (AA (qv 2) AE))))
 (AN (Am (k:=4) (λ_=>Hl.nd) JG)
 (AN (QS.weak (m:=AB2) (Ft 1 (AAR (Kf:=K) (k:=4) dE (λ_=>L) (λ_=>PassesOwn.never) dE (Bk dE (qv 1)) (AAN 4 (ks:=[5,6]) dE dE (λ_=>(Bi (BD (i:=5) Hl.nd rfl (Or.inl rfl)) (Bi (BD (i:=6) Hl.nd rfl (Or.inl rfl)) DY))) rfl) (QE.weak (m:=AB3) (Ad (λ_=>I) (λ_=>v.m) (AA (qv 5) (AA (qv 3) AE))) ?p) (QE.weak (m:=AB4) (C8 (AA (qv 5) (AA (qv 6) AE))) ?o))) ?l)
 (AV (Al (qv 4)))))),λxs K h=>?_⟩
  case p =>
   rintro ρ K ⟨qK,t,qC,a,r,c,rfl,d,y,h⟩;have h1:=d.len;simp![GJ];have e:AU qK r qC=(qC.map (idx qK)).map λ(j:Nat)=>r.getD j 0:=by unfold AU;rw[bZ];rfl
   rw[e]at h;refine⟨qC.map (idx qK),rfl,by rw[aA];lia,λj N=>?_,h⟩;obtain⟨n,M,rfl⟩:=bU.mp N;rw[y];exact FD (d.sub n M)
  case o =>
   rintro ρ K ⟨qK,t,qC,a,r,c,rfl,h⟩;simp![AW];exact h
  case l =>
   rintro E ρ ⟨qK,t,qC,rfl,d,h⟩;have h2:=d.few;simp![Md];refine⟨⋯,λi ρ ks xss=>∃b c,ρ=Hv qK t qC .emp b c/\ks=Ar (λq=>AU qK q.1 qC) (t.take i)/\xss=ks.map λr=>(Ac (λq=>AU qK q.1 qC) (t.take i) r).map Ax,⟨_,_,rfl,rfl,rfl⟩,λi ρ' ks xss x B z=>?_,λρ' ks xss z=>?_⟩
   ·obtain⟨b,c,rfl,rfl,rfl⟩:=z;rw[bO]at B;obtain⟨q,C,rfl⟩:=aJ.mp B;simp![AW];refine⟨qK,t,qC,_,q.1,_,rfl,d,d.rows q (aM C),?_⟩;simp![AW];refine⟨qK,t,qC,_,q.1,q.2,rfl,?_⟩;simp![AW];rw[take_add_one,C];have G:=Sm (f:=λq:By×Int=>AU qK q.1 qC) (t.take i) q;have O:=AAo (f:=λq:By×Int=>AU qK q.1 qC) (g:=Ax) (t.take i) q;exact⟨G.symm,by rw[O];show _=map _ (A0 _ _);rw[<-G];rfl⟩
   ·obtain⟨b,c,rfl,rfl,rfl⟩:=z;simp![AW];have e:((Ar (λq=>AU qK q.1 qC) t).map λr=>(Ac (λq=>AU qK q.1 qC) t r).map Ax).map P.lst=(Ar (λq=>AU qK q.1 qC) t).map λr=>AL (Ac (λq=>AU qK q.1 qC) t r):=by rw[bZ];rfl
    rw[aZ (aQ _),e];exact h b c
  ·obtain⟨qK,t,qC,rfl,d,h⟩:=h;have h1:=d.len;simp![GI];refine⟨⋯,d.sub,qK,t,qC,rfl,d,λb c=>?_⟩;simp![AW];exact h
end
section
variable{K:Fg}
abbrev Hw(x:Dm):P:=.tup [AT x.1,AT x.2.1,.int x.2.2]
def Ta:pF:=λxs K=>∃f g:Tl,xs=[AL f,AL g]/\f.length<=1000/\g.length<=1000/\Ps f/\Ps g/\K (.lst ((Ao f g).map Hw))
abbrev GK(f g:Tl)(o1 o2:By)(fd:List Dm)(a b:Nat)(m:S):dI:=[.sh (AL f),.sh (AL g),.own (.lst (o1.map .int)),.own (.lst (o2.map .int)),.own (.lst (fd.map Hw)),.sh (.int (a:Int)),.sh (.int (b:Int)),m]
def AB6:pS:=λE ρ=>∃f g o1 o2 fd a b m q p c d,ρ=GK f g o1 o2 fd a b m/\f[a]?=some q/\g[b]?=some p/\o1[a]?=some c/\o2[b]?=some d/\fd.length<=100000/\∀m',E.nx (GK f g (o1.set a (c - min c d)) (o2.set b (d - min c d)) (fd++[(q.1,p.1,min c d)]) (if c - min c d=0 then a+1 else a) (if d - min c d=0 then b+1 else b) m')
def AB7:pS:=λE ρ=>∃f g:Tl,ρ=[.sh (AL f),.sh (AL g),.own (.lst ((f.map (·.2)).map .int)),.own (.lst ((g.map (·.2)).map .int)),.emp,.emp,.emp,.emp]/\f.length<=1000/\g.length<=1000/\Ps f/\Ps g/\E.rt (.lst ((Ao f g).map Hw))
def AB8:pS:=λE ρ=>∃f g:Tl,ρ=GK f g (f.map (·.2)) (g.map (·.2)) [] 0 0 .emp/\f.length<=1000/\g.length<=1000/\Ps f/\Ps g/\E.rt (.lst ((Ao f g).map Hw))
structure CoI(f g:Tl)(o1 o2:By)(fd:List Dm)(a b:Nat):Prop where
 l1:o1.length=f.length
 l2:o2.length=g.length
 pa:Ps (BG f o1 a)
 pb:Ps (BG g o2 b)
 la:a<=f.length
 lb:b<=g.length
 eq:fd++Ao (BG f o1 a) (BG g o2 b)=Ao f g
theorem AB9(D:Aw K mg "corners" Hm)(T:TxtB mg):Fn P' w K mg base "corners" 1 ["first","second"] (AM Ta):=by
 refine BC D Ei (λ_ _ _ _ _ _ us hl=>CM hl dF) (λxs K h=>?_) (by decide) (λfa a1 A a0 s H E hr=>⟨_,(AN (HF (k:=2) (λ_=>Ei.nd) (N:=["first","second","ones","others","found","at","by","many"]) (sc:=AR Hm) (N':=["row","count"]) (qD:=[none,none]) ⟨rfl,nofun,nofun,nofun,nofun,rfl,nofun⟩ (by decide) dE (Bk dE (qv 0)) (Im (i:=0) (j:=1) rfl rfl dE dE (λ_=>(Bi (BD (i:=0) (show List.Nodup (["row","count"]:At) from nofun) rfl (Or.inl rfl)) (Bi (BD (i:=1) (show List.Nodup (["row","count"]:At) from nofun) rfl (Or.inl rfl)) DY)))) CJ (qv 1))
 (AN (HF (k:=3) (λ_=>Ei.nd) (N:=["first","second","ones","others","found","at","by","many"]) (sc:=AR Hm) (N':=["row","count"]) (qD:=[none,none]) ⟨rfl,nofun,nofun,nofun,nofun,rfl,nofun⟩ (by decide) dE (Bk dE (qv 1)) (Im (i:=0) (j:=1) rfl rfl dE dE (λ_=>(Bi (BD (i:=0) (show List.Nodup (["row","count"]:At) from nofun) rfl (Or.inl rfl)) (Bi (BD (i:=1) (show List.Nodup (["row","count"]:At) from nofun) rfl (Or.inl rfl)) DY)))) CJ (qv 1))
 (Ay.weak (m:=AB7) (AN (Am (k:=4) (λ_=>Ei.nd) (D0 AE))
 (AN (AAh (i:=5) (j:=6) (λ_=>Ei.nd) AS)
 (Ay.weak (m:=AB8) (AN (Pg (λ_=>PassesOwn.never) (QW.pt (PD (BB (λ_=>IK) LF (qv 5) (BP (λ_=>CQ) CS (λ_=>T.b_len) nofun (AA (qv 0) AE)) (A5 _)) (PC (BB (λ_=>IK) LF (qv 6) (BP (λ_=>CQ) CS (λ_=>T.b_len) nofun (AA (qv 1) AE)) (A5 _)))))
 (Ay.weak (m:=AB6) (AN (Am (k:=7) (λ_=>Ei.nd) (BP (λ_=>(Uv rfl)) X8 (λ_=>T.b_min) nofun (AA (Ai (λ_=>Aj) Ak (qv 2) (qv 5) dF) (AA (Ai (λ_=>Aj) Ak (qv 3) (qv 6) dF) AE))))
 (AN (JD (k:=4) dE (C8 (AA (Ai (λ_=>Aj) Ak (Ai (λ_=>Aj) Ak (qv 0) (qv 5) dF) AS dF) (AA (Ai (λ_=>Aj) Ak (Ai (λ_=>Aj) Ak (qv 1) (qv 6) dF) AS dF) (AA (qv 7) AE)))))
 (AN (QM (k:=2) (λ_=>Nh) (qv 5) (qv 7))
 (AN (QM (k:=3) (λ_=>Nh) (qv 6) (qv 7))
 (AN (Bd (BB (λ_=>(HK hr)) HL (Ai (λ_=>Aj) Ak (qv 2) (qv 5) dF) AS (A5 _))
 (AV (QN (k:=5) (λ_=>KZ) (λ_=>Ei.nd) AS))
 Bc)
 (AV (Bd (BB (λ_=>(HK hr)) HL (Ai (λ_=>Aj) Ak (qv 3) (qv 6) dF) AS (A5 _))
 (AV (QN (k:=6) (λ_=>KZ) (λ_=>Ei.nd) AS))
 Bc))))))) ?y))
 (AV (Al (qv 4)))) ?L))) ?O))),λxs K h=>?_⟩)
 case y =>
  rintro E ρ ⟨f,g,o,n,fd,a,b,m,q,p,c,d,rfl,h1,h2,G,C,hl,h⟩;have I:atI (o.map P.int) (a:Int)=some (.int c):=BU (by rw[bO,G];rfl);have e2:atI (n.map P.int) (b:Int)=some (.int d):=BU (by rw[bO,C];rfl);have e3:atI (f.map Ax) (a:Int)=some (Ax q):=BU (by rw[bO,h1];rfl);have e4:atI (g.map Ax) (b:Int)=some (Ax p):=BU (by rw[bO,h2];rfl);have i1:=(aI.mp G).1;have i2:=(aI.mp C).1;have s1:∀x:Int,(o.map P.int).set a (.int x)=(o.set a x).map P.int:=λx=>by rw[map_set]
  have Y:∀x:Int,(n.map P.int).set b (.int x)=(n.set b x).map P.int:=λx=>by rw[map_set]
  have t1:∀x:Int,atI ((o.set a x).map P.int) (a:Int)=some (.int x):=λx=>BU (by rw[bO,bY i1];rfl);have t2:∀x:Int,atI ((n.set b x).map P.int) (b:Int)=some (.int x):=λx=>BU (by rw[bO,bY i2];rfl);have u1:(o.map P.int)[a]?=some (.int c):=by rw[bO,G];rfl
  have u2:(n.map P.int)[b]?=some (.int d):=by rw[bO,C];rfl
  have mn:(if d<c then d else c)=min c d:=by rw[AA0]
  have tp:A8 (P.tup [AT q.1,AT p.1,.int (if d<c then d else c)]) (C7 [(AT q.1,.cl),(AT p.1,.cl),(.int (if d<c then d else c),.cl)])=.nw:=S8 (by simp);refine⟨_,I,_,e2,_,e3,_,FK _ _,_,e4,_,FK _ _,rfl,tp,by rw[aA];lia,?_⟩;refine⟨_,_,_,rfl,Sy (by rw[aA];exact i1),u1,_,rfl,_,_,_,rfl,Sy (by rw[aA];exact i2),u2,_,rfl,?_⟩;rw[mn,s1,Y];refine⟨_,t1 _,⟨rfl,rfl⟩,_,rfl,?_⟩;have u:=h (.sh (.int (min c d)));unfold GK at u;rw[cN]at u;have Q:∀{x:Int},AI (.int x) (.int 0)=true->x=0:=λ{x} h=>by rw[E7]at h;exact aL h
  have U:∀{x:Int},¬AI (.int x) (.int 0)=true->x≠0:=λ{x} h z=>h (by rw[E7];exact aK z);refine Bj (λr=>⟨_,rfl,_,t2 _,⟨rfl,rfl⟩,_,rfl,Bj (λl=>⟨_,rfl,?_⟩) λl=>?_⟩) λr=>⟨_,t2 _,⟨rfl,rfl⟩,_,rfl,Bj (λl=>⟨_,rfl,?_⟩) λl=>?_⟩
  ·rw[aC (Q r),aC (Q l)]at u;exact u
  ·rw[aC (Q r),aB (U l)]at u;exact u
  ·rw[aB (U r),aC (Q l)]at u;exact u
  ·rw[aB (U r),aB (U l)]at u;exact u
 case O =>
  rintro E ρ ⟨f,g,rfl,l1,l2,B,pg,h⟩;exact⟨rfl,rfl,f,g,rfl,l1,l2,B,pg,h⟩
 case L =>
  rintro E ρ ⟨f,g,rfl,l1,l2,B,pg,h⟩;refine⟨λm ρ=>∃o n fd a b v,ρ=GK f g o n fd a b v/\CoI f g o n fd a b/\m=(f.length - a)+(g.length - b),⟨_,_,_,[],0,0,_,rfl,⟨by simp,by simp,by rw[Jo];exact B,by rw[Jo];exact pg,cD _,cD _,by rw[Jo,Jo];rfl⟩,rfl⟩,?_⟩;rintro m ρ' ⟨o,n,fd,a,b,v,rfl,ok,rfl⟩;have hl:fd.length<=2000:=by
   have I:=aT length ok.eq;have e2:=Mp B pg;rw[aG]at I;lia
  have J:Ao (BG f o a) (BG g n b)=[]->E.rt (.lst (fd.map Hw)):=λz=>by
   have I:=ok.eq;rw[z,cO]at I;rw[I];exact h
  refine⟨trivial,_,rfl,Bj (λr=>⟨trivial,_,rfl,Bj (λl=>?_) (λl=>⟨rfl,J ?_⟩)⟩) (λr=>⟨rfl,J ?_⟩)⟩
  ·have r:=aL r;have l:=aL l;rw[aA]at r l;have h1:f[a]?=some f[a]:=aH ⋯;have h2:g[b]?=some g[b]:=aH ⋯;have G:o[a]?=some (o[a]'(by have:=ok.l1;lia)):=aH (by have:=ok.l1;lia);have C:n[b]?=some (n[b]'(by have:=ok.l2;lia)):=aH (by have:=ok.l2;lia);obtain⟨s1,Y,s3⟩:=AAz h1 G h2 C ok.pa ok.pb;generalize (o[a]'(by have:=ok.l1;lia))=c at *;generalize (n[b]'(by have:=ok.l2;lia))=d at *;have cd:c - min c d=0\/d - min c d=0:=⋯;refine⟨λρ=>∃v,ρ=GK f g (o.set a (c - min c d)) (n.set b (d - min c d)) (fd++[(f[a].1,g[b].1,min c d)]) (if c - min c d=0 then a+1 else a) (if d - min c d=0 then b+1 else b) v,λρ2 hρ=>?_,f,g,o,n,fd,a,b,v,f[a],g[b],c,d,rfl,h1,h2,G,C,⋯,λm'=>⟨m',rfl⟩⟩;obtain⟨v',rfl⟩:=hρ;refine⟨_,?_,_,_,_,_,_,_,rfl,⟨by rw[length_set];exact ok.l1,by rw[length_set];exact ok.l2,Y,s3,by split<;>lia,by split<;>lia,?_⟩,rfl⟩
   ·rcases cd with z|z
    ·rw[aC z];split<;>lia
    ·rw[aC z];split<;>lia
   ·rw[bK,singleton_append,<-s1];exact ok.eq
  ·have l:¬(b:Int)<((g.map Ax).length:Int):=λz=>l (aK z);rw[aA]at l;rw[Sx (f:=g) ⋯,FI]
  ·have r:¬(a:Int)<((f.map Ax).length:Int):=λz=>r (aK z);rw[aA]at r;rw[Sx (f:=f) ⋯,Ef]
 ·obtain⟨_,_,rfl,_⟩:=h;rfl
 ·obtain⟨f,g,rfl,l1,l2,B,pg,h⟩:=h;have e:∀t:Tl,(t.map λq=>P.int q.2)=(t.map (·.2)).map P.int:=λt=>by rw[bZ];rfl
  refine⟨_,rfl,nofun,by rw[aA];lia,A3.map (λq:By×Int=>.int q.2) dF (λq _ M hM=>S9 (hM _)) ?_⟩;refine⟨_,rfl,nofun,by rw[aA];lia,A3.map (λq:By×Int=>.int q.2) dF (λq _ M hM=>S9 (hM _)) ?_⟩;rw[e,e];exact⟨f,g,rfl,l1,l2,B,pg,h⟩
end
section
variable{K:Fg}
def NL:pF:=λxs K=>∃qK t qB u,xs=[AJ qK,AL t,AJ qB,AL u]/\qK.length<=20/\qB.length<=20/\Agr qK qB t u/\∀qJ,Uni qK qB qJ->CG qJ->∀J,J.Perm (B8 qK qB qJ t u)->BR (J.map (·.1))->K (AL J)
abbrev Hx(qK qB side:At)(t:Tl):P:=.fT (Ar (Ah qK qB side) t) ((Ar (Ah qK qB side) t).map λr=>AL (Ac (Ah qK qB side) t r))
abbrev NM(qK qB side:At)(t:Tl):P:=.dT (Ar (Ah qK qB side) t) ((Ar (Ah qK qB side) t).map λr=>AL (Ac (Ah qK qB side) t r))
abbrev ACA(qK qB qJ:At):P:=.lst ((qJ.map (idx (qK++qB))).map λ(j:Nat)=>.int (j:Int))
abbrev Dq(qK:At)(t:Tl)(qB:At)(u:Tl)(qJ:At)(a:S)(fd:Tl)(k x y m:S):dI:=[.sh (AJ qK),.sh (AL t),.sh (AJ qB),.sh (AL u),.sh .non,.sh (AJ (Au qK qB)),a,.own (NM qK qB qB u),.own (ACA qK qB qJ),.own (AL fd),k,x,y,m]
structure JoOk(qK:At)(t:Tl)(qB:At)(u:Tl)(qJ:At):Prop where
 l1:qK.length<=20
 l2:qB.length<=20
 ag:Agr qK qB t u
 un:Uni qK qB qJ
 lu:qJ.length<=40
def ACB:pS:=λE ρ=>∃qK t qB u qJ,JoOk qK t qB u qJ/\ρ=Dq qK t qB u qJ (.own (NM qK qB qK t)) [] .emp .emp .emp .emp/\∀J,J.Perm (B8 qK qB qJ t u)->BR (J.map (·.1))->E.rt (AL J)
def ACC:pS:=λE ρ=>∃qK t qB u qJ,JoOk qK t qB u qJ/\ρ=Dq qK t qB u qJ (.own (NM qK qB qK t)) [] .emp .emp .emp .emp/\∀k x y m,E.nx (Dq qK t qB u qJ (.fr (Hx qK qB qK t)) (B8 qK qB qJ t u) k x y m)
def ACD:pS:=λE ρ=>∃qK t qB u qJ fd k x y m,JoOk qK t qB u qJ/\k∈Ar (Ah qK qB qK) t/\fd.length<=10000000/\ρ=Dq qK t qB u qJ (.fr (Hx qK qB qK t)) fd (.sh (AT k)) x y m/\∀x y m,E.nx (Dq qK t qB u qJ (.fr (Hx qK qB qK t)) (fd++Cm qK qB qJ t u k) (.sh (AT k)) x y m)
def ACE:pS:=λE ρ=>∃qK t qB u qJ a fd k r s c,JoOk qK t qB u qJ/\r.length=qK.length/\s.length=qB.length/\fd.length<=10010000/\ρ=Dq qK t qB u qJ a fd k (.sh (AT r)) (.sh (AT s)) (.sh (.int c))/\E.nx (Dq qK t qB u qJ a (fd++[(Bo qK qB qJ r s,c)]) k (.sh (AT r)) (.sh (AT s)) (.sh (.int c)))
theorem ACF(D:Aw K mg "joined" Mw)(T:TxtB mg)(qY:Fn P' w K mg base "bar" 4 ["room","rows","other_room","other_rows"] (AM KN))(qW:Fn P' w K mg base "common" 1 ["one","other"] (AM NH))(Y:Fn P' w K mg base "grouped" 3 ["room","rows","part"] (AM TZ))(qQ:Fn P' w K mg base "places" 2 ["room","part"] (AM GI))(z5:Fn P' w K mg base "united" 1 ["one","other"] (AM FL))(z6:Fn P' w K mg base "corners" 1 ["first","second"] (AM Ta))(qR:Fn P' w K mg base "picked" 1 ["row","spots"] (AM GJ)):Fn P' w K mg base "joined" 5 ["room","rows","other_room","other_rows"] (AM NL):=by
 refine BC D DS (λ_ _ _ _ _ _ us U=>NX U (λ_ _ _ _=>rfl)) (λxs K h=>?_) (by decide) (λfa a0 A Q s H E d=>?_)
 ·obtain⟨_,_,_,_,rfl,_⟩:=h;rfl
 ·have hu:=EJ d;refine⟨_,(AN (Am (k:=4) (λ_=>DS.nd) (Ad (λ_=>qY) (λ_=>d.m) (AA (qv 0) (AA (qv 1) (AA (qv 2) (AA (qv 3) AE))))))
 (AN (Bd (BB (λ_=>Nx) Pt (qv 4) Ez (A5 _))
 (AV PP)
 Bc)
 (AN (Am (k:=5) (λ_=>DS.nd) (Ad (λ_=>qW) (λ_=>d.m) (AA (qv 0) (AA (qv 2) AE))))
 (AN (Am (k:=6) (λ_=>DS.nd) (Ad (λ_=>Y) (λ_=>d.m) (AA (qv 0) (AA (qv 1) (AA (qv 5) AE)))))
 (AN (Am (k:=7) (λ_=>DS.nd) (Ad (λ_=>Y) (λ_=>d.m) (AA (qv 2) (AA (qv 3) (AA (qv 5) AE)))))
 (AN (Am (k:=8) (λ_=>DS.nd) (Ad (λ_=>qQ) (λ_=>d.m) (AA (C6 (λ_=>HI) HJ (qv 0) (qv 2)) (AA (Ad (λ_=>z5) (λ_=>d.m) (AA (qv 0) (AA (qv 2) AE))) AE))))
 (AN (Am (k:=9) (λ_=>DS.nd) (D0 AE))
 (Ay.weak (m:=ACB) (AN (QS.weak (m:=ACC) (AAY 6 (DA (λ_=>PassesOwn.never) dE (AAX (qv 6)) (ER (k:=10) (λ_=>DS.nd))
 (Ay.weak (m:=ACD) (AV (DA (λ_=>PassesOwn.never) dE (Bk dE (Ad (λ_=>z6) (λ_=>d.m) (AA (Fv (λ_=>hu) (qv 6) (qv 10) dF) (AA (Fv (λ_=>hu) (qv 7) (qv 10) dF) AE)))) (G8 (ks:=[11,12,13]) dE dE (λ_=>(Bi (BD (i:=11) DS.nd rfl (Or.inl rfl)) (Bi (BD (i:=12) DS.nd rfl (Or.inl rfl)) (Bi (BD (i:=13) DS.nd rfl (Or.inl rfl)) DY)))) rfl)
 (Ay.weak (m:=ACE) (AV (JD (k:=9) dE (C8 (AA (Ad (λ_=>qR) (λ_=>d.m) (AA (C6 (λ_=>HI) HJ (qv 11) (qv 12)) (AA (qv 8) AE))) (AA (qv 13) AE))))) ?v))) ?z))) ?o)
 (AV (Al (BP (λ_=>(AAd d)) AAe (λ_=>T.b_sorted) nofun (AA (qv 9) AE))))) ?N)))))))),λxs K h=>?_⟩
  case v =>
   rintro E ρ ⟨qK,t,qB,u,qJ,a,fd,k,r,s,c,ok,d,hs,U,rfl,h⟩;have l1:=ok.l1;have l2:=ok.l2;have lu:=ok.lu;have e:Bo qK qB qJ r s=(qJ.map (idx (qK++qB))).map λ(j:Nat)=>(r++s).getD j 0:=by unfold Bo AU;rw[bZ];rfl
   rw[e]at h;refine⟨⟨IY _,IY _⟩,by rw[aA,aA];lia,r++s,qJ.map (idx (qK++qB)),by rw[show AT (r++s)=.tup (r.map P.int++s.map P.int) by rw[<-cN]];rfl,by rw[aA];lia,λj hj=>?_,rfl,S8 (HU (_,_)),by rw[aA];lia,?_⟩
   ·obtain⟨n,g,rfl⟩:=bU.mp hj;have:=FD (bA.mpr (ok.un.s n g));rw[aG]at this ⊢;lia
   ·have e2:∀q:By×Int,AL (fd++[q])=P.lst (fd.map Ax++[Ax q]):=λq=>by show P.lst ((fd++[q]).map Ax)=_;rw[cN];rfl
    unfold Dq at h;rw[e2]at h;exact h
  case z =>
   rintro E ρ ⟨qK,t,qB,u,qJ,fd,k,x,y,m,ok,hk,U,rfl,h⟩;have g1:=Mq (λr=>AL (Ac (Ah qK qB qK) t r)) hk;have g2:=Mq (λr=>AL (Ac (Ah qK qB qB) u r)) (ok.ag.both.mp hk);have s1:=(GA (f:=Ah qK qB qK) t k).length_le;have s2:=(GA (f:=Ah qK qB qB) u k).length_le;have f1:=ok.ag.ta.few;have f2:=ok.ag.tb.few;have wl:=Sz (qJ:=qJ) ok.ag k;refine⟨_,_,EZ k,g1,_,_,EZ k,g2,_,_,rfl,⋯,⋯,ok.ag.pa k,ok.ag.pb k,_,rfl,rfl,λi ρ=>∃x y m,ρ=Dq qK t qB u qJ (.fr (Hx qK qB qK t)) (fd++(Cm qK qB qJ t u k).take i) (.sh (AT k)) x y m,⟨_,_,_,by rw[take_zero,cO]⟩,λi ρ' x M p=>?_,λρ' p=>?_⟩
   ·obtain⟨x1,G,L,rfl⟩:=p;rw[bO]at M;obtain⟨q,O,rfl⟩:=aJ.mp M;have mq:=ok.ag.mem (aM O);refine⟨_,rfl,rfl,B9 (Dk _) (B9 (Dk _) ?_)⟩;refine⟨qK,t,qB,u,qJ,_,_,_,q.1,q.2.1,q.2.2,ok,mq.la,mq.lb,?_,rfl,.sh (AT q.1),.sh (AT q.2.1),.sh (.int q.2.2),?_⟩
    ·rw[aG,aO];lia
    ·have e3:(Cm qK qB qJ t u k)[i]?=some (Bo qK qB qJ q.1 q.2.1,q.2.2):=by unfold Cm;rw[bO,O];rfl
     rw[take_add_one,e3,bK];rfl
   ·obtain⟨x1,G,L,rfl⟩:=p;have:=h x1 G L;rw[aZ (by unfold Cm;rw[aA,aA];exact aQ _)];exact this
  case o =>
   rintro E ρ ⟨qK,t,qB,u,qJ,ok,rfl,h⟩;have tl:=ok.ag.ta.few;have gl:=Sq (f:=Ah qK qB qK) t;refine⟨_,_,rfl,rfl,λi ρ=>∃k x y m,ρ=Dq qK t qB u qJ (.fr (Hx qK qB qK t)) (((Ar (Ah qK qB qK) t).take i).flatMap (Cm qK qB qJ t u)) k x y m,⟨_,_,_,_,rfl⟩,λi ρ' x M p=>?_,λρ' p=>?_⟩
   ·obtain⟨k,x1,G,L,rfl⟩:=p;rw[bO]at M;obtain⟨r,d,rfl⟩:=aJ.mp M;refine B9 (Dk _) ?_;have fl:=flat_len (qJ:=qJ) ok.ag ((Ar (Ah qK qB qK) t).take i);have tk:((Ar (Ah qK qB qK) t).take i).length<=(Ar (Ah qK qB qK) t).length:=by rw[aO];lia
    refine⟨qK,t,qB,u,qJ,_,r,_,_,_,ok,aM d,⋯,rfl,λx y m=>⟨.sh (AT r),x,y,m,?_⟩⟩;rw[take_add_one,d];simp only[Option.toList_some,flatMap_append,flatMap_cons,flatMap_nil,cO]
   ·obtain⟨k,x1,G,L,rfl⟩:=p;rw[aA,aZ (aQ _),<-Jq];exact h k x1 G L
  case N =>
   rintro E ρ ⟨qK,t,qB,u,qJ,ok,rfl,h⟩;refine⟨qK,t,qB,u,qJ,ok,rfl,λk x y m=>?_⟩;have I:=ok.ag.rows ok.un;have fl:=flat_len (qJ:=qJ) ok.ag (Ar (Ah qK qB qK) t);have gl:=Sq (f:=Ah qK qB qK) t;have tl:=ok.ag.ta.few;rw[<-Jq]at fl;exact⟨B8 qK qB qJ t u,λr=>(AX (B8 qK qB qJ t u) r).getD 0,rfl,⋯,λq O=>by show q.2=(AX (B8 qK qB qJ t u) q.1).getD 0;rw[JV I O];rfl,λJ h1 h2=>⟨rfl,h J h1 h2⟩⟩
  ·obtain⟨qK,t,qB,u,rfl,l1,l2,C,h⟩:=h;have eb:Eb (Ab qK t (Au qK qB)) (Ab qB u (Au qK qB))=none:=by rw[C.ag];exact Rs _
   have cl:=Rt qK qB;refine⟨qK,t,qB,u,rfl,⋯,⋯,C.ta,C.tb,?_⟩;rw[eb];refine⟨rfl,_,rfl,qK,qB,rfl,⋯,B9 (DR _) ⟨qK,t,_,rfl,JY C.ta ⋯ (DF _ _).1,qB,u,_,rfl,JY C.tb ⋯ (DF _ _).2,⟨Kz _,Kz _⟩,by rw[aA,aA];lia,qK,qB,rfl,l1,l2,λss I B hs=>⟨qK++qB,ss,by rw[show AJ (qK++qB)=.tup (qK.map P.str++qB.map P.str) by rw[<-cN]];rfl,?_,λn g=>bA.mpr ((B n).mp g),?_⟩⟩⟩
   ·have:=I.length_le_of_subset (l₂:=qK++qB) λn g=>bA.mpr ((B n).mp g);rw[aG]at this;lia
   ·have un:Uni qK qB ss:=⟨I,λn g=>(B n).mpr (.inl g),λn g=>(B n).mpr (.inr g),λn g=>(B n).mp g⟩;have:=I.length_le_of_subset (l₂:=qK++qB) λn g=>bA.mpr ((B n).mp g);rw[aG]at this;exact⟨rfl,qK,t,qB,u,ss,⟨l1,l2,C,un,⋯⟩,rfl,h ss un hs⟩
end
section
variable{K:Fg}
def NN:pF:=λxs K=>∃qC qK:At,xs=[.lst (qC.map P.str),AJ qK]/\qC.length<=100/\K (.bl (qC.all λn=>decide (n∈qK)))
theorem ACG(D:Aw K mg "within" GD)(T:TxtB mg):Fn P' w K mg base "within" 1 ["part","room"] (AM NN):=by
 refine BC D TF (λ_ _ _ _ _ _ us c=>CM c dF) (λxs K h=>?_) (by decide) (λg f A a s H E d=>⟨_,(AV (Al (BP (λ_=>(IW rfl)) Iq (λ_=>T.b_all) nofun (AA (B5 (N:=["part","room"]) (sc:=AR GD) (N':=["name","room"]) (qD:=[none,some 1]) ⟨rfl,nofun,nofun,nofun,nofun,rfl,nofun⟩ (by decide) dE (Bk dE (qv 0)) (Br (k:=0) rfl (λ_=>show List.Nodup (["name","room"]:At) from nofun)) CJ (K1 (λ_=>(Ix d)) Iz (qv 0) (qv 1) (by rfl))) AE)))),λxs K h=>?_⟩)
 ·obtain⟨_,_,rfl,_⟩:=h;rfl
 ·obtain⟨qC,qK,rfl,c,h⟩:=h;simp![AW];refine⟨⋯,A3.map (λn=>.bl (decide (n∈qK))) dF (λn _ M e=>?_) ?_⟩
  ·simp![JA];exact e _
  ·refine⟨qC.map λn=>decide (n∈qK),by rw[bZ];rfl,?_⟩;rw[all_map];exact h
abbrev BI(rs:List At):P:=.lst (rs.map AJ)
abbrev Be(l:Ge):P:=.lst (l.map λk:Nat=>P.int (k:Int))
def Tb:pF:=λxs K=>∃rs:List At,xs=[BI rs]/\rs.flatten.length<=60/\∀ss:At,ss.Nodup->(∀z,z∈ss↔z∈rs.flatten)->CG ss->K (AJ ss)
theorem ACH(D:Aw K mg "all_questions" Jz)(T:TxtB mg):Fn P' w K mg base "all_questions" 1 ["rooms"] (AM Tb):=by
 refine BC D ABI (λ_ _ _ _ _ _ us c=>DH c dE) (λxs K h=>?_) (by decide) (λf d A a s H E e=>⟨_,(AV (Al (Bv (λ_=>EN) EU (λ_=>T.b_tuple) nofun (AA (MS (λ_=>⟨rfl,rfl⟩) dE (λ_=>T.b_sorted) (λ_=>T.b_set) (AA (Z1 (i1:=0) (i2:=1) (N:=["rooms"]) (sc:=AR Jz) (N':=["room","name"]) (qD:=[none,none]) ⟨rfl,nofun,nofun,nofun,nofun,rfl,nofun⟩ dE dE rfl rfl (by decide) (Bk dE (qv 0)) nofun rfl rfl) AE)) AE)))),λxs K h=>?_⟩)
 ·obtain⟨_,rfl,_⟩:=h;rfl
 ·obtain⟨rs,rfl,l1,h⟩:=h;simp![AW];exact⟨rs,rfl,⋯,rs.flatten,.inl rfl,⋯,h⟩
theorem NO(h:i<rs.length):atI (rs.map AJ) (i:Int)=some (AJ (Cj rs i)):=BU (j:=i) (by rw[bO];unfold Cj AZ;rw[aH h];rfl)
theorem Tc{m:Nat}(h:∀r∈rs,r.length<=m)(i:Nat):(Cj rs i).length<=m:=by
 unfold Cj AZ;cases e:rs[i]? with
 |none=>exact cD _
 |some r=>exact h r (aM e)
def NP:pF:=λxs K=>∃(rs:List At) (there:Ge) (place:Nat),xs=[BI rs,Be there,.int place]/\(∀r∈rs,r.length<=20)/\there.length<=100/\(∀t∈there,t<rs.length)/\place<rs.length/\K (Be (Bn rs there place))
def ACI:pS:=λE ρ=>∃(rs:List At) (there:Ge) (place:Nat),ρ=[.sh (BI rs),.sh (Be there),.sh (.int place),.own (Be (there.filter λo=>decide (¬o=place))),.emp]/\(∀r∈rs,r.length<=20)/\there.length<=100/\(∀t∈there,t<rs.length)/\place<rs.length/\E.rt (Be (Bn rs there place))
def ACJ:pS:=λE ρ=>∃(rs:List At) (there:Ge) (place:Nat),ρ=[.sh (BI rs),.sh (Be there),.sh (.int place),.own (Be (there.filter λo=>decide (¬o=place))),.own (.lst ((DG rs (there.filter λo=>decide (¬o=place)) place).map P.str))]/\(∀r∈rs,r.length<=20)/\there.length<=100/\(∀t∈there,t<rs.length)/\place<rs.length/\E.rt (Be (Bn rs there place))
theorem ACK(D:Aw K mg "hosts" GF)(T:TxtB mg)(y:Fn P' w K mg base "within" 1 ["part","room"] (AM NN)):Fn P' w K mg base "hosts" 2 ["rooms","there","place"] (AM NP):=by
 refine BC D Mx (λ_ _ _ _ _ _ us B=>EB B (λ_ _ _=>rfl)) (λxs K h=>?_) (by decide) (λJ G A q s H E r=>⟨_,(AN (Am (k:=3) (λ_=>Mx.nd) (B5 (N:=["rooms","there","place","others","met"]) (sc:=AR GF) (N':=["other","place"]) (qD:=[none,some 2]) ⟨rfl,nofun,nofun,nofun,nofun,rfl,nofun⟩ (by decide) dE (Bk dE (qv 1)) (Br (k:=0) rfl (λ_=>show List.Nodup (["other","place"]:At) from nofun)) (ES (BB (λ_=>(DB r)) DC (qv 0) (qv 1) (A5 _))) (qv 0)))
 (Ay.weak (m:=ACI) (AN (Am (k:=4) (λ_=>Mx.nd) (Z3 (N:=["rooms","there","place","others","met"]) (sc:=AR GF) (N':=["name","others","rooms"]) (qD:=[none,some 3,some 0]) ⟨rfl,nofun,nofun,nofun,nofun,rfl,nofun⟩ (by decide) dE (E4 dE (Ai (λ_=>Aj) Ak (qv 0) (qv 2) dF)) (Br (k:=0) rfl (λ_=>show List.Nodup (["name","others","rooms"]:At) from nofun)) (ES (Cu (BP (λ_=>(Zp rfl)) Zq (λ_=>T.b_any) nofun (AA (B5 (N:=["name","others","rooms"]) (sc:=⟨.function,[(Str.ofString ".0",.local),(Str.ofString "name",.cell),(Str.ofString "any",.globalImplicit),(Str.ofString "others",.cell),(Str.ofString "rooms",.cell)],false,false,[]⟩) (N':=["other","name","rooms"]) (qD:=[none,some 0,some 2]) ⟨rfl,nofun,nofun,nofun,nofun,rfl,nofun⟩ (by decide) dE (Bk dE (qv 1)) (Br (k:=0) rfl (λ_=>show List.Nodup (["other","name","rooms"]:At) from nofun)) CJ (K1 (λ_=>(Ix r)) Iz (qv 1) (Ai (λ_=>Aj) Ak (qv 2) (qv 0) dF) (by rfl))) AE)))) (qv 0)))
 (Ay.weak (m:=ACJ) (AV (Al (B5 (N:=["rooms","there","place","others","met"]) (sc:=AR GF) (N':=["other","met","rooms"]) (qD:=[none,some 4,some 0]) ⟨rfl,nofun,nofun,nofun,nofun,rfl,nofun⟩ (by decide) dE (Bk dE (qv 3)) (Br (k:=0) rfl (λ_=>show List.Nodup (["other","met","rooms"]:At) from nofun)) (ES (Cu (Ad (λ_=>y) (λ_=>r.m) (AA (qv 1) (AA (Ai (λ_=>Aj) Ak (qv 2) (qv 0) dF) AE))))) (qv 0)))) ?j)) ?l)),λxs K h=>?_⟩)
 case l =>
  rintro E ρ ⟨rs,there,a,rfl,h1,h2,g,i,h⟩;have x:(there.filter λo=>decide (¬o=a)).length<=there.length:=length_filter_le _ _;have p:∀o∈there.filter (λo=>decide (¬o=a)),o<rs.length:=λo f=>g o (cW.mp f).1;have C:=Tc h1 a;generalize f:there.filter (λo=>decide (¬o=a))=c at x p;simp![AW];refine⟨_,NO i,_,rfl,by rw[aA];lia,?_⟩;refine A3.filter (λn=>c.any λo=>decide (n∈Cj rs o)) P.str (λ_ _ _=>rfl) (λn _ M d=>?_) ?_
  ·simp![AW];refine⟨⋯,A3.map (λo=>.bl (decide (n∈Cj rs o))) dF (λo u M2 v=>?_) ⟨c.map λo=>decide (n∈Cj rs o),by rw[bZ];rfl,?_⟩⟩
   ·refine⟨_,NO (p o u),?_⟩;simp![JA];exact v .fr
   ·have d:=d .cl;have e:((c.map λo=>decide (n∈Cj rs o)).any id)=c.any λo=>decide (n∈Cj rs o):=by rw[any_map];rfl
    rw[e];refine Bj (λz=>?_) (λz=>?_)
    ·rw[aC z]at d;exact d
    ·rw[aB z]at d;exact d
  ·simp![AW];exact⟨rs,there,a,by rw[f];rfl,h1,h2,g,i,h⟩
 case j =>
  rintro E ρ ⟨rs,there,a,rfl,h1,h2,g,i,h⟩;have x:(there.filter λo=>decide (¬o=a)).length<=there.length:=length_filter_le _ _;have p:∀o∈there.filter (λo=>decide (¬o=a)),o<rs.length:=λo f=>g o (cW.mp f).1;have C:=Tc h1 a;have I:(DG rs (there.filter λo=>decide (¬o=a)) a).length<=(Cj rs a).length:=length_filter_le _ _;simp![NN];refine⟨⋯,A3.filter (λo=>(DG rs (there.filter λo=>decide (¬o=a)) a).all λn=>decide (n∈Cj rs o)) (λk:Nat=>P.int (k:Int)) (λ_ _ _=>rfl) (λo f M d=>?_) ?_⟩
  ·have d:=d .cl;simp![AW];refine⟨_,NO (p o f),_,rfl,⋯,Bj (λz=>?_) (λz=>?_)⟩
   ·rw[aC z]at d;exact d
   ·rw[aB z]at d;exact d
  ·simp![AW];exact h
 ·obtain⟨_,_,_,rfl,_⟩:=h;rfl
 ·obtain⟨rs,there,a,rfl,h1,h2,g,i,h⟩:=h;simp![AW];refine⟨⋯,A3.filter (λo:Nat=>decide (¬o=a)) (λk:Nat=>P.int (k:Int)) (λ_ _ _=>rfl) (λo f M d=>?_) ?_⟩
  ·have d:=d .cl;simp![AW];refine Bj (λz=>?_) (λz=>?_)
   ·rw[aC (by simp at z ⊢;lia)]at d;exact d
   ·rw[aB (by simp at z ⊢;lia)]at d;exact d
  ·simp![AW];exact⟨rs,there,a,rfl,h1,h2,g,i,h⟩
abbrev DT(q:Nat×Nat):P:=.tup [.int (q.1:Int),.int (q.2:Int)]
def NQ:Option (Nat×Nat)->P
 |none=>.non
 |some q=>DT q
structure ThOk(rs:List At)(there:Ge):Prop where
 l1:∀r∈rs,r.length<=20
 l2:there.length<=100
 l3:∀t∈there,t<rs.length
def NR:pF:=λxs K=>∃(rs:List At) (there:Ge),xs=[BI rs,Be there]/\ThOk rs there/\K (NQ (Ck rs there))
def ACL:pS:=λE ρ=>∃(rs:List At) (there:Ge) (p:Nat) (v:S),ρ=[.sh (BI rs),.sh (Be there),.sh (.int p),v]/\ThOk rs there/\p∈there/\(Bn rs there p=[]->∀w,E.nx [.sh (BI rs),.sh (Be there),.sh (.int p),w])/\∀h t,Bn rs there p=h::t->E.rt (DT (p,h))
def ACM:pS:=λE ρ=>∃(rs:List At) (there:Ge),ρ=[.sh (BI rs),.sh (Be there),.emp,.emp]/\ThOk rs there/\(Ck rs there=none->∀v1 v2,E.nx [.sh (BI rs),.sh (Be there),v1,v2])/\∀q,Ck rs there=some q->E.rt (DT q)
theorem GL{α:Type}(x:α)(r:List α):atI (x::r) 0=some x:=BU (j:=0) rfl
theorem NS{α:Type}(x y:α)(r:List α):atI (x::y::r) 1=some y:=BU (j:=1) rfl
theorem drop_at{α:Type}{b:List α}{q:α}(h:b[i]?=some q):b.drop i=q::b.drop (i+1):=by
 have hi:=(aI.mp h).1;rw[drop_eq_getElem_cons hi,(aI.mp h).2]
theorem ACN(D:Aw K mg "first_ear" Mz)(T:TxtB mg)(r:Fn P' w K mg base "hosts" 2 ["rooms","there","place"] (AM NP)):Fn P' w K mg base "first_ear" 3 ["rooms","there"] (AM NR):=by
 refine BC D M0 (λ_ _ _ _ _ _ us y=>CM y dF) (λxs K h=>?_) (by decide) (λC B A j s H E u=>⟨_,(AN (QS.weak (m:=ACM) (Ft 1 (DA (λ_=>PassesOwn.never) dE (Bk dE (qv 1)) (ER (k:=2) (λ_=>M0.nd))
 (Ay.weak (m:=ACL) (AN (Am (k:=3) (λ_=>M0.nd) (Ad (λ_=>r) (λ_=>u.m) (AA (qv 0) (AA (qv 1) (AA (qv 2) AE)))))
 (AV (Bd (SX (qv 3))
 (AV (Al (C8 (AA (qv 2) (AA (Ai (λ_=>Aj) Ak (qv 3) AS dF) AE)))))
 Bc))) ?c))) ?a)
 (AV (Al Ez))),λxs K h=>?_⟩)
 case c =>
  rintro E ρ ⟨rs,there,p,v,rfl,ok,g,h1,h2⟩;simp![NP];refine⟨rs,rfl,there,rfl,p,rfl,ok.l1,ok.l2,ok.l3,ok.l3 p g,?_⟩;cases o:Bn rs there p with
  |nil =>
   simp![AW];exact h1 o _
  |cons k t =>
   simp![GL];exact h2 k t o
 case a =>
  rintro E ρ ⟨rs,there,rfl,ok,h1,h2⟩;simp![AW];refine⟨λi ρ=>∃f d,ρ=[.sh (BI rs),.sh (Be there),f,d]/\Ck rs there=(there.drop i).findSome? λp=>(Bn rs there p).head?.map λh=>(p,h),⟨_,_,rfl,rfl⟩,λi ρ' x n l=>?_,λρ' l=>?_⟩
  ·obtain⟨f,d,rfl,e⟩:=l;rw[bO]at n;obtain⟨p,g,rfl⟩:=aJ.mp n;rw[drop_at g,findSome?_cons]at e;simp![AW];refine⟨rs,there,p,_,rfl,ok,aM g,λz w=>⟨⟨_,_,rfl⟩,?_⟩,λk t z=>h2 _ ?_⟩
   ·rw[z]at e;exact e
   ·rw[z]at e;exact e
  ·obtain⟨f,d,rfl,e⟩:=l;refine h1 ?_ f d;simpa using e
 ·obtain⟨_,_,rfl,_⟩:=h;rfl
 ·obtain⟨rs,there,rfl,ok,h⟩:=h;simp![AW];refine⟨rs,there,rfl,ok,λz f d=>?_,λq z=>?_⟩
  ·rw[z]at h;simp![AW];exact h
  ·rw[z]at h;exact h
def KO:Option (List (Nat×Nat))->P
 |none=>.non
 |some row=>.lst (row.map DT)
def NT:pF:=λxs K=>∃rs:List At,xs=[BI rs]/\(∀r∈rs,r.length<=20)/\rs.length<=100/\K (KO (C1 rs))
theorem ACO(l:Ge)(z:Nat):((l.map λk:Nat=>(k:Int)).erase (z:Int))=(l.erase z).map λk:Nat=>(k:Int):=by
 induction l with
 |nil=>rfl
 |cons a t c =>
  by_cases e:a=z
  ·subst e;simp
  ·rw[map_cons,erase_cons_tail (by simp;lia),erase_cons_tail (by simpa using e),c,map_cons]
theorem Td(l:Ge):(l.map λk:Nat=>P.int (k:Int))=(l.map λk:Nat=>(k:Int)).map P.int:=by rw[bZ];rfl
def ACP:pS:=λE ρ=>∃(rs:List At) (there:Ge) (row:List (Nat×Nat)) (v:S),ρ=[.sh (BI rs),.own (Be there),.own (.lst (row.map DT)),v]/\ThOk rs there/\row.length<=1000/\(Ck rs there=none->E.rt .non)/\∀q,Ck rs there=some q->∀w,E.nx [.sh (BI rs),.own (Be (there.erase q.1)),.own (.lst ((row++[q]).map DT)),w]
theorem ACQ(D:Aw K mg "order" M1)(T:TxtB mg)(x:Fn P' w K mg base "first_ear" 3 ["rooms","there"] (AM NR)):Fn P' w K mg base "order" 4 ["rooms"] (AM NT):=by
 refine BC D J0 (λ_ _ _ _ _ _ us p=>DH p dE) (λxs K h=>?_) (by decide) (λI G A j s H E y=>⟨_,(AN (Am (k:=1) (λ_=>J0.nd) (Z7 dE (λ_=>T.b_list) (λ_=>T.b_range) (AA (BP (λ_=>CQ) CS (λ_=>T.b_len) nofun (AA (qv 0) AE)) AE)))
 (AN (Am (k:=2) (λ_=>J0.nd) (D0 AE))
 (AN (Pg (λ_=>PassesOwn.never) (BB (λ_=>GZ) Ip (BP (λ_=>CQ) CS (λ_=>T.b_len) nofun (AA (qv 1) AE)) AS (A5 _))
 (Ay.weak (m:=ACP) (AN (Am (k:=3) (λ_=>J0.nd) (Ad (λ_=>x) (λ_=>y.m) (AA (qv 0) (AA (qv 1) AE))))
 (AN (Bd (BB (λ_=>Nw) Pr (qv 3) Ez (A5 _))
 (AV (Al Ez))
 Bc)
 (AN (JD (k:=2) dE (qv 3))
 (AV (AAE (k:=1) dE (Ai (λ_=>Aj) Ak (qv 3) AS dF)))))) ?d))
 (AV (Al (qv 2)))))),λxs K h=>?_⟩)
 case d =>
  rintro E ρ ⟨rs,there,a,v,rfl,ok,p,h1,h2⟩;simp![NR];refine⟨rs,rfl,there,rfl,ok,?_⟩;cases r:Ck rs there with
  |none =>
   simp![NQ];exact h1 r
  |some q =>
   simp![NQ,GL];have u:=(MZ r).1;refine⟨⋯,there.map (λk:Nat=>(k:Int)),Td there,aP u,?_⟩;rw[ACO,<-Td];have:=h2 q r;rw[cN]at this;exact this _
 ·obtain⟨_,rfl,_⟩:=h;rfl
 ·obtain⟨rs,rfl,l1,l2,h⟩:=h;simp![AW];refine⟨⋯,⋯,?_⟩;rw[Int.toNat_natCast];refine⟨λm ρ=>∃(there:Ge) (a:List (Nat×Nat)) (v:S),ρ=[.sh (BI rs),.own (Be there),.own (.lst (a.map DT)),v]/\there.length=m/\(∀t∈there,t<rs.length)/\a.length+m<=100/\C1 rs=(CL rs m there).map (a++·),⟨rs.length,List.range rs.length,[],_,rfl,bG,λt g=>bH.mp g,by simpa using l2,?_⟩,λm ρ' C=>?_⟩
  ·show C1 rs=_;unfold C1;cases CL rs rs.length (BF rs)<;>rfl
  ·obtain⟨there,a,v,rfl,u,g,p,e⟩:=C;simp![AW];have ok:ThOk rs there:=⟨l1,⋯,g⟩;cases m with
   |zero =>
    rw[aB ⋯];rw[show CL rs 0 there=some []from rfl]at e;rw[e]at h;simpa[KO]using h
   |succ m =>
    unfold CL at e;by_cases c:there.length<=1
    ·rw[aB ⋯];rw[aC c]at e;rw[e]at h;simpa[KO]using h
    ·rw[aC ⋯];rw[aB c]at e;refine⟨λi=>∃f,f<m+1/\∃(there:Ge) (a:List (Nat×Nat)),(∃v:S,i=[.sh (BI rs),.own (Be there),.own (.lst (a.map DT)),v])/\there.length=f/\(∀t∈there,t<rs.length)/\a.length+f<=100/\C1 rs=(CL rs f there).map (a++·),λ_ q=>q,rs,there,a,v,rfl,ok,⋯,λz=>?_,λq z w=>?_⟩
     ·rw[z]at e;rw[e]at h;exact h
     ·have B:=(MZ z).1;have n:(there.erase q.1).length=m:=by rw[length_erase_of_mem B];lia
      rw[z]at e;refine⟨m,⋯,there.erase q.1,a++[q],⟨w,rfl⟩,n,λt l=>g t (mem_of_mem_erase l),by rw[aG,length_singleton];lia,?_⟩;rw[e];show Option.map (a++·) (Option.map (q::·) (CL rs m (there.erase q.1)))=_;generalize CL rs m (there.erase q.1)=o;cases o<;>simp
end
section
variable{K:Fg}
def KP:pF:=λ_ _=>False
theorem ACR{st:Stmt}{k:Nat}(D:Aw K mg x st)(S:FnScope N ps (AR st))
  (e:∀(kV doc d:Value) (g:Go) (a ct:Value) (us:Do),us.length=ps.length->bindArgs (PySem.W.fnOf x x (Dc st) (Cr st) (AR st) .none kV doc d g a ct) ⟨us,[]⟩=pure (ps.zip us)):Fn P' w K mg base x (k+1) ps (AM KP) :=
 FY D S e (λvs H Q E h=>by obtain⟨_,_,_,_,_,_,z,_⟩:=h;exact z.elim) (λf a A c s H vs Q E i h=>by obtain⟨_,_,_,_,_,_,z,_⟩:=h;exact z.elim)
theorem ACS(D:Aw K mg "knot" M3):Fn P' w K mg base "knot" 4 ["rooms"] (AM KP):=ACR D ABJ (λ_ _ _ _ _ _ us a=>DH a dE)
def Te:pF:=λxs K=>∃(rs:List At) (row:List (Nat×Nat)),xs=[BI rs]/\(∀r∈rs,r.length<=20)/\rs.length<=100/\C1 rs=some row/\K (.tup [.str "order",.lst (row.map DT)])
theorem ACT(D:Aw K mg "paper" M4)(T:TxtB mg)(f:Fn P' w K mg base "order" 4 ["rooms"] (AM NT))(d:Fn P' w K mg base "knot" 4 ["rooms"] (AM KP)):Fn P' w K mg base "paper" 5 ["rooms"] (AM Te):=by
 refine BC D TJ (λ_ _ _ _ _ _ us i=>DH i dE) (λxs K h=>?_) (by decide) (λl j A a s H E c=>⟨_,(AN (Am (k:=1) (λ_=>TJ.nd) (Ad (λ_=>f) (λ_=>c.m) (AA (qv 0) AE)))
 (AN (Bd (BB (λ_=>Nw) Pr (qv 1) Ez (A5 _))
 (AV (Al (Ad (λ_=>d) (λ_=>c.m) (AA (qv 0) AE))))
 Bc)
 (AV (Al (C8 (AA G4 (AA (qv 1) AE))))))),λxs K h=>?_⟩)
 ·obtain⟨_,_,rfl,_⟩:=h;rfl
 ·obtain⟨rs,g,rfl,l1,l2,e,h⟩:=h;simp![NT,KP];refine⟨rs,rfl,l1,l2,?_⟩;rw[e];simp![KO];exact h
abbrev FM(ts:List Tl):P:=.lst (ts.map AL)
structure TxtV(mg:Str->Ex):Prop extends TxtB mg where
 b_reversed:mg "reversed"=none
theorem Tf(th:Ge)(row:List (Nat×Nat)):∀k,∀i∈Bu th row k,i∈th:=by
 intro k;unfold Bu
 induction row.take k generalizing th with
 |nil=>exactλi hi=>hi
 |cons q r a=>exactλi hi=>mem_of_mem_erase (a (th.erase q.1) i hi)
def Tg:pF:=λxs K=>∃(ns:At) (rs:List At) (ts:List Tl) (row:List (Nat×Nat)),xs=[BI rs,FM ts,.lst (row.map DT)]/\Ct ns rs ts/\rs≠[]/\row.length<=20/\D8 rs (BF rs) row/\∀Q J,Wh rs ts (BF rs) Q J->K (AL J)
abbrev FN(rs:List At)(ts:List Tl)(row:List (Nat×Nat))(off left q r p:S):dI:=[.sh (BI rs),.sh (FM ts),.sh (.lst (row.map DT)),off,left,q,r,p]
structure CtOk(ns:At)(rs:List At)(ts:List Tl)(row:List (Nat×Nat))(p:Nat):Prop where
 c:Ct ns rs ts
 lr:row.length<=20
 hg:D8 rs (BF rs) row
 en:Bu (BF rs) row row.length=[p]
 lt:p<rs.length
def ACU:pS:=λE ρ=>∃ns rs ts row p,CtOk ns rs ts row p/\ρ=FN rs ts row (.own (Be (row.map (·.1)))) (.own (Be [p])) .emp .emp .emp/\∀Q J,Wh rs ts (BF rs) Q J->E.rt (AL J)
def ACV:pS:=λE ρ=>∃ns rs ts row p l,CtOk ns rs ts row p/\ρ=FN rs ts row (.fr (Be (row.map (·.1)))) l (.sh (AJ (AZ rs p))) (.own (AL (BA ts p))) .emp/\∀Q J z,Wh rs ts (BF rs) Q J->E.nx (FN rs ts row (.fr (Be (row.map (·.1)))) l (.sh (AJ Q)) (.own (AL J)) z)
def ACW:pS:=λE ρ=>∃ns rs ts row off l Q J p h,∃S S':Ge,Ct ns rs ts/\Wh rs ts S Q J/\Ee rs S' p h/\S=S'.erase p/\S'.Nodup/\(∀i∈S',i∈BF rs)/\ρ=FN rs ts row off l (.sh (AJ Q)) (.own (AL J)) (.sh (.int (p:Nat)))/\∀qJ J',Wh rs ts S' qJ J'->E.nx (FN rs ts row off l (.sh (AJ qJ)) (.own (AL J')) (.sh (.int (p:Nat))))
theorem ACX(D:Aw K mg "counted" Hn)(T:TxtV mg)(zB:Fn P' w K mg base "joined" 5 ["room","rows","other_room","other_rows"] (AM NL))(z5:Fn P' w K mg base "united" 1 ["one","other"] (AM FL)):Fn P' w K mg base "counted" 6 ["rooms","tallies","order"] (AM Tg):=by
 refine BC D Ej (λ_ _ _ _ _ _ us hl=>EB hl (λ_ _ _=>rfl)) (λxs K h=>?_) (by decide) (λfa a5 A L s H E B=>?_)
 ·obtain⟨_,_,_,_,rfl,_⟩:=h;rfl
 ·have hu:=EJ B;refine⟨_,(AN (Am (k:=3) (λ_=>Ej.nd) (B5 (N:=["rooms","tallies","order","off","left","questions","rows","place"]) (sc:=AR Hn) (N':=["place","other"]) (qD:=[none,none]) ⟨rfl,nofun,nofun,nofun,nofun,rfl,nofun⟩ (by decide) dE (Bk dE (qv 2)) (Im (i:=0) (j:=1) rfl rfl dE dE (λ_=>(Bi (BD (i:=0) (show List.Nodup (["place","other"]:At) from nofun) rfl (Or.inl rfl)) (Bi (BD (i:=1) (show List.Nodup (["place","other"]:At) from nofun) rfl (Or.inl rfl)) DY)))) CJ (qv 0)))
 (AN (HF (k:=4) (λ_=>Ej.nd) (N:=["rooms","tallies","order","off","left","questions","rows","place"]) (sc:=AR Hn) (N':=["place","off"]) (qD:=[none,some 3]) ⟨rfl,nofun,nofun,nofun,nofun,rfl,nofun⟩ (by decide) dE (HB (λ_=>T.b_range) (AA (BP (λ_=>CQ) CS (λ_=>T.b_len) nofun (AA (qv 0) AE)) AE)) (Br (k:=0) rfl (λ_=>show List.Nodup (["place","off"]:At) from nofun)) (ES (BB (λ_=>(XV B)) XY (qv 0) (qv 1) (by rfl))) (qv 0))
 (Ay.weak (m:=ACU) (AN (Bd (BB (λ_=>(HK B)) HL (BP (λ_=>CQ) CS (λ_=>T.b_len) nofun (AA (qv 4) AE)) AS (A5 _))
 (AV (Al (D0 AE)))
 Bc)
 (AN (Am (k:=5) (λ_=>Ej.nd) (Ai (λ_=>Aj) Ak (qv 0) (Ai (λ_=>Aj) Ak (qv 4) AS dF) dF))
 (AN (Am (k:=6) (λ_=>Ej.nd) (Bv (λ_=>Ew) Fm (λ_=>T.b_list) nofun (AA (Ai (λ_=>Aj) Ak (qv 1) (Ai (λ_=>Aj) Ak (qv 4) AS dF) dF) AE)))
 (AN (Ft 3 (QS.weak (m:=ACV) (DA (λ_=>PassesOwn.never) dE (AAl dE (λ_=>T.b_reversed) (AA (qv 3) AE)) (ER (k:=7) (λ_=>Ej.nd))
 (Ay.weak (m:=ACW) (AN (Am (k:=6) (λ_=>Ej.nd) (Ad (λ_=>zB) (λ_=>B.m) (AA (qv 5) (AA (qv 6) (AA (Ai (λ_=>Aj) Ak (qv 0) (qv 7) dF) (AA (Ai (λ_=>Aj) Ak (qv 1) (qv 7) dF) AE))))))
 (AV (Am (k:=5) (λ_=>Ej.nd) (Ad (λ_=>z5) (λ_=>B.m) (AA (qv 5) (AA (Ai (λ_=>Aj) Ak (qv 0) (qv 7) dF) AE)))))) ?o)) ?n))
 (AV (Al (qv 6))))))) ?C))),λxs K h=>?_⟩
  case o =>
   rintro E ρ ⟨ns,rs,ts,row,off,l,Q,J,p,h,S,S',c,I,d,eS,nd,sub,rfl,k⟩;have u:p<rs.length:=bH.mp (sub p d.1);have G:atI (rs.map AJ) (p:Int)=some (AJ (AZ rs p)):=BU (by rw[bO];unfold AZ;rw[aH u];rfl);have a2:atI (ts.map AL) (p:Int)=some (AL (BA ts p)):=BU (by show _=some (AL (ts.getD p []));rw[bO,bW,aH (by rw[c.len];exact u)];rfl);have hm:∀i,i∈S↔i∈S'/\i≠p:=λi=>by rw[eS];exact SQ nd p i
   have ag:=I.agr c d hm sub;have ql:=I.qlen c;have rl:(AZ rs p).length<=6:=by
    have:=(c.nd p).length_le_of_subset (c.sub p);have:=c.ln;lia
   refine⟨_,G,_,a2,_,_,_,_,rfl,⋯,⋯,ag,λqJ un su J' a3 a0=>⟨_,G,_,_,rfl,⋯,⋯,λss U a4 Y=>B9 (DR _) ?_⟩⟩;have e:=S2 U un.nd a4 un.mem Y su;subst e;exact k _ _ (I.add c d eS nd sub un su a3 a0)
  case n =>
   rintro E ρ ⟨ns,rs,ts,row,p,l,ok,rfl,k⟩;refine⟨_,_,rfl,rfl,λi ρ=>∃Q J z,ρ=FN rs ts row (.fr (Be (row.map (·.1)))) l (.sh (AJ Q)) (.own (AL J)) z/\Wh rs ts (Bu (BF rs) row (row.length - i)) Q J,⟨_,_,_,rfl,?_⟩,λi ρ' x hx hI=>?_,λρ' hI=>?_⟩
   ·rw[Nat.sub_zero,ok.en];exact Wh.one ok.c p
   ·obtain⟨Q,J,z,rfl,w⟩:=hI;rw[<-map_reverse,bO]at hx;obtain⟨q,f,rfl⟩:=aJ.mp hx;have hi:i<row.length:=by have:=(aI.mp f).1;rw[length_reverse,aA]at this;exact this
    rw[getElem?_reverse (by rw[aA];exact hi),aA,bO]at f;obtain⟨r,v,rfl⟩:=aJ.mp f;have d:=S4 ok.hg v;have e1:row.length - i=(row.length - 1 - i)+1:=⋯;have e2:row.length - (i+1)=row.length - 1 - i:=⋯;rw[e1]at w;refine⟨ns,rs,ts,row,_,l,Q,J,r.1,r.2,_,_,ok.c,w,d,AA2 v,AA3 nodup_range row _,Tf _ row _,rfl,λqJ J' w'=>⟨qJ,J',_,rfl,?_⟩⟩;rw[e2];exact w'
   ·obtain⟨Q,J,z,rfl,w⟩:=hI;rw[length_reverse,aA,aA,Nat.sub_self,Hh]at w;exact k Q J z w
  case C =>
   rintro E ρ ⟨ns,rs,ts,row,p,ok,rfl,k⟩;have G:atI (rs.map AJ) (p:Int)=some (AJ (AZ rs p)):=BU (by rw[bO];unfold AZ;rw[aH ok.lt];rfl);have a2:atI (ts.map AL) (p:Int)=some (AL (BA ts p)):=BU (by show _=some (AL (ts.getD p []));rw[bO,bW,aH (by rw[ok.c.len];exact ok.lt)];rfl);refine⟨⟨rfl,rfl⟩,_,rfl,_,GL _ _,_,G,B9 (DR _) ⟨_,GL _ _,_,a2,ABB (Lh _) ?_⟩⟩;exact⟨ns,rs,ts,row,p,_,ok,rfl,λQ J z w=>⟨rfl,k Q J w⟩⟩
  ·obtain⟨ns,rs,ts,row,rfl,c,ne,lr,hg,k⟩:=h;have r8:=c.l8;have ft:=S6 (rs:=rs) (row:=row) (th:=BF rs) nodup_range;obtain⟨f1,f2⟩:=S5 hg;have O:BF rs≠[]:=λz=>ne (by cases rs with|nil=>rfl|cons a b=>simp[BF]at z);obtain⟨p,u⟩:∃p,Bu (BF rs) row row.length=[p]:=by
    cases h:Bu (BF rs) row row.length with
    |nil=>exact bS h (f2 O)
    |cons a b=>cases b with
     |nil=>exact⟨a,rfl⟩
     |cons _ _=>rw[h]at f1;simp at f1
   have lt:p<rs.length:=bH.mp (Tf (BF rs) row row.length p (by rw[u];exact mem_singleton_self p));refine⟨_,rfl,nofun,by rw[aA];lia,A3.map (λq:Nat×Nat=>P.int (q.1:Int)) dF (λq f M g=>⟨_,rfl,rfl,g .cl⟩) ?_⟩;refine⟨_,_,rfl,⋯,by rw[aA];lia,nofun,by rw[D2,aA];lia,?_⟩;rw[aA,Int.toNat_natCast];unfold DM;refine A3.filter (λk:Nat=>decide (k∉row.map (·.1))) (λk=>P.int (k:Int)) (λ_ _ _=>rfl) (λk hk M g=>?_) ?_
   ·have g:=g .cl;have any:((row.map λq:Nat×Nat=>P.int (q.1:Int)).any λy=>AI y (P.int (k:Int)))=decide (k∈row.map (·.1)):=by
     rw[Bool.eq_iff_iff,any_eq_true,aW];constructor
     ·rintro⟨y,hy,e⟩;obtain⟨q,f,rfl⟩:=bU.mp hy;rw[E7,aW]at e;exact bU.mpr ⟨q,f,⋯⟩
     ·intro hk;obtain⟨q,f,e⟩:=bU.mp hk;exact⟨_,aP f,by rw[E7,aW,e]⟩
    rw[Int.zero_add];refine⟨_,rfl,⟨rfl,by rw[all_map];exact all_eq_true.mpr λq _=>LP _ _⟩,!decide (k∈row.map (·.1)),aT (λb=>P.bl (!b)) any,Bj (λz=>?_) (λz=>?_)⟩
    ·rw[aC (by simpa using z)]at g;exact g
    ·rw[aB (by simpa using z)]at g;exact g
   ·refine⟨ns,rs,ts,row,p,⟨c,lr,hg,u,lt⟩,?_,k⟩;rw[u]at ft;unfold FN Be;rw[ft,bZ];rfl
end
section
variable{K:Fg}
abbrev DU(rs:List At):P:=.lst (rs.map AJ)
theorem Th(h:n<rs.length):atI (rs.map AJ) (n:Int)=some (AJ rs[n]):=BU (by rw[bO,aH h];rfl)
structure Tls(rs:List At)(ts:List Tl)(n:Nat):Prop where
 len:ts.length=rs.length
 tal:∀(i:Nat) (r:At) (t:Tl),rs[i]?=some r->ts[i]?=some t->Tal r.length t
 few:∀t∈ts,t.length<=n
abbrev DV(ts:List Tl):P:=.lst (ts.map AL)
theorem Ti(h:n<ts.length):atI (ts.map AL) (n:Int)=some (AL ts[n]):=BU (by rw[bO,aH h];rfl)
@[simp] theorem ACY(d:Option By):(Hd d).imm=true:=by cases d<;>simp[Hd]
abbrev Dr(q:Nat×Nat×By):P:=.tup [.int q.1,.int q.2.1,AT q.2.2]
def DW(rs:List At)(ts:List Tl)(k i:Nat):List (Nat×Nat×By) :=
 match Eb (Ab (rs.getD k []) (ts.getD k []) (Au (rs.getD k []) (rs.getD i []))) (Ab (rs.getD i []) (ts.getD i []) (Au (rs.getD k []) (rs.getD i [])))with|some r=>[(k,i,r)]|none=>[]
def EA(rs:List At)(ts:List Tl)(k:Nat):List (Nat×Nat×By):=(List.range (rs.length - (k+1))).flatMap λd=>DW rs ts k (k+1+d)
def KQ(rs:List At)(ts:List Tl):List (Nat×Nat×By):=(List.range rs.length).flatMap (EA rs ts)
theorem Tj(rs:List At)(ts:List Tl)(k i:Nat):(DW rs ts k i).length<=1:=by unfold DW;split<;>simp
theorem flat_len{α c:Type}(l:List α)(f:α->List c)(h:∀a,(f a).length<=n):(l.flatMap f).length<=l.length * n:=by
 induction l with
 |nil=>simp
 |cons a l d=>rw[flatMap_cons,aG,length_cons,Nat.add_mul];have:=h a;lia
theorem ACZ(rs:List At)(ts:List Tl)(k:Nat):(EA rs ts k).length<=rs.length:=by
 have:=flat_len (List.range (rs.length - (k+1))) (λd=>DW rs ts k (k+1+d)) (λd=>Tj rs ts k (k+1+d));rw[bG]at this;unfold EA;lia
theorem ACa(rs:List At)(ts:List Tl)(j:Nat):((List.range j).flatMap (EA rs ts)).length<=j * rs.length:=by
 have:=flat_len (List.range j) (EA rs ts) (ACZ rs ts)
 rwa [bG]at this
structure Brs(rs:List At)(ts:List Tl):Prop where
 l8:rs.length<=8
 rl:∀r∈rs,r.length<=100
 tl:Tls rs ts 1000
def Tk:pF:=λxs K=>∃rs ts,xs=[DU rs,DV ts]/\Brs rs ts/\K (.lst ((KQ rs ts).map Dr))
def ACb:pS:=λE ρ=>∃(rs:List At) (ts:List Tl) (bs:List (Nat×Nat×By)) (k i:Nat) (x:S),ρ=[.sh (DU rs),.sh (DV ts),.own (.lst (bs.map Dr)),.sh (.int k),.sh (.int i),x]/\Brs rs ts/\k<rs.length/\i<rs.length/\bs.length<=1000/\∀x,E.nx [.sh (DU rs),.sh (DV ts),.own (.lst ((bs++DW rs ts k i).map Dr)),.sh (.int k),.sh (.int i),x]
def ACc:pS:=λE ρ=>∃(rs:List At) (ts:List Tl) (bs:List (Nat×Nat×By)) (k:Nat) (x y:S),ρ=[.sh (DU rs),.sh (DV ts),.own (.lst (bs.map Dr)),.sh (.int k),x,y]/\Brs rs ts/\k<rs.length/\bs.length<=100/\∀x y,E.nx [.sh (DU rs),.sh (DV ts),.own (.lst ((bs++EA rs ts k).map Dr)),.sh (.int k),x,y]
def ACd:pS:=λE ρ=>∃(rs:List At) (ts:List Tl) (bs:List (Nat×Nat×By)) (k:Nat) (x y:S),ρ=[.sh (DU rs),.sh (DV ts),.own (.lst (bs.map Dr)),.sh (.int k),x,y]/\Brs rs ts/\k<rs.length/\bs.length<=100/\∀x y,E.nx [.sh (DU rs),.sh (DV ts),.own (.lst ((bs++EA rs ts k).map Dr)),.sh (.int k),x,y]
def ACe:pS:=λE ρ=>∃(rs:List At) (ts:List Tl),ρ=[.sh (DU rs),.sh (DV ts),.own (.lst []),.emp,.emp,.emp]/\Brs rs ts/\∀z x y,E.nx [.sh (DU rs),.sh (DV ts),.own (.lst ((KQ rs ts).map Dr)),z,x,y]
theorem ACf(D:Aw K mg "bars" Mu)(T:TxtB mg)(J:Fn P' w K mg base "bar" 4 ["room","rows","other_room","other_rows"] (AM KN)):Fn P' w K mg base "bars" 5 ["rooms","tallies"] (AM Tk):=by
 refine BC D Hk (λ_ _ _ _ _ _ us C=>CM C dF) (λxs K h=>?_) (by decide) (λU N A v s H E L=>⟨_,(AN (Am (k:=2) (λ_=>Hk.nd) (D0 AE))
 (AN (QS.weak (m:=ACe) (DA (λ_=>PassesOwn.never) dE (HB (λ_=>T.b_range) (AA (BP (λ_=>CQ) CS (λ_=>T.b_len) nofun (AA (qv 0) AE)) AE)) (ER (k:=3) (λ_=>Hk.nd))
 (Ay.weak (m:=ACd) (AV (QS.weak (m:=ACc) (DA (λ_=>PassesOwn.never) dE (Wp (λ_=>T.b_range) (AA (C6 (λ_=>DZ) HH (qv 3) AS) (AA (BP (λ_=>CQ) CS (λ_=>T.b_len) nofun (AA (qv 0) AE)) AE))) (ER (k:=4) (λ_=>Hk.nd))
 (Ay.weak (m:=ACb) (AN (Am (k:=5) (λ_=>Hk.nd) (Ad (λ_=>J) (λ_=>L.m) (AA (Ai (λ_=>Aj) Ak (qv 0) (qv 3) dF) (AA (Ai (λ_=>Aj) Ak (qv 1) (qv 3) dF) (AA (Ai (λ_=>Aj) Ak (qv 0) (qv 4) dF) (AA (Ai (λ_=>Aj) Ak (qv 1) (qv 4) dF) AE))))))
 (AV (Bd (BB (λ_=>Nx) Pt (qv 5) Ez (A5 _))
 (AV (JD (k:=2) dE (C8 (AA (qv 3) (AA (qv 4) (AA (qv 5) AE))))))
 Bc))) ?o)) ?c)) ?p)) ?f)
 (AV (Al (qv 2))))),λxs K h=>?_⟩)
 case o =>
  rintro E ρ ⟨rs,ts,bs,k,i,x,rfl,ok,a,hi,l1,h⟩;have g:k<ts.length:=by rw[ok.tl.len];exact a
  have l:i<ts.length:=by rw[ok.tl.len];exact hi
  have tk:=ok.tl.tal k _ _ (aH a) (aH g);have I:=ok.tl.tal i _ _ (aH hi) (aH l);have O:=ok.rl _ (getElem_mem a);have Q:=ok.rl _ (getElem_mem hi);have u:DW rs ts k i=(match Eb (Ab rs[k] ts[k] (Au rs[k] rs[i])) (Ab rs[i] ts[i] (Au rs[k] rs[i]))with|some r=>[(k,i,r)]|none=>[]):=by
   unfold DW;simp only[bW,aH a,aH hi,aH g,aH l,Option.getD_some]
  simp![KN,Th a,Th hi,Ti g,Ti l,ACY];refine⟨⋯,⋯,tk,I,?_⟩;cases e:Eb (Ab rs[k] ts[k] (Au rs[k] rs[i])) (Ab rs[i] ts[i] (Au rs[k] rs[i]))with
  |none =>
   rw[e]at u;simp![Hd,P.isNon];have:=h (.sh .non);rw[u,cO]at this;exact this
  |some r =>
   rw[e]at u;simp![Hd,P.isNon];have:=h (.sh (AT r));rw[u,cN]at this;exact⟨⋯,this⟩
 case c =>
  rintro E ρ ⟨rs,ts,bs,k,x,y,rfl,ok,a,l1,h⟩;have G:=ok.l8;simp![AW];refine⟨⋯,⋯,⋯,⋯,λj ρ=>∃(x y:S),ρ=[.sh (DU rs),.sh (DV ts),.own (.lst ((bs++(List.range j).flatMap λd=>DW rs ts k (k+1+d)).map Dr)),.sh (.int k),x,y],⟨x,y,by simp⟩,λj ρ' x B n=>?_,λρ' n=>?_⟩
  ·obtain⟨x1,q,rfl⟩:=n;obtain⟨M,rfl⟩:=HA B;have C:((List.range j).flatMap λd=>DW rs ts k (k+1+d)).length<=j:=by
    have:=flat_len (List.range j) (λd=>DW rs ts k (k+1+d)) (λd=>Tj rs ts k (k+1+d))
    rwa [bG,Nat.mul_one]at this
   simp![AW];refine⟨rs,ts,_,k,k+1+j,_,by push_cast;rfl,ok,a,⋯,by rw[aG];lia,λx=>⟨.sh (.int ((k+1+j:Nat):Int)),x,?_⟩⟩;rw[range_succ,flatMap_append,bK];simp only[flatMap_cons,flatMap_nil,cO]
  ·obtain⟨x1,q,rfl⟩:=n;rw[D2];have e:((rs.length:Int) - ((k:Int)+1)).toNat=rs.length - (k+1):=⋯;rw[e];exact h x1 q
 case p =>
  rintro E ρ ⟨rs,ts,bs,k,x,y,rfl,ok,a,l1,h⟩;exact⟨rs,ts,bs,k,x,y,rfl,ok,a,l1,h⟩
 case f =>
  rintro E ρ ⟨rs,ts,rfl,ok,h⟩;have G:=ok.l8;simp![AW];refine⟨⋯,⋯,λj ρ=>∃(z x y:S),ρ=[.sh (DU rs),.sh (DV ts),.own (.lst (((List.range j).flatMap (EA rs ts)).map Dr)),z,x,y],⟨_,_,_,rfl⟩,λj ρ' x B n=>?_,λρ' n=>?_⟩
  ·obtain⟨z,x1,q,rfl⟩:=n;obtain⟨M,rfl⟩:=HA B;have C:=ACa rs ts j;simp![AW];refine⟨rs,ts,_,j,x1,q,by rw[Int.zero_add],ok,⋯,by have:=Nat.mul_le_mul (show j<=8 by lia) G;lia,λx y=>⟨.sh (.int (j:Int)),x,y,?_⟩⟩;rw[range_succ,flatMap_append];simp only[flatMap_cons,flatMap_nil,cO]
  ·obtain⟨z,x1,q,rfl⟩:=n;rw[D2];exact h z x1 q
 ·obtain⟨_,_,rfl,_⟩:=h;rfl
 ·obtain⟨rs,ts,rfl,ok,h⟩:=h;simp![AW];refine⟨rs,ts,rfl,ok,λz x y=>?_⟩;simp![AW];exact h
end
section
variable{K:Fg}
theorem ACg(c:Ct ns rs ts):KQ rs ts=[]:=by
 unfold KQ;refine flatMap_eq_nil_iff.mpr λk a=>?_;unfold EA;refine flatMap_eq_nil_iff.mpr λd f=>?_;have a:=bH.mp a;have f:=bH.mp f;have e:∀i,rs.getD i []=AZ rs i:=λi=>by rw[bW];rfl
 unfold DW;rw[e,e];have:=c.ag k (bH.mpr a) (k+1+d) (bH.mpr ⋯);rw[show ts.getD k []=BA ts k from rfl,show ts.getD (k+1+d) []=BA ts (k+1+d)from rfl,this,Rs]
theorem Tn(rs:List At)(z:Str):z∈rs.flatten↔∃i∈BF rs,z∈AZ rs i:=by
 rw[mem_flatten];constructor
 ·rintro⟨r,c,a⟩;obtain⟨i,hi,rfl⟩:=getElem_of_mem c;exact⟨i,bH.mpr hi,by unfold AZ;rw[aH hi];exact a⟩
 ·rintro⟨i,hi,a⟩;have hi:=bH.mp hi;unfold AZ at a;rw[aH hi]at a;exact⟨_,getElem_mem hi,a⟩
theorem Tp(c:Ct ns rs ts):∀r∈rs,r.length<=6:=λr a=>by
 obtain⟨i,hi,rfl⟩:=getElem_of_mem a;have e:AZ rs i=rs[i]:=by unfold AZ;rw[aH hi];rfl
 have l1:=(c.nd i).length_le_of_subset (c.sub i);have l2:=c.ln;rw[e]at l1;lia
theorem ACh(c:Ct ns rs ts):Brs rs ts where
 l8:=c.l8
 rl:=λr e=>by have:=Tp c r e;lia
 tl:=⟨c.len,λi r t h1 h2=>by
  have:=c.tal i;have f:AZ rs i=r:=by unfold AZ;rw[h1];rfl
  have a:BA ts i=t:=by show ts.getD i []=t;rw[bW,h2];rfl
  rw[f,a]at this;exact this,λt d=>by
  obtain⟨i,hi,rfl⟩:=getElem_of_mem d;have a:BA ts i=ts[i]:=by show ts.getD i []=_;rw[bW,aH hi];rfl
  have:=(c.tal i).few;rw[a]at this;lia⟩
def Tq:pF:=λxs K=>∃(ns:At) (rs:List At) (ts:List Tl) (row:List (Nat×Nat)),xs=[BI rs,FM ts]/\Ct ns rs ts/\rs≠[]/\rs.flatten.length<=60/\C1 rs=some row/\D8 rs (BF rs) row/\row.length<=20 /\
 ∀Q J,(∀z,z∈Q↔z∈rs.flatten)->Wh rs ts (BF rs) Q J->K (.tup [.str "count",AJ Q,AL J])
theorem ACi(D:Aw K mg "whole" M5)(T:TxtB mg)(p:Fn P' w K mg base "bars" 5 ["rooms","tallies"] (AM Tk))(o:Fn P' w K mg base "paper" 5 ["rooms"] (AM Te))(n:Fn P' w K mg base "all_questions" 1 ["rooms"] (AM Tb))(l:Fn P' w K mg base "counted" 6 ["rooms","tallies","order"] (AM Tg)):Fn P' w K mg base "whole" 7 ["rooms","tallies"] (AM Tq):=by
 refine BC D GG (λ_ _ _ _ _ _ us B=>CM B dF) (λxs K h=>?_) (by decide) (λM L A f s H E a=>⟨_,(AN (Am (k:=2) (λ_=>GG.nd) (Ad (λ_=>p) (λ_=>a.m) (AA (qv 0) (AA (qv 1) AE))))
 (AN (Bd (SX (qv 2))
 (AN (Wj (Ai (λ_=>Aj) Ak (qv 2) AS dF) (G8 (ks:=[3,4,5]) dE dE (λ_=>(Bi (BD (i:=3) GG.nd rfl (Or.inl rfl)) (Bi (BD (i:=4) GG.nd rfl (Or.inl rfl)) (Bi (BD (i:=5) GG.nd rfl (Or.inl rfl)) DY)))) rfl))
 (AV (Al (C8 (AA G4 (AA (qv 3) (AA (qv 4) (AA (qv 5) AE))))))))
 Bc)
 (AN (Am (k:=6) (λ_=>GG.nd) (Ad (λ_=>o) (λ_=>a.m) (AA (qv 0) AE)))
 (AN (Bd (BB (λ_=>(DB a)) DC (Ai (λ_=>Aj) Ak (qv 6) AS dF) G4 (A5 _))
 (AV (Al (qv 6)))
 Bc)
 (AV (Al (C8 (AA G4 (AA (Ad (λ_=>n) (λ_=>a.m) (AA (qv 0) AE)) (AA (Ad (λ_=>l) (λ_=>a.m) (AA (qv 0) (AA (qv 1) (AA (Ai (λ_=>Aj) Ak (qv 6) AS dF) AE)))) AE)))))))))),λxs K h=>?_⟩)
 ·obtain⟨_,_,_,_,rfl,_⟩:=h;rfl
 ·obtain⟨ns,rs,ts,d,rfl,c,q,G,y,C,v,h⟩:=h;have I:=ACg c;refine⟨rs,ts,rfl,ACh c,?_⟩;rw[I];refine⟨_,rfl,rs,d,rfl,λr a=>by have:=Tp c r a;lia,by have:=c.l8;lia,y,?_⟩;refine⟨_,GL _ _,⟨rfl,rfl⟩,false,aT P.bl (by rw[Li,aK rfl];rfl),rs,rfl,G,λg u j x=>⟨_,NS _ _ _,ns,rs,ts,d,rfl,c,q,v,C,λQ J w=>⟨rfl,ABA,?_⟩⟩⟩;have e:g=Q:=JZ ((perm_ext_iff_of_nodup u w.nd).mpr λz=>((j z).trans (Tn rs z)).trans (w.mem z).symm) x w.srt;subst e;exact h g J j w
end
section
variable{K:Fg}
theorem Tr{t:Tl}(h:n<t.length):atI (t.map Ax) (n:Int)=some (Ax t[n]):=BU (by rw[bO,aH h];rfl)
theorem Hz{α:Type}(x:α)(r:List α):atI (x::r) 0=some x:=BU (j:=0) rfl
theorem Ts{α:Type}(x y:α)(r:List α):atI (x::y::r) 1=some y:=BU (j:=1) rfl
def NU:pF:=λxs K=>∃qK t,xs=[AJ qK,AL t]/\t.length<=1000/\qK.length<=100/\(∀q∈t,q.1.length=qK.length)/\(∀q∈t,0<q.2)/\(∀q∈t,∀x∈q.1,0<=x/\x<=9)/\BR (t.map (·.1))/\(t.map (·.1)).Nodup/\K (.bl true)
structure GdOk(qK:At)(t:Tl):Prop where
 lt:t.length<=1000
 lr:qK.length<=100
 ln:∀q∈t,q.1.length=qK.length
 ps:∀q∈t,0<q.2
 rg:∀q∈t,∀x∈q.1,0<=x/\x<=9
 sr:BR (t.map (·.1))
 nd:(t.map (·.1)).Nodup
def ACj:pS:=λE ρ=>∃qK t,∃k:Nat,∃x,GdOk qK t/\k<t.length/\ρ=[.sh (AJ qK),.sh (AL t),.sh (.int k),x]/\∀x,E.nx [.sh (AJ qK),.sh (AL t),.sh (.int k),x]
def ACk:pS:=λE ρ=>∃qK t,GdOk qK t/\ρ=[.sh (AJ qK),.sh (AL t),.emp,.emp]/\∀x y,E.nx [.sh (AJ qK),.sh (AL t),x,y]
theorem ACl(D:Aw K mg "_law_is_good" J8)(T:TxtB mg)(B:Fn P' w K mg base "_law_tuple" 2 ["_law_found"] (AM TY))(I:Fn P' w K mg base "_law_whole" 1 ["_law_found"] (AM KM)):Fn P' w K mg base "_law_is_good" 3 ["_law_room","_law_rows"] (AM NU):=by
 refine BC D ND (λ_ _ _ _ _ _ us L=>CM L dF) (λxs K h=>?_) (by decide) (λfa a0 A f s H E d=>⟨_,(AN (Bd (DK (Cu (E5 (n:="list") (by simp) dE (λ_=>T.b_isinstance) (λ_=>T.b_list) nofun (qv 1))))
 (AV (Al Cs))
 Bc)
 (AN (QS.weak (m:=ACk) (DA (λ_=>PassesOwn.never) dE (HB (λ_=>T.b_range) (AA (BP (λ_=>CQ) CS (λ_=>T.b_len) nofun (AA (qv 1) AE)) AE)) (ER (k:=2) (λ_=>ND.nd))
 (Ay.weak (m:=ACj) (AN (Am (k:=3) (λ_=>ND.nd) (Ai (λ_=>Aj) Ak (qv 1) (qv 2) dF))
 (AN (Bd (QW.pt (Dg (DK (Cu (E5 (n:="tuple") (by simp) dE (λ_=>T.b_isinstance) (λ_=>T.b_tuple) nofun (qv 3)))) (Dg (BB (λ_=>(DB d)) DC (BP (λ_=>CQ) CS (λ_=>T.b_len) nofun (AA (qv 3) AE)) AS (A5 _)) (Dg (DK (Cu (Ad (λ_=>B) (λ_=>d.m) (AA (Ai (λ_=>Aj) Ak (qv 3) AS dF) AE)))) (G5 (DK (Cu (Ad (λ_=>I) (λ_=>d.m) (AA (Ai (λ_=>Aj) Ak (qv 3) AS dF) AE)))))))))
 (AV (Al Cs))
 Bc)
 (AN (Bd (QW.pt (Dg (BB (λ_=>(DB d)) DC (BP (λ_=>CQ) CS (λ_=>T.b_len) nofun (AA (Ai (λ_=>Aj) Ak (qv 3) AS dF) AE)) (BP (λ_=>CQ) CS (λ_=>T.b_len) nofun (AA (qv 0) AE)) (A5 _)) (Dg (BB (λ_=>IK) LF (Ai (λ_=>Aj) Ak (qv 3) AS dF) AS (A5 _)) (G5 (DK (Cu (BP (λ_=>(IW rfl)) Iq (λ_=>T.b_all) nofun (AA (B5 (N:=["_law_room","_law_rows","_law_at","_law_one"]) (sc:=AR J8) (N':=["_law_answer"]) (qD:=[none]) ⟨rfl,nofun,nofun,nofun,nofun,rfl,nofun⟩ (by decide) dE (E4 dE (Ai (λ_=>Aj) Ak (qv 3) AS dF)) (Br (k:=0) rfl (λ_=>show List.Nodup (["_law_answer"]:At) from nofun)) CJ (Wg (λ_=>IL) Pm (λ_=>IL) Pm AS (qv 0) AS)) AE))))))))
 (AV (Al Cs))
 Bc)
 (AV (Bd (QW.pt (PD (BB (λ_=>GZ) Ip (qv 2) AS (A5 _)) (PC (BB (λ_=>(Xo d)) Xq (Ai (λ_=>Aj) Ak (Ai (λ_=>Aj) Ak (qv 1) (C6 (λ_=>Kd) W1 (qv 2) AS) dF) AS dF) (Ai (λ_=>Aj) Ak (qv 3) AS dF) (A5 _)))))
 (AV (Al Cs))
 Bc))))) ?c)) ?a)
 (AV (Al Cs)))),λxs K h=>?_⟩)
 case c =>
  rintro E ρ ⟨qK,t,k,x,ok,u,rfl,h⟩;have i:=getElem_mem u;have Y:=ok.ln _ i;have l1:=ok.lr;refine⟨_,Tr u,B9 (HU _) ⟨_,rfl,⟨rfl,rfl⟩,_,rfl,⟨_,Hz _ _,_,rfl,⋯,_,rfl,_,Ts _ _ _,_,rfl,_,rfl,?_⟩⟩⟩;have O:(!AI (.int ((t[k].1.map P.int).length:Int)) (.int ((qK.map P.str).length:Int)))=false:=by rw[E7,aA,aA,Y,aK rfl];rfl
  have U:decide (t[k].2<1)=false:=cJ (by have:=ok.ps _ i;lia);refine⟨_,Hz _ _,⟨rfl,rfl⟩,false,aT P.bl O,_,Ts _ _ _,trivial,false,aT P.bl U,_,Hz _ _,_,rfl,nofun,by rw[aA];lia,A3.map (λ_:Int=>P.bl true) dF (λx g M e=>?_) ?_⟩
  ·obtain⟨G,C⟩:=ok.rg _ i x g;have e:=e .fr;rw[<-aK C]at e;exact⟨trivial,true,aT P.bl (aK G),trivial,e⟩
  ·refine⟨(t[k].1).map λ_=>true,by rw[bZ];rfl,?_⟩;refine⟨true,aT P.bl (by simp),trivial,_,rfl,Bj (λz=>?_) λz=>h _⟩;have z:=aL z;have Q:(k:Int) - 1=((k - 1:Nat):Int):=⋯;have J:HT.lexLt t[k - 1].1 t[k].1=true:=by
    have p:=pairwise_iff_getElem.mp ok.sr (k - 1) k (by rw[aA];lia) (by rw[aA];lia) ⋯;have q:=pairwise_iff_getElem.mp ok.nd (k - 1) k (by rw[aA];lia) (by rw[aA];lia) ⋯;rw[getElem_map,getElem_map]at p q;exact S3 p q
   have l:atI (t.map Ax) ((k:Int) - 1)=some (Ax t[k - 1]):=by rw[Q];exact Tr ⋯
   exact⟨trivial,_,l,_,Hz _ _,_,Hz _ _,_,_,EZ _,EZ _,false,aT P.bl (aT (!·) J),h _⟩
 case a =>
  rintro E ρ ⟨qK,t,ok,rfl,h⟩;have:=ok.lt;refine⟨_,_,rfl,⋯,by rw[aA];lia,rfl,λj ρ=>∃(x y:S),ρ=[.sh (AJ qK),.sh (AL t),x,y],⟨_,_,rfl⟩,λj ρ' x g o=>?_,λρ' o=>?_⟩
  ·obtain⟨x1,r,rfl⟩:=o;obtain⟨v,rfl⟩:=HA g;rw[Int.toNat_natCast,aA]at v;rw[Int.zero_add];exact⟨qK,t,j,_,ok,v,rfl,λx=>⟨_,_,rfl⟩⟩
  ·obtain⟨x1,r,rfl⟩:=o;exact h x1 r
 ·obtain⟨_,_,rfl,_⟩:=h;rfl
 ·obtain⟨qK,t,rfl,a1,a2,a3,a4,a5,a6,a7,h⟩:=h;exact⟨_,rfl,qK,t,⟨a1,a2,a3,a4,a5,a6,a7⟩,rfl,λx y=>⟨rfl,h⟩⟩
end
section
variable{K:Fg}
def NV(rs:List At)(i:Nat)(ss:At):Prop:=ss.Nodup/\(∀z,z∈ss↔z∈(rs.take i).flatten)/\CG ss
def Tt:pF:=λxs K=>∃(ns:At) (rs:List At),xs=[BI rs]/\ns.length<=6/\rs.length<=100/\(∀r∈rs,Rm ns r)/\∀ss:At,NV rs rs.length ss->K (AJ ss)
def ACm:pS:=λE ρ=>∃(rs:List At) (ss r:At),ρ=[.sh (BI rs),.sh (AJ ss),.sh (AJ r)]/\ss.length<=20/\r.length<=20/\∀ss':At,ss'.Nodup->(∀z,z∈ss'↔z∈ss\/z∈r)->CG ss'->E.nx [.sh (BI rs),.sh (AJ ss'),.sh (AJ r)]
def ACn:pS:=λE ρ=>∃(ns:At) (rs:List At),ρ=[.sh (BI rs),.sh (AJ []),.emp]/\ns.length<=6/\rs.length<=100/\(∀r∈rs,Rm ns r)/\∀(ss:At) (x:S),NV rs rs.length ss->E.nx [.sh (BI rs),.sh (AJ ss),x]
theorem ACo(D:Aw K mg "_law_every" NE)(T:TxtB mg)(C:Fn P' w K mg base "_law_all" 1 ["_law_one","_law_other"] (AM FL)):Fn P' w K mg base "_law_every" 2 ["_law_rooms"] (AM Tt):=by
 refine BC D J9 (λ_ _ _ _ _ _ us u=>DH u dE) (λxs K h=>?_) (by decide) (λY N A j s H E f=>⟨_,(AN (Am (k:=1) (λ_=>J9.nd) (C8 AE))
 (AN (QS.weak (m:=ACn) (Ft 0 (DA (λ_=>PassesOwn.never) dE (Bk dE (qv 0)) (ER (k:=2) (λ_=>J9.nd))
 (Ay.weak (m:=ACm) (AV (Am (k:=1) (λ_=>J9.nd) (Ad (λ_=>C) (λ_=>f.m) (AA (qv 1) (AA (qv 2) AE))))) ?d))) ?c)
 (AV (Al (qv 1))))),λxs K h=>?_⟩)
 case d =>
  rintro E ρ ⟨rs,a,r,rfl,h1,h2,h⟩;simp![FL];exact⟨h1,h2,h⟩
 case c =>
  rintro E ρ ⟨ns,rs,rfl,v,h1,h2,h⟩;simp![AW];refine⟨λi ρ=>i<=rs.length/\∃a x,ρ=[.sh (BI rs),.sh (AJ a),x]/\NV rs i a,⟨cD _,_,_,rfl,nodup_nil,by simp,List.Pairwise.nil⟩,λi ρ' x p o=>?_,λρ' o=>?_⟩
  ·obtain⟨hi,a,y,rfl,M,B,e3⟩:=o;rw[bO]at p;obtain⟨r,f,rfl⟩:=aJ.mp p;obtain⟨n,L⟩:=aI.mp f;have u:a.length<=ns.length:=M.length_le_of_subset λz G=>by
    obtain⟨q,I,l⟩:=mem_flatten.mp ((B z).mp G);exact(h2 q (mem_of_mem_take I)).sub z l
   have J:=(h2 r (aM f)).len;simp![AW];refine⟨rs,a,r,rfl,⋯,⋯,λg U Q O=>⟨⋯,g,⟨_,rfl⟩,U,λz=>?_,O⟩⟩;rw[Q,B,MV n,bA,L]
  ·obtain⟨hi,a,y,rfl,e⟩:=o;exact h a y (by simpa using e)
 ·obtain⟨_,_,rfl,_⟩:=h;rfl
 ·obtain⟨ns,rs,rfl,v,h1,h2,h⟩:=h;simp![AW];exact⟨ns,rs,rfl,v,h1,h2,λa x e=>by simp![AW];exact h a e⟩
end
section
variable{K:Fg}
theorem GM(t:Tl):(AL t).pl 9=true:=by simp
theorem Tu(t:At):(AJ t).pl 9=true:=by simp
structure IcOk(ns:At)(rs:List At)(ts:List Tl)(Q:At)(J:Tl):Prop where
 c:Ct ns rs ts
 wh:Wh rs ts (BF rs) Q J
 rm:∀r∈rs,Rm ns r
abbrev Tv(Q:At)(J:Tl):P:=.tup [.str "count",AJ Q,AL J]
abbrev GN(rs:List At)(ts:List Tl)(Q:At)(J:Tl)(x y:S):dI:=[.sh (BI rs),.sh (FM ts),.sh (Tv Q J),.sh (AJ Q),x,y]
def Tw:pF:=λxs K=>∃ns rs ts Q J,xs=[BI rs,FM ts,Tv Q J]/\IcOk ns rs ts Q J/\K (.bl true)
def ACp:pS:=λE ρ=>∃ns rs ts Q J,∃k:Nat,IcOk ns rs ts Q J/\k<rs.length/\ρ=GN rs ts Q J (.sh (AJ (AZ rs k))) (.sh (AL (BA ts k)))/\E.nx (GN rs ts Q J (.sh (AJ (AZ rs k))) (.sh (AL (BA ts k))))
def ACq:pS:=λE ρ=>∃ns rs ts Q J,IcOk ns rs ts Q J/\ρ=GN rs ts Q J .emp .emp/\∀x y,E.nx (GN rs ts Q J x y)
def ACr:pS:=λE ρ=>∃ns rs ts Q J,IcOk ns rs ts Q J/\ρ=GN rs ts Q J .emp .emp/\E.rt (.bl true)
theorem ACs(l:Ge):(l.map λn:Nat=>(n:Int)).sum=(l.sum:Int):=by
 induction l with
 |nil=>rfl
 |cons a r c=>rw[map_cons,sum_cons,sum_cons,c,Int.natCast_add]
theorem sum_len(ts:List Tl):(ts.map λt:Tl=>(t.length:Int)).sum=((((List.range ts.length).map λi=>(BA ts i).length).sum:Nat):Int):=by
 rw[<-ACs,bZ]
 congr 1
 refine ext_getElem (by simp) λi h1 h2=>?_;rw[aA]at h1;simp[BA,bW,aH h1]
theorem ACt{t:Tl}(h:Bz t=t):BR (t.map (·.1)):=by
 rw[<-h];unfold Bz A6;rw[bZ,show((λq:By×Int=>q.1) ∘ λr=>(r,(AX (BY t) r).getD 0))=id from rfl,map_id];exact(Fx _).sublist filter_sublist
theorem NW(x y z:P):atI [x,y,z] 2=some z:=BU (j:=2) rfl
theorem ACu(D:Aw K mg "_law_is_count" KA)(T:TxtB mg)(G:Fn P' w K mg base "_law_every" 2 ["_law_rooms"] (AM Tt))(C:Fn P' w K mg base "_law_is_good" 3 ["_law_room","_law_rows"] (AM NU))(B:Fn P' w K mg base "_law_portion" 2 ["_law_room","_law_rows","_law_part"] (AM NK)):Fn P' w K mg base "_law_is_count" 4 ["_law_rooms","_law_tallies","_law_told"] (AM Tw):=by
 refine BC D KB (λ_ _ _ _ _ _ us o=>EB o (λ_ _ _=>rfl)) (λxs K h=>?_) (by decide) (λfa a0 A l s H E d=>⟨_,(AN (Bd (QW.pt (Dg (DK (Cu (E5 (n:="tuple") (by simp) dE (λ_=>T.b_isinstance) (λ_=>T.b_tuple) nofun (qv 2)))) (Dg (BB (λ_=>(DB d)) DC (BP (λ_=>CQ) CS (λ_=>T.b_len) nofun (AA (qv 2) AE)) AS (A5 _)) (G5 (BB (λ_=>(DB d)) DC (Ai (λ_=>Aj) Ak (qv 2) AS dF) G4 (A5 _))))))
 (AV (Al Cs))
 Bc)
 (AN (Am (k:=3) (λ_=>KB.nd) (Ad (λ_=>G) (λ_=>d.m) (AA (qv 0) AE)))
 (Ay.weak (m:=ACr) (AN (Bd (QW.pt (Dg (DK (Cu (E5 (n:="tuple") (by simp) dE (λ_=>T.b_isinstance) (λ_=>T.b_tuple) nofun (Ai (λ_=>Aj) Ak (qv 2) AS dF)))) (Dg (BB (λ_=>(DB d)) DC (Ai (λ_=>Aj) Ak (qv 2) AS dF) (qv 3) (A5 _)) (G5 (DK (Cu (Ad (λ_=>C) (λ_=>d.m) (AA (qv 3) (AA (Ai (λ_=>Aj) Ak (qv 2) AS dF) AE)))))))))
 (AV (Al Cs))
 Bc)
 (AN (Bd (BB (λ_=>GZ) Ip (BP (λ_=>CQ) CS (λ_=>T.b_len) nofun (AA (Ai (λ_=>Aj) Ak (qv 2) AS dF) AE)) (BP (λ_=>(YH rfl)) YI (λ_=>T.b_sum) nofun (AA (B5 (N:=["_law_rooms","_law_tallies","_law_told","_law_every_here","_law_room","_law_rows"]) (sc:=AR KA) (N':=["_law_rows"]) (qD:=[none]) ⟨rfl,nofun,nofun,nofun,nofun,rfl,nofun⟩ (by decide) dE (Bk dE (qv 1)) (Br (k:=0) rfl (λ_=>show List.Nodup (["_law_rows"]:At) from nofun)) CJ (BP (λ_=>CQ) CS (λ_=>T.b_len) nofun (AA (qv 0) AE))) AE)) (A5 _))
 (AV (Al Cs))
 Bc)
 (AN (QS.weak (m:=ACq) (DA (λ_=>PassesOwn.never) dE (Z8 dE (λ_=>T.b_zip) (qv 0) (qv 1)) (G8 (ks:=[4,5]) dE dE (λ_=>(Bi (BD (i:=4) KB.nd rfl (Or.inl rfl)) (Bi (BD (i:=5) KB.nd rfl (Or.inl rfl)) DY))) rfl)
 (Ay.weak (m:=ACp) (AV (Bd (BB (λ_=>(DB d)) DC (Ad (λ_=>B) (λ_=>d.m) (AA (qv 3) (AA (Ai (λ_=>Aj) Ak (qv 2) AS dF) (AA (qv 4) AE)))) (qv 5) (A5 _))
 (AV (Al Cs))
 Bc)) ?f)) ?a)
 (AV (Al Cs))))) ?j))),λxs K h=>?_⟩)
 case f =>
  rintro E ρ ⟨ns,rs,ts,Q,J,k,ok,Y,rfl,h⟩;have v:k∈BF rs:=bH.mpr Y;have l1:=(ok.c.nd k).length_le_of_subset (ok.c.sub k);have l2:=ok.c.ln;have l3:=ok.wh.tal.few;exact⟨_,NW _ _ _,_,_,_,rfl,⟨⋯,λn U=>(ok.wh.mem n).mpr ⟨k,v,U⟩,⋯,ok.wh.tal.rows⟩,⟨GM _,GM _⟩,false,aT P.bl (by rw[ok.wh.sh k v,JK,aK rfl];rfl),h⟩
 case a =>
  rintro E ρ ⟨ns,rs,ts,Q,J,ok,rfl,h⟩;refine⟨_,_,rfl,rfl,Ey (λr=>by simp) rs,rfl,λi ρ=>∃x y,ρ=GN rs ts Q J x y,⟨_,_,rfl⟩,λi ρ' x L q=>?_,λρ' q=>?_⟩
  ·obtain⟨x1,u,rfl⟩:=q;obtain⟨o,ex⟩:=aI.mp L;rw[length_zipWith,aA,aA]at o;have hi:i<rs.length:=⋯;have p:i<ts.length:=⋯;have e1:AZ rs i=rs[i]:=by unfold AZ;rw[aH hi];rfl
   have e2:BA ts i=ts[i]:=by show ts.getD i []=_;rw[bW,aH p];rfl
   rw[getElem_zipWith,getElem_map,getElem_map,<-e1,<-e2]at ex;subst ex;exact⟨_,rfl,rfl,B9 (DR _) ⟨ns,rs,ts,Q,J,i,ok,hi,rfl,_,_,rfl⟩⟩
  ·obtain⟨x1,u,rfl⟩:=q;exact h x1 u
 case j =>
  rintro E ρ ⟨ns,rs,ts,Q,J,ok,rfl,h⟩;have l2:=ok.wh.qlen ok.c;have l8:=ok.c.l8;have tl:=ok.c.len;have fw:=ok.wh.few;refine⟨_,NS _ _ _,_,rfl,_,NS _ _ _,⟨Tu _,Tu _⟩,false,aT P.bl (by rw[Qx,aK rfl];rfl),_,NW _ _ _,_,_,rfl,ok.wh.tal.few,⋯,ok.wh.tal.rows,ok.wh.tal.pos,ok.wh.rng,ACt ok.wh.can,ok.wh.tal.nd,_,rfl,_,NW _ _ _,_,rfl,nofun,by rw[aA];lia,A3.map (λt:Tl=>P.int (((t.map Ax).length:Nat):Int)) dF (λt ht M hM=>hM .fr) ?_⟩;refine⟨ts.map λt=>(((t.map Ax).length:Nat):Int),by rw[bZ];rfl,trivial,false,aT P.bl (cJ ?_),ns,rs,ts,Q,J,ok,rfl,λx y=>⟨rfl,h⟩⟩;rw[cF (g:=λt:Tl=>(t.length:Int)) λt _=>by rw[aA],aA,sum_len,tl];exact Int.not_lt.mpr (Int.ofNat_le.mpr fw)
 ·obtain⟨_,_,_,_,_,rfl,_⟩:=h;rfl
 ·obtain⟨ns,rs,ts,Q,J,rfl,ok,h⟩:=h;have l1:=ok.c.ln;have l2:=ok.c.l8;refine⟨_,rfl,⟨rfl,rfl⟩,_,rfl,_,GL _ _,⟨rfl,rfl⟩,false,aT P.bl (by rw[Li,aK rfl];rfl),ns,rs,rfl,l1,⋯,ok.rm,λI O=>B9 (DR _) ⟨ns,rs,ts,Q,J,ok,?_,h⟩⟩;obtain⟨h1,h2,h3⟩:=O;rw[take_length]at h2;have e:I=Q:=JZ ((perm_ext_iff_of_nodup h1 ok.wh.nd).mpr λz=>((h2 z).trans (Tn rs z)).trans (ok.wh.mem z).symm) h3 ok.wh.srt;rw[e];rfl
end
section
variable{K:Fg}
theorem ACv{c:Stmt}{qF:He}{p:pS}{ns:By}{Q:VK}(g:PS X c (En (Gb (KC K) [] E0 (CC (CH 0) CB)) (CI 1)))(d:Ay (λ_:Unit=>X) qF p)
  (e:p { nx:=λ_=>False,rt:=λx=>x=.bl true } (.emp::.sh .bag::replicate n .emp)) (f:Aq K H a (ns.map V.int)) (k:∀H',Q (.bl true) H') :
  ∃t,Bf X (c::qF) t/\t { nx:=λ_ H'=>Q .non H',rt:=Q } (some (.ref a)::none::replicate n none) H:=by
 obtain⟨t,h1,h2⟩:=ABf (n:=n) g d e;exact⟨t,h1,h2 a ns H Q f k⟩
abbrev kR(ns:At)(cs k rows way rooms tallies one qE found every:S):dI:=[.emp,.sh .bag,.sh (AJ ns),cs,k,rows,way,rooms,tallies,one,qE,found,every]
structure KOk(ns:At)(rs:List At)(t:Tl):Prop where
 n:Nms ns
 r8:rs.length<=8
 r2:2<=rs.length
 sub:∀r∈rs,r.Sublist ns
 few:t.length<=100
 rows:∀q∈t,q.1.length=ns.length
 pos:∀q∈t,0<q.2
 rg:∀q∈t,∀x∈q.1,0<=x/\x<=9
 hang:∃row,C1 rs=some row/\D8 rs (BF rs) row/\row.length<=20
def ACw:pS:=λE ρ=>∃ns t v,ρ=kR ns (.own (CK t)) v .emp .emp .emp .emp .emp .emp .emp .emp/\t.length<100/\∀(r:By) (c:Int),r.length=6->(∀x∈r,0<=x/\x<=9)->1<=c->c<=1000000000000->E.nx (kR ns (.own (CK (BS t r c))) v .emp .emp .emp .emp .emp .emp .emp .emp)
def ACx:pS:=λE ρ=>∃ns,ρ=kR ns (.own (.dT [] [])) .emp .emp .emp .emp .emp .emp .emp .emp .emp/\∀t v,DrawnI 6 80 t->E.nx (kR ns (.own (CK t)) v .emp .emp .emp .emp .emp .emp .emp .emp)
def ACy:pS:=λE ρ=>E.rt (.bl true)/\∃(ns:At) (c v:S) (t:Tl) (w:Int),Nms ns/\ns.length=6/\DrawnI 6 80 t/\ρ=kR ns c v (.own (AL (A6 t))) (.sh (.int w)) .emp .emp .emp .emp .emp .emp
def ACz:pS:=λE ρ=>E.rt (.bl true)/\∃(ns:At) (rs:List At) (c v w:S) (t:Tl),KOk ns rs t/\ρ=kR ns c v (.own (AL t)) w (.own (BI rs)) .emp .emp .emp .emp .emp
def AC0:pS:=λE ρ=>E.rt (.bl true)/\∃(ns:At) (rs:List At) (c v w r:S) (t:Tl),KOk ns rs t/\ρ=kR ns c v r w (.own (BI rs)) (.own (FM (rs.map λp=>Ab ns t p))) .emp .emp .emp .emp
theorem flat_le:∀{rs:List At},(∀r∈rs,r.length<=n)->n<=6->rs.length<=8->rs.flatten.length<=60:=λ{rs} h d e=>by
 have:∀rs:List At,(∀r∈rs,r.length<=n)->rs.flatten.length<=6 * rs.length:=λrs h=>by
  induction rs with
  |nil=>simp
  |cons r rs a =>
   have:=a λx c=>h x (by simp[c]);have:=h r (by simp);rw[flatten_cons,aG,length_cons];lia
 have:=this rs h;lia
theorem AC1{f:Addr}(F:Fun K "law" "law" D9 f fd)(T:TxtB mg)(zL:Fn P' w K mg base "_law_bag" 1 ["_law_script"] (KC K))(qN:Fn P' w K mg base "_law_pull" 1 ["_law_bag_here","_law_many_here"] (AM KH))(zM:Fn P' w K mg base "_law_names" 3 ["_law_bag_here","_law_many_here"] (AM TV))(zN:Fn P' w K mg base "_law_answers" 2 ["_law_bag_here","_law_size","_law_base"] (AM Q6))(zO:Fn P' w K mg base "_law_many" 2 ["_law_bag_here"] (AM Q7))(qU:Fn P' w K mg base "_law_settled" 1 ["_law_counts"] (AM NF))
  (zK:Fn P' w K mg base "_law_portion" 2 ["_law_room","_law_rows","_law_part"] (AM NK)) (zH:Fn P' w K mg base "_law_all" 1 ["_law_one","_law_other"] (AM FL)) (zJ:Fn P' w K mg base "_law_is_good" 3 ["_law_room","_law_rows"] (AM NU)) (zP:Fn P' w K mg base "_law_is_count" 4 ["_law_rooms","_law_tallies","_law_told"] (AM Tw)) (zB:Fn P' w K mg base "joined" 5 ["room","rows","other_room","other_rows"] (AM NL)) (zQ:Fn P' w K mg base "whole" 7 ["rooms","tallies"] (AM Tq)):FnOk P' w K mg base Dd 8 f fd ["_law_script"] (KI K):=by
 refine F.ok CY (λvs H Q E h=>?_) (λai A ac s H vs Q E g h=>?_)
 ·obtain⟨a,ns,rfl,_⟩:=h;rfl
 ·obtain⟨a,ns,rfl,hS,k⟩:=h;have hu:=EJ g;refine ACv (n:=11) (CO (i:=1) CY.nd rfl (Or.inl rfl) (Ev zL (g.m) (by rfl) (Av (pv 0) BE))) (AN (Am (k:=2) (λ_=>CY.nd) (Bv (λ_=>EN) EU (λ_=>T.b_tuple) nofun (AA (BP (λ_=>(V8 trivial)) W4 (λ_=>T.b_sorted) nofun (AA (Ad (λ_=>zM) (λ_=>g.m) (AA (qv 1) (AA AS AE))) AE)) AE)))
 (AN (Am (k:=3) (λ_=>CY.nd) JG)
 (AN (QS.weak (m:=ACx) (DA (λ_=>PassesOwn.never) dE (HB (λ_=>T.b_range) (AA (C6 (λ_=>DZ) HH AS (Ad (λ_=>qN) (λ_=>g.m) (AA (qv 1) (AA AS AE)))) AE)) (ER (k:=4) (λ_=>CY.nd))
 (Ay.weak (m:=ACw) (AV (La (k:=3) (λ_=>hu) (Ad (λ_=>zN) (λ_=>g.m) (AA (qv 1) (AA AS (AA AS AE)))) (Ad (λ_=>zO) (λ_=>g.m) (AA (qv 1) AE)))) ?a7)) ?a0)
 (AN (Am (k:=5) (λ_=>CY.nd) (Ad (λ_=>qU) (λ_=>g.m) (AA (qv 3) AE)))
 (AN (Am (k:=6) (λ_=>CY.nd) (Ad (λ_=>qN) (λ_=>g.m) (AA (qv 1) (AA AS AE))))
 (Ay.weak (m:=ACy) (AN (Am (k:=7) (λ_=>CY.nd) (D0 (AA (D3 dE (qv 2) Fs (DD AS)) (AA (D3 dE (qv 2) (DD AS) Fs) AE))))
 (AN (Bd (BB (λ_=>(HK g)) HL (qv 6) AS (A5 _))
 (AV (Am (k:=7) (λ_=>CY.nd) (D0 (AA (D3 dE (qv 2) Fs (DD AS)) (AA (D3 dE (qv 2) (DD AS) (DD AS)) (AA (D3 dE (qv 2) (DD AS) Fs) AE))))))
 Bc)
 (AN (Bd (BB (λ_=>(HK g)) HL (qv 6) AS (A5 _))
 (AV (Am (k:=7) (λ_=>CY.nd) (D0 (AA (D3 dE (qv 2) (DD AS) Fs) (AA (D3 dE (qv 2) (DD AS) (DD AS)) (AA (D3 dE (qv 2) Fs (DD AS)) (AA (D3 dE (qv 2) (DD AS) (DD AS)) AE)))))))
 Bc)
 (Ay.weak (m:=ACz) (AN (HF (k:=8) (λ_=>CY.nd) (N:=["_law_script","_law_bag_here","_law_names_here","_law_counts","_law_k","_law_rows","_law_way","_law_rooms","_law_tallies","_law_one","_law_other","_law_found","_law_every_here"]) (sc:=AR D9) (N':=["_law_room","_law_names_here","_law_rows"]) (qD:=[none,some 2,some 5]) ⟨rfl,nofun,nofun,nofun,nofun,rfl,nofun⟩ (by decide) dE (Bk dE (qv 7)) (Br (k:=0) rfl (λ_=>show List.Nodup (["_law_room","_law_names_here","_law_rows"]:At) from nofun)) CJ (Ad (λ_=>zK) (λ_=>g.m) (AA (qv 1) (AA (qv 2) (AA (qv 0) AE)))))
 (Ay.weak (m:=AC0) (AN (Am (k:=9) (λ_=>CY.nd) (Ai (λ_=>Aj) Ak (qv 7) (Fk AS) dF))
 (AN (Am (k:=10) (λ_=>CY.nd) (Ai (λ_=>Aj) Ak (qv 7) (Fk AS) dF))
 (AN (Am (k:=11) (λ_=>CY.nd) (Ad (λ_=>zB) (λ_=>g.m) (AA (qv 9) (AA (Bv (λ_=>Ew) Fm (λ_=>T.b_list) nofun (AA (Ai (λ_=>Aj) Ak (qv 8) (Fk AS) dF) AE)) (AA (qv 10) (AA (Bv (λ_=>Ew) Fm (λ_=>T.b_list) nofun (AA (Ai (λ_=>Aj) Ak (qv 8) (Fk AS) dF) AE)) AE))))))
 (AN (Am (k:=12) (λ_=>CY.nd) (Ad (λ_=>zH) (λ_=>g.m) (AA (qv 9) (AA (qv 10) AE))))
 (AN (Bd (QW.pt (Dg (DK (Cu (Ad (λ_=>zJ) (λ_=>g.m) (AA (qv 12) (AA (qv 11) AE))))) (G5 (BB (λ_=>(DB g)) DC (Ad (λ_=>zK) (λ_=>g.m) (AA (qv 12) (AA (qv 11) (AA (qv 9) AE)))) (Ai (λ_=>Aj) Ak (qv 8) (Fk AS) dF) (A5 _)))))
 (AV (Al Cs))
 Bc)
 (AN (Bd (BB (λ_=>(DB g)) DC (Ad (λ_=>zK) (λ_=>g.m) (AA (qv 12) (AA (qv 11) (AA (qv 10) AE)))) (Ai (λ_=>Aj) Ak (qv 8) (Fk AS) dF) (A5 _))
 (AV (Al Cs))
 Bc)
 (AV (Al (Ad (λ_=>zP) (λ_=>g.m) (AA (qv 7) (AA (qv 8) (AA (Ad (λ_=>zQ) (λ_=>g.m) (AA (qv 7) (AA (B5 (N:=["_law_script","_law_bag_here","_law_names_here","_law_counts","_law_k","_law_rows","_law_way","_law_rooms","_law_tallies","_law_one","_law_other","_law_found","_law_every_here"]) (sc:=AR D9) (N':=["_law_tally"]) (qD:=[none]) ⟨rfl,nofun,nofun,nofun,nofun,rfl,nofun⟩ (by decide) dE (Bk dE (qv 8)) (Br (k:=0) rfl (λ_=>show List.Nodup (["_law_tally"]:At) from nofun)) CJ (Bv (λ_=>Ew) Fm (λ_=>T.b_list) nofun (AA (qv 0) AE))) AE))) AE)))))))))))) ?a9)) ?aa)))) ?ab)))))) ?a8 hS k
  case a8 =>
   refine⟨6,rfl,by decide,by decide,λns hn hg Y=>⟨ns,rfl,⋯,λO hp hs=>?_⟩⟩;refine B9 (DR _) ?_;have hl:=hp.length_eq;refine⟨O,rfl,λt v d=>?_⟩;refine⟨t,rfl,by have:=d.len;lia,⟨_,d.rows⟩,?_⟩;refine⟨3,rfl,by decide,by decide,λr r0 r1=>?_⟩;exact⟨rfl,O,_,v,t,r,⟨⋯,⋯,hp.nodup_iff.mpr Y,Rv hs⟩,⋯,d,rfl⟩
  case a0 =>
   rintro E ρ ⟨ns,rfl,h⟩;refine⟨61,rfl,by decide,by decide,λr r0 r1=>⟨trivial,20+r,_,rfl,⋯,⋯,rfl,λi ρ=>∃t v,ρ=kR ns (.own (CK t)) v .emp .emp .emp .emp .emp .emp .emp .emp/\DrawnI 6 i t,⟨[],_,rfl,DrawnI.nil⟩,?_,?_⟩⟩
   ·rintro i ρ' x L ⟨t,v,rfl,d⟩;obtain⟨hi,rfl⟩:=HA L;have:=d.len;exact⟨ns,t,_,rfl,⋯,λr c h1 h2 h3 h4=>⟨BS t r c,_,rfl,d.put h1 h2 h3 h4⟩⟩
   ·rintro ρ' ⟨t,v,rfl,d⟩;rw[D2]at d;exact h t v ⟨aR d.len ⋯,d.rows,d.nd,d.row,d.cnt⟩
  case a7 =>
   rintro E ρ ⟨ns,t,v,rfl,hl,h⟩;refine⟨rfl,λc c1 c2=>⟨6,10,rfl,by decide,by decide,by decide,by decide,λr g L=>⟨r,EZ r,rfl,by rw[aA];lia,?_⟩⟩⟩;rw[Ll];exact h r c ⋯ (λx ae=>by have:=L x ae;lia) c1 c2
  case ab =>
   rintro E ρ ⟨U,ns,c,v,t,w,n,n6,d,rfl⟩;obtain⟨I,G,D,C,B,o,rfl⟩:=ABD n6;have Y:=n.nd;have st:=Rr (n:=6) (t:=t) (by have:=d.len;lia) d.rows d.nd λr=>by
    by_cases z:r∈t.map (·.1)
    ·obtain⟨q,hq,rfl⟩:=bU.mp z;rw[JV d.nd hq];have:=(d.cnt q hq).1;show 0<=q.2;lia
    ·rw[JU z];exact Int.le_refl _
   have mk:∀{rs:List At} {j},C1 rs=some j->j.length<=20->rs.length<=8->2<=rs.length->(∀r∈rs,r.Sublist [I,G,D,C,B,o])->KOk [I,G,D,C,B,o] rs (A6 t):=λ{rs j} h g h8 h2 hs=>by
    refine⟨n,h8,h2,hs,?_,st.rows,st.pos,λq hq x L=>?_,j,h,AAA h,g⟩
    ·have:=Lp t;have:=d.len;lia
    ·have z:=Lq hq;obtain⟨p,hp,e⟩:=bU.mp z;exact d.row p hp x (by rw[e];exact L)
   have k1:=mk (AA5 Y) (by simp) (by simp) (by simp) λr g=>by
    simp only[aF,bB,or_false]at g;rcases g with rfl|rfl
    ·exact take_sublist 4 [I,G,D,C,B,o]
    ·exact drop_sublist 2 [I,G,D,C,B,o]
   have k2:=mk (AA6 Y) (by simp) (by simp) (by simp) λr g=>by
    simp only[aF,bB,or_false]at g;rcases g with rfl|rfl|rfl
    ·exact take_sublist 3 [I,G,D,C,B,o]
    ·exact(take_sublist 3 _).trans (drop_sublist 2 [I,G,D,C,B,o])
    ·exact drop_sublist 3 [I,G,D,C,B,o]
   have k3:=mk (AA7 Y) (by simp) (by simp) (by simp) λr g=>by
    simp only[aF,bB,or_false]at g;rcases g with rfl|rfl|rfl|rfl
    ·exact drop_sublist 4 [I,G,D,C,B,o]
    ·exact(take_sublist 2 _).trans (drop_sublist 1 [I,G,D,C,B,o])
    ·exact take_sublist 2 [I,G,D,C,B,o]
    ·exact(take_sublist 3 _).trans (drop_sublist 2 [I,G,D,C,B,o])
   refine⟨rfl,⟨rfl,rfl⟩,_,rfl,Bj (λ_=>⟨rfl,⟨rfl,rfl⟩,_,rfl,Bj (λ_=>⟨rfl,?_⟩) λ_=>?_⟩) λ_=>⟨⟨rfl,rfl⟩,_,rfl,Bj (λ_=>⟨rfl,?_⟩) λ_=>?_⟩⟩
   ·exact⟨U,_,_,_,_,_,_,k3,rfl⟩
   ·exact⟨U,_,_,_,_,_,_,k2,rfl⟩
   ·exact⟨U,_,_,_,_,_,_,k3,rfl⟩
   ·exact⟨U,_,_,_,_,_,_,k1,rfl⟩
  case aa =>
   rintro E ρ ⟨U,ns,rs,c,v,w,t,ok,rfl⟩;have ln:=ok.n.len;refine⟨_,rfl,nofun,by rw[aA];have:=ok.r8;lia,A3.new (λr=>AL (Ab ns t r)) (λr g M hM=>?_) ?_⟩
   ·have:=(ok.sub r g).length_le;exact B9 (DR _) ⟨ns,t,r,rfl,⟨⋯,λn hn=>(ok.sub r g).subset hn,by have:=ok.few;lia,ok.rows⟩,hM⟩
   ·refine⟨U,ns,rs,c,v,w,.own (AL t),t,ok,?_⟩;unfold FM;rw[bZ];rfl
  case a9 =>
   rintro E ρ ⟨U,ns,rs,c,v,w,r,t,ok,rfl⟩;have ct:=AA8 ok.n.len ok.n.nd ok.n.srt ok.r8 ok.sub ok.few ok.pos ok.rg;obtain⟨j,ho,hg,hl⟩:=ok.hang;obtain⟨p,x,y,rfl⟩:=ABC ok.r2;have L:=ok.sub x (by simp);have hy:=ok.sub y (by simp);have lx:=L.length_le;have ly:=hy.length_le;have ln:=ok.n.len;have few:=ok.few;have fx:=ME ns t x;have fy:=ME ns t y;have nn:∀q∈t,0<=q.2:=λq hq=>Int.le_of_lt (ok.pos q hq);have rg:∀qC,∀q∈Ab ns t qC,∀z∈q.1,0<=z/\z<=9:=λqC q hq=>by
    obtain⟨p',ah,e⟩:=S1 hq;rw[e];exact S0 (ok.rg p' ah)
   have cn:∀qC,Bz (Ab ns t qC)=Ab ns t qC:=λqC=>by rw[D6,Rz]
   have ag:Agr y x (Ab ns t y) (Ab ns t x):=⟨ok.n.nd.sublist hy,ok.n.nd.sublist L,Hc nn ⋯,Hc nn ⋯,by rw[Ed t (DF _ _).1,Ed t (DF _ _).2]⟩;have r1:=TC (p.map AJ) (AJ x) (AJ y);have r2:=TD (p.map AJ) (AJ x) (AJ y);have t1:=TC (p.map λp=>AL (Ab ns t p)) (AL (Ab ns t x)) (AL (Ab ns t y));have t2:=TD (p.map λp=>AL (Ab ns t p)) (AL (Ab ns t x)) (AL (Ab ns t y));have er:(p++[x,y]).map AJ=p.map AJ++[AJ x,AJ y]:=by rw[cN];rfl
   have et:((p++[x,y]).map λp=>Ab ns t p).map AL=(p.map λp=>AL (Ab ns t p))++[AL (Ab ns t x),AL (Ab ns t y)]:=by rw[cN,cN,bZ];rfl
   rw[<-er]at r1 r2;rw[<-et]at t1 t2;refine⟨_,r1,B9 (DR _) ⟨_,r2,B9 (DR _) ?_⟩⟩;refine⟨_,t1,_,t2,y,_,x,_,rfl,⋯,⋯,ag,λqJ un su J hp hs=>?_⟩;refine⟨y,x,rfl,⋯,⋯,λO Y hm af=>B9 (DR _) ?_⟩;have e:=S2 Y un.nd hm un.mem af su;subst e;obtain⟨y1,y2,y3,y4,y5⟩:=ag.tally un (rg y) (rg x) hp hs;obtain⟨s1,s2⟩:=ag.shares un hp;have jf:=ag.few (qJ:=O);have jl:=hp.length_eq;have ul:O.length<=6:=aR (Y.length_le_of_subset λz hz=>((hm z).mp hz).elim (λh=>hy.subset h) λh=>L.subset h) ln;refine⟨O,J,rfl,⋯,⋯,y2,y3,y5,hs,y4,_,rfl,?_⟩;refine⟨O,J,y,rfl,⟨⋯,un.l,⋯,y2⟩,_,t1,⟨GM _,GM _⟩,_,rfl,?_⟩;rw[s1,cn,JK,aK rfl];refine⟨O,J,x,rfl,⟨⋯,un.r,⋯,y2⟩,_,t2,⟨GM _,GM _⟩,_,rfl,?_⟩;rw[s2,cn,JK,aK rfl];refine⟨_,rfl,nofun,by rw[aA,aA];have:=ok.r8;lia,A3.new AL (λu _ M hM=>?_) ?_⟩
   ·have e:Bb .fr (u.map Ax)=.nw:=by unfold Bb;rw[Lh];rfl
    rw[<-e]at hM;exact hM
   ·refine⟨ns,_,_,j,rfl,ct,by simp,?_,ho,hg,hl,λQ J hm w=>?_⟩
    ·exact flat_le (λr g=>(ok.sub r g).length_le) ln ok.r8
    ·exact⟨ns,_,_,Q,J,rfl,⟨ct,w,λr g=>ok.n.rm (ok.sub r g)⟩,rfl,U⟩
end
abbrev AF(K:Fg)(n:Str)(st:Stmt):Prop:=∃(a:Addr) (od an:Go) (sl:Array Ex) (oc kV dc pm cd ct:Value),PySem.W.nsIn K mainGlobals n=some (some (.ref a))/\K.lookup a=some ⟨oc,od,.func (PySem.W.fnOf n n (Dc st) (Cr st) (AR st) .none kV dc pm an cd ct),sl⟩/\PySem.W.codeIn K cd n=true/\PySem.W.keepIn K (.ref a)=true
abbrev Bt(K:Fg)(n:Str):Prop:=PySem.W.nsIn K mainGlobals n=some none
theorem AF.of{K:Fg}{n:Str}{st:Stmt}{od an:Go}{sl:Array Ex}{oc kV f pm c ct:Value}(h1:PySem.W.nsIn K mainGlobals n=some (some (.ref a)))(h2:K.lookup a=some ⟨oc,od,.func (PySem.W.fnOf n n (Dc st) (Cr st) (AR st) .none kV f pm an c ct),sl⟩)(e:PySem.W.codeIn K c n=true)(d:PySem.W.keepIn K (.ref a)=true):AF K n st:=⟨_,_,_,_,_,_,_,_,_,_,h1,h2,e,d⟩
theorem AF.at{K:Fg}{n:Str}{st:Stmt}(p:AF K n st)(X:K.In h)(G:h.Ns mainGlobals mg):Aw K mg n st:=by
 obtain⟨_,_,_,_,_,_,_,_,_,_,h1,h2,c,a⟩:=p;exact⟨_,_,OZ (st:=st) h2 c a,PySem.W.mg_of X G h1⟩
theorem all_mk{l:PySem.W.OpenLaw}{K:Fg}{fa:Addr}(X:K.In h)(G:h.Ns mainGlobals mg)(hfa:mg "law"=some (.ref fa))(d0:AF K "within" GD)(d1:AF K "united" Mt)(d2:AF K "common" Js)(d3:AF K "places" Jt)(d4:AF K "picked" Ju)(d5:AF K "summed" Jv)(d6:AF K "shared" Jx)(d7:AF K "bar" Jy)(d8:AF K "bars" Mu)(d9:AF K "grouped" Mv)(d10:AF K "corners" Hm)(d11:AF K "joined" Mw)(d12:AF K "all_questions" Jz)(d13:AF K "hosts" GF)(d14:AF K "first_ear" Mz)(d15:AF K "order" M1)(d16:AF K "knot" M3)(d17:AF K "paper" M4)(d18:AF K "counted" Hn)(d19:AF K "whole" M5)(d20:AF K "_law_bag" M6)(d21:AF K "_law_pull" M7)(d22:AF K "_law_word" J3)(d23:AF K "_law_names" M8)(d24:AF K "_law_answers" J4)(d25:AF K "_law_many" M9)(d26:AF K "_law_settled" J5)(d27:AF K "_law_row_of" J6)(d28:AF K "_law_portion" NA)(d29:AF K "_law_all" NB)(d30:AF K "_law_whole" NC)(d31:AF K "_law_tuple" J7)(d32:AF K "_law_is_good" J8)(d33:AF K "_law_every" NE)(d34:AF K "_law_is_count" KA)(d35:AF K "law" D9)(hb_len:Bt K "len")(hb_list:Bt K "list")(hb_range:Bt K "range")(hb_isinstance:Bt K "isinstance")(hb_bool:Bt K "bool")(hb_int:Bt K "int")(hb_tuple:Bt K "tuple")(hb_all:Bt K "all")(hb_any:Bt K "any")(hb_sorted:Bt K "sorted")(hb_set:Bt K "set")(hb_sum:Bt K "sum")(hb_dict:Bt K "dict")(hb_zip:Bt K "zip")(hb_min:Bt K "min")(hb_max:Bt K "max")(hb_reversed:Bt K "reversed") :
  ∃fd:FuncData,(∀(s:Shared) (v:Value),BindsTo s fd ⟨[v],[]⟩ [("_law_script",v)])/\∀base:Heap,K.In base->base.Ns mainGlobals mg->FnOk l.prog w K mg base Dd 8 fa fd ["_law_script"] (KI K):=by
 obtain⟨aff,odf,anf,slf,ocf,kVf,dcf,pmf,cdf,ctf,h1f,h2f,h3f,h4f⟩:=d35;have e:=hfa.symm.trans (PySem.W.mg_of X G h1f);cases e;have T:TxtB mg:={ b_len:=cU X G hb_len,b_list:=cU X G hb_list,b_range:=cU X G hb_range,b_isinstance:=cU X G hb_isinstance,b_bool:=cU X G hb_bool,b_int:=cU X G hb_int,b_tuple:=cU X G hb_tuple,b_all:=cU X G hb_all,b_any:=cU X G hb_any,b_sorted:=cU X G hb_sorted,b_set:=cU X G hb_set,b_sum:=cU X G hb_sum,b_dict:=cU X G hb_dict,b_zip:=cU X G hb_zip,b_min:=cU X G hb_min,b_max:=cU X G hb_max };refine⟨PySem.W.fnOf "law" "law" (Dc D9) (Cr D9) (AR D9) .none kVf dcf pmf anf cdf ctf,λs v=>.of_eq rfl,λbase _ _=>?_⟩;have Gpull:=ABU (P:=l.prog) (w:=w) (base:=base) (d21.at X G) T;have GpullP:=ABc Gpull;have Gset:=ABk (P':=l.prog) (w:=w) (base:=base) (d26.at X G) T;have Gpor:=ABw (d28.at X G) T (ABn (P':=l.prog) (w:=w) (base:=base) (d27.at X G) T) Gset;have Gpl:=ABo (d3.at X G) T (ABl (P':=l.prog) (w:=w) (base:=base) (d0.at X G) T);have Gpi:=ABp (P':=l.prog) (w:=w) (base:=base) (d4.at X G) T;have Gcm:=ABm (P':=l.prog) (w:=w) (base:=base) (d2.at X G) T;have Gun:=AB0 (P':=l.prog) (w:=w) (base:=base) (d1.at X G) T;have Gall:=AB1 (P':=l.prog) (w:=w) (base:=base) (d29.at X G) T;have Gbar:=ABz (d7.at X G) T Gcm (ABt (d6.at X G) T Gpl Gpi (ABs (d5.at X G) T));have Gjo:=ACF (d11.at X G) T Gbar Gcm (AB5 (d9.at X G) T Gpl Gpi) Gpl Gun (AB9 (d10.at X G) T) Gpi;have Gwh:=ABx (P':=l.prog) (w:=w) (base:=base) (d30.at X G) T;have Ggo:=ACl (d32.at X G) T (ABy (d31.at X G) T Gwh) Gwh;have Gor:=ACQ (d15.at X G) T (ACN (d14.at X G) T (ACK (d13.at X G) T (ACG (P':=l.prog) (w:=w) (base:=base) (d0.at X G) T)));exact AC1 (OZ (st:=D9) h2f h3f h4f) T (ABR (d20.at X G) T) GpullP (ABd (ABb (d23.at X G) T Gpull (ABW (d22.at X G) T Gpull))) (ABh (d24.at X G) T GpullP) (ABj (d25.at X G) T GpullP) Gset Gpor Gall Ggo (ACu (d34.at X G) T (ACo (d33.at X G) T Gall) Ggo Gpor) Gjo (ACi (d19.at X G) T (ACf (d8.at X G) T Gbar) (ACT (d17.at X G) T Gor (ACS (d16.at X G))) (ACH (d12.at X G) T) (ACX (d18.at X G) { T with b_reversed:=cU X G hb_reversed } Gjo Gun))
theorem walk{l:PySem.W.OpenLaw}{q:Program}{loose:At}{XP:(Str->Ex)->Heap->Prop}{YP:World->Heap->Prop}{d:DefRec}{K:Params->Fg}(hn:l.most=some 63)(hdf:d.params.defaults=[])
  (hY:∀(w:World) (h:Heap),YP w h->(K w.params).In h)
  (F:∀(w:World) (mg:Str->Ex) (fa:Addr) (h:Heap),(K w.params).In h->h.Ns mainGlobals mg->mg d.name=some (.ref fa) ->
   ∃fd:FuncData,(∀(s:Shared) (u:Value),BindsTo s fd ⟨[u],[]⟩ [("_law_script",u)])/\∀base:Heap,(K w.params).In base->base.Ns mainGlobals mg->FnOk l.prog w (K w.params) mg base Dd 8 fa fd ["_law_script"] (KI (K w.params))) :
  PySem.W.WalkO q loose XP YP l.row.toRowW d [] (λf vs=>PySem.call f vs) :=
 L2.walk_of (n:=63) (k:=8) (x:="_law_script") (CX:=λ_=>Dd) (sp:=λw=>KI (K w.params)) hn (by decide) hdf ⟨rfl,by decide,by decide⟩ hY F (λ_ _ a ns hl _ hS=>⟨a,ns,rfl,hS,λ_=>rfl⟩) λ_ _ _ _ _ z=>z
end K
structure PySem.W.Fast:Prop where(tw10147501824536317338 tw10238867800629419965 tw10263328218631667300 tw10269879497333775626 tw10340882823144009493 tw10352847663279183042 tw10421716897831284046 tw10438541789388138647 tw10449437874212212206 tw10531939458610884253 tw10572571692583931844 tw10657872799297396655 tw10819854134236594826 tw10841569625984186422 tw10876921891589634982 tw10895706960204606241 tw10922019635041343238 tw1096560710450291990 tw10996304688747288423 tw11006579658910930777 tw11141574388841082352 tw11142186269890800932 tw11173527879525304555 tw1120985106843986839 tw11237896433818416770 tw11337890197613292783 tw11366671633764862788 tw11416680937699313043 tw11518092538123705434 tw11598824005371070591 tw11654979244564942508 tw11658688948070911030 tw11664090431106422907 tw11864576041064078689 tw1188816330031584385 tw11889749815988976913 tw11898823878409607333 tw11941908047428351465 tw11978510374212267785 tw12024597869454807036 tw12037539990087319255 tw12077372175102153007 tw12196792059751597793 tw12217975890532811886 tw12218706401139031095 tw12236437160204162384 tw12335409554137548017 tw1235009604313478610 tw12372135208685107710 tw12385174746234668761 tw12511872705824683549 tw12531697714324095095 tw12568220452055288523 tw12728596468546446269 tw12747041385119363911 tw12787383080128427486 tw12795951601952823108 tw12805214611296749238 tw12859627093595392333 tw12910189420880839087 tw12943321821879956798 tw129545159232650649 tw13085055983661387336 tw1315417272465342757 tw13211121915044589642 tw13407781089582425261 tw13460233319348780000 tw13535316481967753805 tw13561441301091638655 tw136568714015168304 tw13761284099727117374 tw13873974810632469762 tw13881728902981198131 tw13893722110296215922 tw13928962689800974393 tw13974746879747394847 tw13976067948878077998 tw13994747516402437563 tw14038239063101897073 tw14091853213382791747 tw14116623841687770954 tw14133406310107818429 tw14148914033995567567 tw14176964441655976563 tw14225369901993489751 tw1424513990332926701 tw14432160235789746634 tw14479967079583652315 tw14578849788970036919 tw14593297214907711493 tw14925194787912595046 tw14990999406191283756 tw15058784603298856620 tw15096323567568201862 tw15193422557074831000 tw1527582552730977104 tw15281771488327060668 tw15290301323079145803 tw15321378738511227203 tw15384647259544401037 tw15414225564139935473 tw15511688551948807866 tw15513379515404865085 tw15558030748544421740 tw1556916371162283592 tw15612510275934586935 tw15624955081931668759 tw15720853320348234264 tw15770326679566782736 tw15787063435879526004 tw15899619639090802389 tw16042523195227631951 tw16062792326580994930 tw1609641421153566781 tw16198175593101592668 tw16240836872328649035 tw16326937903643185222 tw16368927826456744297 tw16416404073667637214 tw1653625560379605801 tw16565247433665268161 tw16580992050041261627 tw1658352558240593840 tw16597814508608282148 tw16600895472882527758 tw16623996112707067760 tw16640043005304054004 tw16641047098388728285 tw16689781349222653442 tw16722425809722789963 tw16750091501181921292 tw16795387341538565242 tw16883178587014355103 tw17088656005265932452 tw17154571755583078617 tw17159033846203924207 tw17297231592175106137 tw17314306396199041847 tw17351625805694653051 tw17423350281722999226 tw1752624737669169693 tw17545407927908887332 tw17556035938624316894 tw1761707387745155044 tw17628441133454382588 tw17650727587943819613 tw17950455608505945645 tw17967691063830471936 tw18059492536698509466 tw18229644467483453229 tw18263489237835681447 tw18282484850900694681 tw1900324229017907973 tw1970678342891898342 tw2061992263369692371 tw20744411382235046 tw21680476924755077 tw219607763332331000 tw2217023949877463562 tw2391532678771333218 tw239285371882952629 tw2395666887348478145 tw2473379970208738285 tw2490863988342233239 tw271178038673379855 tw2726804623981597578 tw2932343554055967939 tw2959823955548485606 tw30014161721252021 tw30179107801349604 tw3037218105298858021 tw3082962224050980368 tw3113753258348897205 tw3161043675262378364 tw3330480313387806598 tw3396366753825199239 tw3401859393962279945 tw3420715547017547146 tw3477792734705954616 tw3500822672052961300 tw350217668290051417 tw352373485803119439 tw3535153381731018989 tw3711237115388606481 tw3763462484295019864 tw3820534897281541866 tw3933355404992384201 tw3965922824538822639 tw3969789958144145608 tw3971129834388400306 tw4027623012150703471 tw4149091171894662421 tw4158846458290899524 tw4293119970733900941 tw4636488202663739753 tw46565503644909489 tw4829611004685505203 tw4928875391473778828 tw5026707040529132004 tw5046392497643365953 tw5089696634453913405 tw5221943407611363632 tw5315748297707989268 tw5378284557416329222 tw561290290812024314 tw562244326581273347 tw5647309725995727894 tw5708946691045062700 tw5812705737398804682 tw5816088350424474399 tw5958414099885694613 tw6072382459241881764 tw6099500995180690480 tw6103672898180034283 tw6105142477281808210 tw6135173528177265333 tw6175548906295002003 tw6188475700202141321 tw6190055092268146121 tw6221324596651447564 tw6349985908231229576 tw6395711540657519237 tw6591063516413058116 tw6831662847209032079 tw6890735370148668268 tw6899376998497079127 tw6993745135795147786 tw7019206116194677862 tw708588221280852956 tw7222260885612074681 tw727932578814672758 tw7334442569443510949 tw735636571382851946 tw7373997755804328420 tw7412223388473525529 tw7568057636751012038 tw75681234613503760 tw7625813159174432316 tw7661610723955227588 tw7746258055411549194 tw7784229177346646979 tw7811358702893251493 tw7874539687856085102 tw811864343318460320 tw8396947998137734975 tw850902691858681973 tw8517164456274280570 tw8687051244848768496 tw8705848028027350383 tw8710144817404428658 tw8715198849797173673 tw8794659321304103216 tw8852399306817475363 tw8868759071143675036 tw8887828144268080116 tw8931826005374721620 tw8979502368665092087 tw9058321591353117884 tw9095529512278585694 tw916841173434952624 tw9223730542293927923 tw9249851778103801352 tw9250315826029670730 tw9285060318128892010 tw9419043579438665479 tw9425379445407488672 tw9503304317737133793 tw9544574132497192946 tw9652788199670387835 tw9670724702336422550 tw9737070410996708228 tw9738135973817219497 tw9760564537468270223 tw9871719896627406384 tw9888220081134028731:True)
open PySem PySem.W PyProof.Rows
set_option maxRecDepth 100000 in
set_option maxHeartbeats 0 in
theorem PySem.Challenge.cw_roomtally_k24_wide_tallies_holds : PySem.Challenge.rw_roomtally_k24_wide_tallies.Holds := by
  w_on; o_law; k_head; (case hw => w_witness2)
  k_fill
  refine K.walk (l := PySem.Challenge.rw_roomtally_k24_wide_tallies) rfl rfl (λw h Y => PySem.W.kIn_of Y) ?F
  case F =>
    intro w mg fa h KX G hmg;refine' K.all_mk KX G hmg ?_ ?_ ?_ ?_ ?_ ?_ ?_ ?_ ?_ ?_ ?_ ?_ ?_ ?_ ?_ ?_ ?_ ?_ ?_ ?_ ?_ ?_ ?_ ?_ ?_ ?_ ?_ ?_ ?_ ?_ ?_ ?_ ?_ ?_ ?_ ?_ ?_ ?_ ?_ ?_ ?_ ?_ ?_ ?_ ?_ ?_ ?_ ?_ ?_ ?_ ?_ ?_ ?_
    all_goals first|exact K.AF.of (by k_is) (by k_is) (by k_is) (by k_is)|(show _=_;k_is)