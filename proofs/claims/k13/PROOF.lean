import PyProof.Rows.All
import Wide.All
import OpenK.AllK
import Wide.FinOn
import Lean
import PyProof.EqAt
import PyProof.EqKinds
import PyProof.TupleCall
import PyProof.NeKinds
import PyProof.Draws
import PyProof.ZipIter
import KE.KSortTup
import PyProof.DictWalks
import KE.KDictList
import KE.KDictSum
import PyProof.AttrMissSeq
import PyProof.MinMaxWalk
import PyProof.Rows.SortRuns
import PyProof.Rows.SortKey
import PyProof.ExcBaseAll.ValueError
import OpenK.KOwn
import PyProof.InstStoreFacts
import PyProof.ExcInit
import PyProof.RulesDel
import PyProof.RulesAs
import KE.KItemsList
import PyProof.SetRoads
import PyProof.WalksMore
import PyProof.Rows.SetFrom
import PyProof.IsRules
import PyProof.Cells
import PyProof.ListRange
import PyProof.ListTruth
import KE.KEqDict
import KE.KRevIter
import PySem.Challenge.RW_roomtally_k13_whole_two_rooms_have_one_c
set_option Elab.async false
set_option linter.all false
set_option compiler.extract_closed false
set_option maxRecDepth 100000
set_option maxHeartbeats 4000000
noncomputable section
open PySem List
abbrev VS:=Value->Shared->Prop
abbrev oI:=@Option.some.inj
abbrev Fg:=PySem.W.Frag
local macro_rules
 |`(nofun)=>`(by decide +kernel)
variable{fd:FuncData}{ps N N' qK qC qB qJ:List Str}{us:List Value}{x qual:Str}{u v' u':Value}{a p it d I:Addr}{h h' base:Heap}{w:World}{qA:List (Addr×Obj)}{s:Shared}{t' i j n lo ep:Nat}{A:Around}{E Q:VS}{pos pos' qM qL:Pos}{st:SortSt}{c tg iter elt:Expr}{es ifs:List Expr}{fp:List Addr}{r ns:List Int}{mg:Str->Option Value}{ks:List (List Int)}{sc scope:Scope}{prog P':Program}{qH:Array Value}{env:Env}{q:List Int×Int}{qD:List (Option Nat)}{Z:Addr->Prop}{Kf:Fg}{O:KeyOrd}{qG:Array Keyed}
abbrev wB:=@PySem.wpAny_bind
abbrev wP:=@PySem.wpAny_pure
local macro_rules
 |`(tactic| trivial)=>`(tactic| first|exact .inl rfl|exact .inr rfl|exact .inr (.inl rfl)|exact .inr (.inr rfl)|assumption)
namespace L2
open PySem PySem.Spec PyProof.Rows
theorem Dq(h:us.length=1)(k:∀a,bindArgs fd ⟨[a],[]⟩=pure (ps.zip [a])):bindArgs fd ⟨us,[]⟩=pure (ps.zip us):=by
 cases us with
 |nil=>cases h
 |cons a l=>cases l with
  |nil=>exact k a
  |cons _ _=>cases h
theorem B0(h:us.length=2)(k:∀a b,bindArgs fd ⟨[a,b],[]⟩=pure (ps.zip [a,b])):bindArgs fd ⟨us,[]⟩=pure (ps.zip us):=by
 rcases us with _|⟨a,_|⟨b,_|⟨_,_⟩⟩⟩<;>first|exact k _ _|cases h
theorem Fs(h:us.length=3)(k:∀a b c,bindArgs fd ⟨[a,b,c],[]⟩=pure (ps.zip [a,b,c])):bindArgs fd ⟨us,[]⟩=pure (ps.zip us):=by
 rcases us with _|⟨a,_|⟨b,_|⟨c,_|⟨_,_⟩⟩⟩⟩<;>first|exact k _ _ _|cases h
theorem Jq(h:us.length=4)(k:∀a b c d,bindArgs fd ⟨[a,b,c,d],[]⟩=pure (ps.zip [a,b,c,d])):bindArgs fd ⟨us,[]⟩=pure (ps.zip us):=by
 rcases us with _|⟨a,_|⟨b,_|⟨c,_|⟨d,_|⟨_,_⟩⟩⟩⟩⟩<;>first|exact k _ _ _ _|cases h
abbrev AN:=Sum Int Str
def Et:AN->Value->Bool
 |.inl k,v=>Value.isInt k v
 |.inr x,v=>Value.isStrOf x v
def SD(w:World):AN->Int
 |.inl k=>hashInt k
 |.inr x=>hashStr w x
theorem DY:∀{k:AN} {v:Value},Et k v=true->(∃i t,k=Sum.inl i/\v=Value.int i t)\/(∃x t,k=Sum.inr x/\v=Value.str x t)
 |.inl i,v,h=>by
  obtain⟨t,e⟩:=Value.isInt_shape (k:=i) (v:=v) h
  exact .inl ⟨i,t,rfl,e⟩
 |.inr x,v,h=>by
  obtain⟨t,e⟩:=Value.isStrOf_shape (x:=x) (v:=v) h
  exact .inr ⟨x,t,rfl,e⟩
theorem SE(i:Int)(t:Tok):Et (.inl i) (.int i t)=true:=by simp[Et,Value.isInt]
theorem SF(x:Str)(t:Tok):Et (.inr x) (.str x t)=true:=by simp[Et,Value.isStrOf]
theorem SG(a b:Int):decide ((Sum.inl a:AN)=Sum.inl b)=(a==b):=by
 by_cases e:a=b
 ·subst e;simp
 ·have h:¬(Sum.inl a:AN)=Sum.inl b:=λq=>e (Sum.inl.inj q)
  rw[decide_eq_false h]
  exact(beq_eq_false_iff_ne.mpr e).symm
theorem SH(a b:Str):decide ((Sum.inr a:AN)=Sum.inr b)=decide (a=b):=by
 by_cases e:a=b
 ·subst e;simp
 ·have h:¬(Sum.inr a:AN)=Sum.inr b:=λq=>e (Sum.inr.inj q)
  rw[decide_eq_false h,decide_eq_false e]
theorem SI(a:Int)(b:Str):decide ((Sum.inl a:AN)=Sum.inr b)=false:=decide_eq_false (λq=>nomatch q)
theorem SJ(a:Str)(b:Int):decide ((Sum.inr a:AN)=Sum.inl b)=false:=decide_eq_false (λq=>nomatch q)
def Bn(prog:Program)(w:World):PySem.KeyKind prog w AN where
 is:=Et
 hash:=SD w
 inj:=λv a b ha hb=>by
  rcases DY ha with⟨i,t,rfl,rfl⟩|⟨x,t,rfl,rfl⟩
  ·rcases DY hb with⟨j,u,rfl,e⟩|⟨y,u,rfl,e⟩
   ·injection e with e1 _;rw[e1]
   ·exact nomatch e
  ·rcases DY hb with⟨j,u,rfl,e⟩|⟨y,u,rfl,e⟩
   ·exact nomatch e
   ·injection e with e1 _;rw[e1]
 byValue:=λk v h=>by
  rcases DY h with⟨i,t,rfl,rfl⟩|⟨x,t,rfl,rfl⟩<;>rfl
 pyHash:=λhv h=>by
  rcases DY hv with⟨i,t,rfl,rfl⟩|⟨x,t,rfl,rfl⟩
  ·exact wpAny_pyHash_int h
  ·exact wpAny_pyHash_str h
 eqBool:=λhu hv h=>by
  rcases DY hu with⟨i,t,rfl,rfl⟩|⟨x,t,rfl,rfl⟩
  ·rcases DY hv with⟨j,u,rfl,rfl⟩|⟨y,u,rfl,rfl⟩
   ·rw[SG]at h;exact wpAny_eqBool_int h
   ·rw[SI]at h;exact SeqAt.EqAt.int_str i t y u _ _ _ _ h
  ·rcases DY hv with⟨j,u,rfl,rfl⟩|⟨y,u,rfl,rfl⟩
   ·rw[SJ]at h;exact SeqAt.EqAt.str_int x t j u _ _ _ _ h
   ·rw[SH]at h;exact wpAny_eqBool_str h
 «strs»:=λk x t v h=>by
  rcases DY h with⟨i,u,rfl,e⟩|⟨y,u,rfl,e⟩
  ·exact nomatch e
  ·injection e with e1 _
   subst e1
   cases v<;>rfl
theorem SK(prog:Program)(w:World)(i:Int)(t:Tok):(Bn prog w).is (.inl i) (.int i t)=true:=SE i t
theorem SL(prog:Program)(w:World)(x:Str)(t:Tok):(Bn prog w).is (.inr x) (.str x t)=true:=SF x t
inductive V where
 |non|bl (b:Bool)|int (i:Int)|str (x:Str)|byt (b:Array UInt8)|flt (b:UInt64)|ref (a:Addr)|ty (n:String)
 deriving DecidableEq
def AG:V->Value->Prop
 |.non,u=>u=Value.none
 |.bl b,u=>u=Value.bool b
 |.int i,u=>∃t,u=Value.int i t
 |.str x,u=>∃t,u=Value.str x t
 |.byt b,u=>∃t,u=Value.bytes b t
 |.flt b,u=>∃t,u=Value.float b t
 |.ref a,u=>u=Value.ref a
 |.ty n,u=>u=Value.type n
abbrev AR:List V->List Value->Prop:=Paired AG
theorem AR.length{xs:List V}(r:AR xs us):xs.length=us.length:=Paired.length r
theorem AR.get:∀{xs:List V} {us:List Value} {i:Nat} {x:V},AR xs us->xs[i]?=some x->∃u,us[i]?=some u/\AG x u
 |_,_,_,_,.nil,e=>by simp at e
 |_,_,0,_,.cons r _,e=>by simp at e;subst e;exact⟨_,rfl,r⟩
 |_,_,i+1,x,.cons _ t,e=>by
  obtain⟨u,h1,h2⟩:=AR.get (i:=i) (x:=x) t (by simpa using e)
  exact⟨u,by simpa using h1,h2⟩
theorem AR.set{x:V}{u:Value}(r:AG x u):∀{xs:List V} {us:List Value} (i:Nat),AR xs us->AR (xs.set i x) (us.set i u)
 |_,_,_,.nil=>.nil
 |_,_,0,.cons _ t=>.cons r t
 |_,_,i+1,.cons q t=>.cons q (AR.set r i t)
theorem AR.append:∀{xs ys:List V} {us a:List Value},AR xs us->AR ys a->AR (xs++ys) (us++a)
 |_,_,_,_,.nil,s=>s
 |_,_,_,_,.cons r t,s=>.cons r (AR.append t s)
theorem AR.take:∀{xs:List V} {us:List Value} (n:Nat),AR xs us->AR (xs.take n) (us.take n)
 |_,_,0,_=>.nil
 |_,_,_+1,.nil=>.nil
 |_,_,n+1,.cons r t=>.cons r (AR.take n t)
theorem AR.drop:∀{xs:List V} {us:List Value} (n:Nat),AR xs us->AR (xs.drop n) (us.drop n)
 |_,_,0,r=>r
 |_,_,_+1,.nil=>.nil
 |_,_,n+1,.cons _ t=>AR.drop n t
def CZ:Option V->Option Value->Prop
 |some v,some u=>AG v u
 |none,none=>True
 |_,_=>False
def KV{κ:Type}:List (κ×V)->List (κ×Value)->Prop:=Paired λ(p:κ×V) (q:κ×Value)=>p.1=q.1/\AG p.2 q.2
def kV:AN->V
 |.inl i=>.int i
 |.inr x=>.str x
inductive HO where
 |lst (xs:List V)
 |tup (xs:List V)
 |dK (qI:List (AN×V))|dT (qI:List (List AN×V))
 |set (S:Int->Bool) (n:Nat)
 |ins (C dx:Addr) (fs:List (Str×V))
 |own (x:Addr)
 |xd (fs:List (Str×V))
 |met (f x:Addr)
 |rng (lo hi:Int)
 |frz (o:Obj) (u:HO)
 |tbl (ps:Array Value)
 |ext (φ:Heap->Prop)
abbrev Hp:=Addr->Option HO
def AD(H:Hp)(a:Addr)(o:HO):Hp:=λb=>if b=a then some o else H b
theorem Af{H:Hp}{o:HO}:AD H a o a=some o:=by unfold AD;rw[if_pos rfl]
theorem AL{H:Hp}{b:Addr}{o:HO}(h:b≠a):AD H a o b=H b:=by unfold AD;rw[if_neg h]
theorem HV{H:Hp}{o u:HO}:AD (AD H a o) a u=AD H a u:=by
 funext b;unfold AD;split<;>rfl
theorem Dr{H:Hp}{b:Addr}{o u:HO}(h:H a=some o)(h':H b=some u)(d:o≠u):a≠b:=by
 intro e;subst e;rw[h]at h';exact d (oI h')
theorem A3{H:Hp}{b:Addr}{o:HO}(h:H a=some o)(h':H b=none):a≠b:=by
 intro e;subst e;rw[h]at h';cases h'
def DA(h:Heap)(a:Addr)(items:Array Value):Prop:=∃o,h.get? a=some o/\o.cls=.type "tuple"/\(∃n,o.data=.seq items n)/\o.dict=none
theorem DA.tup{items:Array Value}(x:DA h a items):IsTup h a items:=let⟨o,e,c,d,_⟩:=x;⟨o,e,c,d⟩
theorem DA.new(h:Heap)(items:Array Value):DA (h.push { cls:=.type "tuple",data:=.seq items }) h.objs.size items:=⟨_,Heap.get?_push_size _ rfl,rfl,⟨_,rfl⟩,rfl⟩
section
variable(P:Program)(w:World)
def A0(H:Hp)(h:Heap)(a:Addr):HO->Prop
 |.lst xs=>xs.length<=sizeLine/\∃(qH:List Value) (n:Nat),AR xs qH/\h.get? a=some { cls:=.type "list",data:=.seq qH.toArray n }
 |.tup xs=>xs.length<=sizeLine/\∃qH:List Value,AR xs qH/\DA h a qH.toArray
 |.dK qI=>qI.length<=sizeLine/\(a==sysModules)=false/\∃vs,KV qI vs/\h.DictOf (Bn P w) a vs
 |.dT qI=>qI.length<=sizeLine/\(a==sysModules)=false/\∃xs:List (List AN×Addr×Value),
   Paired (λ(p:List AN×V) (q:List AN×Addr×Value)=>p.1=q.1/\H q.2.1=some (.tup (p.1.map kV))/\AG p.2 q.2.2) qI xs /\
   ∃o es ep,h.get? a=some o/\o.ExactDict/\o.data=.dict es ep/\es.toList=xs.map (entryOfKey (tupleKind (Bn P w)))/\(xs.map (·.1)).Nodup
 |.set S n=>h.SetOf (intKind P w) a S n
 |.ins C dx fs=>H dx=some (.own a)/\fs.length<=1000/\dx≠a/\h.get? a=some (PySem.W.instObj C dx) /\
   ∃mA,h.Ns1 dx mA/\(∀f,CZ (fs.lookup f) (mA f))/\PySem.Within mA (fs.map (·.1))
 |.own _=>∃o,h.get? a=some o
 |.xd fs=>∃mA,h.Ns1 a mA/\∀f,CZ (fs.lookup f) (mA f)
 |.rng lo hi=>∃t u v,h.get? a=some { cls:=.type "range",data:=.fields #[.int lo t,.int hi u,.int 1 v] }
 |.frz o u=>h.get? a=some o/\A0 H h a u
 |.tbl ps=>h.get? a=some { cls:=.none,data:=.fields ps }
 |.met f x=>h.get? a=some (PySem.W.methodObj (.ref f) (.ref x))
 |.ext φ=>φ h/\(∃o,h.get? a=some o)/\∀h1 h2:Heap,φ h1->(∀o,h1.get? a=some o->h2.get? a=some o)->φ h2
def A4(H:Hp)(h:Heap):Prop:=∀a o,H a=some o->A0 P w H h a o
end
section
variable{P:Program}{H H':Hp}{o:HO}
theorem A0.lt(x:A0 P w H h a o):a<h.objs.size:=by
 cases o with
 |lst xs=>obtain⟨_,_,_,_,e⟩:=x;exact Heap.lt_size e
 |tup xs=>obtain⟨_,_,_,p⟩:=x;exact p.tup.lt
 |dK qI=>obtain⟨_,_,_,_,o,_,_,e,_⟩:=x;exact Heap.lt_size e
 |dT qI=>obtain⟨_,_,_,_,o,_,_,e,_⟩:=x;exact Heap.lt_size e
 |set S n=>obtain⟨o,_,_,_,e,_⟩:=x;exact Heap.lt_size e
 |ins C dx fs=>obtain⟨_,_,_,e,_⟩:=x;exact Heap.lt_size e
 |own y=>obtain⟨_,e⟩:=x;exact Heap.lt_size e
 |xd fs=>obtain⟨_,⟨_,_,_,e,_⟩,_⟩:=x;exact Heap.lt_size e
 |rng lo hi=>obtain⟨_,_,_,e⟩:=x;exact Heap.lt_size e
 |frz ob u=>obtain⟨e,_⟩:=x;exact Heap.lt_size e
 |tbl ps=>exact Heap.lt_size (show h.get? a=some _ from x)
 |met f y=>exact Heap.lt_size (show h.get? a=some _ from x)
 |ext φ=>obtain⟨_,⟨_,e⟩,_⟩:=x;exact Heap.lt_size e
theorem Paired.mapP{α β:Type}{F G:α->β->Prop}:∀{c:List α} {l₂:List β},Paired F c l₂->(∀a b,F a b->G a b)->Paired G c l₂
 |_,_,.nil,_=>.nil
 |_,_,.cons r t,f=>.cons (f _ _ r) (Paired.mapP t f)
theorem A0.stay(x:A0 P w H h a o)(k:∀b u,(b=a\/H b=some (.own a))->h.get? b=some u->h'.get? b=some u)
  (j:∀b,H b=some (.own a)->H' b=some (.own a)) (i:∀b xs,H b=some (.tup xs)->H' b=some (.tup xs)):A0 P w H' h' a o:=by
 induction o with
 |lst xs=>obtain⟨z,qH,n,r,e⟩:=x;exact⟨z,qH,n,r,k _ _ (.inl rfl) e⟩
 |tup xs=>obtain⟨z,qH,r,ob,e,c⟩:=x;exact⟨z,qH,r,ob,k _ _ (.inl rfl) e,c⟩
 |dK qI=>obtain⟨z,y,vs,r,ob,es,ep,e,c⟩:=x;exact⟨z,y,vs,r,ob,es,ep,k _ _ (.inl rfl) e,c⟩
 |dT qI =>
  obtain⟨z,y,xs,r,ob,es,ep,e,c⟩:=x
  exact⟨z,y,xs,Paired.mapP r λp q z=>⟨z.1,i _ _ z.2.1,z.2.2⟩,ob,es,ep,k _ _ (.inl rfl) e,c⟩
 |set S n=>obtain⟨ob,es,ep,t,e,c⟩:=x;exact⟨ob,es,ep,t,k _ _ (.inl rfl) e,c⟩
 |ins C dx fs =>
  obtain⟨d,z,ne,e,mA,⟨od,es,ep,l,c⟩,r⟩:=x
  exact⟨j _ d,z,ne,k _ _ (.inl rfl) e,mA,⟨od,es,ep,k _ _ (.inr d) l,c⟩,r⟩
 |own y=>obtain⟨ob,e⟩:=x;exact⟨ob,k _ _ (.inl rfl) e⟩
 |xd fs=>obtain⟨mA,⟨od,es,ep,e,c⟩,r⟩:=x;exact⟨mA,⟨od,es,ep,k _ _ (.inl rfl) e,c⟩,r⟩
 |rng lo hi=>obtain⟨t,u,v,e⟩:=x;exact⟨t,u,v,k _ _ (.inl rfl) e⟩
 |frz ob u g=>obtain⟨e,q⟩:=x;exact⟨k _ _ (.inl rfl) e,g q⟩
 |tbl ps =>
  have e:h.get? a=some { cls:=.none,data:=.fields ps }:=x
  show h'.get? a=some { cls:=.none,data:=.fields ps }
  exact k a _ (.inl rfl) e
 |met f y =>
  have e:h.get? a=some (PySem.W.methodObj (.ref f) (.ref y)):=x
  show h'.get? a=some (PySem.W.methodObj (.ref f) (.ref y))
  exact k a _ (.inl rfl) e
 |ext φ=>obtain⟨p,⟨o,e⟩,st⟩:=x;exact⟨st _ _ p λo q=>k _ _ (.inl rfl) q,⟨o,k _ _ (.inl rfl) e⟩,st⟩
theorem A4.lt(x:A4 P w H h)(e:H a=some o):a<h.objs.size:=(x a o e).lt
theorem A4.fresh(x:A4 P w H h)(e:h.objs.size<=a):H a=none:=by
 cases q:H a with
 |none=>rfl
 |some u=>exact absurd (Nat.lt_of_lt_of_le (x.lt q) e) (Nat.lt_irrefl _)
theorem A4.kept(x:A4 P w H h)(k:∀b u,h.get? b=some u->h'.get? b=some u):A4 P w H h':=λa o e =>
 (x a o e).stay (λb u _ q=>k b u q) (λ_ q=>q) λ_ _ q=>q
theorem A4.laid(x:A4 P w H h)(k:∀b u,h.get? b=some u->h'.get? b=some u)(d:h.objs.size<=a)(new:A0 P w (AD H a o) h' a o):A4 P w (AD H a o) h':=λb u e=>by
 have hn:=x.fresh d
 by_cases hb:b=a
 ·subst hb;rw[Af]at e;cases e;exact new
 ·rw[AL hb]at e
  exact(x b u e).stay (λc v _ q=>k c v q) (λc q=>by rw[AL (A3 q hn)];exact q) λc xs q=>by rw[AL (A3 q hn)];exact q
end
def Rd(H:Hp)(a:Addr)(u:HO):Prop:=H a=some u\/∃o,H a=some (.frz o u)
theorem Rd.of{H:Hp}{u:HO}(h:H a=some u):Rd H a u:=.inl h
theorem Rd.ok{P:Program}{H:Hp}{u:HO}(r:Rd H a u)(x:A4 P w H h):A0 P w H h a u:=by
 rcases r with r|⟨o,r⟩
 ·exact x a u r
 ·obtain⟨_,q⟩:=x a _ r
  exact q
def Ft:Option HO->Prop
 |some (.lst _)=>True
 |some (.dK _)=>True
 |some (.dT _)=>True
 |some (.set _ _)=>True
 |some (.ins _ _ _)=>True
 |some (.ext _)=>True
 |_=>False
section
variable{P:Program}{H:Hp}{x e:Addr}{o':HO}
theorem A4.write(ok:A4 P w H h)(g:Ft (H x))(j:e=x\/H e=some (.own x))(k:∀b u,b≠e->h.get? b=some u->h'.get? b=some u)(i:∃u,h'.get? e=some u)
  (new:A0 P w (AD H x o') h' x o'):A4 P w (AD H x o') h':=λb u q=>by
 have d:∀c y,H c=some (.own y)->c≠x:=λc y r z=>by subst z;rw[r]at g;exact g
 have f:∀c xs,H c=some (.tup xs)->c≠x:=λc xs r z=>by subst z;rw[r]at g;exact g
 by_cases hb:b=x
 ·subst hb;rw[Af]at q;cases q;exact new
 ·rw[AL hb]at q
  by_cases a:b=e
  ·have q':H b=some (.own x):=by
    rcases j with z|z
    ·exact absurd (a.trans z) hb
    ·rw[a];exact z
   rw[q]at q';cases q'
   obtain⟨v,l⟩:=i
   exact⟨v,by rw[a];exact l⟩
  ·refine(ok b u q).stay (λc v hc r=>k c v ?_ r) (λc r=>by rw[AL (d c b r)];exact r) λc xs r=>by rw[AL (f c xs r)];exact r
   rcases hc with rfl|hc
   ·exact a
   ·rintro rfl
    rcases j with z|z
    ·exact d c b hc z
    ·rw[hc]at z;cases z;exact hb rfl
end
structure Un(fs ex:List Addr)(H H':Hp)(h h':Heap):Prop where
 keep:∀b o,h.get? b=some o->H b=none->b∉fs->b∉ex->h'.get? b=some o
 slot:∀b o,h.get? b=some o->H b=none->b∈fs->b∉ex->∃sl,h'.get? b=some { o with slots:=sl }
 free:∀b o,h.get? b=some o->H b=none->b∉ex->H' b=none
 there:∀b o,h.get? b=some o->b∉ex->∃o',h'.get? b=some o'
 tups:∀b xs,H b=some (.tup xs)->H' b=some (.tup xs)
 frzs:∀b o u,H b=some (.frz o u)->H' b=some (.frz o u)
 tbls:∀b ps,H b=some (.tbl ps)->∃more,H' b=some (.tbl (ps++more))
section
variable{fs fs' ex ex':List Addr}{H H1 H2:Hp}{h1 h2:Heap}{x e:Addr}{o:HO}
theorem Un.any(u:Un fs ex H H1 h h1){b:Addr}{ob:Obj}(q:h.get? b=some ob)(n:H b=none)(a:b∉ex):∃sl,h1.get? b=some { ob with slots:=sl }:=by
 by_cases hb:b∈fs
 ·exact u.slot b ob q n hb a
 ·exact⟨ob.slots,u.keep b ob q n hb a⟩
theorem Un.trans(a:Un fs ex H H1 h h1)(b:Un fs ex H1 H2 h1 h2):Un fs ex H H2 h h2 where
 keep:=λc ob q n f d=>b.keep c ob (a.keep c ob q n f d) (a.free c ob q n d) f d
 slot:=λc ob q n f d=>by
  obtain⟨sl,e⟩:=a.slot c ob q n f d
  obtain⟨g,i⟩:=b.slot c _ e (a.free c ob q n d) f d
  exact⟨g,i⟩
 free:=λc ob q n d=>by
  obtain⟨o',e⟩:=a.there c ob q d
  exact b.free c o' e (a.free c ob q n d) d
 there:=λc ob q d=>by
  obtain⟨o',e⟩:=a.there c ob q d
  exact b.there c o' e d
 tups:=λc xs q=>b.tups c xs (a.tups c xs q)
 frzs:=λc ob xs q=>b.frzs c ob xs (a.frzs c ob xs q)
 tbls:=λc ps q=>by
  obtain⟨l,e⟩:=a.tbls c ps q
  obtain⟨j,i⟩:=b.tbls c _ e
  exact⟨l++j,by rw[i,Array.append_assoc]⟩
theorem Un.kept(k:∀b u,h.get? b=some u->h'.get? b=some u):Un fs ex H H h h' :=
 ⟨λb ob q _ _ _=>k b ob q,λb ob q _ _ _=>⟨ob.slots,k b ob q⟩,λ_ _ _ n _=>n,λb ob q _=>⟨ob,k b ob q⟩,λ_ _ q=>q,λ_ _ _ q=>q,λ_ ps q=>⟨#[],by rw[q];simp⟩⟩
theorem Un.refl:Un fs ex H H h h:=Un.kept λ_ _ q=>q
theorem Un.laid(k:∀b u,h.get? b=some u->h'.get? b=some u)(c:h.objs.size<=a)(hn:H a=none):Un fs ex H (AD H a o) h h' where
 keep:=λb u q _ _ _=>k b u q
 slot:=λb u q _ _ _=>⟨u.slots,k b u q⟩
 free:=λb u q n _=>by rw[AL (Nat.ne_of_lt (Nat.lt_of_lt_of_le (Heap.lt_size q) c))];exact n
 there:=λb u q _=>⟨u,k b u q⟩
 tups:=λb xs q=>by rw[AL (A3 q hn)];exact q
 frzs:=λb u xs q=>by rw[AL (A3 q hn)];exact q
 tbls:=λb ps q=>⟨#[],by rw[AL (A3 q hn),q];simp⟩
theorem Un.write(c:Ft (H x))(g:e=x\/H e=some (.own x))(k:∀b u,b≠e->h.get? b=some u->h'.get? b=some u)(d:∃u,h'.get? e=some u):Un fs ex H (AD H x o) h h':=by
 have f:∀b,H b=none->b≠x:=λb n z=>by subst z;rw[n]at c;exact c
 have hb:∀b,H b=none->b≠e:=λb n z=>by
  subst z
  rcases g with r|r
  ·exact f b n r
  ·rw[n]at r;cases r
 have hm:∀b u,H b=some u->¬Ft (some u)->b≠x:=λb u q nm z=>by subst z;rw[q]at c;exact nm c
 refine⟨λb u q n _ _=>k b u (hb b n) q,λb u q n _ _=>⟨u.slots,k b u (hb b n) q⟩,λb u q n _=>by rw[AL (f b n)];exact n,λb u q _=>?_,
  λb xs q=>by rw[AL (hm b _ q λz=>z)];exact q,λb u xs q=>by rw[AL (hm b _ q λz=>z)];exact q,λb ps q=>⟨#[],by rw[AL (hm b _ q λz=>z),q];simp⟩⟩
 by_cases a:b=e
 ·subst a;exact d
 ·exact⟨u,k b u a q⟩
end
def HW(h:Heap)(H:Hp):List Addr:=(List.range h.objs.size).filter λa=>(H a).isSome
def DZ(h:Heap)(H:Hp):Heap:=PySem.W.hideAll h (HW h H)
theorem SM(h:Heap)(H:Hp):(DZ h H).objs.size=h.objs.size:=PySem.W.hideAll_size _ _
theorem SN{H:Hp}{b:Addr}{o:Obj}(e:h.get? b=some o)(n:H b=none):(DZ h H).get? b=some o :=
 PySem.W.hideAll_get _ e λa=>by
  have q:(H b).isSome=true:=(mem_filter.mp a).2
  rw[n]at q;simp at q
theorem SO{H:Hp}{b:Addr}{o:Obj}(e:(DZ h H).get? b=some o):h.get? b=some o/\H b=none:=by
 have a:h.get? b=some o:=PySem.W.of_hideAll (HW h H) e
 refine⟨a,?_⟩
 cases q:H b with
 |none=>rfl
 |some x =>
  have c:b∈HW h H:=mem_filter.mpr ⟨mem_range.mpr (Heap.lt_size a),by simp[q]⟩
  have z:(DZ h H).get? b=none:=PySem.W.hideAll_none (HW h H) c
  rw[z]at e;cases e
def HX(g h:Heap)(L:Addr):List (Addr×Obj):=(List.range h.objs.size).filterMap λa=>if a=L\/(g.get? a).isSome=true then none else(h.get? a).map λo=>(a,o)
theorem Jr{g:Heap}{L:Addr}{o:Obj}(h1:a≠L)(h2:g.get? a=none)(c:h.get? a=some o):(a,o)∈HX g h L :=
 mem_filterMap.mpr ⟨a,mem_range.mpr (Heap.lt_size c),by simp[h1,h2,c]⟩
theorem SQ{g:Heap}{L:Addr}{p:Addr×Obj}(c:p∈HX g h L):p.1≠L/\g.get? p.1=none/\h.get? p.1=some p.2:=by
 obtain⟨b,_,e⟩:=mem_filterMap.mp c
 split at e
 ·cases e
 ·rename_i a
  cases q:h.get? b with
  |none=>rw[q]at e;simp at e
  |some u =>
   rw[q]at e
   simp only[Option.map_some,Option.some.injEq]at e
   subst e
   refine⟨λz=>a (.inl z),?_,q⟩
   show g.get? b=none
   cases r:g.get? b with
   |none=>rfl
   |some v=>exact(a (.inr (by simp[r]))).elim
def qF(g h:Heap)(L d:Addr):List (Addr×Obj):=(HX g h L).filter λp=>decide (p.1≠d)
theorem SR{g:Heap}{L:Addr}:News g L h (HX g h L):=λp d=>let⟨a,b,c⟩:=SQ d;⟨c,a,b⟩
structure Mod(K:Fg)(mg:Str->Option Value)(base:Heap):Prop where
 kin:K.In base
 glob:base.Ns mainGlobals mg
 blt:∃mb,base.Ns builtinsNs mb/\∀x:Str,x≠"__name__"->mb x=bootBuiltins x
 nolimit:base.NoLimit
structure Cx where
 prog:Program
 w:World
 K:Fg
 mg:Str->Option Value
 base:Heap
 A:Around
 N:List Str
 s₀:Shared
 H₀:Hp
 env:Env
 outer:List Env
 stack:List Env
 ex:List Addr
 fn:Str->Bool
 calm:Bool
 pn:List (Addr×Obj)
 xe:VS
end L2
variable{H H' H1 H2 Hs:L2.Hp}{o:L2.HO}{X:L2.Cx}{v:L2.V}{vs:List L2.V}
namespace L2
open PySem PySem.Spec PyProof.Rows
def Ca(l:List Env):List Addr:=l.filterMap (·.frame)
abbrev Cx.fs(X:Cx):List Addr:=Ca X.outer
def Cv(sc:Scope)(x:Str):Prop:=sc.names.lookup x=some .local\/sc.names.lookup x=some .cell\/sc.names.lookup x=some .free
def Bu(sc:Scope)(x:Str):Prop:=sc.names.lookup x=some .local\/sc.names.lookup x=some .cell
def SS(env:Env)(h:Heap)(m:Str->Option Value)(x:Str)(u:Value):Prop :=
 (env.kindOf x=some .local/\m x=some u)\/((env.kindOf x=some .cell\/env.kindOf x=some .free)/\∃c,env.cells.lookup x=some c/\h.IsCell c (some u))
structure Cx.Ok(X:Cx):Prop where
 mod:Mod X.K X.mg X.base
 kind:X.env.scope.kind=.function
 glob:X.env.globals=mainGlobals
 blt:X.env.builtins=builtinsNs
 above:X.s₀.heap.objs.size<=X.env.locals
 inj:∀x y c,X.env.cells.lookup x=some c->X.env.cells.lookup y=some c->x=y
 has:∀x,(X.env.kindOf x=some .cell\/X.env.kindOf x=some .free)->∃c,X.env.cells.lookup x=some c
 cab:∀x c,X.fn x=true->X.env.cells.lookup x=some c->X.s₀.heap.objs.size<=c
 hd:X.calm=true->X.A.handled=none
 frames:X.A.frames=some X.stack
 stk:X.stack=X.outer\/(X.stack=X.env::X.outer/\X.env.frame=some X.env.locals)
 exf:∀b∈X.ex,b≠X.env.locals/\∀x c,X.env.cells.lookup x=some c->c≠b
 bs:∀b o,X.base.get? b=some o->X.s₀.heap.get? b=some o/\X.H₀ b=none
 bsz:X.base.objs.size<=X.s₀.heap.objs.size
 noex:∀b o,X.base.get? b=some o->b∉X.ex
 exfs:∀b∈X.ex,b∉X.fs
 funs:X.s₀.heap.FunFrames X.base X.outer
 frf:∀b∈X.fs,X.H₀ b=none
structure Inv(X:Cx)(qA:List (Addr×Obj))(σ:List (Option V))(H:Hp)(s:Shared):Prop where
 ok:X.Ok
 os:s.os=X.s₀.os
 bare:AllBare s.gens
 base:Un X.fs X.ex X.H₀ H X.s₀.heap s.heap
 loc:∃m,s.heap.Ns X.env.locals m/\∀(i:Nat) (x:Str) (v:V),X.N[i]?=some x->σ[i]?=some (some v)->Cv X.env.scope x->∃u,AG v u/\SS X.env s.heap m x u
 cell:∀x c,X.env.cells.lookup x=some c->∃v,s.heap.IsCell c v
 free:H X.env.locals=none
 freeC:∀x c,X.env.cells.lookup x=some c->H c=none
 pin:∀p∈X.pn++qA,s.heap.get? p.1=some p.2/\H p.1=none/\p.1≠X.env.locals/\p.1∉X.fs/\∀v,p.2.data≠.cell v
 hok:A4 X.prog X.w H s.heap
 len:σ.length=X.N.length
section
variable{σ:List (Option V)}
theorem Cx.Ok.nofr(ok:X.Ok){b:Addr}{o:Obj}(e:X.base.get? b=some o):b∉X.fs:=λhb=>by
 have:=(ok.funs.mem hb).1
 rw[e]at this;cases this
theorem Inv.bs(I:Inv X qA σ H s):∀b o,X.base.get? b=some o->s.heap.get? b=some o/\H b=none:=λb o e =>
 ⟨I.base.keep b o (I.ok.bs b o e).1 (I.ok.bs b o e).2 (I.ok.nofr e) (I.ok.noex b o e),I.base.free b o (I.ok.bs b o e).1 (I.ok.bs b o e).2 (I.ok.noex b o e)⟩
theorem Inv.bk(I:Inv X qA σ H s):∀b o,X.base.get? b=some o->s.heap.get? b=some o:=λb o e=>(I.bs b o e).1
theorem Inv.mod(I:Inv X qA σ H s):Mod X.K X.mg X.base:=I.ok.mod
theorem Inv.kIn(I:Inv X qA σ H s):X.K.In s.heap:=I.ok.mod.kin.keeps I.bk
theorem Inv.nolimit(I:Inv X qA σ H s):s.heap.NoLimit:=I.ok.mod.nolimit.keeps I.bk
theorem Inv.lt(I:Inv X qA σ H s):X.env.locals<s.heap.objs.size:=let⟨_,hn,_⟩:=I.loc;hn.lt
theorem Inv.sz(I:Inv X qA σ H s):X.s₀.heap.objs.size<=s.heap.objs.size:=Nat.le_trans I.ok.above (Nat.le_of_lt I.lt)
theorem Inv.nofs(I:Inv X qA σ H s)(h:s.heap.objs.size<=a):a∉X.fs:=λhb=>by
 obtain⟨_,o,c,_⟩:=I.ok.funs.mem hb
 exact absurd (Nat.lt_of_lt_of_le (Heap.lt_size c) (Nat.le_trans I.sz h)) (Nat.lt_irrefl _)
theorem Inv.cne(I:Inv X qA σ H s):∀x c,X.env.cells.lookup x=some c->c≠X.env.locals:=λx c e z=>by
 obtain⟨v,o,f,hd⟩:=I.cell x c e
 obtain⟨m,⟨o',es,ep,a,d,_⟩,_⟩:=I.loc
 rw[z,a]at f;cases f;rw[d]at hd;cases hd
theorem Inv.funs(I:Inv X qA σ H s):s.heap.FunFrames X.base X.outer:=by
 have all:∀(l:List Env),(∀b∈Ca l,b∈X.fs)->X.s₀.heap.FunFrames X.base l->s.heap.FunFrames X.base l:=by
  intro l
  induction l with
  |nil=>intro _ _;trivial
  |cons env r f =>
   intro d i
   obtain⟨j,⟨L,o,a,hn,h,hd⟩,g⟩:=i
   have c:L∈X.fs:=d L (by unfold Ca;rw[filterMap_cons,a];exact mem_cons_self)
   obtain⟨sl,e⟩:=I.base.slot L o h (I.ok.frf L c) c λz=>I.ok.exfs L z c
   exact⟨j,⟨L,_,a,hn,e,hd⟩,f (λb hb=>d b (by unfold Ca;rw[filterMap_cons,a];exact mem_cons_of_mem _ hb)) g⟩
 exact all X.outer (λ_ hb=>hb) I.ok.funs
theorem Inv.stack(I:Inv X qA σ H s):s.heap.FunFrames X.base X.stack:=by
 rcases I.ok.stk with e|⟨e,a⟩
 ·rw[e];exact I.funs
 ·rw[e]
  obtain⟨m,hn,_⟩:=I.loc
  refine .cons (by rw[I.ok.kind];decide) a hn ?_ I.funs
  exact Heap.get?_none_of_le (Nat.le_trans I.ok.bsz I.ok.above)
theorem Inv.stkSub(I:Inv X qA σ H s):∀b∈Ca X.stack,b∈X.env.locals::X.fs:=λb hb=>by
 rcases I.ok.stk with e|⟨e,a⟩
 ·rw[e]at hb;exact mem_cons_of_mem _ hb
 ·rw[e]at hb
  unfold Ca at hb
  rw[filterMap_cons,a]at hb
  exact hb
theorem Inv.stkFree(I:Inv X qA σ H s):∀b∈Ca X.stack,H b=none:=λb hb=>by
 rcases mem_cons.mp (I.stkSub b hb)with e|hb
 ·rw[e];exact I.free
 ·obtain⟨_,o,a,_⟩:=I.ok.funs.mem hb
  exact I.base.free b o a (I.ok.frf b hb) λz=>I.ok.exfs b z hb
theorem Inv.step{g':Array GenState}{d':Drawn}{ch:List Addr}(I:Inv X qA σ H s)
  (g:∀b∈ch,(b∈X.ex\/X.s₀.heap.objs.size<=b)/\b≠X.env.locals/\(∀x c,X.env.cells.lookup x=some c->c≠b)/\∀p∈X.pn++qA,p.1≠b)
  (keep:∀b o,b≠X.env.locals->b∉X.fs->b∉ch->s.heap.get? b=some o->H b=none->h'.get? b=some o)
  (slot:∀b o,b≠X.env.locals->b∈X.fs->b∉ch->s.heap.get? b=some o->H b=none->∃sl,h'.get? b=some { o with slots:=sl }) (free:∀b o,b∉ch->s.heap.get? b=some o->H b=none->H' b=none)
  (there:∀b o,b∉ch->s.heap.get? b=some o->∃o',h'.get? b=some o')
  (tups:∀b xs,H b=some (.tup xs)->H' b=some (.tup xs)) (frzs:∀b o u,H b=some (.frz o u)->H' b=some (.frz o u)) (tbls:∀b ps,H b=some (.tbl ps)->∃more,H' b=some (.tbl (ps++more)))
  (ns:∀m,s.heap.Ns X.env.locals m->h'.Ns X.env.locals m) (hok:A4 X.prog X.w H' h') (O:AllBare g') :
  Inv X qA σ H' { s with heap:=h',gens:=g',drawn:=d',toks:=t' }:=by
 have B:∀b o,X.s₀.heap.get? b=some o->b≠X.env.locals:=λb o e=>Nat.ne_of_lt (Nat.lt_of_lt_of_le (Heap.lt_size e) I.ok.above)
 have j:∀b o,X.s₀.heap.get? b=some o->b∉X.ex->b∉ch:=λb o e a hb=>by
  rcases(g b hb).1 with z|z
  ·exact a z
  ·exact absurd (Nat.lt_of_lt_of_le (Heap.lt_size e) z) (Nat.lt_irrefl _)
 have h:∀x c,X.env.cells.lookup x=some c->∀v,s.heap.IsCell c v->h'.IsCell c v:=λx c e v ⟨o,A,hd⟩=>by
  have f:c∉ch:=λz=>(g c z).2.2.1 x c e rfl
  by_cases J:c∈X.fs
  ·obtain⟨sl,q⟩:=slot c o (I.cne x c e) J f A (I.freeC x c e)
   exact⟨_,q,hd⟩
  ·exact⟨o,keep c o (I.cne x c e) J f A (I.freeC x c e),hd⟩
 refine⟨I.ok,I.os,O,⟨λb o e n hb a=>?_,λb o e n hb a=>?_,λb o e n a=>?_,λb o e a=>?_,λb xs e=>tups b xs (I.base.tups b xs e),λb o xs e=>frzs b o xs (I.base.frzs b o xs e),λb ps e=>?_⟩,?_,λx c e=>?_,?_,λx c e=>?_,λp G=>?_,hok,I.len⟩
 ·exact keep b o (B b o e) hb (j b o e a) (I.base.keep b o e n hb a) (I.base.free b o e n a)
 ·obtain⟨sl,y⟩:=I.base.slot b o e n hb a
  obtain⟨D,C⟩:=slot b _ (B b o e) hb (j b o e a) y (I.base.free b o e n a)
  exact⟨D,C⟩
 ·obtain⟨o',y⟩:=I.base.there b o e a
  exact free b o' (j b o e a) y (I.base.free b o e n a)
 ·obtain⟨o',y⟩:=I.base.there b o e a
  exact there b o' (j b o e a) y
 ·obtain⟨M,y⟩:=I.base.tbls b ps e
  obtain⟨L,C⟩:=tbls b _ y
  exact⟨M++L,by rw[C,Array.append_assoc]⟩
 ·obtain⟨m,hn,N⟩:=I.loc
  refine⟨m,ns m hn,λi x v y C Q=>?_⟩
  obtain⟨u,r,l⟩:=N i x v y C Q
  refine⟨u,r,?_⟩
  rcases l with l|⟨k,c,e,z⟩
  ·exact .inl l
  ·exact .inr ⟨k,c,e,h x c e _ z⟩
 ·obtain⟨v,z⟩:=I.cell x c e
  exact⟨v,h x c e v z⟩
 ·obtain⟨m,⟨o,_,_,A,_⟩,_⟩:=I.loc
  exact free _ o (λz=>(g _ z).2.1 rfl) A I.free
 ·obtain⟨v,o,A,hd⟩:=I.cell x c e
  exact free c o (λz=>(g c z).2.2.1 x c e rfl) A (I.freeC x c e)
 ·obtain⟨e,n,ne,E,d⟩:=I.pin p G
  have f:p.1∉ch:=λz=>(g p.1 z).2.2.2 p G rfl
  exact⟨keep p.1 p.2 ne E f e n,free p.1 p.2 f e n,ne,E,d⟩
theorem Inv.un(I:Inv X qA σ H s)(u:Un X.fs [] H H' s.heap h')(hok:A4 X.prog X.w H' h'):Inv X qA σ H' { s with heap:=h',toks:=t' }:=by
 obtain⟨m,⟨o,es,ep,f,r⟩,_⟩:=id I.loc
 obtain⟨sl,h⟩:=u.any f I.free (by simp)
 exact I.step (g':=s.gens) (d':=s.drawn) (ch:=[]) (λ_ z=>nomatch z) (λb o _ hb _ e n=>u.keep b o e n hb (by simp)) (λb o _ hb _ e n=>u.slot b o e n hb (by simp)) (λb o _ e n=>u.free b o e n (by simp)) (λb o _ e=>u.there b o e (by simp)) u.tups u.frzs u.tbls (λi hm=>by
  obtain⟨o',c,d,a,g⟩:=hm
  rw[f]at a;cases a
  exact⟨_,c,d,h,g⟩) hok I.bare
theorem Inv.call{g':Array GenState}{d':Drawn}{ch:List Addr}(I:Inv X qA σ H s)(u:Un (Ca X.stack) ch H H' s.heap h')(hok:A4 X.prog X.w H' h')(q:AllBare g')
  (f:∀b∈ch,(b∈X.ex\/X.s₀.heap.objs.size<=b)/\b≠X.env.locals/\(∀x c,X.env.cells.lookup x=some c->c≠b)/\∀p∈X.pn++qA,p.1≠b) :
  Inv X qA σ H' { s with heap:=h',gens:=g',drawn:=d',toks:=t' }:=by
 obtain⟨m,⟨o,es,ep,j,r⟩,_⟩:=id I.loc
 obtain⟨sl,g⟩:=u.any j I.free λz=>(f _ z).2.1 rfl
 exact I.step (ch:=ch) f (λb o g hb a e n=>u.keep b o e n (λz=>(mem_cons.mp (I.stkSub b z)).elim g hb) a) (λb o _ _ a e n=>u.any e n a) (λb o a e n=>u.free b o e n a) (λb o a e=>u.there b o e a) u.tups u.frzs u.tbls (λv hm=>by
  obtain⟨o',h,i,d,l⟩:=hm
  rw[j]at d;cases d
  exact⟨_,h,i,g,l⟩) hok q
theorem Inv.turned(I:Inv X qA σ H s)(k:∀b o,b≠it->s.heap.get? b=some o->h'.get? b=some o)(hn:H it=none)(f:it≠X.env.locals)
  (h1:it∈X.ex\/X.s₀.heap.objs.size<=it) (h2:∀x c,X.env.cells.lookup x=some c->c≠it) (h:∀p∈X.pn++qA,p.1≠it):Inv X qA σ H { s with heap:=h',toks:=t' }:=by
 have d:∀b u,H b=some u->b≠it:=λb u e z=>by rw[z,hn]at e;cases e
 refine I.step (g':=s.gens) (d':=s.drawn) (ch:=[it]) (λb hb=>?_) (λb o _ _ a e _=>k b o (λz=>a (by simp[z])) e) (λb o _ _ a e _=>⟨o.slots,k b o (λz=>a (by simp[z])) e⟩) (λ_ _ _ _ n=>n)
  (λb o a e=>⟨o,k b o (λz=>a (by simp[z])) e⟩) (λ_ _ e=>e) (λ_ _ _ e=>e) (λb ps e=>⟨#[],by rw[e];simp⟩) (λm hm=>?_) (λb u e=>?_) I.bare
 ·have e:b=it:=by simpa using hb
  subst e
  exact⟨h1,f,h2,h⟩
 ·obtain⟨o,es,ep,g,r⟩:=hm
  exact⟨o,es,ep,k _ o (Ne.symm f) g,r⟩
 ·refine(I.hok b u e).stay (λc v a q=>k c v ?_ q) (λ_ q=>q) λ_ _ q=>q
  rcases a with z|z
  ·rw[z];exact d b u e
  ·exact d c _ z
theorem Inv.tok(I:Inv X qA σ H s)(t:Nat):Inv X qA σ H { s with toks:=t }:=I.un (h':=s.heap) (t':=t) Un.refl I.hok
theorem Inv.kept(I:Inv X qA σ H s)(k:∀b u,s.heap.get? b=some u->h'.get? b=some u):Inv X qA σ H { s with heap:=h',toks:=t' }:=I.un (Un.kept k) (I.hok.kept k)
theorem Inv.laid(I:Inv X qA σ H s)(k:∀b u,s.heap.get? b=some u->h'.get? b=some u)(c:s.heap.objs.size<=a)(new:A0 X.prog X.w (AD H a o) h' a o) :
  Inv X qA σ (AD H a o) { s with heap:=h',toks:=t' }:=I.un (Un.laid k c (I.hok.fresh c)) (I.hok.laid k c new)
theorem Inv.write{x e:Addr}(I:Inv X qA σ H s)(c:Ft (H x))(d:e=x\/H e=some (.own x))(k:∀b u,b≠e->s.heap.get? b=some u->h'.get? b=some u)(a:∃u,h'.get? e=some u)
  (new:A0 X.prog X.w (AD H x o) h' x o):Inv X qA σ (AD H x o) { s with heap:=h',toks:=t' }:=I.un (Un.write c d k a) (I.hok.write c d k a new)
theorem Inv.weak{σ':List (Option V)}(I:Inv X qA σ H s)(c:σ'.length=σ.length)(w:∀(i:Nat) v,σ'[i]?=some (some v)->σ[i]?=some (some v)):Inv X qA σ' H s :=
 ⟨I.ok,I.os,I.bare,I.base,let⟨m,hn,a⟩:=I.loc;⟨m,hn,λi x v f e d=>a i x v f (w i v e) d⟩,I.cell,I.free,I.freeC,I.pin,I.hok,c.trans I.len⟩
theorem Inv.pins_of{a:List (Addr×Obj)}(I:Inv X qA σ H s)(h:∀p∈a,s.heap.get? p.1=some p.2/\H p.1=none/\p.1≠X.env.locals/\p.1∉X.fs/\∀v,p.2.data≠.cell v):Inv X a σ H s :=
 ⟨I.ok,I.os,I.bare,I.base,I.loc,I.cell,I.free,I.freeC,λp c=>(mem_append.mp c).elim (λz=>I.pin p (mem_append_left _ z)) (h p),I.hok,I.len⟩
theorem Mn(c:N.Nodup)(a:N[i]?=some x)(b:N[j]?=some x):i=j:=by
 obtain⟨h1,e⟩:=List.getElem?_eq_some_iff.mp a
 obtain⟨h2,d⟩:=List.getElem?_eq_some_iff.mp b
 exact(getElem_inj c).mp (e.trans d.symm)
theorem Js{M:Model}{Q:Unit->Shared->Prop}(I:Inv X qA σ H s)(hN:X.N.Nodup)(hi:X.N[i]?=some x)(B:Bu X.env.scope x)(r:AG v u)
  (h:∀s',Inv X qA (σ.set i (some v)) H s'->(∃a,Heap.SameBut a s.heap s'.heap/\(a=X.env.locals\/X.env.cells.lookup x=some a))->Q () s') (hf:X.fn x=true\/X.env.scope.names.lookup x=some .local:=by trivial):wpAny M A (storeName X.env x u) Q E s:=by
 obtain⟨m,hn,hl⟩:=id I.loc
 have Y:(X.env.scope.kind==.class||(X.env.scope.kind==.module&&X.env.locals != X.env.globals))=false:=by rw[I.ok.kind];rfl
 have G:i<σ.length:=by rw[I.len];exact(List.getElem?_eq_some_iff.mp hi).1
 have cne:=I.cne
 have g:∀{a:Addr} {h':Heap},(∃o,s.heap.get? a=some o/\H a=none)->Heap.SameBut a s.heap h'->A4 X.prog X.w H h':=λ{a h'} ha f b ob e=>by
  obtain⟨_,_,C⟩:=ha
  refine(I.hok b ob e).stay (λc w' hc q=>(f.2 c ?_).trans q) (λ_ q=>q) λ_ _ q=>q
  rintro rfl
  rcases hc with rfl|hc
  ·rw[C]at e;cases e
  ·rw[C]at hc;cases hc
 rcases B with hk|hk
 ·refine wpAny_storeName_local hk hn (λh' a3 f=>?_) Y
  obtain⟨oL,_,_,a2,_⟩:=id hn
  refine h _ ⟨I.ok,I.os,I.bare,⟨λb o e n O B=>?_,λb o e n O B=>?_,I.base.free,λb o e B=>?_,I.base.tups,I.base.frzs,I.base.tbls⟩,⟨_,a3,λj y v' l D e3=>?_⟩,λy c e=>?_,I.free,I.freeC,λp hp=>?_,g ⟨oL,a2,I.free⟩ f,by simpa using I.len⟩ ⟨_,f,.inl rfl⟩
  ·exact(f.2 b (Nat.ne_of_lt (Nat.lt_of_lt_of_le (Heap.lt_size e) I.ok.above))).trans (I.base.keep b o e n O B)
  ·obtain⟨sl,l⟩:=I.base.slot b o e n O B
   exact⟨sl,(f.2 b (Nat.ne_of_lt (Nat.lt_of_lt_of_le (Heap.lt_size e) I.ok.above))).trans l⟩
  ·obtain⟨o',l⟩:=I.base.there b o e B
   exact⟨o',(f.2 b (Nat.ne_of_lt (Nat.lt_of_lt_of_le (Heap.lt_size e) I.ok.above))).trans l⟩
  ·by_cases J:j=i
   ·subst J
    rw[hi]at l;cases l
    rw[getElem?_set_self G]at D
    cases D
    exact⟨u,r,.inl ⟨hk,by simp⟩⟩
   ·rw[getElem?_set_ne (Ne.symm J)]at D
    obtain⟨u',r',q⟩:=hl j y v' l D e3
    refine⟨u',r',?_⟩
    rcases q with⟨k,e⟩|⟨k,c,e,z⟩
    ·refine .inl ⟨k,?_⟩
     have:y≠x:=λe=>J (Mn hN l (e▸hi))
     simp[this,e]
    ·exact .inr ⟨k,c,e,z.sameBut f (cne y c e)⟩
  ·obtain⟨w',z⟩:=I.cell y c e
   exact⟨w',z.sameBut f (cne y c e)⟩
  ·obtain⟨e,n,ne,nf,d⟩:=I.pin p hp
   exact⟨(f.2 p.1 ne).trans e,n,ne,nf,d⟩
 ·have L:X.fn x=true:=by
   rcases hf with z|z
   ·exact z
   ·rw[z]at hk;cases hk
  obtain⟨c,hc⟩:=I.ok.has x (.inl hk)
  obtain⟨w',z⟩:=I.cell x c hc
  refine wpAny_storeName_cell I.ok.kind hk hc z (λh' a1 f=>?_)
  obtain⟨oc,U,T⟩:=id z
  refine h { s with heap:=h' } ⟨I.ok,I.os,I.bare,⟨λb o e n O B=>?_,λb o e n O B=>?_,I.base.free,λb o e B=>?_,I.base.tups,I.base.frzs,I.base.tbls⟩,⟨m,hn.sameBut f (Ne.symm (cne x c hc)),λj y v' l D e3=>?_⟩,λy c' e=>?_,I.free,I.freeC,λp hp=>?_,g ⟨oc,U,I.freeC x c hc⟩ f,by simpa using I.len⟩ ⟨c,f,.inr hc⟩
  ·exact(f.2 b (Nat.ne_of_lt (Nat.lt_of_lt_of_le (Heap.lt_size e) (I.ok.cab x c L hc)))).trans (I.base.keep b o e n O B)
  ·obtain⟨sl,l⟩:=I.base.slot b o e n O B
   exact⟨sl,(f.2 b (Nat.ne_of_lt (Nat.lt_of_lt_of_le (Heap.lt_size e) (I.ok.cab x c L hc)))).trans l⟩
  ·obtain⟨o',l⟩:=I.base.there b o e B
   exact⟨o',(f.2 b (Nat.ne_of_lt (Nat.lt_of_lt_of_le (Heap.lt_size e) (I.ok.cab x c L hc)))).trans l⟩
  ·by_cases J:j=i
   ·subst J
    rw[hi]at l;cases l
    rw[getElem?_set_self G]at D
    cases D
    exact⟨u,r,.inr ⟨.inl hk,c,hc,a1⟩⟩
   ·rw[getElem?_set_ne (Ne.symm J)]at D
    obtain⟨u',r',q⟩:=hl j y v' l D e3
    refine⟨u',r',?_⟩
    rcases q with q|⟨k,c',e,z'⟩
    ·exact .inl q
    ·refine .inr ⟨k,c',e,z'.sameBut f ?_⟩
     rintro rfl
     exact J (Mn hN l (I.ok.inj _ _ _ e hc▸hi))
  ·by_cases a0:c'=c
   ·subst a0;exact⟨_,a1⟩
   ·obtain⟨w2,z2⟩:=I.cell y c' e
    exact⟨w2,z2.sameBut f a0⟩
  ·obtain⟨e,n,ne,nf,d⟩:=I.pin p hp
   refine⟨(f.2 p.1 ?_).trans e,n,ne,nf,d⟩
   intro q
   rw[q,U]at e
   have q':oc=p.2:=oI e
   exact d w' (by rw[<-q'];exact T)
theorem Fu{M:Model}{Q:Unit->Shared->Prop}(I:Inv X qA σ H s)(d:X.N.Nodup)(hi:X.N[i]?=some x)(a:Bu X.env.scope x)(r:AG v u)
  (h:∀s',Inv X qA (σ.set i (some v)) H s'->Q () s') (c:X.fn x=true\/X.env.scope.names.lookup x=some .local:=by trivial):wpAny M A (storeName X.env x u) Q E s :=
 Js I d hi a r (λs' e _=>h s' e) c
theorem Inv.call'{s':Shared}{ch:List Addr}(I:Inv X qA σ H s)(d:s'.os=s.os)(u:Un (Ca X.stack) ch H H' s.heap s'.heap)(hok:A4 X.prog X.w H' s'.heap)(f:AllBare s'.gens)
  (a:∀b∈ch,(b∈X.ex\/X.s₀.heap.objs.size<=b)/\b≠X.env.locals/\(∀x c,X.env.cells.lookup x=some c->c≠b)/\∀p∈X.pn++qA,p.1≠b):Inv X qA σ H' s':=by
 obtain⟨h',g',d',t',o'⟩:=s'
 have e:o'=s.os:=d
 subst e
 exact I.call (g':=g') (t':=t') (d':=d') u hok f a
end
abbrev XK:=Value->Option Addr->Hp->Prop
abbrev St:=List (Option V)
abbrev VK:=V->Hp->Prop
abbrev TE:=St->Hp->VK->Prop
end L2
variable{σ σ':L2.St}{ta tb te:L2.TE}
namespace L2
open PySem PySem.Spec PyProof.Rows
abbrev TT:=St->Hp->(Bool->Hp->Prop)->Prop
abbrev TA:=St->Hp->(List V->Hp->Prop)->Prop
structure Ends where
 nx:St->Hp->Prop
 rt:VK
 bk:St->Hp->Prop:=λ_ _=>False
 ct:St->Hp->Prop:=λ_ _=>False
abbrev TS:=Ends->St->Hp->Prop
def EP(X:Cx)(qA:List (Addr×Obj))(σ:St)(Q:VK)(u:Value)(s':Shared):Prop:=∃v H',Inv X qA σ H' s'/\AG v u/\Q v H'
def TP(X:Cx)(qA:List (Addr×Obj))(σ:St)(Q:Bool->Hp->Prop)(b:Bool)(s':Shared):Prop:=∃H',Inv X qA σ H' s'/\Q b H'
def AP(X:Cx)(qA:List (Addr×Obj))(σ:St)(Q:List V->Hp->Prop)(us:List Value)(s':Shared):Prop:=∃vs H',Inv X qA σ H' s'/\AR vs us/\Q vs H'
def SP(X:Cx)(qA:List (Addr×Obj))(D:Ends)(f:Flow)(s':Shared):Prop :=
 match f with
 |.next=>∃σ' H',Inv X qA σ' H' s'/\D.nx σ' H'
 |.brk=>∃σ' H',Inv X qA σ' H' s'/\D.bk σ' H'
 |.cont=>∃σ' H',Inv X qA σ' H' s'/\D.ct σ' H'
 |.ret u=>∃v σ' H',Inv X qA σ' H' s'/\AG v u/\D.rt v H'
def PE(X:Cx)(e:Expr)(t:TE):Prop :=
 ∀(qA:List (Addr×Obj)) (s:Shared) (σ:St) (H:Hp) (Q:VK),Inv X qA σ H s->t σ H Q->wpAny (model X.prog X.w) X.A (eval e X.env) (EP X qA σ Q) X.xe s
def PT(X:Cx)(e:Expr)(t:TT):Prop :=
 ∀(qA:List (Addr×Obj)) (s:Shared) (σ:St) (H:Hp) (Q:Bool->Hp->Prop),Inv X qA σ H s->t σ H Q->wpAny (model X.prog X.w) X.A (isTrue e X.env (eval e X.env)) (TP X qA σ Q) X.xe s
def PW(X:Cx)(e:Expr)(t:TT):Prop :=
 ∀(whole:Sem Value) (qA:List (Addr×Obj)) (s:Shared) (σ:St) (H:Hp) (Q:Bool->Hp->Prop),Inv X qA σ H s->t σ H Q->wpAny (model X.prog X.w) X.A (isTrue e X.env whole) (TP X qA σ Q) X.xe s
theorem PW.pt{e:Expr}{t:TT}(h:PW X e t):PT X e t:=h _
def PA(X:Cx)(es:List Expr)(t:TA):Prop :=
 ∀(pos:Pos) (qA:List (Addr×Obj)) (s:Shared) (σ:St) (H:Hp) (Q:List V->Hp->Prop),Inv X qA σ H s->t σ H Q->wpAny (model X.prog X.w) X.A (spliced (backTo pos (starEach es X.env))) (AP X qA σ Q) X.xe s
def PS(X:Cx)(st:Stmt)(t:TS):Prop :=
 ∀(qA:List (Addr×Obj)) (s:Shared) (σ:St) (H:Hp) (D:Ends),Inv X qA σ H s->t D σ H->wpAny (model X.prog X.w) X.A (exec st X.env) (SP X qA D) X.xe s
def BY(X:Cx)(st:List Stmt)(t:TS):Prop :=
 ∀(qA:List (Addr×Obj)) (s:Shared) (σ:St) (H:Hp) (D:Ends),Inv X qA σ H s->t D σ H->wpAny (model X.prog X.w) X.A (execs st X.env) (SP X qA D) X.xe s
theorem AH{α:Type}{t:Sem α}{Q c:α->Shared->Prop}{M:Model}(h:wpAny M A t Q E s)(d:∀a s,Q a s->c a s):wpAny M A t c E s:=wpAny_mono h d λ_ _ x=>x
section
def Cb(i:Nat):TE:=λσ H Q=>∃v,σ[i]?=some (some v)/\Q v H
def tC(v:V):TE:=λ_ H Q=>Q v H
theorem Ds(w:X.N[i]?=some x)(n:Cv X.env.scope x)(f:(x==("__debug__":Str))=false:=by decide)(g:(x==("__classdict__":Str))=false:=by decide):PE X (.Name x pos) (Cb i):=by
 intro qA s σ H Q I h
 obtain⟨v,e,h⟩:=h
 obtain⟨m,o,q⟩:=I.loc
 obtain⟨u,r,l⟩:=q i x v w e n
 have d:EP X qA σ Q u s:=⟨v,H,I,r,h⟩
 rcases l with⟨hk,p⟩|⟨hk,c,j,a⟩
 ·exact wpAny_Name (wpAny_loadName_local I.ok.kind hk o p d) f
 ·rcases hk with hk|hk
  ·exact wpAny_Name (wpAny_loadName_cell I.ok.kind hk j a d) f
  ·exact wpAny_Name (wpAny_loadName_free I.ok.kind hk j a d g) f
theorem Ag{i j pos}:PE X (.Constant (.int i) j pos) (tC (.int i)):=λ_ _ _ H _ I h=>wpAny_Constant_int ⟨.int i,H,I.tok _,⟨_,rfl⟩,h⟩
theorem SU{b j pos}:PE X (.Constant (.bool b) j pos) (tC (.bl b)):=λ_ _ _ H _ I h=>Constant_bool ⟨.bl b,H,I,rfl,h⟩
theorem SV{j pos}:PE X (.Constant .none j pos) (tC .non):=λ_ _ _ H _ I h=>Constant_none ⟨.non,H,I,rfl,h⟩
theorem Jt{x j pos}:PE X (.Constant (.str x) j pos) (tC (.str x)):=λ_ _ _ H _ I h=>Calls.Constant_str ⟨.str x,H,I.tok _,⟨_,rfl⟩,h⟩
def Gl(X:Cx)(x:Str):Prop:=X.env.kindOf x=some .globalImplicit
theorem Mo(I:Inv X qA σ H s)(c:Gl X x)(a:X.mg x=some u)(h:Q u s)
  (d:(x==("__debug__":Str))=false:=by decide):wpAny (model X.prog X.w) X.A (eval (.Name x pos) X.env) Q E s :=
 Calls.Name_function_global I.ok.kind c (Calls.loadGlobal_global (by rw[I.ok.glob];exact I.mod.glob.keeps I.bk) a h) d
theorem Eu(I:Inv X qA σ H s)(e:Gl X x)(d:X.mg x=none)(a:bootBuiltins x=some u)(h:Q u s)
  (c:x≠"__name__":=by decide) (f:(x==("__debug__":Str))=false:=by decide):wpAny (model X.prog X.w) X.A (eval (.Name x pos) X.env) Q E s:=by
 obtain⟨g,h1,h2⟩:=I.mod.blt
 exact Calls.Name_function_global I.ok.kind e (Calls.loadGlobal_builtin (by rw[I.ok.glob];exact I.mod.glob.keeps I.bk) d (by rw[I.ok.blt];exact h1.keeps I.bk) ((h2 x c).trans a) h) f
theorem SW(c:Gl X x)(a:X.mg x=some u)(r:AG v u)(d:(x==("__debug__":Str))=false:=by decide):PE X (.Name x pos) (tC v) :=
 λ_ _ _ H _ I h=>Mo I c a ⟨v,H,I,r,h⟩ d
theorem SX(e:Gl X x)(d:X.mg x=none)(a:bootBuiltins x=some u)(r:AG v u)(c:x≠"__name__":=by decide)(f:(x==("__debug__":Str))=false:=by decide):PE X (.Name x pos) (tC v) :=
 λ_ _ _ H _ I h=>Eu I e d a ⟨v,H,I,r,h⟩ c f
variable{a b:Expr}
def tB(t:TE):TT:=λσ H Q=>t σ H λx H1=>∃c,x=.bl c/\Q c H1
theorem SY{e:Expr}{t:TE}(h:PE X e t)(i:∀a,isTrue e X.env a=(do let v <-a;standAt e.pos;holding [v] (truthy v)):=by intro _;rfl):PT X e (tB t):=by
 intro qA s σ H Q I g
 refine isTrue_plain (AH (h qA s σ H _ I g) λv l ⟨x,H1,j,c,f⟩=>?_) (i _)
 obtain⟨d,rfl,q⟩:=f
 cases c
 exact wpAny_truthy_bool ⟨H1,j,q⟩
variable{tA tB':TT}{qF:List Expr}
def SZ(t u:TT):TT:=λσ H Q=>t σ H λc H1=>if c=true then u σ H1 Q else Q false H1
def Sa(t u:TT):TT:=λσ H Q=>t σ H λc H1=>if c=true then Q true H1 else u σ H1 Q
def Sb(t:TT):TT:=λσ H Q=>t σ H λc H1=>Q (!c) H1
theorem Sc(d:PT X a tA):PW X (.BoolOp .And [a] pos) tA:=by
 intro f qA s σ H Q I h
 refine isTrue_and (AH (d qA s σ H Q I h) λc g e=>?_)
 cases c with
 |true=>exact isTrue_and_nil e
 |false=>exact e
theorem Mp(d:PT X a tA):PW X (.BoolOp .Or [a] pos) tA:=by
 intro f qA s σ H Q I h
 refine isTrue_or (AH (d qA s σ H Q I h) λc g e=>?_)
 cases c with
 |false=>exact isTrue_or_nil e
 |true=>exact e
theorem Sd(j:PT X a tA)(i:PW X (.BoolOp .And (b::qF) pos) tB'):PW X (.BoolOp .And (a::b::qF) pos) (SZ tA tB'):=by
 intro f qA s σ H Q I h
 refine isTrue_and (AH (j qA s σ H _ I h) λc g ⟨H1,e,d⟩=>?_)
 cases c with
 |true=>exact i f qA g σ H1 Q e d
 |false=>exact⟨H1,e,d⟩
theorem Mq(j:PT X a tA)(i:PW X (.BoolOp .Or (b::qF) pos) tB'):PW X (.BoolOp .Or (a::b::qF) pos) (Sa tA tB'):=by
 intro f qA s σ H Q I h
 refine isTrue_or (AH (j qA s σ H _ I h) λc g ⟨H1,e,d⟩=>?_)
 cases c with
 |true=>exact⟨H1,e,d⟩
 |false=>exact i f qA g σ H1 Q e d
theorem Se(d:PT X a tA):PT X (.UnaryOp .Not a pos) (Sb tA):=by
 intro qA s σ H Q I h
 exact isTrue_not (d qA s σ H (λc H1=>Q (!c) H1) I h)
def Sf(ta tb:TE):TE:=λσ H Q=>ta σ H λx H1=>∃c,x=.bl c/\if c=true then tb σ H1 Q else Q (.bl false) H1
def Sg(ta:TE):TE:=λσ H Q=>ta σ H λx H1=>∃c,x=.bl c/\Q (.bl (!c)) H1
theorem Si{op}{t:TE}(h:PE X a t):PE X (.BoolOp op [a] pos) t:=λqA s σ H Q I c=>BoolOp_one (h qA s σ H Q I c)
theorem Sj(j:PE X a ta)(i:PE X (.BoolOp .And (b::qF) pos) tb):PE X (.BoolOp .And (a::b::qF) pos) (Sf ta tb):=by
 intro qA s σ H Q I h
 refine BoolOp_and (AH (j qA s σ H _ I h) λv f ⟨x,H1,e,g,d⟩=>?_)
 obtain⟨c,rfl,d⟩:=d
 cases g
 refine wpAny_truthy_bool ?_
 cases c with
 |true=>exact i qA f σ H1 Q e d
 |false=>exact⟨.bl false,H1,e,rfl,d⟩
theorem Sk(f:PE X a ta):PE X (.UnaryOp .Not a pos) (Sg ta):=by
 intro qA s σ H Q I h
 refine UnaryOp_ (AH (f qA s σ H _ I h) λv i ⟨x,H1,g,e,d⟩=>?_)
 obtain⟨c,rfl,d⟩:=d
 cases e
 exact not_of (wpAny_truthy_bool ⟨.bl (!c),H1,g,rfl,d⟩)
end
def Au(K:Fg)(H:Hp)(a:Addr)(xs:List V):Prop :=
 Rd H a (.lst xs) \/
  ∃(o:Obj) (qH:Array Value) (n:Nat),K.lookup a=some o/\o.cls=.type "list"/\o.dict=none/\o.data=.seq qH n/\qH.size<=sizeLine/\AR xs qH.toList
def Bh(K:Fg)(H:Hp)(a:Addr)(xs:List V):Prop :=
 Rd H a (.tup xs) \/
  ∃(o:Obj) (qH:Array Value) (n:Nat),K.lookup a=some o/\o.cls=.type "tuple"/\o.data=.seq qH n/\qH.size<=sizeLine/\AR xs qH.toList
def Sl:Value->Option V
 |.none=>some .non
 |.bool b=>some (.bl b)
 |.int i _=>some (.int i)
 |.str x _=>some (.str x)
 |.bytes b _=>some (.byt b)
 |.float b _=>some (.flt b)
 |.ref a=>some (.ref a)
 |.type n=>some (.ty n)
 |_=>none
theorem AG.abs{x:V}(r:AG x u):Sl u=some x:=by
 cases x with
 |non=>cases r;rfl
 |bl _=>cases r;rfl
 |int _=>obtain⟨t,rfl⟩:=r;rfl
 |str _=>obtain⟨t,rfl⟩:=r;rfl
 |byt _=>obtain⟨t,rfl⟩:=r;rfl
 |flt _=>obtain⟨t,rfl⟩:=r;rfl
 |ref _=>cases r;rfl
 |ty _=>cases r;rfl
theorem AG.inj{x y:V}(r:AG x u)(q:AG y u):x=y:=oI (r.abs.symm.trans q.abs)
theorem AR.inj:∀{xs ys:List V} {us:List Value},AR xs us->AR ys us->xs=ys
 |_,_,_,.nil,.nil=>rfl
 |_,_,_,.cons r t,.cons a t'=>by rw[r.inj a,AR.inj t t']
section
variable{xs ys:List V}
theorem Au.of{K:Fg}(h:H a=some (.lst xs)):Au K H a xs:=.inl (.inl h)
theorem Bh.of{K:Fg}(h:H a=some (.tup xs)):Bh K H a xs:=.inl (.inl h)
theorem Inv.list(I:Inv X qA σ H s)(h:Au X.K H a xs):∃qH:List Value,AR xs qH/\PlainL s.heap a qH.toArray/\xs.length<=sizeLine:=by
 rcases h with h|⟨o,qH,n,d,f,hd,c,g,r⟩
 ·obtain⟨z,qH,n,r,e⟩:=h.ok I.hok
  exact⟨qH,r,⟨_,n,e,rfl,rfl,rfl⟩,z⟩
 ·refine⟨qH.toList,r,⟨o,n,I.kIn a o d,f,hd,by simpa using c⟩,?_⟩
  have e:=r.length
  simp only[Array.length_toList]at e
  lia
theorem Inv.tuple(I:Inv X qA σ H s)(h:Bh X.K H a xs):∃qH:List Value,AR xs qH/\IsTup s.heap a qH.toArray/\xs.length<=sizeLine:=by
 rcases h with h|⟨o,qH,n,d,f,c,g,r⟩
 ·obtain⟨z,qH,r,p⟩:=h.ok I.hok
  exact⟨qH,r,p.tup,z⟩
 ·refine⟨qH.toList,r,⟨o,I.kIn a o d,f,n,by simpa using c⟩,?_⟩
  have e:=r.length
  simp only[Array.length_toList]at e
  lia
theorem Inv.list_inj(I:Inv X qA σ H s)(h:Au X.K H a xs)(h':Au X.K H a ys):xs=ys:=by
 obtain⟨qH,r,⟨o,n,e,_,_,d⟩,_⟩:=I.list h
 obtain⟨its',g,⟨o',j,c,_,_,f⟩,_⟩:=I.list h'
 rw[e]at c;cases c
 rw[d]at f
 injection f with i _
 have:qH=its':=by simpa using congrArg Array.toList i
 subst this
 exact r.inj g
theorem Inv.tuple_inj(I:Inv X qA σ H s)(h:Bh X.K H a xs)(h':Bh X.K H a ys):xs=ys:=by
 obtain⟨qH,r,⟨o,e,_,n,d⟩,_⟩:=I.tuple h
 obtain⟨its',g,⟨o',c,_,j,f⟩,_⟩:=I.tuple h'
 rw[e]at c;cases c
 rw[d]at f
 injection f with i _
 have:qH=its':=by simpa using congrArg Array.toList i
 subst this
 exact r.inj g
end
abbrev Cx.wish(X:Cx)(E:VS):Cx:={ X with xe:=E }
abbrev Cx.nox(X:Cx):Cx:=X.wish λ_ _=>False
theorem Cx.Ok.wish(ok:X.Ok)(E:VS):(X.wish E).Ok :=
 ⟨ok.mod,ok.kind,ok.glob,ok.blt,ok.above,ok.inj,ok.has,ok.cab,ok.hd,ok.frames,ok.stk,ok.exf,ok.bs,ok.bsz,ok.noex,ok.exfs,ok.funs,ok.frf⟩
theorem Cx.Ok.unwish(ok:(X.wish E).Ok):X.Ok :=
 ⟨ok.mod,ok.kind,ok.glob,ok.blt,ok.above,ok.inj,ok.has,ok.cab,ok.hd,ok.frames,ok.stk,ok.exf,ok.bs,ok.bsz,ok.noex,ok.exfs,ok.funs,ok.frf⟩
theorem Inv.wish(I:Inv X qA σ H s)(E:VS):Inv (X.wish E) qA σ H s:=⟨I.ok.wish E,I.os,I.bare,I.base,I.loc,I.cell,I.free,I.freeC,I.pin,I.hok,I.len⟩
theorem Inv.unwish(I:Inv (X.wish E) qA σ H s):Inv X qA σ H s:=⟨I.ok.unwish,I.os,I.bare,I.base,I.loc,I.cell,I.free,I.freeC,I.pin,I.hok,I.len⟩
theorem SP.unwish{D:Ends}{f:Flow}{s':Shared}(h:SP (X.wish E) qA D f s'):SP X qA D f s':=by
 cases f with
 |next=>obtain⟨σ',H',I,q⟩:=h;exact⟨σ',H',I.unwish,q⟩
 |brk=>obtain⟨σ',H',I,q⟩:=h;exact⟨σ',H',I.unwish,q⟩
 |cont=>obtain⟨σ',H',I,q⟩:=h;exact⟨σ',H',I.unwish,q⟩
 |ret u=>obtain⟨v,σ',H',I,r,q⟩:=h;exact⟨v,σ',H',I.unwish,r,q⟩
theorem BY.nox{st:List Stmt}{t:TS}(h:BY X.nox st t):BY X st t:=λqA s σ H D I a =>
 wpAny_mono (h qA s σ H D (I.wish _) a) (λ_ _ q=>q.unwish) λ_ _ z=>False.elim z
section
variable{st:Stmt}{qF:List Stmt}{t u:TS}{e:Expr}
def Sm:TS:=λD σ H=>D.nx σ H
def Sn(t u:TS):TS:=λD σ H=>t { D with nx:=u D } σ H
theorem Fv:BY X [] Sm:=λ_ _ σ H _ I h=>wpAny_execs_nil ⟨σ,H,I,h⟩
theorem Bi(h1:PS X st t)(h2:BY X qF u):BY X (st::qF) (Sn t u):=by
 intro qA s σ H D I h
 refine wpAny_execs_cons (AH (h1 qA s σ H { D with nx:=u D } I h) λf a q=>?_)
 cases f with
 |next =>
  obtain⟨σ',H',c,q⟩:=q
  exact h2 qA a σ' H' D c q
 |ret v=>exact q
 |brk=>exact q
 |cont=>exact q
theorem Cc(h1:PS X st t):BY X [st] t:=by
 intro qA s σ H D I h
 refine wpAny_execs_cons (AH (h1 qA s σ H D I h) λf a q=>?_)
 cases f with
 |next=>exact wpAny_execs_nil q
 |ret v=>exact q
 |brk=>exact q
 |cont=>exact q
theorem Inv.quiet(I:Inv X qA σ H s):interactive X.env=false:=by simp[interactive,I.ok.kind]
def Ju(te:TE):TS:=λD σ H=>te σ H λ_ H1=>D.nx σ H1
theorem Jv(d:PE X e te)(c:swapsWith e none pos.line X.env=pure false:=by rfl):PS X (.Expr e pos) (Ju te):=by
 intro qA s σ H D I h
 exact wpAny_Expr_any (AH (d qA s σ H _ I h) λv g ⟨x,H1,f,i,a⟩=>⟨σ,H1,f,a⟩) I.quiet c
def Sq(te:TE):TS:=λD σ H=>te σ H D.rt
theorem Ev(d:PE X e te):PS X (.Return (some e) pos) (Sq te):=by
 intro qA s σ H D I h
 exact wpAny_Return_some (AH (d qA s σ H _ I h) λv g ⟨x,H1,f,a,c⟩=>⟨x,σ,H1,f,a,c⟩)
def Sr(c:TT)(t u:TS):TS:=λD σ H=>c σ H λb H1=>if b=true then t D σ H1 else u D σ H1
theorem Fw{a b:List Stmt}{tc:TT}(i:PT X c tc)(l:BY X a t)(j:BY X b u):PS X (.If c a b pos) (Sr tc t u):=by
 intro qA s σ H D I h
 refine wpAny_If (AH (i qA s σ H _ I h) λd e ⟨H1,g,f⟩=>?_)
 cases d with
 |true=>exact l qA e σ H1 D g f
 |false=>exact j qA e σ H1 D g f
def Ss:TS:=λ_ _ _=>False
theorem Su:PS X st Ss:=λ_ _ _ _ _ _ h=>h.elim
end
abbrev TG:=V->St->Hp->(St->Hp->Prop)->Prop
abbrev Dt:=List V->St->Hp->(St->Hp->Prop)->Prop
def PG(X:Cx)(target:Expr)(t:TG):Prop :=
 ∀(qA:List (Addr×Obj)) (s:Shared) (σ:St) (H:Hp) (v:V) (u:Value) (Q:St->Hp->Prop),Inv X qA σ H s->AG v u->t v σ H Q ->
  wpAny (model X.prog X.w) X.A (assign target X.env u) (λ_ s'=>∃σ' H',Inv X qA σ' H' s'/\Q σ' H') X.xe s
def EK(X:Cx)(ts:List Expr)(t:Dt):Prop :=
 ∀(qA:List (Addr×Obj)) (s:Shared) (σ:St) (H:Hp) (vs:List V) (us:List Value) (Q:St->Hp->Prop),Inv X qA σ H s->AR vs us->t vs σ H Q ->
  wpAny (model X.prog X.w) X.A (assignInOrder ((assignEach ts X.env).map (·.2)) us) (λ_ s'=>∃σ' H',Inv X qA σ' H' s'/\Q σ' H') X.xe s
abbrev Fx:=V->V->V->Hp->(Hp->Prop)->Prop
def Jw(X:Cx)(t:Fx):Prop :=
 ∀(qA:List (Addr×Obj)) (s:Shared) (σ:St) (H:Hp) (o i v:V) (ov iv u:Value) (Q:Hp->Prop),Inv X qA σ H s->AG o ov->AG i iv->AG v u->t o i v H Q ->
  wpAny (model X.prog X.w) X.A (setItem ov iv u) (λ_ s'=>∃H',Inv X qA σ H' s'/\Q H') X.xe s
abbrev Ew:=V->V->Hp->VK->Prop
def Ey(X:Cx)(op:Operator)(t:Ew):Prop :=
 ∀(qA:List (Addr×Obj)) (s:Shared) (σ:St) (H:Hp) (x y:V) (v u:Value) (Q:VK),Inv X qA σ H s->AG x v->AG y u->t x y H Q ->
  wpAny (model X.prog X.w) X.A (inplaceOp op v u) (EP X qA σ Q) X.xe s
def Cd(i:Nat):TG:=λv σ H Q=>Q (σ.set i (some v)) H
theorem A1(d:X.N.Nodup)(hi:X.N[i]?=some x)(a:Bu X.env.scope x)(c:X.fn x=true\/X.env.scope.names.lookup x=some .local:=by trivial):PG X (.Name x pos) (Cd i):=by
 intro qA s σ H v u Q I r h
 exact wpAny_assign_Name (Fu I d hi a r (λs' e=>⟨_,H,e,h⟩) c)
def Jx:Dt:=λvs σ H Q=>vs=[]/\Q σ H
def HY(t:TG)(u:Dt):Dt:=λvs σ H Q=>∃v r,vs=v::r/\t v σ H λσ' H'=>u r σ' H' Q
theorem Ce:EK X [] Jx:=by
 intro qA s σ H vs us Q I r h
 obtain⟨e,h⟩:=h
 subst e
 cases r
 exact assignInOrder_nil ⟨σ,H,I,h⟩
theorem BI{e:Expr}{t:TG}{u:Dt}(h1:PG X e t)(h2:EK X es u)
  (g:(assignEach (e::es) X.env).map (·.2)=assign e X.env::(assignEach es X.env).map (·.2):=by rfl):EK X (e::es) (HY t u):=by
 intro qA s σ H vs us Q I r h
 obtain⟨v,l,i,h⟩:=h
 subst i
 cases r with
 |cons r d =>
  rw[g]
  refine assignInOrder_cons (AH (h1 qA s σ H _ _ _ I r h) λ_ c ⟨a,H1,j,f⟩=>?_)
  exact h2 qA c a H1 _ _ Q j d f
def EL(K:Fg)(n:Nat)(t:Dt):TG:=λv σ H Q=>∃a xs,v=.ref a/\Bh K H a xs/\xs.length=n/\t xs σ H Q
theorem Jy{k:Nat}{t:Dt}(p:X.calm=true)(h:EK X es t)
  (j:(assignEach es X.env).length=n:=by rfl) (d:(assignEach es X.env).findIdx? (·.1)=none:=by rfl):PG X (.Tuple es k pos) (EL X.K n t):=by
 intro qA s σ H v u Q I r c
 obtain⟨a,xs,q,i,l,c⟩:=c
 subst q
 cases r
 obtain⟨qH,rv,g,x⟩:=I.tuple i
 refine assign_Tuple_tuple (I.ok.hd p) g (by simp[j,<-l,rv.length]) d λh' f=>?_
 have w:Inv X qA σ H { s with heap:=h' }:=I.kept (t':=s.toks) λb o e=>f b o (Nat.ne_of_lt (Heap.lt_size e)) e
 exact h qA _ σ H xs _ Q w (by simpa using rv) c
def Mr(to ti:TE)(t:Fx):TG:=λv σ H Q=>to σ H λo H1=>ti σ H1 λi H2=>t o i v H2 λH3=>Q σ H3
theorem Jz{o i:Expr}{to d:TE}{t:Fx}(w:PE X o to)(hi:PE X i d)(q:Jw X t)
  (z:∀v,assign (.Subscript o i pos) X.env v=(do
   let a <-holding [v] (eval o X.env)
   let c <-holding [v,a] (eval i X.env)
   standAt pos
   holding [v,a,c] (setItem a c v)
   release [v,a,c] []):=by intro _;rfl):PG X (.Subscript o i pos) (Mr to d t):=by
 intro qA s σ H v u Q I r h
 rw[z]
 refine wB (wpAny_holding (AH (w qA s σ H _ I h) λa f ⟨x,H1,C,j,p⟩=>?_))
 refine wB (wpAny_holding (AH (hi qA f σ H1 _ C p) λc e ⟨y,H2,B,g,n⟩=>?_))
 refine wB (wpAny_standAt (wB (wpAny_holding (AH (q qA e σ H2 x y v a c u _ B j g r n) λ_ E ⟨D,A,l⟩=>?_))))
 exact wpAny_release ⟨σ,D,A,l⟩
def Da(te:TE)(g:TG):TS:=λD σ H=>te σ H λx H1=>g x σ H1 D.nx
theorem J0{e:Expr}{g:TG}(j:PE X e te)(i:PG X tg g)(f:swapsWithSole [tg] e pos.line X.env=pure false:=by rfl)(hw:swappedStores [tg] e X.env=pure none:=by rfl)
  (h1:(assignEach [tg] X.env).map (·.2)=[assign tg X.env]:=by rfl):PS X (.Assign [tg] e pos) (Da te g):=by
 intro qA s σ H D I h
 refine wpAny_Assign_stores (AH (j qA s σ H _ I h) λv a ⟨x,H1,l,c,d⟩=>?_) f hw
 rw[h1]
 exact AH (i qA a σ H1 x v _ l c d) λ_ n q=>q
theorem B5{e:Expr}(l:X.N.Nodup)(hi:X.N[i]?=some x)(d:Bu X.env.scope x)(j:PE X e te)(f:swapsWith e (some (.Name x pos')) pos.line X.env=pure false:=by rfl)(g:X.fn x=true\/X.env.scope.names.lookup x=some .local:=by trivial) :
  PS X (.Assign [.Name x pos'] e pos) (Da te (Cd i)):=by
 intro qA s σ H D I h
 refine wpAny_Assign_Name (AH (j qA s σ H _ I h) λv q ⟨y,H1,o,a,c⟩=>?_) f
 exact Fu o l hi d a (λp n=>⟨_,H1,n,c⟩) g
def Sv(i:Nat)(te:TE)(ti:Ew):TS:=λD σ H=>∃x,σ[i]?=some (some x)/\te σ H λy H1=>ti x y H1 λz H2=>D.nx (σ.set i (some z)) H2
theorem Sw{e:Expr}{op:Operator}{n:Ew}(U:X.N.Nodup)(hi:X.N[i]?=some x)(j:Bu X.env.scope x)(Q:PE X e te)(G:Ey X op n)(O:X.fn x=true\/X.env.scope.names.lookup x=some .local:=by trivial) :
  PS X (.AugAssign (.Name x pos') op e pos) (Sv i te n):=by
 intro qA s σ H D I h
 obtain⟨v,Y,h⟩:=h
 obtain⟨m,J,M⟩:=I.loc
 have g:Cv X.env.scope x:=by rcases j with k|k;exact .inl k;exact .inr (.inl k)
 obtain⟨u,r,l⟩:=M i x v hi Y g
 refine wpAny_AugAssign_Name ?_
 have o:wpAny (model X.prog X.w) X.A (eval e X.env) (λw f=>wpAny (model X.prog X.w) X.A (inplaceOp op u w) (λr d=>wpAny (model X.prog X.w) X.A (storeName X.env x r) (λ_=>SP X qA D .next) X.xe d) X.xe f) X.xe s:=by
  refine AH (Q qA s σ H _ I h) λw p ⟨y,H1,I1,B,E⟩=>?_
  refine AH (G qA p σ H1 v y u w _ I1 r B E) λz s2 ⟨zv,H2,I2,q,C⟩=>?_
  exact Fu I2 U hi j q (λs3 I3=>⟨_,H2,I3,C⟩) O
 rcases l with⟨hk,L⟩|⟨hk,c,T,a⟩
 ·exact wpAny_loadName_local I.ok.kind hk J L o
 ·rcases hk with hk|hk
  ·exact wpAny_loadName_cell I.ok.kind hk T a o
  ·rcases j with k|k
   ·have:X.env.scope.names.lookup x=some .free:=hk
    rw[k]at this;cases this
   ·have:X.env.scope.names.lookup x=some .free:=hk
    rw[k]at this;cases this
def Ms(to ti te:TE)(tget:V->V->Hp->VK->Prop)(tip:Ew)(tset:Fx):TS:=λD σ H=>to σ H λo H1=>ti σ H1 λi H2=>tget o i H2 λx H3=>te σ H3 λy H4=>tip x y H4 λz H5=>tset o i z H5 λH6=>D.nx σ H6
def Mt(X:Cx)(t:V->V->Hp->VK->Prop):Prop :=
 ∀(qA:List (Addr×Obj)) (s:Shared) (σ:St) (H:Hp) (o i:V) (ov iv:Value) (Q:VK),Inv X qA σ H s->AG o ov->AG i iv->t o i H Q ->
  wpAny (model X.prog X.w) X.A (getItem ov iv) (EP X qA σ Q) X.xe s
theorem Mu{o i e:Expr}{to n:TE}{c:V->V->Hp->VK->Prop}{g:Ew}{a:Fx}{op:Operator}{tpos:Pos}(Y:PE X o to)(hi:PE X i n)(hg:Mt X c)(he:PE X e te)(U:Ey X op g)(T:Jw X a)
  (ha:∀d f new,augStore i d f new=(do holding [new,d,f] (setItem d f new);release [new,d,f] [];pure .next):=by intros;rfl):PS X (.AugAssign (.Subscript o i tpos) op e pos) (Ms to n te c g a):=by
 intro qA s σ H D I h
 refine wpAny_AugAssign_SubscriptAny (AH (Y qA s σ H _ I h) λd B ⟨x1,H1,I1,q,Q⟩=>?_) ha
 refine AH (hi qA B σ H1 _ I1 Q) λf A ⟨l,H2,I2,p,O⟩=>?_
 refine AH (hg qA A σ H2 x1 l d f _ I2 q p O) λj z ⟨w,H3,I3,G,N⟩=>?_
 refine AH (he qA z σ H3 _ I3 N) λv y ⟨u,H4,I4,E,M⟩=>?_
 refine AH (U qA y σ H4 w u j v _ I4 G E M) λnew x ⟨r,H5,I5,C,L⟩=>?_
 exact AH (T qA x σ H5 x1 l r d f new _ I5 q p C L) λ_ s6 ⟨H6,I6,J⟩=>⟨σ,H6,I6,J⟩
def Fy(f:Int->Int->Int):Ew:=λx y H Q=>∃i j,x=.int i/\y=.int j/\Q (.int (f i j)) H
theorem J1:Ey X .Add (Fy λi j=>i+j):=by
 intro qA s σ H x y v u Q I c a h
 obtain⟨i,j,e,d,q⟩:=h
 subst e;subst d
 obtain⟨t,rfl⟩:=c
 obtain⟨t',rfl⟩:=a
 exact iadd_int ⟨.int _,H,I.tok _,⟨_,rfl⟩,q⟩
theorem Mv:Ey X .Sub (Fy λi j=>i - j):=by
 intro qA s σ H x y v u Q I c a h
 obtain⟨i,j,e,d,q⟩:=h
 subst e;subst d
 obtain⟨t,rfl⟩:=c
 obtain⟨t',rfl⟩:=a
 exact isub_int ⟨.int _,H,I.tok _,⟨_,rfl⟩,q⟩
def Sx(c:TT)(tb:TS):TS:=λD σ H=>∃W:Nat->St->Hp->Prop,(∃m,W m σ H)/\∀m σ H,W m σ H ->
 c σ H λb H1=>if b=true then∃N:St->Hp->Prop,(∀σ' H',N σ' H'->∃m',m'<m/\W m' σ' H')/\tb { D with nx:=N,ct:=N,bk:=D.nx } σ H1 else D.nx σ H1
theorem Sy{body:List Stmt}{tc:TT}{tb:TS}(u:PassesOwn (model X.prog X.w) X.A X.env X.xe)(J:PT X c tc)(L:BY X body tb):PS X (.While c body [] pos) (Sx tc tb):=by
 intro qA s σ H D I h
 obtain⟨W,⟨G,B⟩,e⟩:=h
 refine wpAny_While (codeAny_whileLoop (λn s'=>∃σ' H',Inv X qA σ' H' s'/\W n σ' H') ?_ G ⟨σ,H,I,B⟩)
 rintro n E ⟨d,H1,M,z⟩
 refine wpAny_passesOwn u (AH (J qA E d H1 _ M (e n d H1 z)) λb C ⟨H2,y,j⟩=>?_)
 cases b with
 |true =>
  obtain⟨N,x,j⟩:=j
  rw[if_pos rfl]
  refine wpAny_passesOwn u (AH (L qA C d H2 _ y j) λf O i=>?_)
  cases f with
  |next =>
   obtain⟨a,g,r,o⟩:=i
   obtain⟨p,q,l⟩:=x a g o
   exact⟨p,q,a,g,r,l⟩
  |cont =>
   obtain⟨a,g,r,o⟩:=i
   obtain⟨p,q,l⟩:=x a g o
   exact⟨p,q,a,g,r,l⟩
  |brk=>exact i
  |ret v=>exact i
 |false =>
  rw[if_neg Bool.false_ne_true]
  exact wpAny_execs_nil ⟨d,H2,y,j⟩
structure It where
 go:Nat->Hp->Prop
 yld:Nat->Hp->V->Hp->Prop
 stop:Nat->Hp->Prop
def B1(X:Cx)(qA:List (Addr×Obj))(H:Hp)(b:Addr):Prop :=
 H b=none/\b≠X.env.locals/\b∉X.fs/\(b∈X.ex\/X.s₀.heap.objs.size<=b)/\(∀x c,X.env.cells.lookup x=some c->c≠b)/\∀p∈X.pn++qA,p.1≠b
theorem Inv.fpOk{b:Addr}(I:Inv X qA σ H s)(hb:s.heap.objs.size<=b)(hn:H' b=none):B1 X qA H' b:=by
 refine⟨hn,Nat.ne_of_gt (Nat.lt_of_lt_of_le I.lt hb),I.nofs hb,.inr (Nat.le_trans I.sz hb),λx c e z=>?_,λp a z=>?_⟩
 ·obtain⟨v,q⟩:=I.cell x c e
  exact absurd (Nat.lt_of_lt_of_le q.lt (by rw[z];exact hb)) (Nat.lt_irrefl _)
 ·exact absurd (Nat.lt_of_lt_of_le (Heap.lt_size (I.pin p a).1) (by rw[z];exact hb)) (Nat.lt_irrefl _)
structure Turn(P:Program)(w:World)(K:Fg)(tg:Expr)(J:It)(fp:List Addr)(it:Addr)(tn:Nat->Heap->Prop):Prop where
 mem:it∈fp
 obj:∀i h,tn i h->∀b∈fp,∃o,h.get? b=some o/\∀v,o.data≠.cell v
 keep:∀i h h',tn i h->(∀b∈fp,∀o,h.get? b=some o->h'.get? b=some o)->tn i h'
 item:∀(X:Cx),X.prog=P->X.w=w->X.K=K->X.calm=true->∀(i:Nat) (qA:List (Addr×Obj)) (s:Shared) (σ:St) (H:Hp) (E:VS),Inv X qA σ H s->(∀b∈fp,B1 X qA H b)->tn i s.heap->J.go i H ->
  wpAny (model P w) X.A (pyNext (.ref it)) (λr s1=>∃u,r=some u /\
   wpAny (model P w) X.A (letOwnedTupleGo tg (.ref it) u) (λ_ s2=>∃x H',Inv X qA σ H' s2/\AG x u/\J.yld i H x H'/\tn (i+1) s2.heap/\∀b∈fp,H' b=none) E s1) E s
 done:∀(X:Cx),X.prog=P->X.w=w->X.K=K->X.calm=true->∀(i:Nat) (qA:List (Addr×Obj)) (s:Shared) (σ:St) (H:Hp) (E:VS),Inv X qA σ H s->(∀b∈fp,B1 X qA H b)->tn i s.heap->J.stop i H ->
  wpAny (model P w) X.A (pyNext (.ref it)) (λr s1=>r=none/\Inv X qA σ H s1) E s
 self:∀(A:Around) (i:Nat) (s:Shared) (Q:VS) (E:VS),tn i s.heap->Q (.ref it) s->wpAny (model P w) A (pyIter (.ref it)) Q E s
abbrev TI:=St->Hp->(It->Hp->Prop)->Prop
end L2
variable{g:L2.TG}{wi:L2.TI}{tt:L2.TT}
namespace L2
open PySem PySem.Spec PyProof.Rows
def Mw(X:Cx)(qA:List (Addr×Obj))(σ:St)(tg:Expr)(R:It->Hp->Prop)(itv:Value)(s2:Shared):Prop :=
 ∃(it:Addr) (fp:List Addr) (tn:Nat->Heap->Prop) (J:It) (H':Hp),itv=.ref it/\Inv X qA σ H' s2/\Turn X.prog X.w X.K tg J fp it tn/\tn 0 s2.heap/\(∀b∈fp,B1 X qA H' b)/\R J H'
def PI(X:Cx)(tg iter:Expr)(wi:TI):Prop :=
 ∀(qA:List (Addr×Obj)) (s:Shared) (σ:St) (H:Hp) (R:It->Hp->Prop),Inv X qA σ H s->wi σ H R ->
  wpAny (model X.prog X.w) X.A (eval iter X.env) (λv s1=>wpAny (model X.prog X.w) X.A (pyIter v) (Mw X qA σ tg R) X.xe s1) X.xe s
theorem HZ {M : Model} {E : Value → Shared → Prop} {o : Obj} {n : String} {vs : Array Value} {Q : Unit → Shared → Prop} (c : s.heap.get? it = some o) (f : o.cls = .type n) (e : o.data = .fields vs)
    (d : ["enumerate", "zip", "dict_itemiterator", "dict_reverseitemiterator", "odict_iterator", "itertools.zip_longest", "itertools.pairwise"].contains n = false) (a : Q () s) : wpAny M A (letOwnedTupleGo tg (.ref it) u) Q E s := by
  unfold letOwnedTupleGo
  cases tg<;>first
    |exact wP a
    | (cases u <;> first
        |exact wP a
        | (refine wB (wpAny_load c ?_)
           rw[f, e]
           show wpAny M A (if(["enumerate", "zip", "dict_itemiterator", "dict_reverseitemiterator", "odict_iterator", "itertools.zip_longest", "itertools.pairwise"].contains n&&vs[0]?==some (rawInt _)) = true then _ else _) Q E s
           rw[if_neg (by intro h; rw[d, Bool.false_and]at h; cases h)]
           exact wP a))
def DB(K:Fg)(a:Addr):It :=
 ⟨λi H=>∃xs x,Au K H a xs/\xs[i]?=some x,λi H x H'=>H'=H/\∀xs,Au K H a xs->xs[i]?=some x,λi H=>∃xs,Au K H a xs/\xs.length<=i⟩
def EM(K:Fg)(a:Addr):It :=
 ⟨λi H=>∃xs x,Bh K H a xs/\xs[i]?=some x,λi H x H'=>H'=H/\∀xs,Bh K H a xs->xs[i]?=some x,λi H=>∃xs,Bh K H a xs/\xs.length<=i⟩
def DC(lo:Int)(n:Nat):It:=⟨λi _=>i<n,λi H x H'=>H'=H/\x=.int (lo+i),λi _=>n<=i⟩
theorem Sz{P:Program}{K:Fg}(a it:Addr):Turn P w K tg (DB K a) [it] it (λi h=>h.IsListIter it a i) where
 mem:=by simp
 obj:=λi h st b f=>by
  have e:b=it:=by simpa using f
  subst e
  obtain⟨o,e,c,d⟩:=st
  exact⟨o,e,λv z=>by rw[d]at z;cases z⟩
 keep:=λi h h' st k=>st.at λo e=>k it (by simp) o e
 item:=by
  intro X y q A L i qA s σ H E I l st r
  subst y q A
  obtain⟨xs,x,j,n⟩:=r
  obtain⟨qH,rv,p,O⟩:=I.list j
  obtain⟨u,T,N⟩:=rv.get n
  obtain⟨J,G,U,D,C,B⟩:=l it (by simp)
  refine wpAny_pyNext_list_item st p.isList (x:=u) (by simpa using T) λh' g M=>?_
  have I1:Inv X qA σ H { s with heap:=h' }:=I.turned (t':=s.toks) (λb o f e=>(M.2 b f).trans e) J G D C B
  obtain⟨o,e,c,d⟩:=id g
  exact⟨u,rfl,HZ (s:={ s with heap:=h' }) e c d (by decide) ⟨x,H,I1,N,⟨rfl,λys Q=>by rw[I.list_inj Q j];exact n⟩,g,λb f=>(l b f).1⟩⟩
 done:=by
  intro X y q A L i qA s σ H E I l st r
  subst y q A
  obtain⟨xs,j,n⟩:=r
  obtain⟨qH,rv,p,O⟩:=I.list j
  obtain⟨J,G,U,D,C,B⟩:=l it (by simp)
  have hl:=rv.length
  exact wpAny_pyNext_list_end (I.ok.hd L) st p.isList (by simp;lia) λh' Y=>⟨rfl,I.turned (t':=s.toks) (λb o f e=>Y b o f e) J G D C B⟩
 self:=λ_ _ _ _ _ st h=>wpAny_pyIter_listiter st h
theorem S0{P:Program}{K:Fg}(a it:Addr):Turn P w K tg (EM K a) [it] it (λi h=>h.IsTupleIter it a i) where
 mem:=by simp
 obj:=λi h st b f=>by
  have e:b=it:=by simpa using f
  subst e
  obtain⟨o,e,c,d⟩:=st
  exact⟨o,e,λv z=>by rw[d]at z;cases z⟩
 keep:=λi h h' st k=>st.at λo e=>k it (by simp) o e
 item:=by
  intro X y q A L i qA s σ H E I l st r
  subst y q A
  obtain⟨xs,x,j,n⟩:=r
  obtain⟨qH,rv,p,O⟩:=I.tuple j
  obtain⟨u,T,N⟩:=rv.get n
  obtain⟨J,G,U,D,C,B⟩:=l it (by simp)
  refine wpAny_pyNext_tuple_item st (show s.heap.IsTuple a qH.toArray from p) (x:=u) (by simpa using T) λh' g M=>?_
  have I1:Inv X qA σ H { s with heap:=h' }:=I.turned (t':=s.toks) (λb o f e=>(M.2 b f).trans e) J G D C B
  obtain⟨o,e,c,d⟩:=id g
  exact⟨u,rfl,HZ (s:={ s with heap:=h' }) e c d (by decide) ⟨x,H,I1,N,⟨rfl,λys Q=>by rw[I.tuple_inj Q j];exact n⟩,g,λb f=>(l b f).1⟩⟩
 done:=by
  intro X y q A L i qA s σ H E I l st r
  subst y q A
  obtain⟨xs,j,n⟩:=r
  obtain⟨qH,rv,p,O⟩:=I.tuple j
  obtain⟨J,G,U,D,C,B⟩:=l it (by simp)
  have hl:=rv.length
  exact wpAny_pyNext_tuple_end (I.ok.hd L) st (show s.heap.IsTuple a qH.toArray from p) (by simp;lia) λh' Y=>⟨rfl,I.turned (t':=s.toks) (λb o f e=>Y b o f e) J G D C B⟩
 self:=λ_ _ _ _ _ st h=>wpAny_pyIter_tupleiter st h
theorem S1{P:Program}{K:Fg}(it:Addr)(lo:Int)(n:Nat):Turn P w K tg (DC lo n) [it] it (λi h=>IsRangeIter h it (lo+(i:Nat) * 1) ((n:Int) - (i:Nat)) 1) where
 mem:=by simp
 obj:=λi h st b a=>by
  have e:b=it:=by simpa using a
  subst e
  exact⟨_,st,λv z=>by
   have A:Data.fields _=Data.cell v:=z
   cases A⟩
 keep:=λi h h' st k=>k it (by simp) _ st
 item:=by
  intro X l f p j i qA s σ H E I d st g
  subst l f p
  obtain⟨y,x,D,u,r,q⟩:=d it (by simp)
  have W:=Walks.range (prog:=X.prog) (w:=X.w) (I.ok.hd j) it lo 1 n
  refine W.item i s _ _ g st λv h' tk C c B=>?_
  obtain⟨t,rfl⟩:=C
  have J:Inv X qA σ H { s with heap:=h',toks:=tk }:=I.turned (λb o a e=>B b o (by simpa using a) e) y x u r q
  refine⟨_,rfl,HZ (s:={ s with heap:=h',toks:=tk }) (n:="range_iterator") c rfl rfl (by decide) ⟨.int (lo+i),H,J,⟨t,?_⟩,⟨rfl,rfl⟩,c,λb a=>(d b a).1⟩⟩
  rw[Int.mul_one]
 done:=by
  intro X l f p j i qA s σ H E I d st g
  subst l f p
  obtain⟨y,x,D,u,r,q⟩:=d it (by simp)
  exact wpAny_pyNext_range_end (I.ok.hd j) st (by have:n<=i:=g;lia) λh' G=>⟨rfl,I.turned (t':=s.toks) (λb o a e=>G b o a e) y x u r q⟩
 self:=λ_ _ _ _ _ st h=>wpAny_pyIter_rangeiter st h
def Mx(K:Fg)(tl:TE):TI:=λσ H R=>tl σ H λx H1=>∃a,x=.ref a/\(∃xs,Au K H1 a xs)/\R (DB K a) H1
def Mz(K:Fg)(tl:TE):TI:=λσ H R=>tl σ H λx H1=>∃a,x=.ref a/\(∃xs,Bh K H1 a xs)/\R (EM K a) H1
theorem M0{l:Expr}{tl:TE}(j:PE X l tl):PI X tg l (Mx X.K tl):=by
 intro qA s σ H R I h
 refine AH (j qA s σ H _ I h) λv c ⟨x,H1,d,f,g⟩=>?_
 obtain⟨a,e,⟨xs,i⟩,q⟩:=g
 subst e
 cases f
 obtain⟨qH,rv,p,r⟩:=d.list i
 refine wpAny_pyIter_list p.isList ?_
 refine⟨c.heap.objs.size,[c.heap.objs.size],_,_,H1,rfl,d.kept (t':=c.toks) λb o e=>Heap.get?_push_of_some _ e,Sz a _,⟨_,Heap.get?_push_size _ rfl,rfl,rfl⟩,λb n=>?_,q⟩
 have e:b=c.heap.objs.size:=by simpa using n
 subst e
 exact d.fpOk (Nat.le_refl _) (d.hok.fresh (Nat.le_refl _))
theorem S2{l:Expr}{tl:TE}(j:PE X l tl):PI X tg l (Mz X.K tl):=by
 intro qA s σ H R I h
 refine AH (j qA s σ H _ I h) λv c ⟨x,H1,d,f,g⟩=>?_
 obtain⟨a,e,⟨xs,i⟩,q⟩:=g
 subst e
 cases f
 obtain⟨qH,rv,p,r⟩:=d.tuple i
 refine wpAny_pyIter_tuple (show c.heap.IsTuple a qH.toArray from p) ?_
 refine⟨c.heap.objs.size,[c.heap.objs.size],_,_,H1,rfl,d.kept (t':=c.toks) λb o e=>Heap.get?_push_of_some _ e,S0 a _,⟨_,Heap.get?_push_size _ rfl,rfl,rfl⟩,λb n=>?_,q⟩
 have e:b=c.heap.objs.size:=by simpa using n
 subst e
 exact d.fpOk (Nat.le_refl _) (d.hok.fresh (Nat.le_refl _))
theorem S3{R:It->Hp->Prop}{lo hi:Int}{t u v:Tok}{tk:Nat}(I:Inv X qA σ H s)(h1:-(2 ^ 62)<=lo)(h2:lo<2 ^ 62)(f:-(2 ^ 62)<=hi)(d:hi<2 ^ 62)
  (q:R (DC lo (hi - lo).toNat) H):wpAny (model X.prog X.w) X.A (pyIter (.ref s.heap.objs.size)) (Mw X qA σ tg R) E { s with heap:=s.heap.push { cls:=.type "range",data:=.fields #[.int lo t,.int hi u,.int 1 v] },toks:=tk }:=by
 refine wpAny_pyIter_range (IsRange.new ..) (small_one h1 h2 f d) ?_
 have a:Inv X qA σ H { s with heap:=s.heap.push { cls:=.type "range",data:=.fields #[.int lo t,.int hi u,.int 1 v] },toks:=tk }:=I.kept λb o e=>Heap.get?_push_of_some _ e
 refine⟨(s.heap.push { cls:=.type "range",data:=.fields #[.int lo t,.int hi u,.int 1 v] }).objs.size,[(s.heap.push { cls:=.type "range",data:=.fields #[.int lo t,.int hi u,.int 1 v] }).objs.size],_,_,H,rfl,
  a.kept (t':=tk) λb o e=>Heap.get?_push_of_some _ e,S1 _ lo (hi - lo).toNat,?_,λb c=>?_,q⟩
 ·have h:lo+((0:Nat):Int) * 1=lo:=by simp
  have g:(((hi - lo).toNat:Nat):Int) - ((0:Nat):Int)=Builtin.Range.rangeSize lo hi 1:=by rw[rangeSize_one];split<;>lia
  show IsRangeIter _ _ (lo+((0:Nat):Int) * 1) ((((hi - lo).toNat:Nat):Int) - ((0:Nat):Int)) 1
  rw[h,g]
  exact Heap.get?_push_size _ rfl
 ·have e:b=(s.heap.push { cls:=.type "range",data:=.fields #[.int lo t,.int hi u,.int 1 v] }).objs.size:=by simpa using c
  subst e
  exact a.fpOk (Nat.le_refl _) (a.hok.fresh (Nat.le_refl _))
def S4(ta:TA):TI:=λσ H R=>ta σ H λvs H1=>∃j:Int,vs=[.int j]/\-(2 ^ 62)<=j/\j<2 ^ 62/\R (DC 0 j.toNat) H1
theorem Hc{a:Expr}{ta:TA}{p:Pos}(n:Gl X "range")(l:X.mg "range"=none)(o:PA X [a] ta)(i:starEach [a] X.env=[(false,eval a X.env)]:=by rfl):PI X tg (.Call (.Name "range" p) [a] [] pos) (S4 ta):=by
 intro qA s σ H R I h
 refine Call_ (Eu I n l boot_range (PyProof.Rows.callWith_type1 (AH (o pos qA s σ H _ I h) λus v ⟨vs,H1,u,f,c⟩=>?_) i rfl))
 obtain⟨j,e,c,g,q⟩:=c
 subst e
 cases f with
 |cons r d =>
  cases d
  obtain⟨t,rfl⟩:=r
  exact call_range_1 (S3 u (by lia) (by lia) c g (by simpa using q))
def M1(wi:TI)(g:TG)(tb:TS):TS:=λD σ H=>wi σ H λJ H1=>∃W:Nat->Nat->St->Hp->Prop,(∃m,W 0 m σ H1)/\∀i m σ H,W i m σ H ->
 (J.stop i H/\D.nx σ H)\/(J.go i H/\∃N:St->Hp->Prop,(∀σ' H',N σ' H'->∃m',m'<m/\W (i+1) m' σ' H')/\∀x H',J.yld i H x H'->g x σ H' λσ2 H2=>tb { D with nx:=N,ct:=N,bk:=D.nx } σ2 H2)
def F0(fp:List Addr)(h:Heap):List (Addr×Obj):=fp.filterMap λb=>(h.get? b).map λo=>(b,o)
theorem Hd{b:Addr}{o:Obj}(a:b∈fp)(e:h.get? b=some o):(b,o)∈F0 fp h:=mem_filterMap.mpr ⟨b,a,by rw[e];rfl⟩
theorem S5{p:Addr×Obj}(a:p∈F0 fp h):p.1∈fp/\h.get? p.1=some p.2:=by
 obtain⟨b,c,e⟩:=mem_filterMap.mp a
 cases q:h.get? b with
 |none=>rw[q]at e;cases e
 |some o =>
  rw[q]at e
  have d:(b,o)=p:=oI e
  subst d
  exact⟨c,q⟩
theorem Inv.pinned(I:Inv X qA σ H s)(g:∀b∈fp,B1 X qA H b)(f:∀b∈fp,∃o,s.heap.get? b=some o/\∀v,o.data≠.cell v):Inv X (qA++F0 fp s.heap) σ H s :=
 I.pins_of λp c=>(mem_append.mp c).elim (λz=>I.pin p (mem_append_right _ z)) λz=>by
  obtain⟨hb,e⟩:=S5 z
  obtain⟨j,i,h,_⟩:=g p.1 hb
  obtain⟨o,a,d⟩:=f p.1 hb
  rw[e]at a;cases a
  exact⟨e,j,i,h,d⟩
theorem Inv.unpinned{pl:List (Addr×Obj)}(I:Inv X (qA++pl) σ H s):Inv X qA σ H s:=I.pins_of λp a=>I.pin p (mem_append_right _ (mem_append_left _ a))
theorem F1{body:List Stmt}{tb:TS}(L:PassesOwn (model X.prog X.w) X.A X.env X.xe)(hc:X.calm=true)(hi:PI X tg iter wi)(hg:PG X tg g)(l:BY X body tb)
  (hs:∀x,foldedSetIterable iter X.env x=pure x:=by intro _;rfl):PS X (.For tg iter body [] pos) (M1 wi g tb):=by
 intro qA s σ H D I h
 refine wpAny_For (AH (hi qA s σ H _ I h) λv s1 h1=>AH h1 λa2 s2 h2=>?_) hs
 obtain⟨it,fp,tn,J,H2,e,I2,T,U,f2,W,⟨m0,w0⟩,B⟩:=h2
 subst e
 have j:∀{H':Hp},(∀b∈fp,H' b=none)->∀b∈fp,B1 X qA H' b:=λhn b l=>⟨hn b l,(f2 b l).2⟩
 refine codeAny_forLoop_any (λn s'=>∃i σ' H',Inv X qA σ' H' s'/\tn i s'.heap/\(∀b∈fp,H' b=none)/\W i n σ' H') ?_ m0 ⟨0,σ,H2,I2,U,λb l=>(f2 b l).1,w0⟩
 rintro n s3 ⟨i,c,O,I3,E,M,w3⟩
 rcases B i n c O w3 with⟨C,qn⟩|⟨go,N,hN,step⟩
 ·refine wpAny_passesOwn L (AH (T.done X rfl rfl rfl hc i qA s3 c O X.xe I3 (j M) E C) λr s4 ⟨hr,I4⟩=>?_)
  subst hr
  exact wpAny_execs_nil ⟨c,O,I4,qn⟩
 ·refine wpAny_passesOwn L (AH (T.item X rfl rfl rfl hc i qA s3 c O X.xe I3 (j M) E go) λr s4 ⟨u,hr,h4⟩=>?_)
  subst hr
  refine wpAny_passesOwn L (AH h4 λ_ s5 ⟨x,H5,I5,r5,y5,z,a0⟩=>?_)
  have a1:=I5.pinned (j a0) (T.obj _ _ z)
  refine wpAny_passesOwn L (AH (hg _ s5 c H5 x u _ a1 r5 (step x H5 y5)) λ_ s6 ⟨Q,H6,I6,q6⟩=>?_)
  refine wpAny_passesOwn L (AH (l _ s6 Q H6 _ I6 q6) λf Y y=>?_)
  have again:∀{a:St} {q:Hp},Inv X (qA++F0 fp s5.heap) a q Y->N a q->∃m,m<n/\∃i σ' H',Inv X qA σ' H' Y/\tn i Y.heap/\(∀b∈fp,H' b=none)/\W i m σ' H':=λ{a q} p G=>by
   obtain⟨m',hm,w7⟩:=hN a q G
   refine⟨m',hm,i+1,a,q,p.unpinned,T.keep _ _ _ z λb l o e=>(p.pin (b,o) (mem_append_right _ (mem_append_right _ (Hd l e)))).1,λb l=>?_,w7⟩
   obtain⟨o,e,d⟩:=T.obj _ _ z b l
   exact(p.pin (b,o) (mem_append_right _ (mem_append_right _ (Hd l e)))).2.1
  cases f with
  |next=>obtain⟨a,q,p,G⟩:=y;exact again p G
  |cont=>obtain⟨a,q,p,G⟩:=y;exact again p G
  |brk=>obtain⟨a,q,p,y⟩:=y;exact⟨a,q,p.unpinned,y⟩
  |ret v=>obtain⟨x7,a,q,p,r7,y⟩:=y;exact⟨x7,a,q,p.unpinned,r7,y⟩
theorem S6{K:Fg}{xs:List V}{tb:TS}{D:Ends}(Pv:Nat->St->Hp->Prop)(o:Pv 0 σ H)(l:∀i σ H,i<=xs.length->Pv i σ H->Au K H a xs)
  (j:∀i x σ H,xs[i]?=some x->Pv i σ H->g x σ H λc H2=>tb { D with nx:=Pv (i+1),ct:=Pv (i+1),bk:=D.nx } c H2) (n:∀σ H,Pv xs.length σ H->D.nx σ H) :
  ∃W:Nat->Nat->St->Hp->Prop,(∃m,W 0 m σ H)/\∀i m σ H,W i m σ H ->
   ((DB K a).stop i H/\D.nx σ H)\/((DB K a).go i H/\∃N:St->Hp->Prop,(∀σ' H',N σ' H'->∃f,f<m/\W (i+1) f σ' H')/\∀x H',(DB K a).yld i H x H'->g x σ H' λc H2=>tb { D with nx:=N,ct:=N,bk:=D.nx } c H2):=by
 refine⟨λi m σ H=>m=xs.length - i/\i<=xs.length/\Pv i σ H,⟨xs.length,by simp,Nat.zero_le _,o⟩,?_⟩
 rintro i m σ H ⟨rfl,hi,p⟩
 have q:=l i σ H hi p
 by_cases d:i<xs.length
 ·refine .inr ⟨⟨xs,xs[i],q,by simp[d]⟩,Pv (i+1),λσ' H' h=>⟨xs.length - (i+1),by lia,rfl,d,h⟩,λx H' y=>?_⟩
  obtain⟨e,y⟩:=y
  subst e
  exact j i x σ _ (y xs q) p
 ·have e:i=xs.length:=by lia
  subst e
  exact .inl ⟨⟨xs,q,Nat.le_refl _⟩,n σ H p⟩
theorem M3{lo:Int}{tb:TS}{D:Ends}(Pv:Nat->St->Hp->Prop)(l:Pv 0 σ H)
  (h:∀i σ H,i<n->Pv i σ H->g (.int (lo+i)) σ H λa H2=>tb { D with nx:=Pv (i+1),ct:=Pv (i+1),bk:=D.nx } a H2) (j:∀σ H,Pv n σ H->D.nx σ H) :
  ∃W:Nat->Nat->St->Hp->Prop,(∃m,W 0 m σ H)/\∀i m σ H,W i m σ H ->
   ((DC lo n).stop i H/\D.nx σ H)\/((DC lo n).go i H/\∃N:St->Hp->Prop,(∀σ' H',N σ' H'->∃d,d<m/\W (i+1) d σ' H')/\∀x H',(DC lo n).yld i H x H'->g x σ H' λa H2=>tb { D with nx:=N,ct:=N,bk:=D.nx } a H2):=by
 refine⟨λi m σ H=>m=n - i/\i<=n/\Pv i σ H,⟨n,by simp,Nat.zero_le _,l⟩,?_⟩
 rintro i m σ H ⟨rfl,hi,p⟩
 by_cases c:i<n
 ·refine .inr ⟨c,Pv (i+1),λσ' H' f=>⟨n - (i+1),by lia,rfl,c,f⟩,λx H' y=>?_⟩
  obtain⟨e,y⟩:=y
  subst e y
  exact h i σ _ c p
 ·have e:i=n:=by lia
  subst e
  exact .inl ⟨Nat.le_refl _,j σ H p⟩
abbrev R2:=V->V->Hp->VK->Prop
def Av(X:Cx)(f:Value->Value->Sem Value)(r:R2):Prop :=
 ∀(qA:List (Addr×Obj)) (s:Shared) (σ:St) (H:Hp) (x y:V) (v u:Value) (Q:VK),Inv X qA σ H s->AG x v->AG y u->r x y H Q ->
  wpAny (model X.prog X.w) X.A (f v u) (EP X qA σ Q) X.xe s
def J3(X:Cx)(f:Value->Sem Value)(r:V->Hp->VK->Prop):Prop :=
 ∀(qA:List (Addr×Obj)) (s:Shared) (σ:St) (H:Hp) (x:V) (v:Value) (Q:VK),Inv X qA σ H s->AG x v->r x H Q ->
  wpAny (model X.prog X.w) X.A (f v) (EP X qA σ Q) X.xe s
def BP(X:Cx)(f:Value)(r:List V->Hp->VK->Prop):Prop :=
 ∀(qA:List (Addr×Obj)) (s:Shared) (σ:St) (H:Hp) (xs:List V) (us:List Value) (Q:VK),Inv X qA σ H s->AR xs us->r xs H Q ->
  wpAny (model X.prog X.w) X.A (call f us) (EP X qA σ Q) X.xe s
def Ez(r:R2)(ta tb:TE):TE:=λσ H Q=>ta σ H λx H1=>tb σ H1 λy H2=>r x y H2 Q
def S7(r:V->Hp->VK->Prop)(ta:TE):TE:=λσ H Q=>ta σ H λx H1=>r x H1 Q
def rI(C:Int->Int->Prop)(g:Int->Int->V):R2:=λx y H Q=>∃i j,x=.int i/\y=.int j/\C i j/\Q (g i j) H
def B6(g:Int->Int->V):R2:=λx y H Q=>∃i j,x=.int i/\y=.int j/\Q (g i j) H
def rU(g:Int->V):V->Hp->VK->Prop:=λx H Q=>∃i,x=.int i/\Q (g i) H
section
variable{a b:Expr}{tc:TE}
theorem J4(o:PE X a ta)(n:PE X b tb){R:V->V->Hp->Prop}(I:Inv X qA σ H s)
  (h:ta σ H λx H1=>tb σ H1 λy H2=>R x y H2) {f:Value->Value->Sem Value}
  (l:∀v u c x y H2,Inv X qA σ H2 c->AG x v->AG y u->R x y H2->wpAny (model X.prog X.w) X.A (f v u) Q X.xe c) :
  wpAny (model X.prog X.w) X.A (eval a X.env) (λv s₁=>wpAny (model X.prog X.w) X.A (eval b X.env) (λu s₂=>wpAny (model X.prog X.w) X.A (f v u) Q X.xe s₂) X.xe s₁) X.xe s:=by
 refine AH (o qA s σ H _ I h) λv d ⟨x,H1,q,g,j⟩=>?_
 refine AH (n qA d σ H1 _ q j) λu c ⟨y,H2,p,e,i⟩=>?_
 exact l v u c x y H2 p g e i
theorem BQ{op:Operator}{r:R2}(f:Av X (binaryOp op) r)(i:PE X a ta)(g:PE X b tb):PE X (.BinOp a op b pos) (Ez r ta tb):=by
 intro qA s σ H Q I h
 exact wpAny_BinOp (J4 i g I h λv u c x y H2 j e d q=>f qA c σ H2 x y v u Q j e d q)
theorem S8{op:UnaryOp}{r:V->Hp->VK->Prop}(f:J3 X (unaryOp op) r)(g:PE X a ta):PE X (.UnaryOp op a pos) (S7 r ta):=by
 intro qA s σ H Q I h
 exact UnaryOp_ (AH (g qA s σ H _ I h) λv c ⟨x,H1,i,d,e⟩=>f qA c σ H1 x v Q i d e)
theorem F2{f:Value->Value->Sem Value}{C:Int->Int->Prop}{g:Int->Int->Int}
  (rule:∀(i j:Int) (t u:Tok) (s:Shared) (Q:VS) (E:VS),C i j->Q (.int (g i j) s.toks) { s with toks:=s.toks+1 }->wpAny (model X.prog X.w) X.A (f (.int i t) (.int j u)) Q E s) :
  Av X f (rI C λi j=>.int (g i j)):=by
 intro qA s σ H x y v u Q I c a h
 obtain⟨i,j,rfl,rfl,d,q⟩:=h
 obtain⟨t,rfl⟩:=c
 obtain⟨t',rfl⟩:=a
 exact rule i j t t' s _ _ d ⟨.int (g i j),H,I.tok _,⟨_,rfl⟩,q⟩
theorem M4{f:Value->Value->Sem Value}{g:Int->Int->Int}
  (rule:∀(i j:Int) (t u:Tok) (s:Shared) (Q:VS) (E:VS),Q (.int (g i j) s.toks) { s with toks:=s.toks+1 }->wpAny (model X.prog X.w) X.A (f (.int i t) (.int j u)) Q E s) :
  Av X f (B6 λi j=>.int (g i j)):=by
 intro qA s σ H x y v u Q I c a h
 obtain⟨i,j,rfl,rfl,q⟩:=h
 obtain⟨t,rfl⟩:=c
 obtain⟨t',rfl⟩:=a
 exact rule i j t t' s _ _ ⟨.int (g i j),H,I.tok _,⟨_,rfl⟩,q⟩
theorem Hf{f:Value->Value->Sem Value}{g:Int->Int->Bool}
  (rule:∀(i j:Int) (t u:Tok) (s:Shared) (Q:VS) (E:VS),Q (.bool (g i j)) s->wpAny (model X.prog X.w) X.A (f (.int i t) (.int j u)) Q E s) :
  Av X f (B6 λi j=>.bl (g i j)):=by
 intro qA s σ H x y v u Q I c a h
 obtain⟨i,j,rfl,rfl,q⟩:=h
 obtain⟨t,rfl⟩:=c
 obtain⟨t',rfl⟩:=a
 exact rule i j t t' s _ _ ⟨.bl (g i j),H,I,rfl,q⟩
def Hg(i j:Int):Prop:=0<=j/\j<=1000000/\i.natAbs<2 ^ 64
def Du(i j:Int):Prop:=(-(2 ^ 64)<i/\i<2 ^ 64)\/(-(2 ^ 64)<j/\j<2 ^ 64)
theorem Du.ok{i j:Int}(h:Du i j):IntMulOk i j:=by
 rcases h with⟨h1,h2⟩|⟨h1,h2⟩
 ·exact .of_left (intBits_le_64 h1 h2)
 ·exact .of_right (intBits_le_64 h1 h2)
theorem S9(k:Nat):(0:Int)<=2 ^ k:=by
 rw[two_pow_cast]
 exact Int.natCast_nonneg _
theorem Cn:Av X (binaryOp .Add) (B6 λi j=>.int (i+j)):=M4 λ_ _ _ _ _ _ _ q=>add_int q
theorem M5:Av X (binaryOp .Sub) (B6 λi j=>.int (i - j)):=M4 λ_ _ _ _ _ _ _ q=>sub_int q
theorem E1:Av X (binaryOp .Mult) (rI Du λi j=>.int (i * j)):=F2 λ_ _ _ _ _ _ _ a q=>mul_int q a.ok
theorem EN:Av X (binaryOp .Mod) (rI (λ_ j=>0<j) λi j=>.int (i % j)):=F2 λi j _ _ _ _ _ a q=>by
 have h1:(0:Int)<j:=a
 exact mod_int' (by lia) (by rw[Int.fmod_eq_emod_of_nonneg i (by lia)];exact q)
theorem M6:Av X (binaryOp .Pow) (rI Hg λi j=>.int (i ^ j.toNat)):=F2 λ_ _ _ _ _ _ _ a q=>pow_int_small a.1 a.2.1 a.2.2 q
theorem TB:Av X (binaryOp .RShift) (rI (λ_ j=>0<=j) λi j=>.int (i / 2 ^ j.toNat)):=F2 λi j _ _ _ _ _ a q =>
 rshift_int a (by rw[Int.fdiv_eq_ediv_of_nonneg i (S9 _)];exact q)
theorem TC{f:Value->Sem Value}{g:Int->Int}
  (rule:∀(i:Int) (t:Tok) (s:Shared) (Q:VS) (E:VS),Q (.int (g i) s.toks) { s with toks:=s.toks+1 }->wpAny (model X.prog X.w) X.A (f (.int i t)) Q E s) :
  J3 X f (rU λi=>.int (g i)):=by
 intro qA s σ H x v Q I a h
 obtain⟨i,rfl,q⟩:=h
 obtain⟨t,rfl⟩:=a
 exact rule i t s _ _ ⟨.int (g i),H,I.tok _,⟨_,rfl⟩,q⟩
theorem TD:J3 X (unaryOp .USub) (rU λi=>.int (-i)):=TC λ_ _ _ _ _ q=>neg_int q
end
section
variable{a b:Expr}{tc:TE}
theorem TF{Q:VK}{k a:Bool}(I:Inv X qA σ H s)(q:Q (.bl k) H)(e:k=a):EP X qA σ Q (.bool a) s:=by
 subst e
 exact⟨.bl k,H,I,rfl,q⟩
theorem J5:Av X (compareOp .Lt) (B6 λi j=>.bl (decide (i<j))):=Hf λ_ _ _ _ _ _ _ q=>lt_int q
theorem Hh:Av X (compareOp .LtE) (B6 λi j=>.bl (decide (i<=j))):=Hf λ_ _ _ _ _ _ _ q=>le_int q
theorem M7:Av X (compareOp .Gt) (B6 λi j=>.bl (decide (j<i))):=Hf λ_ _ _ _ _ _ _ q=>gt_int q
theorem M8:Av X (compareOp .GtE) (B6 λi j=>.bl (decide (j<=i))):=Hf λ_ _ _ _ _ _ _ q=>ge_int q
theorem TH:Av X (compareOp .IsNot) (λx y H Q=>y=.non/\Q (.bl (!decide (x=.non))) H):=by
 intro qA s σ H x y v u Q I a c h
 obtain⟨rfl,q⟩:=h
 cases c
 refine isnot_none_gen (TF I q ?_)
 cases x<;>first
  |(cases a;rfl)
  |(obtain⟨t,rfl⟩:=a;rfl)
theorem BR(b:Expr){op:CmpOp}(h:op≠.In:=by decide)(h2:op≠.NotIn:=by decide):behindInMarks op b=false:=by
 have c:(op==CmpOp.In)=false:=by cases op<;>first|rfl|exact absurd rfl h
 have a:(op==CmpOp.NotIn)=false:=by cases op<;>first|rfl|exact absurd rfl h2
 cases b<;>simp[behindInMarks,c,a]
theorem TJ{op:CmpOp}{r:R2}(f:Av X (compareOp op) r)(j:PE X a ta)(i:PE X b tb)(g:behindInMarks op b=false):PE X (.Compare a [op] [b] pos) (Ez r ta tb):=by
 intro qA s σ H Q I h
 exact wpAny_Compare1 (J4 j i I h λv u c x y H2 l e d q=>f qA c σ H2 x y v u Q l e d q) g
def M9(t:TE):TT:=λσ H Q=>t σ H λx H'=>∃k,x=.bl k/\Q k H'
theorem E2{op:CmpOp}{r:R2}(p:Av X (compareOp op) r)(A:PE X a ta)(w:PE X b tb)(q:behindInMarks op b=false):PT X (.Compare a [op] [b] pos) (M9 (Ez r ta tb)):=by
 intro qA s σ H Q I h
 refine wpAny_isTrue_Compare1 (AH (A qA s σ H _ I h) λv f ⟨x,H1,D,j,o⟩=>AH (w qA f σ H1 _ D o) λu d ⟨y,H2,C,i,n⟩ =>
  AH (p qA d σ H2 x y v u _ C j i n) λc G ⟨z,E,B,g,k,e,l⟩=>?_) q
 subst e
 cases g
 exact wpAny_truthy_bool ⟨E,B,l⟩
def NA(r r':R2)(ta tb tc:TE):TE:=λσ H Q=>ta σ H λx H1=>tb σ H1 λy H2=>r x y H2 λz H3=>∃k,z=.bl k /\
 (if k=true then tc σ H3 λw' H4=>r' y w' H4 Q else Q (.bl false) H3)
theorem TK{op f:CmpOp}{r r':R2}(M:Av X (compareOp op) r)(g:Av X (compareOp f) r')(U:PE X a ta)(T:PE X b tb)(O:PE X c tc)
  (N:lastMarks [op,f] [b,c]=false:=by with_unfolding_all rfl):PE X (.Compare a [op,f] [b,c] pos) (NA r r' ta tb tc):=by
 intro qA s σ H Q I h
 refine Compare_chain (AH (U qA s σ H _ I h) λv B ⟨x,H1,I1,E,L⟩=>chain_link (AH (T qA B σ H1 _ I1 L) λu A ⟨y,H2,I2,i,J⟩ =>
  AH (M qA A σ H2 x y v u _ I2 E i J) λd w ⟨z,n,l,D,k,e,j⟩=>?_)) N
 subst e
 cases D
 refine wpAny_truthy_bool ?_
 cases k with
 |false=>exact ite_ff ⟨.bl false,n,l,rfl,j⟩
 |true=>exact ite_tt (chain_last (AH (O qA w σ n _ l j) λp q ⟨o,H4,Y,C,G⟩=>g qA q σ H4 y o u p Q Y i C G))
theorem EO:(sizeLine:Nat)<2 ^ 63:=by rw[sizeLine_eq];decide
theorem NB:Av X (binaryOp .Add) (λx y H Q=>∃i j,x=.str i/\y=.str j/\i.length+j.length<=sizeLine/\Q (.str (i++j)) H):=by
 intro qA s σ H x y v u Q I c a h
 obtain⟨i,j,rfl,rfl,d,q⟩:=h
 obtain⟨t,rfl⟩:=c
 obtain⟨t',rfl⟩:=a
 exact add_str (λt' tk=>⟨.str (i++j),H,I.tok _,⟨_,rfl⟩,q⟩) d
theorem Hi{x:V}(r:AR [x] us):∃u,us=[u]/\AG x u:=by
 cases r with
 |cons c a=>cases a;exact⟨_,rfl,c⟩
theorem NC{x y:V}(r:AR [x,y] us):∃u w',us=[u,w']/\AG x u/\AG y w':=by
 cases r with
 |cons e d =>
  cases d with
  |cons c a=>cases a;exact⟨_,_,rfl,e,c⟩
theorem TL(c:X.calm=true):BP X (.builtin "min") (λxs H Q=>∃i j,xs=[.int i,.int j]/\Q (.int (if j<i then j else i)) H):=by
 intro qA s σ H xs us Q I r h
 obtain⟨i,j,rfl,q⟩:=h
 obtain⟨u,d,rfl,⟨t,rfl⟩,⟨t',rfl⟩⟩:=NC r
 refine min_two_ints (I.ok.hd c) λh' tk k=>⟨_,H,I.kept k,?_,q⟩
 by_cases a:j<i
 ·rw[if_pos a,if_pos a];exact⟨_,rfl⟩
 ·rw[if_neg a,if_neg a];exact⟨_,rfl⟩
end
structure ObjM(h:Heap)(x dx C:Addr)(mA:Str->Option Value):Prop where
 obj:h.get? x=some (PySem.W.instObj C dx)
 ns:h.Ns1 dx mA
 ne:dx≠x
theorem TM{dx:Addr}{f:Str->Option Value}(n:h.Ns1 dx f):∃d,h.get? dx=some d/\∀name,PySem.W.lookIn name d=some (f name):=by
 obtain⟨o,es,ep,i,p,l,_,j⟩:=n
 refine⟨o,i,λname=>?_⟩
 have e:=j name
 unfold nsFind findBy at e
 rw[<-Array.find?_toList]at e
 unfold PySem.W.lookIn
 rw[p]
 dsimp only
 split
 ·rename_i y q
  rw[q]at e
  exact congrArg some e
 ·rename_i q
  rw[q]at e
  have a:es.toList.any (·.refKey)=false:=by
   rw[any_eq_false]
   intro y g
   obtain⟨z,t,c⟩:=l y (Array.mem_toList_iff.mp g)
   simp[DictEntry.refKey,c]
  have r:¬es.toList.any (·.refKey)=true:=by rw[a];exact Bool.false_ne_true
  rw[if_neg r]
  exact congrArg some e
theorem ObjM.look{x dx C:Addr}{mA:Str->Option Value}(I:ObjM h x dx C mA):∃od,PySem.W.InstAt h x (PySem.W.instObj C dx) C (some od)/\∀name,PySem.W.lookIn name od=some (mA name) :=
 let⟨od,a,c⟩:=TM I.ns
 ⟨od,⟨I.obj,rfl,rfl,a⟩,c⟩
theorem CZ.some_of{o:Option Value}(r:CZ (some v) o):∃u,o=some u/\AG v u:=by
 cases o with
 |none=>exact(show False from r).elim
 |some u=>exact⟨u,rfl,r⟩
section
variable{P:Program}{C dx:Addr}{fs fs':List (Str×V)}
theorem TN(g:A4 P w H h)(e:H a=some (.ins C dx fs)):∃c,ObjM h a dx C c/\(∀f,CZ (fs.lookup f) (c f))/\PySem.Within c (fs.map (·.1))/\fs.length<=1000/\H dx=some (.own a):=by
 obtain⟨d,z,j,i,c,n,r,q⟩:=(show A0 P w H h a (.ins C dx fs)from g a _ e)
 exact⟨c,⟨i,n,j⟩,r,q,z,d⟩
end
structure Cls(K:Fg)(C:Addr):Prop where
 pg:PySem.W.plainGet K C Str.empty=true
 hd:PySem.W.hasDictIn K C=true
 po:PySem.W.plainOver K C=true
 sa:PySem.W.findIn K (.ref C) "__setattr__"=some (some (.builtin "object.__setattr__"))
theorem Cls.get{K:Fg}{C:Addr}(c:Cls K C)(f:Str):PySem.W.plainGet K C f=true:=c.pg
def Hj(X:Cx)(op:Operator)(rd:V->V->Hp->VK->Prop):Prop :=
 ∀(qA:List (Addr×Obj)) (s:Shared) (σ:St) (H:Hp) (x y:V) (u v:Value) (Q:VK),Inv X qA σ H s->AG x u->AG y v->rd x y H Q->wpAny (model X.prog X.w) X.A (inplaceOp op u v) (EP X qA σ Q) X.xe s
section
variable{o e value:Expr}{f:Str}{tpos:Pos}{tv:TE}
def TQ:V->V->Hp->VK->Prop:=λx y H Q=>∃i j,x=.int i/\y=.int j/\Q (.int (i - j)) H
theorem TR:Hj X .Sub TQ:=by
 rintro qA s σ H x y u v Q I c a ⟨i,j,rfl,rfl,q⟩
 obtain⟨t,rfl⟩:=(show∃t,u=Value.int i t from c)
 obtain⟨t',rfl⟩:=(show∃t',v=Value.int j t' from a)
 exact PyProof.Rows.isub_int ⟨.int (i - j),H,I.tok _,⟨_,rfl⟩,q⟩
end
section
variable{c:Value}{b:Bool}
inductive TyOf(K:Fg)(H:Hp):V->Value->Prop where
 |non:TyOf K H .non (.type "NoneType")
 |bl (x:Bool):TyOf K H (.bl x) (.type "bool")
 |int (i:Int):TyOf K H (.int i) (.type "int")
 |str (x:Str):TyOf K H (.str x) (.type "str")
 |flt (x:UInt64):TyOf K H (.flt x) (.type "float")
 |lst {a:Addr} {xs:List V} (e:H a=some (.lst xs)):TyOf K H (.ref a) (.type "list")
 |frz {a:Addr} {o:Obj} {xs:List V} (e:H a=some (.frz o (.lst xs))):TyOf K H (.ref a) (.type "list")
 |tup {a:Addr} {xs:List V} (e:H a=some (.tup xs)):TyOf K H (.ref a) (.type "tuple")
 |dK {a:Addr} {qI:List (AN×V)} (e:H a=some (.dK qI)):TyOf K H (.ref a) (.type "dict")
 |dT {a:Addr} {qI:List (List AN×V)} (e:H a=some (.dT qI)):TyOf K H (.ref a) (.type "dict")
 |fT {a:Addr} {o:Obj} {qI:List (List AN×V)} (e:H a=some (.frz o (.dT qI))):TyOf K H (.ref a) (.type "dict")
 |ins {a C dx:Addr} {fs:List (Str×V)} (e:H a=some (.ins C dx fs)) (cl:Cls K C) (ha:PySem.W.findIn K (.ref C) "__class__"=some (some (.builtin "object.__class__")))
   (hn:PySem.W.specialIn K (.builtin "object.__class__") "__get__"=some (some (.builtin "getset_descriptor.__get__"))) (htk:PySem.W.takesIn K (.builtin "object.__class__")=some true)
   (hm:PySem.W.mroIn K C (.type "object")=some true):TyOf K H (.ref a) (.ref C)
theorem TU{x:V}{t:Value}(I:Inv X qA σ H s)(f:AG x u)(ty:TyOf X.K H x t)(e:PySem.W.kitOne X.K t c=some b)(h:∀tk,Q (.bool b) { s with toks:=tk }) :
  wpAny (model X.prog X.w) A (call (.builtin "isinstance") [u,c]) Q E s:=by
 cases ty with
 |non=>cases(show u=Value.none from f);exact PySem.W.kia_one PySem.W.kitx_none I.kIn True.intro e (λz=>nomatch z) h
 |bl y=>cases(show u=Value.bool y from f);exact PySem.W.kia_one PySem.W.kitx_bool I.kIn True.intro e (λz=>nomatch z) h
 |int i=>obtain⟨t,q⟩:=(show∃t,u=Value.int i t from f);cases q;exact PySem.W.kia_one PySem.W.kitx_int I.kIn True.intro e (λz=>nomatch z) h
 |str y=>obtain⟨t,q⟩:=(show∃t,u=Value.str y t from f);cases q;exact PySem.W.kia_one PySem.W.kitx_str I.kIn True.intro e (λz=>nomatch z) h
 |flt y=>obtain⟨t,q⟩:=(show∃t,u=Value.float y t from f);cases q;exact PySem.W.kia_one PySem.W.kitx_float I.kIn True.intro e (λz=>nomatch z) h
 |@lst a xs d =>
  cases(show u=Value.ref a from f)
  obtain⟨_,_,n,_,h1⟩:=(show A0 X.prog X.w H s.heap a (.lst xs)from I.hok a _ d)
  exact PySem.W.kia_one PySem.W.kitx_list I.kIn ⟨_,h1,rfl⟩ e (λz=>nomatch z) h
 |@frz a g xs d =>
  cases(show u=Value.ref a from f)
  obtain⟨_,_,_,n,_,h1⟩:=(show A0 X.prog X.w H s.heap a (.frz g (.lst xs))from I.hok a _ d)
  exact PySem.W.kia_one PySem.W.kitx_list I.kIn ⟨_,h1,rfl⟩ e (λz=>nomatch z) h
 |@tup a xs d =>
  cases(show u=Value.ref a from f)
  obtain⟨_,_,_,p⟩:=(show A0 X.prog X.w H s.heap a (.tup xs)from I.hok a _ d)
  obtain⟨o,h1,h2,_⟩:=p
  exact PySem.W.kia_one PySem.W.kitx_tuple I.kIn ⟨o,h1,h2⟩ e (λz=>nomatch z) h
 |@dK a qI d =>
  cases(show u=Value.ref a from f)
  obtain⟨_,_,vs,_,p⟩:=(show A0 X.prog X.w H s.heap a (.dK qI)from I.hok a _ d)
  obtain⟨o,es,ep,h1,h2,_⟩:=p
  exact PySem.W.kia_one PySem.W.kitx_dict I.kIn ⟨o,h1,h2.1⟩ e (λz=>nomatch z) h
 |@dT a qI d =>
  cases(show u=Value.ref a from f)
  obtain⟨_,_,xs,_,o,es,ep,h1,h2,_⟩:=(show A0 X.prog X.w H s.heap a (.dT qI)from I.hok a _ d)
  exact PySem.W.kia_one PySem.W.kitx_dict I.kIn ⟨o,h1,h2.1⟩ e (λz=>nomatch z) h
 |@fT a g qI d =>
  cases(show u=Value.ref a from f)
  obtain⟨_,_,_,xs,_,o,es,ep,h1,h2,_⟩:=(show A0 X.prog X.w H s.heap a (.frz g (.dT qI))from I.hok a _ d)
  exact PySem.W.kia_one PySem.W.kitx_dict I.kIn ⟨o,h1,h2.1⟩ e (λz=>nomatch z) h
 |@ins a C dx fs d l B r j v =>
  cases(show u=Value.ref a from f)
  obtain⟨G,O,_⟩:=TN I.hok d
  obtain⟨D,J,_⟩:=O.look
  exact PySem.W.kia_one (PySem.W.kitx_own (l.get _) l.hd B r j v) I.kIn J e (λz=>nomatch z) h
end
structure Room(k:Nat)(A:Around):Prop where
 hd:A.handled=none
 dp:A.depth+3 * k+5<recursionLimit
 un:A.units+16 * k+200<cLine
theorem Room.mono{k:Nat}(r:Room k A)(h:j<=k):Room j A:=⟨r.hd,by have:=r.dp;lia,by have:=r.un;lia⟩
theorem Room.m{j k:Nat}{A:Around}(h:Room k A)(e:j<=k:=by decide):Room j A:=h.mono e
theorem Room.deeper{k:Nat}(r:Room (k+1) A)(env:Env):Room k (A.deeper env) :=
 ⟨r.hd,by have:=r.dp;show A.depth+1+3 * k+5<_;lia,by have:=r.un;show A.units+3+16 * k+200<_;lia⟩
theorem Room.depth{k:Nat}(r:Room k A):A.depth<recursionLimit:=by have:=r.dp;lia
theorem Room.units{k:Nat}(r:Room k A):A.units+64<cLine:=by have:=r.un;lia
theorem Room.units0{k:Nat}(r:Room k A):A.units<cLine:=by have:=r.un;lia
def B7:TA:=λ_ H Q=>Q [] H
def B8(ta:TE)(tr:TA):TA:=λσ H Q=>ta σ H λx H1=>tr σ H1 λxs H2=>Q (x::xs) H2
section
variable{e:Expr}{t:TA}
theorem BA:PA X [] B7:=λ_ _ _ _ H Q I h=>Calls.spliced_nil ⟨[],H,I,.nil,h⟩
theorem Ap(l:PE X e te)(j:PA X es t)(i:starEach (e::es) X.env=(false,eval e X.env)::starEach es X.env:=by rfl):PA X (e::es) (B8 te t):=by
 intro pos qA s σ H Q I h
 rw[i]
 show wpAny _ _ (spliced ((false,eval e X.env)::backTo pos (starEach es X.env))) _ _ s
 refine Calls.spliced_cons (AH (l qA s σ H _ I h) λu a ⟨x,H1,o,d,g⟩=>?_)
 exact AH (j pos qA a σ H1 _ o g) λus p ⟨xs,H2,n,c,f⟩=>⟨x::xs,H2,n,.cons d c,f⟩
def TV(t:TA):TE:=λσ H Q=>t σ H λxs H1=>xs.length<=sizeLine/\∀p,H1 p=none->Q (.ref p) (AD H1 p (.tup xs))
def J6(t:TA):TE:=λσ H Q=>t σ H λxs H1=>xs.length<=sizeLine/\∀p,H1 p=none->Q (.ref p) (AD H1 p (.lst xs))
theorem TW{x1}(h:PA X es t):PE X (.Tuple es x1 pos) (TV t):=by
 intro qA s σ H Q I d
 refine wpAny_Tuple_spliced (AH (h pos qA s σ H _ I d) λus a ⟨xs,H1,c,r,z,q⟩=>⟨by rw[<-r.length];exact z,?_⟩)
 have f:H1 a.heap.objs.size=none:=c.hok.fresh (Nat.le_refl _)
 refine⟨.ref a.heap.objs.size,AD H1 a.heap.objs.size (.tup xs),c.laid (t':=a.toks) (λb u e=>Heap.get?_push_of_some _ e) (Nat.le_refl _) ?_,rfl,q _ f⟩
 exact⟨z,us,r,DA.new _ _⟩
theorem F3(h:PA X es t):PE X (.List es pos) (J6 t):=by
 intro qA s σ H Q I d
 refine wpAny_List_spliced (AH (h pos qA s σ H _ I d) λus a ⟨xs,H1,c,r,z,q⟩=>⟨by rw[<-r.length];exact z,?_⟩)
 have f:H1 a.heap.objs.size=none:=c.hok.fresh (Nat.le_refl _)
 refine⟨.ref a.heap.objs.size,AD H1 a.heap.objs.size (.lst xs),c.laid (t':=a.toks) (λb u e=>Heap.get?_push_of_some _ e) (Nat.le_refl _) ?_,rfl,q _ f⟩
 exact⟨z,us,0,r,Heap.get?_push_size _ rfl⟩
end
abbrev Sp:=List V->Hp->VK->XK->Prop
abbrev Co:=List Env->Hp->Shared->XK->Value->Shared->Prop
structure Env0(P:Program)(w:World)(K:Fg)(mg:Str->Option Value)(base:Heap)(A:Around)(outer:List Env)(s:Shared)(H:Hp):Prop where
 frames:A.frames=some outer
 mod:Mod K mg base
 bs:∀b o,base.get? b=some o->s.heap.get? b=some o/\H b=none
 bsz:base.objs.size<=s.heap.objs.size
 funs:s.heap.FunFrames base outer
 frf:∀b∈Ca outer,H b=none
 hok:A4 P w H s.heap
 bare:AllBare s.gens
def CE(outer:List Env)(P:Program)(w:World)(H:Hp)(s:Shared)(Q:VK)(u:Value)(s':Shared):Prop :=
 ∃v H',s'.os=s.os/\AllBare s'.gens/\Un (Ca outer) [] H H' s.heap s'.heap/\A4 P w H' s'.heap/\AG v u/\Q v H'
def CR(CX:Co)(outer:List Env)(P:Program)(w:World)(H:Hp)(s:Shared)(Q:VK)(E:XK)(r:Result)(s':Shared):Prop :=
 match r with
 |.ok (.ret u)=>CE outer P w H s Q u s'
 |.ok _=>False
 |.error e=>CX outer H s E e s'
structure FnOk(P:Program)(w:World)(K:Fg)(mg:Str->Option Value)(base:Heap)(CX:Co)(k:Nat)(f:Addr)(fd:FuncData)(ps:List Str)(sp:Sp):Prop where
 len:∀vs H Q E,sp vs H Q E->vs.length=ps.length
 run:∀(A:Around) (outer:List Env) (s:Shared) (H:Hp) (args:Args) (us:List Value) (vs:List V) (Q:VK) (E:XK),Room k A->Env0 P w K mg base A outer s H->BindsTo s fd args (ps.zip us)->AR vs us->sp vs H Q E ->
  codeAny (model P w) A (.call (.ref f) args) (CR CX outer P w H s Q E) s
theorem FnOk.imp{P:Program}{K:Fg}{CX:Co}{k:Nat}{f:Addr}{sp sp':Sp}(F:FnOk P w K mg base CX k f fd ps sp)
  (h:∀vs H Q E,sp' vs H Q E->sp vs H Q E):FnOk P w K mg base CX k f fd ps sp' :=
 ⟨λvs H Q E q=>F.len vs H Q E (h _ _ _ _ q),λA outer s H args us vs Q E d e hb a c=>F.run A outer s H args us vs Q E d e hb a (h _ _ _ _ c)⟩
section
variable{s':Shared}
theorem Inv.env0(I:Inv X qA σ H s):Env0 X.prog X.w X.K X.mg X.base X.A X.stack s H :=
 ⟨I.ok.frames,I.ok.mod,I.bs,Nat.le_trans I.ok.bsz I.sz,I.stack,I.stkFree,I.hok,I.bare⟩
theorem Inv.after{Q:VK}(I:Inv X qA σ H s)(h:CE X.stack X.prog X.w H s Q u s'):EP X qA σ Q u s':=by
 obtain⟨v,H',os,bare,un,hok,r,q⟩:=h
 obtain⟨c,g,d,t,a⟩:=s'
 obtain rfl:a=s.os:=os
 exact⟨v,H',I.call (h':=c) (g':=g) (d':=d) (t':=t) (ch:=[]) un hok bare (λb z=>absurd z (by simp)),r,q⟩
end
def F4(sp:Sp)(dvs:List V)(E:XK)(t:TA):TE:=λσ H Q=>t σ H λvs H1=>sp (vs++dvs) H1 Q E
def E3(K:Fg)(fd:FuncData)(ps:List Str)(ds:List Value):Prop :=
 ∀(s:Shared) (us:List Value),K.In s.heap->(us++ds).length=ps.length->BindsTo s fd ⟨us,[]⟩ (ps.zip (us++ds))
theorem E3.all{K:Fg}(h:∀us:List Value,us.length=ps.length->bindArgs fd ⟨us,[]⟩=pure (ps.zip us)):E3 K fd ps []:=λs us _ a=>by
 rw[append_nil]at a ⊢
 exact .of_eq (h us a)
def J7(CX:Co)(X:Cx)(E:XK):Prop:=∀(qA:List (Addr×Obj)) (σ:St) (H:Hp) (s:Shared) (e:Value) (s':Shared),Inv X qA σ H s->CX X.stack H s E e s'->X.xe e s'
section
variable{CX:Co}{k:Nat}{f C:Addr}{sp:Sp}{dvs:List V}{ds:List Value}{E:XK}{m:Str}{p:Pos}{e o:Expr}{t:TA}
theorem TX{Q:VK}(F:FnOk X.prog X.w X.K X.mg X.base CX k f fd ps sp)(g:Room k X.A)(l:E3 X.K fd ps ds)(j:AR dvs ds)(d:J7 CX X E)
  (I:Inv X qA σ H s) (r:AR vs us) (h:sp (vs++dvs) H Q E):wpAny (model X.prog X.w) X.A (call (.ref f) us) (EP X qA σ Q) X.xe s:=by
 have c:AR (vs++dvs) (us++ds):=r.append j
 have i:(us++ds).length=ps.length:=by rw[<-c.length];exact F.len _ _ _ _ h
 refine wpAny_call (codeAny_mono (F.run X.A X.stack s H ⟨us,[]⟩ (us++ds) (vs++dvs) Q E g I.env0 (l s us I.kIn i) c h) λr s' a=>?_)
 cases r with
 |error e=>exact d qA σ H s e s' I a
 |ok n =>
  cases n with
  |ret u=>exact I.after a
  |next=>exact False.elim a
  |brk=>exact False.elim a
  |cont=>exact False.elim a
theorem TY(F:FnOk X.prog X.w X.K X.mg X.base CX k f fd ps sp)(i:Room k X.A)(n:Gl X x)(j:X.mg x=some (.ref f))(l:PySem.W.keepIn X.K (.ref f)=true)(v:E3 X.K fd ps ds)(u:AR dvs ds)(g:J7 CX X E)
  (y:PA X (e::es) t) (c:(x==("__debug__":Str))=false:=by decide) (o:starEach (e::es) X.env=(false,eval e X.env)::starEach es X.env:=by rfl) (a:(backTo pos (starEach es X.env)).any (·.1)=false:=by rfl) :
  PE X (.Call (.Name x p) (e::es) [] pos) (F4 sp dvs E t):=by
 intro qA s σ H Q I h
 refine wpAny_Call_Name_kw (Mo I n j ?_ c)
 refine PySem.W.callWith_K (h₀:=X.base) I.ok.mod.kin l (AH (y pos qA s σ H _ I h) λus z ⟨vs,H1,d,r,q⟩=>⟨d.kIn,?_⟩) o a
 exact TX F i v u g d r q
end
def PK(X:Cx)(kws:List Keyword)(t:TA):Prop :=
 ∀(pos:Pos) (qA:List (Addr×Obj)) (s:Shared) (σ:St) (H:Hp) (Q:List V->Hp->Prop),Inv X qA σ H s->t σ H Q->wpAny (model X.prog X.w) X.A (evalAll ((backToKw pos (keywordEach kws X.env)).map (·.2))) (AP X qA σ Q) X.xe s
section
variable{CX:Co}{k:Nat}{f C:Addr}{ks:List Str}{sp:Sp}{E:XK}{m:Str}{p kpos:Pos}{e o:Expr}{kws:List Keyword}{t tk:TA}{nm:Option Str}
theorem TZ:PK X [] B7:=λ_ _ _ _ H Q I h=>wpAny_evalAll_nil ⟨[],H,I,.nil,h⟩
theorem Ta(j:PE X e te)(i:PK X kws t):PK X (⟨nm,e,kpos⟩::kws) (B8 te t):=by
 intro pos qA s σ H Q I h
 show wpAny _ _ (evalAll ((do let v <-eval e X.env;standAt pos;pure v)::(backToKw pos (keywordEach kws X.env)).map (·.2))) _ _ s
 refine wpAny_evalAll_cons (wB (AH (j qA s σ H _ I h) λu a ⟨x,H1,n,d,g⟩=>wB (wpAny_standAt (wP ?_))))
 exact AH (i pos qA a σ H1 _ n g) λus o ⟨xs,H2,l,c,f⟩=>⟨x::xs,H2,l,.cons d c,f⟩
variable{g:List Value->List Value->List Value}{gV:List V->List V->List V}
end
structure FnScope(N P:List Str)(sc:Scope):Prop where
 kind:sc.kind=.function
 co:sc.isCoroutine=false
 gen:sc.isGenerator=false
 nd:N.Nodup
 pre:N.take P.length=P
 par:∀x∈P,sc.names.lookup x=some .local\/sc.names.lookup x=some .cell
 nofree:∀y∈sc.names,y.2≠.free
theorem ND{kindOf:Str->Option NameKind}{x:Str}:∀{binds:List (Str×Value)} {m:Str->Option Value},(∀v,(x,v)∉binds)->bindL kindOf binds m x=m x
 |[],_,_=>rfl
 |(n,v)::r,m,h=>by
  unfold bindL
  rw[ND λw a=>h w (mem_cons_of_mem _ a)]
  split
  ·have:x≠n:=by rintro rfl;exact h v mem_cons_self
   simp[this]
  ·rfl
theorem NE{kindOf:Str->Option NameKind}{x:Str}:∀{binds:List (Str×Value)} {m:Str->Option Value},(∀v,(x,v)∉binds)->bindC kindOf binds m x=m x
 |[],_,_=>rfl
 |(n,v)::r,m,h=>by
  unfold bindC
  rw[NE λw a=>h w (mem_cons_of_mem _ a)]
  split
  ·rfl
  ·have:x≠n:=by rintro rfl;exact h v mem_cons_self
   simp[this]
theorem NF{kindOf:Str->Option NameKind}{x:Str}{v:Value}:∀{P:List Str} {vs:List Value} {i:Nat} {m:Str->Option Value},P.Nodup->P[i]?=some x->vs[i]?=some v->kindOf x=some .local ->
  bindL kindOf (P.zip vs) m x=some v
 |[],_,_,_,_,h,_,_=>by simp at h
 |_::_,[],_,_,_,_,h,_=>by simp at h
 |p::P,w::vs,0,m,a,h1,h2,c=>by
  simp at h1 h2;subst h1;subst h2
  show bindL kindOf ((p,w)::P.zip vs) m p=_
  unfold bindL
  rw[ND λv d=>(nodup_cons.mp a).1 (of_mem_zip d).1,if_pos c]
  simp
 |p::P,w::vs,i+1,m,a,h1,h2,c=>by
  show bindL kindOf ((p,w)::P.zip vs) m x=_
  unfold bindL
  exact NF (i:=i) (nodup_cons.mp a).2 (by simpa using h1) (by simpa using h2) c
theorem NG{kindOf:Str->Option NameKind}{x:Str}{v:Value}:∀{P:List Str} {vs:List Value} {i:Nat} {m:Str->Option Value},P.Nodup->P[i]?=some x->vs[i]?=some v->kindOf x≠some .local ->
  bindC kindOf (P.zip vs) m x=some v
 |[],_,_,_,_,h,_,_=>by simp at h
 |_::_,[],_,_,_,_,h,_=>by simp at h
 |p::P,w::vs,0,m,a,h1,h2,c=>by
  simp at h1 h2;subst h1;subst h2
  show bindC kindOf ((p,w)::P.zip vs) m p=_
  unfold bindC
  rw[NE λv d=>(nodup_cons.mp a).1 (of_mem_zip d).1,if_neg c]
  simp
 |p::P,w::vs,i+1,m,a,h1,h2,c=>by
  show bindC kindOf ((p,w)::P.zip vs) m x=_
  unfold bindC
  exact NG (i:=i) (nodup_cons.mp a).2 (by simpa using h1) (by simpa using h2) c
def CL(N:List Str)(vs:List V):St:=vs.map some++replicate (N.length - vs.length) none
def Dv(CX:Co)(P:Program)(w:World)(K:Fg)(mg:Str->Option Value)(base:Heap)(N:List Str)(qual:Str)(scope:Scope)(f:Addr)(cd:Value)(A:Around)(outer:List Env)(s:Shared)(H:Hp)(E:XK):Cx where
 prog:=P
 w:=w
 K:=K
 mg:=mg
 base:=base
 A:=A.deeper (envOfC qual scope s.heap.objs.size f cd)
 N:=N
 s₀:=s
 H₀:=H
 env:=envOfC qual scope s.heap.objs.size f cd
 outer:=outer
 stack:=envOfC qual scope s.heap.objs.size f cd::outer
 ex:=[]
 calm:=true
 fn:=λ_=>true
 pn:=[]
 xe:=λe s'=>wpAny (model P w) (A.deeper (envOfC qual scope s.heap.objs.size f cd)) (leaving (envOfC qual scope s.heap.objs.size f cd) e) (λ_ s''=>CX outer H s E e s'') (λe' s''=>CX outer H s E e' s'') s'
theorem NH(h:sc.names.lookup x=some .cell):∃c,(cellsFrom n sc.names []).lookup x=some c:=by
 have q:=PySem.W.cellsFrom_some sc.names n [] (.inl h)
 exact Option.isSome_iff_exists.mp q
theorem Tb{CX:Co}{P:Program}{K:Fg}{f:Addr}{o:Value}{outer:List Env}{s1:Shared}{E:XK}
  (S:FnScope N ps scope) (G:A.handled=none) (d:Env0 P w K mg base A outer s H) (J:vs.length=ps.length) (r:AR vs us)
  (x:InCallC s s.heap.objs.size (bindL (envOfC qual scope s.heap.objs.size f o).kindOf (ps.zip us) λ_=>none) (cellsFrom (s.heap.objs.size+1) scope.names []) (bindC (envOfC qual scope s.heap.objs.size f o).kindOf (ps.zip us) λ_=>none) s1) :
  Inv (Dv CX P w K mg base N qual scope f o A outer s H E) [] (CL N vs) H s1:=by
 have D:ps.length<=N.length:=by have:=congrArg length S.pre;rw[length_take]at this;lia
 obtain⟨h1,tk,rfl,C⟩:=x.done
 have g:∀b:Addr,b∉(Dv CX P w K mg base N qual scope f o A outer s H E).ex:=λb z=>absurd (show b∈([]:List Addr)from z) (by simp)
 refine⟨⟨d.mod,S.kind,rfl,rfl,Nat.le_refl _,λy z c h1 h2=>?_,λy hy=>?_,λy c _ h=>?_,λ_=>G,Around.frames_deeper d.frames,.inr ⟨rfl,rfl⟩,λb z=>absurd z (g b),d.bs,d.bsz,λb _ _=>g b,λb z=>absurd z (g b),d.funs,d.frf⟩,
  rfl,d.bare,Un.kept C,⟨_,x.toInCall.ns,λi y v h1 h2 L=>?_⟩,λy c h=>⟨_,x.cell y c h⟩,d.hok.fresh (Nat.le_refl _),λy c h=>?_,λp l=>absurd (show p∈([]:List (Addr×Obj))from l) (by simp),d.hok.kept C,?_⟩
 ·exact name_of_addr x.apart (PySem.mem_of_lookup h1) (PySem.mem_of_lookup h2)
 ·have hy:scope.names.lookup y=some .cell\/scope.names.lookup y=some .free:=hy
  rcases hy with hy|hy
  ·exact NH hy
  ·exact absurd rfl (S.nofree _ (PySem.mem_of_lookup hy))
 ·exact Nat.le_of_lt (x.above y c (PySem.mem_of_lookup h))
 ·have hi:i<vs.length:=by
   unfold CL at h2
   by_cases hi:i<vs.length
   ·exact hi
   ·rw[getElem?_append_right (by simpa using hi)]at h2
    rw[getElem?_replicate]at h2
    split at h2<;>cases h2
  have I:vs[i]?=some v:=by
   unfold CL at h2
   rw[getElem?_append_left (by simpa using hi),getElem?_map]at h2
   cases e:vs[i]? with
   |none=>rw[e]at h2;cases h2
   |some a=>rw[e]at h2;cases h2;rfl
  obtain⟨u,B,rv⟩:=r.get I
  have l:ps[i]?=some y:=by
   rw[<-S.pre,getElem?_take_of_lt (by lia)];exact h1
  have j:ps.Nodup:=by rw[<-S.pre];exact S.nd.sublist (take_sublist _ _)
  refine⟨u,rv,?_⟩
  rcases S.par y (mem_of_getElem? l)with k|k
  ·exact .inl ⟨k,NF j l B k⟩
  ·obtain⟨c,e⟩:=NH (n:=s.heap.objs.size+1) k
   refine .inr ⟨.inl k,c,e,?_⟩
   have q:=x.cell y c e
   rw[NG j l B (by show scope.names.lookup y≠_;rw[k];decide)]at q
   exact q
 ·exact d.hok.fresh (Nat.le_of_lt (x.above y c (PySem.mem_of_lookup h)))
 ·unfold CL
  show _=N.length
  rw[length_append,length_map,length_replicate]
  lia
theorem Tc{CX:Co}{P:Program}{K:Fg}{k:Nat}{f:Addr}{name:Str}{c:Arguments}{body:List Stmt}{G kV doc D a ct T:Value}{L O:Option Addr}
  {p:Array (Option Value)} {sp:Sp} (U:K.lookup f=some ⟨T,O,.func (PySem.W.fnOf name qual c body scope G kV doc D L a ct),p⟩) (C:PySem.W.codeIn K a qual=true) (S:FnScope N ps scope)
  (len:∀vs H Q E,sp vs H Q E->vs.length=ps.length)
  (g:∀(A:Around) (outer:List Env) (s:Shared) (H:Hp) (vs:List V) (Q:VK) (E:XK),Room k (A.deeper (envOfC qual scope s.heap.objs.size f a))->sp vs H Q E ->
   ∃t,BY (Dv CX P w K mg base N qual scope f a A outer s H E) body t/\t { nx:=λ_ H'=>Q .non H',rt:=Q } (CL N vs) H) :
  FnOk P w K mg base CX (k+1) f (PySem.W.fnOf name qual c body scope G kV doc D L a ct) ps sp:=by
 refine⟨len,λA outer s H args us vs Q E B l hb r i=>?_⟩
 have hl:=len _ _ _ _ i
 have M:K.In s.heap:=l.mod.kin.keeps λb o e=>(l.bs b o e).1
 have z:s.heap.NoLimit:=l.mod.nolimit.keeps λb o e=>(l.bs b o e).1
 have d:∀y∈ps.zip us,scope.names.lookup y.1=some .local\/(scope.names.lookup y.1=some .cell/\((cellsFrom (s.heap.objs.size+1) scope.names []).lookup y.1).isSome=true):=λ⟨n,v⟩ Y=>by
  rcases S.par n (of_mem_zip Y).1 with q|q
  ·exact .inl q
  ·exact .inr ⟨q,PySem.W.cellsFrom_some _ _ _ (.inl q)⟩
 refine codeAny_call_function B.depth (M _ _ U) rfl S.co S.gen rfl (PySem.W.codeRec_of M C) (hb _ _ _ _ ?_)
 refine wpAny_newFunctionEnv_cells S.kind d λenv he s1 x=>?_
 subst he
 refine⟨z.keeps x.toInCall.keep,codeAny_func ?_⟩
 obtain⟨t,ht,hq⟩:=g A outer s H vs Q E (B.deeper _) i
 have I:Inv (Dv CX P w K mg base N qual scope f a A outer s H E) [] (CL N vs) H s1:=Tb S B.hd l hl r x
 refine wpAny_mono (ht [] s1 (CL N vs) H _ I hq) (λfl s' h=>?_) λe s' h=>h
 have j:∀{σ':St} {H':Hp} {v:V} {u:Value},Inv (Dv CX P w K mg base N qual scope f a A outer s H E) [] σ' H' s'->AG v u->Q v H'->CE outer P w H s Q u s' :=
  λ{σ' H' v u} J rv q=>⟨v,H',J.os,J.bare,J.base,J.hok,rv,q⟩
 cases fl with
 |ret u =>
  obtain⟨v,σ',H',J,rv,q⟩:=h
  exact j J rv q
 |next =>
  obtain⟨σ',H',J,q⟩:=h
  exact j (v:=V.non) (u:=Value.none) J rfl q
 |brk =>
  obtain⟨_,_,_,q⟩:=h
  exact False.elim q
 |cont =>
  obtain⟨_,_,_,q⟩:=h
  exact False.elim q
section
variable{p:Pos}{e:Expr}{t:TA}{id T:String}{r:List V->Hp->VK->Prop}
def EQ(r:List V->Hp->VK->Prop)(t:TA):TE:=λσ H Q=>t σ H λvs H1=>r vs H1 Q
theorem ER(q:BP X (.builtin id) r)(n:Gl X x)(l:X.mg x=none)(i:bootBuiltins x=some (.builtin id))(u:PA X (e::es) t)(j:x≠"__name__":=by decide)(c:(x==("__debug__":Str))=false:=by decide)
  (o:starEach (e::es) X.env=(false,eval e X.env)::starEach es X.env:=by rfl) (a:(backTo pos (starEach es X.env)).any (·.1)=false:=by rfl):PE X (.Call (.Name x p) (e::es) [] pos) (EQ r t):=by
 intro qA s σ H Q I h
 refine wpAny_Call_Name_kw (Eu I n l i ?_ j c)
 exact PyProof.Rows.callWith_builtin1 (AH (u pos qA s σ H _ I h) λus d ⟨vs,H1,v,f,g⟩=>q qA d σ H1 vs us Q v f g) o a
theorem J8(q:BP X (.type T) r)(n:Gl X x)(l:X.mg x=none)(i:bootBuiltins x=some (.type T))(u:PA X (e::es) t)(j:x≠"__name__":=by decide)(c:(x==("__debug__":Str))=false:=by decide)
  (o:starEach (e::es) X.env=(false,eval e X.env)::starEach es X.env:=by rfl) (a:(backTo pos (starEach es X.env)).any (·.1)=false:=by rfl):PE X (.Call (.Name x p) (e::es) [] pos) (EQ r t):=by
 intro qA s σ H Q I h
 refine wpAny_Call_Name_kw (Eu I n l i ?_ j c)
 exact PyProof.Rows.callWith_type1 (AH (u pos qA s σ H _ I h) λus d ⟨vs,H1,v,f,g⟩=>q qA d σ H1 vs us Q v f g) o a
end
end L2
namespace HT
open PySem PyProof.Rows
def lexLt:List Int->List Int->Bool
 |[],[]=>false
 |[],_::_=>true
 |_::_,[]=>false
 |x::xs,y::ys=>if x=y then lexLt xs ys else decide (x<y)
theorem lexLt_cons(x y:Int)(xs ys:List Int):lexLt (x::xs) (y::ys)=if x=y then lexLt xs ys else decide (x<y):=rfl
theorem Td:lexLt [] []=false:=rfl
theorem Te(y:Int)(ys:List Int):lexLt [] (y::ys)=true:=rfl
theorem Tf(x:Int)(xs:List Int):lexLt (x::xs) []=false:=rfl
theorem Tg(A:Around)(s:Shared)(a:Int)(t:Tok)(c:Int)(u:Tok):∃e,SeqAt.EqAt A s (.int a t) (.int c u) e/\(e=true↔a=c) :=
 ⟨(a==c),SeqAt.EqAt.int_int a t c u,by simp⟩
theorem Th(A:Around)(s:Shared)(a:Int)(t:Tok)(c:Int)(u:Tok)(prog:Program)(w:World)(E:VS)(Q:VS)(h:Q (.bool (decide (a<c))) s) :
  wpAny (model prog w) A (richCompare .Lt (.int a t) (.int c u)) Q E s :=
 (PyProof.Rows.lt_int h:wpAny (model prog w) A (compareOp .Lt (.int a t) (.int c u)) Q E s)
section
open PySem.SeqAt
open PySem.AutoSeq1 (wpAny_loadPart')
open PySem.MeetsSeq PySem.MeetsSeq2 PySem.MeetsSeq3
theorem tuple_lt_ints(l b:Addr)(items f:Array Value)(n U:Nat)(dd N:Option Addr)(T J:Array (Option Value))(ns ms:List Int)(hi:IntsAre items.toList ns)(Q:IntsAre f.toList ms) :
  Meets (Builtin.«tuple.__lt__» ⟨[.ref l,.ref b],[]⟩)
   (λ_ R s=>s.heap.get? l=some { cls:=.type "tuple",dict:=dd,data:=.seq items n,slots:=T }/\s.heap.get? b=some { cls:=.type "tuple",dict:=N,data:=.seq f U,slots:=J } /\
    R (.ok (.ret (.bool (lexLt ns ms)))) s) :=
 .of_wp λprog w A R s h=>by
  obtain⟨I,g,d,tk,os⟩:=s;obtain⟨hl,hb,h⟩:=h
  have f2:=AutoSeq1.sub_tuple_tuple
  have z1:items.size=ns.length:=by rw[<-hi.length];simp
  have z2:f.size=ms.length:=by rw[<-Q.length];simp
  wp_walk using wpAny_loadPart' hl,wpAny_loadPart' hb,wpAny_forIn_list _ (λqF b s'=>b.1=none/\s'=⟨I,g,d,tk,os⟩/\∃(vs H:List Value) (j o:List Int),qF=vs.zip H /\
   IntsAre vs j/\IntsAre H o/\j.length+f.size=o.length+items.size/\R (.ok (.ret (.bool (lexLt j o)))) ⟨I,g,d,tk,os⟩) _
  case turn =>
   rintro⟨y,x⟩ qF b s' ⟨D,rfl,vs,H,j,o,p,B,r,i,z⟩
   cases B with
   |nil=>rw[zip_nil_left]at p;cases p
   |cons a t G =>
    cases r with
    |nil=>rw[zip_nil_right]at p;cases p
    |cons c u E =>
     rw[zip_cons_cons]at p
     injection p with L C
     injection L with Y hx
     subst Y hx
     rw[lexLt_cons]at z
     simp only[length_cons]at i
     obtain⟨e,he,v⟩:=Tg A.in1 ⟨I,g,d,tk,os⟩ a t c u
     refine wB (he prog w _ _ ?_)
     cases e with
     |true =>
      rw[if_pos (v.mp rfl)]at z
      wp_walk
      exact⟨rfl,rfl,_,_,_,_,C,G,E,by lia,z⟩
     |false =>
      rw[if_neg (λq=>absurd (v.mpr q) Bool.false_ne_true)]at z
      have M:=Th A.in1 ⟨I,g,d,tk,os⟩ a t c u prog w
      wp_walk using M
      exact⟨_,rfl,by simpa using z⟩
  case fin =>
   rintro⟨b1,b2⟩ s' ⟨D,rfl,vs,H,j,o,p,B,r,i,z⟩
   simp only at D
   subst D
   have O:lexLt j o=decide (items.size<f.size):=by
    cases B with
    |nil =>
     cases r with
     |nil =>
      simp only[length_nil]at i
      rw[Td]
      exact(decide_eq_false (by lia)).symm
     |cons c u hw =>
      simp only[length_nil,length_cons]at i
      rw[Te]
      exact(decide_eq_true (by lia)).symm
    |cons a t O =>
     cases r with
     |nil =>
      simp only[length_nil,length_cons]at i
      rw[Tf]
      exact(decide_eq_false (by lia)).symm
     |cons c u hw =>
      rw[zip_cons_cons]at p
      cases p
   rw[O]at z
   wp_walk
   exact⟨_,rfl,by simpa[Builtin.Tuple.tupleCompareSizes]using z⟩
  case h =>
   exact⟨rfl,rfl,items.toList,f.toList,ns,ms,rfl,hi,Q,by lia,h⟩
end
theorem lt_tupInts{l b:Addr}{items a:Array Value}{ms:List Int}(v:IsTup s.heap l items)(z:IsTup s.heap b a)(hi:IntsAre items.toList ns)(y:IntsAre a.toList ms)
  (u:A.units<cLine) (h:Q (.bool (lexLt ns ms)) s):wpAny (model prog w) A (compareOp .Lt (.ref l) (.ref b)) Q E s:=by
 obtain⟨⟨B,dd,o,q⟩,g,j,n,i⟩:=id v
 obtain⟨⟨p,f,data2,e⟩,c,d,r,B4⟩:=id z
 simp only at j i d B4
 subst j i d B4
 exact richCompare_meets_room (op:=.Lt) ⟨_,g,rfl⟩ ⟨_,c,rfl⟩ PySem.F.slot_tuple_lt PySem.F.entry_tuple_lt (PySem.F.args_tuple_lt_2 _ _) (tuple_lt_ints l b items a n r dd f q e ns ms hi y)
  ⟨g,c,show Value.bool (lexLt ns ms)≠Value.notImplemented/\Q (.bool (lexLt ns ms)) s from⟨(λx=>nomatch x),h⟩⟩ u
theorem cat_tup{t b:Addr}{vs a:List Value}(u:IsTup s.heap t vs.toArray)(v:IsTup s.heap b a.toArray)(o:vs≠[])
  (h1:a=[]->Q (.ref t) s) (h2:a≠[]->Q (.ref s.heap.objs.size) { s with heap:=s.heap.push { cls:=.type "tuple",data:=.seq (vs++a).toArray } })
  (hsz:vs.length+a.length<=sizeLine):wpAny (model prog w) A (binaryOp .Add (.ref t) (.ref b)) Q E s:=by
 obtain⟨⟨cls,dd,data,j⟩,i,q,n,p⟩:=id u
 obtain⟨⟨r,g,data2,d⟩,c,f,l,B4⟩:=id v
 simp only at q p f B4
 subst q p f B4
 have e:vs.toArray++a.toArray=(vs++a).toArray:=by simp
 by_cases h:a=[]
 ·exact concat_meets ⟨_,i,rfl⟩ ⟨_,c,rfl⟩ noFill_tuple_add seq_tuple_add PySem.F.slot_tuple_add PySem.F.entry_tuple_add (PySem.F.args_tuple_add_2 _ _)
   (tuple_addW1 t b vs.toArray a.toArray n l dd g j d (by simpa using o) (by simp[h])) ⟨i,c,h1 h⟩
 ·refine concat_meets ⟨_,i,rfl⟩ ⟨_,c,rfl⟩ noFill_tuple_add seq_tuple_add PySem.F.slot_tuple_add PySem.F.entry_tuple_add (PySem.F.args_tuple_add_2 _ _)
   (tuple_addW2 t b vs.toArray a.toArray n l dd g j d (by simpa using o) (by simpa using h) (by rw[size_toArray,size_toArray];exact hsz)) ⟨i,c,?_⟩
  rw[e]
  exact h2 h
def sIx(n d:Nat):Option Int->Nat
 |none=>d
 |some v=>if v<0 then(v+(n:Int)).toNat else min v.toNat n
theorem Ti(n d:Nat)(c:d<=n)(o:Option Int):sIx n d o<=n:=by
 cases o with
 |none=>exact c
 |some v =>
  show(if v<0 then(v+(n:Int)).toNat else min v.toNat n)<=n
  by_cases a:v<0
  ·rw[if_pos a];lia
  ·rw[if_neg a];exact Nat.min_le_right _ _
theorem NI(v:Int)(n d:Nat):(if v<0 then max (v+(n:Int)) 0 else min v (n:Int))=((sIx n d (some v):Nat):Int):=by
 show(if v<0 then max (v+(n:Int)) 0 else min v (n:Int))=(((if v<0 then(v+(n:Int)).toNat else min v.toNat n):Nat):Int)
 by_cases a:v<0
 ·simp only[if_pos a];lia
 ·simp only[if_neg a];lia
theorem Tj(lo hi:Option Int)(n:Nat):Builtin.Slice.sliceAdjust lo hi 1 (n:Int)=(((sIx n 0 lo:Nat):Int),((sIx n n hi:Nat):Int)):=by
 have h1:¬((1:Int)<0):=by lia
 unfold Builtin.Slice.sliceAdjust
 simp only[h1,if_false]
 refine Prod.ext ?_ ?_
 ·cases lo with
  |none=>rfl
  |some v=>exact NI v n 0
 ·cases hi with
  |none=>rfl
  |some v=>exact NI v n n
theorem Tk(i j:Nat):Builtin.Slice.slicePlaces (i:Int) (j:Int) 1=j - i:=by
 unfold Builtin.Slice.slicePlaces
 have h1:(1:Int) > 0:=by lia
 simp only[h1,if_true,Int.ediv_one]
 split<;>lia
theorem NJ{v:Value}{o:Option Int}{Q:Option Int->Shared->Prop}(p:IsPart v o)(h:Q o s):wpAny (model prog w) A (Builtin.Slice.slicePartIndex v) Q E s:=by
 cases p with
 |none=>exact slicePart_none h
 |int i t=>exact slicePart_int h
theorem NK{f:Addr}{e d:Value}{lo hi:Option Int}{Q:Int×Int×Nat->Shared->Prop}(i:s.heap.IsSliceOf f e d .none)(pl:IsPart e lo)(g:IsPart d hi)
  (h:Q (((sIx n 0 lo:Nat):Int),1,sIx n n hi - sIx n 0 lo) s):wpAny (model prog w) A (Builtin.Slice.sliceApplied (.ref f) (pure (n:Int))) Q E s:=by
 obtain⟨os,a,j,c⟩:=id i
 unfold Builtin.Slice.sliceApplied Builtin.Slice.sliceFields
 refine wB (wB (wpAny_field a c (x:=e) rfl (wB (wpAny_field a c (x:=d) rfl (wB (wpAny_field a c (x:=.none) rfl (wP ?_)))))))
 refine wB (slicePart_none ?_)
 show wpAny _ _ (if((1:Int)==0)=true then _ else _) _ _ s
 rw[if_neg (by decide)]
 refine wB (NJ pl (wB (NJ g (wB (wP ?_)))))
 show wpAny _ _ (match Builtin.Slice.sliceAdjust lo hi 1 (n:Int)with|(lo,hi)=>pure (lo,(1:Int),Builtin.Slice.slicePlaces lo hi 1)) _ _ s
 rw[Tj lo hi n]
 show wpAny _ _ (pure (((sIx n 0 lo:Nat):Int),(1:Int),Builtin.Slice.slicePlaces ((sIx n 0 lo:Nat):Int) ((sIx n n hi:Nat):Int) 1)) _ _ s
 rw[Tk]
 exact wP h
theorem Tn(xs:Array Value)(i k:Nat):((List.range k).filterMap λ(m:Nat)=>xs[((i:Int)+(m:Int) * 1).toNat]?).toArray=((xs.toList.drop i).take k).toArray:=by
 have e:(λ(m:Nat)=>xs[((i:Int)+(m:Int) * 1).toNat]?)=λm=>xs[i+m]?:=by
  funext m
  have:((i:Int)+(m:Int) * 1).toNat=i+m:=by lia
  rw[this]
 rw[e]
 have:=pick_run xs i k
 rw[filterMap_map]at this
 have a:((λx=>xs[x]?) ∘ λx=>i+x)=λm=>xs[i+m]?:=rfl
 rw[a]at this
 rw[this]
theorem getItem_tuple_cut{t d:Addr}{items:Array Value}{l j:Value}{lo hi:Option Int}(c:IsTup s.heap t items)(n:s.heap.IsSliceOf d l j .none)(pl:IsPart l lo)(o:IsPart j hi)
  (hw:¬(sIx items.size 0 lo=0/\sIx items.size items.size hi=items.size))
  (h:Q (.ref s.heap.objs.size) { s with heap:=s.heap.push { cls:=.type "tuple",data:=.seq ((items.toList.drop (sIx items.size 0 lo)).take (sIx items.size items.size hi - sIx items.size 0 lo)).toArray } })
  (hsz:items.size<=sizeLine):wpAny (model prog w) A (getItem (.ref t) (.ref d)) Q E s:=by
 have a:sizeOk (.seq ((items.toList.drop (sIx items.size 0 lo)).take (sIx items.size items.size hi - sIx items.size 0 lo)).toArray):=by
  show((items.toList.drop (sIx items.size 0 lo)).take (sIx items.size items.size hi - sIx items.size 0 lo)).toArray.size<=sizeLine
  rw[size_toArray,length_take,length_drop,Array.length_toList]
  lia
 have v:sIx items.size items.size hi<=items.size:=Ti _ _ (Nat.le_refl _) hi
 obtain⟨os,e,g,p⟩:=id n
 have i:s.TypeIs (.ref d) "slice":=⟨os,e,g⟩
 unfold getItem
 try with_reducible refine wpAny_holding ?_
 first|refine wB (wP ?_)|skip
 refine wB (wpAny_sequenceKey c.typeIs (by decide) ?_)
 refine wB (wpAny_callSpecial?_slot (name:=Str.ofString "__getitem__") c.typeIs PyProof.Rows.slot_tuple_getitem
  (wpAny_call_entry PyProof.Rows.slot_tuple_getitem c.typeIs entry_tuple_getitem ?_ (args_tuple_getitem _ _)))
 show wpAny _ _ (Builtin.Tuple.tupleItemsOf (.ref t) >>= _) _ _ s
 refine wB (tupleItemsOf_ c ?_)
 refine wB (wpAny_typeOf i ?_)
 rw[if_pos (by decide)]
 refine wB (NK n pl o ?_)
 have f:¬((((sIx items.size 0 lo:Nat):Int)==0&&(1:Int)==1&&(sIx items.size items.size hi - sIx items.size 0 lo)==items.size)=true):=by
  intro q
  rw[Bool.and_eq_true,Bool.and_eq_true]at q
  have u:((sIx items.size 0 lo:Nat):Int)=0:=eq_of_beq q.1.1
  have r:sIx items.size items.size hi - sIx items.size 0 lo=items.size:=eq_of_beq q.2
  exact hw ⟨by lia,by lia⟩
 show wpAny _ _ (if(((sIx items.size 0 lo:Nat):Int)==0&&(1:Int)==1&&(sIx items.size items.size hi - sIx items.size 0 lo)==items.size)=true then _ else _) _ _ s
 rw[if_neg f,Tn]
 first
  |exact wB (m:=Builtin.Tuple.tupleExact _) (wpAny_newObj_type (wP ⟨_,rfl,wP h⟩) a)
  |exact wB (m:=Builtin.Tuple.tupleExact _) (wpAny_newObj_type (wB (wP (wP ⟨_,rfl,wP h⟩))) a)
  |exact wB (wB (m:=Builtin.Tuple.tupleExact _) (wpAny_newObj_type (wP (wP ⟨_,rfl,wP h⟩)) a))
  |exact wB (wB (m:=Builtin.Tuple.tupleExact _) (wpAny_newObj_type (wP ⟨_,rfl,wP h⟩) a))
end HT
namespace L2
open PySem PySem.Spec PyProof.Rows
abbrev TO:=St->Hp->(Option Int->Hp->Prop)->Prop
def PO(X:Cx)(e:Option Expr)(t:TO):Prop :=
 ∀(qA:List (Addr×Obj)) (s:Shared) (σ:St) (H:Hp) (Q:Option Int->Hp->Prop),Inv X qA σ H s->t σ H Q ->
  wpAny (model X.prog X.w) X.A (evalPart e X.env) (λu s'=>∃o H',Inv X qA σ H' s'/\IsPart u o/\Q o H') X.xe s
def Tp:TO:=λ_ H Q=>Q none H
def Tq(t:TE):TO:=λσ H Q=>t σ H λx H1=>∃i,x=.int i/\Q (some i) H1
theorem E4:∀{us:List Value},AR (ns.map V.int) us->IntsAre us ns:=by
 induction ns with
 |nil=>intro us r;rw[map_nil]at r;cases r;exact .nil
 |cons n ns d =>
  intro us r
  rw[map_cons]at r
  cases r with
  |cons c a =>
   obtain⟨t,e⟩:=c
   subst e
   exact .cons n t (d a)
section
variable{e:Expr}{lo hi:Option Expr}{tl th:TO}{p2:Pos}
theorem F5:PO X none Tp:=by
 intro qA s σ H Q I h
 rw[evalPart_none]
 exact wP ⟨none,H,I,.none,h⟩
theorem F6(h:PE X e te):PO X (some e) (Tq te):=by
 intro qA s σ H Q I d
 rw[evalPart_some]
 refine AH (h qA s σ H _ I d) λu g ⟨x,H1,f,a,c⟩=>?_
 obtain⟨i,rfl,q⟩:=c
 obtain⟨t,rfl⟩:=a
 exact⟨some i,H1,f,.int i t,q⟩
def Cp(X:Cx)(r:V->Option Int->Option Int->Hp->VK->Prop):Prop :=
 ∀(qA:List (Addr×Obj)) (s:Shared) (σ:St) (H:Hp) (x:V) (v vl vu:Value) (lo hi:Option Int) (sl:Addr) (Q:VK),Inv X qA σ H s->AG x v->s.heap.IsSliceOf sl vl vu .none->IsPart vl lo->IsPart vu hi->r x lo hi H Q ->
  ∃T id,typeLookup (.type T) "__getitem__"=pure (some (.builtin id))/\s.TypeIs v T/\wpAny (model X.prog X.w) X.A (getItem v (.ref sl)) (EP X qA σ Q) X.xe s
theorem Cp.or{r r':V->Option Int->Option Int->Hp->VK->Prop}(h:Cp X r)(h':Cp X r'):Cp X (λx lo hi H Q=>r x lo hi H Q\/r' x lo hi H Q):=by
 intro qA s σ H x v vl a lo hi sl Q I c e pl d q
 rcases q with q|q
 ·exact h qA s σ H x v vl a lo hi sl Q I c e pl d q
 ·exact h' qA s σ H x v vl a lo hi sl Q I c e pl d q
def NL(r:V->Option Int->Option Int->Hp->VK->Prop)(te:TE)(tl th:TO):TE:=λσ H Q=>te σ H λx H1=>tl σ H1 λl H2=>th σ H2 λu H3=>r x l u H3 Q
theorem F7{r:V->Option Int->Option Int->Hp->VK->Prop}(C:Cp X r)(G:PE X e te)(D:PO X lo tl)(z:PO X hi th):PE X (.Subscript e (.Slice lo hi none p2) pos) (NL r te tl th):=by
 intro qA s σ H Q I h
 refine Subscript_ (AH (G qA s σ H _ I h) λv i ⟨x,H1,O,j,p⟩=>?_)
 refine wpAny_Slice (AH (D qA i σ H1 _ O p) λd g ⟨l,H2,N,pl,o⟩=>AH (z qA g σ H2 _ N o) λc a ⟨u,f,M,y,n⟩=>?_)
 rw[evalPart_none]
 refine wP ?_
 have L:Inv X qA σ f { a with heap:=a.heap.push { cls:=.type "slice",data:=.fields #[d,c,.none] } }:=M.kept (t':=a.toks) λb U q=>Heap.get?_push_of_some _ q
 obtain⟨T,id,J,B,E⟩:=C qA { a with heap:=a.heap.push { cls:=.type "slice",data:=.fields #[d,c,.none] } } σ f x v d c l u a.heap.objs.size Q L j (Heap.IsSliceOf.new ..) pl y n
 show wpAny (model X.prog X.w) X.A (subscriptTail e (.Slice lo hi none p2) v (.ref a.heap.objs.size)) (EP X qA σ Q) X.xe { a with heap:=a.heap.push { cls:=.type "slice",data:=.fields #[d,c,.none] } }
 exact tail_any (ops:=[.ref a.heap.objs.size,v]) B J E (by with_unfolding_all rfl)
def Cq(xs:List V)(lo hi:Option Int):List V:=(xs.drop (HT.sIx xs.length 0 lo)).take (HT.sIx xs.length xs.length hi - HT.sIx xs.length 0 lo)
theorem NM(xs:List V)(lo hi:Option Int):(Cq xs lo hi).length<=xs.length:=by
 unfold Cq
 rw[length_take,length_drop]
 lia
def Tr(K:Fg):V->Option Int->Option Int->Hp->VK->Prop:=λx lo hi H Q=>∃a xs,x=.ref a/\Bh K H a xs /\
 ¬(HT.sIx xs.length 0 lo=0/\HT.sIx xs.length xs.length hi=xs.length)/\∀p,H p=none->Q (.ref p) (AD H p (.tup (Cq xs lo hi)))
theorem Ts:Cp X (Tr X.K):=by
 intro qA s σ H x v p n lo hi u Q I f l pl g h
 obtain⟨a,xs,rfl,i,j,q⟩:=h
 cases f
 obtain⟨qH,r,e,d⟩:=I.tuple i
 have c:qH.toArray.size=xs.length:=by rw[size_toArray];exact r.length.symm
 refine⟨"tuple",_,PyProof.Rows.slot_tuple_getitem.lookup,e.typeIs,?_⟩
 refine HT.getItem_tuple_cut e l pl g (by rw[c];exact j) ?_ (by rw[c];exact d)
 rw[c]
 refine⟨.ref s.heap.objs.size,_,I.laid (t':=s.toks) (o:=.tup (Cq xs lo hi)) (λb w q=>Heap.get?_push_of_some _ q) (Nat.le_refl _) ?_,rfl,q _ (I.hok.fresh (Nat.le_refl _))⟩
 exact⟨Nat.le_trans (NM xs lo hi) d,_,(r.drop (HT.sIx xs.length 0 lo)).take (HT.sIx xs.length xs.length hi - HT.sIx xs.length 0 lo),DA.new _ _⟩
def Tt(K:Fg):R2:=λx y H Q=>∃a b ns ms,x=.ref a/\y=.ref b/\Bh K H a (ns.map V.int)/\Bh K H b (ms.map V.int)/\Q (.bl (HT.lexLt ns ms)) H
theorem Tu(l:X.A.units<cLine):Av X (compareOp .Lt) (Tt X.K):=by
 intro qA s σ H x y v u Q I e d h
 obtain⟨a,b,ns,ms,rfl,rfl,o,n,q⟩:=h
 cases e
 cases d
 obtain⟨qH,g,p1,_⟩:=I.tuple o
 obtain⟨c,f,p2,_⟩:=I.tuple n
 have j:IntsAre qH.toArray.toList ns:=E4 g
 have i:IntsAre c.toArray.toList ms:=E4 f
 exact HT.lt_tupInts p1 p2 j i l ⟨.bl (HT.lexLt ns ms),H,I,rfl,q⟩
def Tv(K:Fg):R2:=λx y H Q=>∃a b xs ys,x=.ref a/\y=.ref b/\Bh K H a xs/\Bh K H b ys/\xs≠[]/\xs.length+ys.length<=sizeLine /\
 (ys=[]->Q (.ref a) H)/\(ys≠[]->∀p,H p=none->Q (.ref p) (AD H p (.tup (xs++ys))))
theorem AR.nil_iff{xs:List V}(r:AR xs us):us=[]↔xs=[]:=by
 cases r with
 |nil=>simp
 |cons _ _=>simp
theorem Tw:Av X (binaryOp .Add) (Tv X.K):=by
 intro qA s σ H x y v u Q I i g h
 obtain⟨a,b,xs,ys,rfl,rfl,r,p,n,f,l,j⟩:=h
 cases i
 cases g
 obtain⟨qH,d,p1,_⟩:=I.tuple r
 obtain⟨e,c,p2,_⟩:=I.tuple p
 refine HT.cat_tup p1 p2 (λz=>n (d.nil_iff.mp z)) (λz=>⟨.ref a,H,I,rfl,l (c.nil_iff.mp z)⟩) (λz=>?_) (by rw[<-d.length,<-c.length];exact f)
 refine⟨.ref s.heap.objs.size,_,I.laid (t':=s.toks) (o:=.tup (xs++ys)) (λb A q=>Heap.get?_push_of_some _ q) (Nat.le_refl _) ?_,rfl,j (λw=>z (c.nil_iff.mpr w)) _ (I.hok.fresh (Nat.le_refl _))⟩
 exact⟨by rw[length_append];exact f,_,d.append c,DA.new _ _⟩
end
def Cf(n:Nat)(i:Int):Option Nat:=if 0<=i then(if i<n then some i.toNat else none)else if -(n:Int)<=i then some (i+n).toNat else none
def atI{α:Type}(xs:List α)(i:Int):Option α:=(Cf xs.length i).bind λj=>xs[j]?
theorem NN{i:Int}(h:Cf n i=some j):seqIndex? i n=some j/\j<n/\-(n:Int)<=i/\i<n:=by
 unfold Cf at h
 by_cases a:0<=i
 ·rw[if_pos a]at h
  by_cases h1:i<n
  ·rw[if_pos h1]at h
   have e:i.toNat=j:=oI h
   exact⟨by rw[seqIndex_of a h1,e],by lia,by lia,h1⟩
  ·rw[if_neg h1]at h;cases h
 ·rw[if_neg a]at h
  by_cases h1:-(n:Int)<=i
  ·rw[if_pos h1]at h
   have e:(i+n).toNat=j:=oI h
   exact⟨by rw[seqIndex_neg (by lia) h1,e],by lia,h1,by lia⟩
  ·rw[if_neg h1]at h;cases h
theorem Hk{α:Type}{xs:List α}{i:Int}{v:α}(h:atI xs i=some v):∃j,seqIndex? i xs.length=some j/\xs[j]?=some v/\j<xs.length/\-(xs.length:Int)<=i/\i<xs.length:=by
 unfold atI at h
 cases e:Cf xs.length i with
 |none=>rw[e]at h;cases h
 |some j =>
  rw[e]at h
  obtain⟨h1,h2,c,a⟩:=NN e
  exact⟨j,h1,h,h2,c,a⟩
theorem Bd{α:Type}{xs:List α}{v:α}(h:xs[j]?=some v):atI xs (j:Int)=some v:=by
 have a:j<xs.length:=(List.getElem?_eq_some_iff.mp h).1
 have e:Cf xs.length (j:Int)=some j:=by
  unfold Cf
  rw[if_pos (by lia),if_pos (by lia)];simp
 unfold atI;rw[e];exact h
def NO(b:Expr):Prop:=∀o i,subscripted b false o i=operate [o,i] (getItem o i)
def ES(X:Cx)(r:R2):Prop :=
 ∀(value slice:Expr) (qA:List (Addr×Obj)) (s:Shared) (σ:St) (H:Hp) (x y:V) (v u:Value) (Q:VK),Inv X qA σ H s->AG x v->AG y u->r x y H Q ->
  subscripted slice false v u=operate [v,u] (getItem v u)->wpAny (model X.prog X.w) X.A (subscriptTail value slice v u) (EP X qA σ Q) X.xe s
def Hl(X:Cx)(id:String)(r:V->List V->Hp->VK->Prop):Prop :=
 ∀(qA:List (Addr×Obj)) (s:Shared) (σ:St) (H:Hp) (x:V) (xs:List V) (v:Value) (us:List Value) (Q:VK),Inv X qA σ H s->AG x v->AR xs us->r x xs H Q ->
  wpAny (model X.prog X.w) X.A (call (.builtin id) (v::us)) (EP X qA σ Q) X.xe s
section
variable{a b:Expr}
theorem Bv{r:R2}(g:ES X r)(j:PE X a ta)(i:PE X b tb)(f:NO b):PE X (.Subscript a b pos) (Ez r ta tb):=by
 intro qA s σ H Q I h
 exact Subscript_ (J4 j i I h λv u c x y H2 l e d q=>g a b qA c σ H2 x y v u Q l e d q (f _ _))
def Tx(K:Fg):R2:=λx y H Q=>∃p xs i v,x=.ref p/\y=.int i/\Au K H p xs/\atI xs i=some v/\Q v H
def Tz(K:Fg):R2:=λx y H Q=>∃p xs i v,x=.ref p/\y=.int i/\Bh K H p xs/\atI xs i=some v/\Q v H
def NP:R2:=λx y H Q=>∃z i c,x=.str z/\y=.int i/\z.length<=sizeLine/\atI z.cps.toList i=some c/\Q (.str ⟨#[c]⟩) H
theorem NQ:ES X (Tx X.K):=by
 intro value c qA s σ H x y v u Q I o n h f
 obtain⟨p,xs,i,z,rfl,rfl,A,C,q⟩:=h
 cases o
 obtain⟨t,rfl⟩:=n
 obtain⟨qH,r,pl,G⟩:=I.list A
 obtain⟨j,h1,h2,L,E,D⟩:=Hk C
 obtain⟨w,l,d⟩:=r.get h2
 have B:=r.length
 have J:=EO
 have a:EP X qA σ Q w s:=⟨z,H,I,d,q⟩
 by_cases g:0<=i
 ·have e:i.toNat=j:=by
   rw[seqIndex_of g D]at h1
   exact oI h1
  exact item_listR pl.isList g (by lia) (by rw[e];simpa using l) a f
 ·have e:(i+(qH.toArray.size:Int)).toNat=j:=by
   rw[seqIndex_neg (by lia) E]at h1
   rw[size_toArray,<-B]
   exact oI h1
  exact subscriptTail_builtinR (x:=w) pl.isList.typeIs slot_list_getitem.lookup
   (wpAny_getItem_list_neg (Q:=λr s'=>r=w/\EP X qA σ Q r s') pl.isList (by lia) (by rw[size_toArray]<;>lia) (by lia) (by rw[e];simpa using l) ⟨rfl,a⟩) f
theorem T0:ES X (Tz X.K):=by
 intro value a qA s σ H x y v u Q I f e h g
 obtain⟨p,xs,i,z,rfl,rfl,l,o,q⟩:=h
 cases f
 obtain⟨t,rfl⟩:=e
 obtain⟨qH,r,pl,B⟩:=I.tuple l
 obtain⟨j,h1,h2,G,E,D⟩:=Hk o
 obtain⟨w,A,c⟩:=r.get h2
 have n:=r.length
 have C:=EO
 have d:EP X qA σ Q w s:=⟨z,H,I,c,q⟩
 exact subscriptTail_builtinR (x:=w) pl.typeIs slot_tuple_getitem.lookup
  (getItem_tuple (j:=j) (Q:=λr s'=>r=w/\EP X qA σ Q r s') pl (by lia) (by lia) (by rw[size_toArray,<-n];exact h1) (by simpa using A) ⟨rfl,d⟩) g
theorem J9:ES X NP:=by
 intro value a qA s σ H x y v u Q I e d h f
 obtain⟨z,i,c,rfl,rfl,w,l,q⟩:=h
 obtain⟨t,rfl⟩:=e
 obtain⟨t',rfl⟩:=d
 obtain⟨j,h1,h2,B,o,n⟩:=Hk l
 have g:z.cps.toList.length=z.length:=by simp[Str.length]
 rw[g]at h1 o n
 have A:=EO
 exact tail_any (typeIs_str s z t) slot_str_getitem.lookup (getItem_str (c:=c) (by
  have r:decide (i < -(2 ^ 63:Int))=false:=decide_eq_false (by lia)
  have p:decide (i≥2 ^ 63)=false:=decide_eq_false (by lia)
  rw[r,p,Bool.or_false]) (by rw[h1];simpa using h2) ⟨.str ⟨#[c]⟩,H,I.tok _,⟨_,rfl⟩,q⟩) f
theorem T1(qH:List Value)(n j:Nat)(u:Value):Obj.mapSeq (·.setIfInBounds j u) { cls:=.type "list",data:=.seq qH.toArray n }={ cls:=.type "list",data:=.seq (qH.set j u).toArray n }:=by
 simp[Obj.mapSeq]
theorem Inv.lst{xs:List V}(I:Inv X qA σ H s)(h:H p=some (.lst xs)) :
  ∃(qH:List Value) (n:Nat),AR xs qH/\s.heap.get? p=some { cls:=.type "list",data:=.seq qH.toArray n }/\xs.length<=sizeLine:=by
 obtain⟨z,qH,n,r,e⟩:=I.hok p _ h
 exact⟨qH,n,r,e,z⟩
theorem Inv.lstUpd{xs ys:List V}{qH its':List Value}{a:Nat}{f:Obj->Obj}(I:Inv X qA σ H s)(h:H p=some (.lst xs))
  (d:s.heap.get? p=some { cls:=.type "list",data:=.seq qH.toArray n }) (c:f { cls:=.type "list",data:=.seq qH.toArray n }={ cls:=.type "list",data:=.seq its'.toArray a }) (r:AR ys its') (hz:ys.length<=sizeLine) (t:Nat) :
  Inv X qA σ (AD H p (.lst ys)) { s with heap:=s.heap.update p f,toks:=t }:=by
 have e:(s.heap.update p f).get? p=some { cls:=.type "list",data:=.seq its'.toArray a }:=by
  rw[Heap.get?_update_self f d (by rw[c]<;>rfl),c]
 refine I.write (x:=p) (e:=p) (by rw[h];trivial) (.inl rfl) (λb u hb q=>(Heap.get?_update_other _ _ (Ne.symm hb)).trans q) ⟨_,e⟩ ?_
 exact⟨hz,its',a,r,e⟩
def KA:V->V->V->Hp->(Hp->Prop)->Prop:=λo i v H Q=>∃p xs k j,o=.ref p/\i=.int k/\H p=some (.lst xs)/\Cf xs.length k=some j/\Q (AD H p (.lst (xs.set j v)))
theorem F8:Jw X KA:=by
 intro qA s σ H o i v B C u Q I x y rv h
 obtain⟨p,xs,k,j,rfl,rfl,e,A,q⟩:=h
 cases x
 obtain⟨t,rfl⟩:=y
 obtain⟨qH,n,r,a,z⟩:=I.lst e
 obtain⟨h1,h2,g,f⟩:=NN A
 have c:=r.length
 have D:=EO
 have w:Inv X qA σ (AD H p (.lst (xs.set j v))) { s with heap:=s.heap.update p (Obj.mapSeq (·.setIfInBounds j u)) } :=
  I.lstUpd e a (T1 qH n j u) (r.set rv j) (by rw[length_set];exact z) s.toks
 by_cases l:0<=k
 ·have d:k.toNat=j:=by
   rw[seqIndex_of l f]at h1
   exact oI h1
  exact PySem.W.ki_setAt a l (by lia) (by rw[size_toArray,<-c];exact f) (by rw[d];exact⟨_,w,q⟩)
 ·have d:(k+(qH.toArray.size:Int)).toNat=j:=by
   rw[seqIndex_neg (by lia) g]at h1
   rw[size_toArray,<-c]
   exact oI h1
  exact PySem.W.ki_setBack a (by lia) (by rw[size_toArray,<-c];exact g) (by lia) (by rw[d];exact⟨_,w,q⟩)
theorem T2(lo hi:Option Int)(n:Nat):(sliceBounds lo hi none n).1=((HT.sIx n 0 lo:Nat):Int)/\(sliceBounds lo hi none n).2.1=((HT.sIx n n hi:Nat):Int)/\(sliceBounds lo hi none n).2.2=1:=by
 refine⟨?_,?_,rfl⟩
 ·cases lo with
  |none=>simp[sliceBounds,HT.sIx]
  |some i =>
   simp only[sliceBounds,HT.sIx,Option.getD_none,show(1:Int) > 0 by decide,if_true]
   by_cases h:i<0
   ·simp only[h,if_true]<;>lia
   ·simp only[h,if_false]<;>lia
 ·cases hi with
  |none=>simp[sliceBounds,HT.sIx]
  |some i =>
   simp only[sliceBounds,HT.sIx,Option.getD_none,show(1:Int) > 0 by decide,if_true]
   by_cases h:i<0
   ·simp only[h,if_true]<;>lia
   ·simp only[h,if_false]<;>lia
theorem T3(qH:List Value)(lo hi:Option Int):slicePick qH.toArray lo hi none=((qH.drop (HT.sIx qH.length 0 lo)).take (HT.sIx qH.length qH.length hi - HT.sIx qH.length 0 lo)).toArray:=by
 obtain⟨h1,h2,a⟩:=T2 lo hi qH.toArray.size
 unfold slicePick
 rw[h1,h2,a]
 simp only[sliceRange_one,pick_run,size_toArray]<;>rfl
def NR(K:Fg):V->Option Int->Option Int->Hp->VK->Prop:=λx lo hi H Q=>∃a xs,x=.ref a/\Au K H a xs/\∀p,H p=none->Q (.ref p) (AD H p (.lst (Cq xs lo hi)))
theorem Hm:Cp X (NR X.K):=by
 intro qA s σ H x v n l lo hi p Q I e j pl f h
 obtain⟨a,xs,rfl,i,q⟩:=h
 cases e
 obtain⟨qH,r,d,g⟩:=I.list i
 have c:=r.length
 refine⟨"list",_,slot_list_getitem.lookup,d.isList.typeIs,?_⟩
 refine wpAny_getItem_list_slice d.isList j pl f .none (by simp) ?_ (by rw[size_toArray]<;>lia)
 rw[T3,<-c]
 refine⟨.ref s.heap.objs.size,_,I.laid (t':=s.toks) (o:=.lst (Cq xs lo hi)) (λb u q=>Heap.get?_push_of_some _ q) (Nat.le_refl _) ?_,rfl,q _ (I.hok.fresh (Nat.le_refl _))⟩
 exact⟨Nat.le_trans (NM xs lo hi) g,_,0,(r.drop (HT.sIx xs.length 0 lo)).take (HT.sIx xs.length xs.length hi - HT.sIx xs.length 0 lo),Heap.get?_push_size _ rfl⟩
def Db:V->Bool
 |.non=>true
 |.bl _=>true
 |.int _=>true
 |.str _=>true
 |_=>false
def DD:V->V->Bool
 |.non,.non=>true
 |.bl a,.bl b=>a==b
 |.bl a,.int b=>(if a then 1 else 0)==b
 |.int a,.bl b=>a==(if b then 1 else 0)
 |.int a,.int b=>a==b
 |.str a,.str b=>a==b
 |_,_=>false
theorem T4{y x:V}{v:Value}(d:AG y u)(c:AG x v)(f:Db y=true)(e:Db x=true):SeqAt.EqAt A s u v (DD y x):=by
 cases y with
 |non =>
  cases d
  cases x with
  |non=>cases c;exact SeqAt.EqAt.same _
  |bl b=>cases c;exact SeqAt.EqAt.none_bool b
  |int b=>obtain⟨t,rfl⟩:=c;exact SeqAt.EqAt.none_int b t
  |str b=>obtain⟨t,rfl⟩:=c;exact SeqAt.EqAt.none_str b t
  |_=>exact absurd (show false=true from e) Bool.false_ne_true
 |bl a =>
  cases d
  cases x with
  |non=>cases c;exact SeqAt.EqAt.bool_none a
  |bl b=>cases c;exact SeqAt.EqAt.bool_bool a b
  |int b=>obtain⟨t,rfl⟩:=c;exact SeqAt.EqAt.bool_int a b t
  |str b=>obtain⟨t,rfl⟩:=c;exact SeqAt.EqAt.bool_str a b t
  |_=>exact absurd (show false=true from e) Bool.false_ne_true
 |int a =>
  obtain⟨t',rfl⟩:=d
  cases x with
  |non=>cases c;exact SeqAt.EqAt.int_none a t'
  |bl b=>cases c;exact SeqAt.EqAt.int_bool a t' b
  |int b=>obtain⟨t,rfl⟩:=c;exact SeqAt.EqAt.int_int a t' b t
  |str b=>obtain⟨t,rfl⟩:=c;exact SeqAt.EqAt.int_str a t' b t
  |_=>exact absurd (show false=true from e) Bool.false_ne_true
 |str a =>
  obtain⟨t',rfl⟩:=d
  cases x with
  |non=>cases c;exact SeqAt.EqAt.str_none a t'
  |bl b=>cases c;exact SeqAt.EqAt.str_bool a t' b
  |int b=>obtain⟨t,rfl⟩:=c;exact SeqAt.EqAt.str_int a t' b t
  |str b=>obtain⟨t,rfl⟩:=c;exact SeqAt.EqAt.str_str a t' b t
  |_=>exact absurd (show false=true from e) Bool.false_ne_true
 |_=>exact absurd (show false=true from f) Bool.false_ne_true
def Dc(x:V)(u:Value):Bool:=match u with
 |.none=>DD .non x
 |.bool b=>DD (.bl b) x
 |.int i _=>DD (.int i) x
 |.str z _=>DD (.str z) x
 |_=>false
theorem NS{x y:V}(r:AG y u)(f:Db y=true):Dc x u=DD y x:=by
 cases y with
 |non=>cases r;rfl
 |bl b=>cases r;rfl
 |int i=>obtain⟨t,rfl⟩:=r;rfl
 |str z=>obtain⟨t,rfl⟩:=r;rfl
 |_=>exact absurd (show false=true from f) Bool.false_ne_true
theorem KB{x:V}:∀{xs:List V} {us:List Value},AR xs us->xs.all Db=true->us.any (Dc x)=xs.any λy=>DD y x
 |_,_,.nil,_=>rfl
 |y::xs,u::us,.cons r t,f=>by
  rw[all_cons,Bool.and_eq_true]at f
  rw[any_cons,any_cons,NS r f.1,KB t f.2]
theorem KC{A:Around}{s:Shared}{x:V}{v:Value}(a:AG x v)(c:Db x=true):∀{xs:List V} {us:List Value},AR xs us->xs.all Db=true->∀u∈us,SeqAt.EqAt A s u v (Dc x u)
 |_,_,.nil,_=>λu hu=>by cases hu
 |y::xs,u::us,.cons r t,f=>λu' hu=>by
  rw[all_cons,Bool.and_eq_true]at f
  rcases mem_cons.mp hu with rfl|hu
  ·rw[NS r f.1];exact T4 r a f.1 c
  ·exact KC a c t f.2 u' hu
def Hn(x:V)(xs:List V):Bool:=xs.any λy=>DD y x
def T5(K:Fg)(neg:Bool):R2:=λx y H Q=>∃p xs,y=.ref p/\(Au K H p xs\/Bh K H p xs)/\Db x=true/\xs.all Db=true/\Q (.bl (if neg then !Hn x xs else Hn x xs)) H
theorem T6:Av X (compareOp .In) (T5 X.K false):=by
 intro qA s σ H x y v u Q I c e h
 obtain⟨p,xs,rfl,hq,d,fs,q⟩:=h
 cases e
 rcases hq with hq|hq
 ·obtain⟨qH,r,pl,f⟩:=I.list hq
  refine SeqAt.in_listAt (Dc x) pl.isList (λw a=>KC c d r fs w (by simpa using a)) ⟨.bl _,H,I,rfl,?_⟩
  rw[show qH.toArray.any (Dc x)=qH.any (Dc x) by simp,KB r fs]
  exact q
 ·obtain⟨qH,r,pl,f⟩:=I.tuple hq
  refine SeqAt.in_tupleAt (Dc x) pl (λw a=>KC c d r fs w (by simpa using a)) ⟨.bl _,H,I,rfl,?_⟩
  rw[show qH.toArray.any (Dc x)=qH.any (Dc x) by simp,KB r fs]
  exact q
theorem NT:BP X (.builtin "len") (λxs H Q=>∃p ys,xs=[.ref p]/\(Au X.K H p ys\/Bh X.K H p ys)/\Q (.int ys.length) H):=by
 intro qA s σ H xs us Q I r h
 obtain⟨p,ys,rfl,hq,q⟩:=h
 obtain⟨u,rfl,d⟩:=Hi r
 cases d
 have f:=EO
 rcases hq with hq|hq
 ·obtain⟨qH,c,pl,e⟩:=I.list hq
  have a:=c.length
  exact Calls.call_len_list pl.isList (by simp only[size_toArray]<;>lia) ⟨.int ys.length,H,I.tok _,⟨s.toks+1,by rw[size_toArray,a]⟩,q⟩
 ·obtain⟨qH,c,pl,e⟩:=I.tuple hq
  have a:=c.length
  exact len_tuple pl (by simp only[size_toArray]<;>lia) ⟨.int ys.length,H,I.tok _,⟨s.toks+1,by rw[size_toArray,a]⟩,q⟩
theorem NU:BP X (.builtin "len") (λxs H Q=>∃z,xs=[.str z]/\z.length<=sizeLine/\Q (.int z.length) H):=by
 intro qA s σ H xs us Q I r h
 obtain⟨z,rfl,a,q⟩:=h
 obtain⟨u,rfl,t,rfl⟩:=Hi r
 have c:=EO
 exact len_str (by lia) ⟨.int z.length,H,I.tok _,⟨_,rfl⟩,q⟩
theorem T7:BP X (.type "list") (λxs H Q=>∃p ys,xs=[.ref p]/\(Au X.K H p ys\/Bh X.K H p ys)/\∀l,H l=none->Q (.ref l) (AD H l (.lst ys))):=by
 intro qA s σ H xs us Q I r h
 obtain⟨p,ys,rfl,hq,q⟩:=h
 obtain⟨u,rfl,y⟩:=Hi r
 cases y
 have i:∀(qH:List Value),AR ys qH->ys.length<=sizeLine->∀(h':Heap) (c:Nat),(∀b o',s.heap.get? b=some o'->h'.get? b=some o') ->
   h'.get? s.heap.objs.size=some { cls:=.type "list",dict:=none,data:=.seq qH.toArray c,slots:=#[] }->EP X qA σ Q (.ref s.heap.objs.size) { s with heap:=h' }:=λqH a f h' c d e =>
  ⟨.ref s.heap.objs.size,_,I.laid (t':=s.toks) d (Nat.le_refl _) (show A0 X.prog X.w _ h' _ (.lst ys)from⟨f,qH,c,a,e⟩),rfl,q _ (I.hok.fresh (Nat.le_refl _))⟩
 rcases hq with hq|hq
 ·obtain⟨qH,a,pl,f⟩:=I.list hq
  have g:=a.length
  obtain⟨o,j,x,n,v⟩:=pl.isList
  exact call_list_seq p (.inl rfl) j x v (λh' c d e=>i qH a f h' c d e) (by simp only[size_toArray]<;>lia)
 ·obtain⟨qH,a,pl,f⟩:=I.tuple hq
  have g:=a.length
  obtain⟨o,j,x,n,v⟩:=pl
  exact call_list_seq p (.inr rfl) j x v (λh' c d e=>i qH a f h' c d e) (by simp only[size_toArray]<;>lia)
theorem T8:BP X (.type "tuple") (λxs H Q=>∃p ys,xs=[.ref p]/\((Au X.K H p ys/\∀l,H l=none->Q (.ref l) (AD H l (.tup ys)))\/(Bh X.K H p ys/\Q (.ref p) H))):=by
 intro qA s σ H xs us Q I r h
 obtain⟨p,ys,rfl,h⟩:=h
 obtain⟨u,rfl,i⟩:=Hi r
 cases i
 rcases h with⟨c,q⟩|⟨c,q⟩
 ·obtain⟨qH,a,pl,d⟩:=I.list c
  have f:=a.length
  refine call_tuple_list pl.isList (λh' j=>?_) (by simp only[size_toArray]<;>lia)
  have g:Inv X qA σ H { s with heap:=h' }:=I.kept (t':=s.toks) j
  have n:Inv X qA σ (AD H h'.objs.size (.tup ys)) { s with heap:=h'.push { cls:=.type "tuple",data:=.seq qH.toArray } } :=
   g.laid (t':=s.toks) (λb o e=>Heap.get?_push_of_some _ e) (Nat.le_refl _) (show A0 X.prog X.w _ _ _ (.tup ys)from⟨d,qH,a,DA.new _ _⟩)
  exact⟨.ref h'.objs.size,_,n,rfl,q _ (g.hok.fresh (Nat.le_refl _))⟩
 ·obtain⟨qH,a,pl,d⟩:=I.tuple c
  exact call_tuple_same pl ⟨.ref p,H,I,rfl,q⟩
def NV(K:Fg)(T:String)(x:V)(H:Hp):Prop:=match x with
 |.str _=>T="str"
 |.int _=>T="int"
 |.ref p=>(T="list"/\∃xs,Au K H p xs)\/(T="tuple"/\∃o,K.lookup p=some o/\o.cls=.type "tuple"/\o.dict=none) \/
   (T="dict"/\((∃qI,H p=some (.dK qI))\/∃qI,H p=some (.dT qI)))\/(T="set"/\∃S n,H p=some (.set S n))
 |_=>False
theorem T9{T:String}{x:V}{v:Value}(I:Inv X qA σ H s)(r:AG x v)(ty:NV X.K T x H) :
  s.TypeIs v T/\∀a,v=.ref a->∃h,s.heap.get? a=some h/\h.dict=none:=by
 cases x with
 |str z =>
  obtain⟨t,rfl⟩:=r
  cases(show T="str" from ty)
  exact⟨typeIs_str s z t,λ_ e=>nomatch e⟩
 |int i =>
  obtain⟨t,rfl⟩:=r
  cases(show T="int" from ty)
  exact⟨typeIs_int s i t,λ_ e=>nomatch e⟩
 |ref p =>
  cases r
  rcases ty with⟨rfl,xs,j⟩|⟨rfl,o,d,l,f⟩|⟨rfl,d⟩|⟨rfl,S,n,d⟩
  ·obtain⟨qH,_,pl,_⟩:=I.list j
   refine⟨pl.isList.typeIs,λa e=>?_⟩
   cases e
   obtain⟨o,n,e,c,f,_⟩:=pl
   exact⟨o,e,f⟩
  ·refine⟨⟨o,I.kIn p o d,l⟩,λa e=>?_⟩
   cases e
   exact⟨o,I.kIn _ o d,f⟩
  ·have z:∃o,s.heap.get? p=some o/\o.ExactDict:=by
    rcases d with⟨qI,d⟩|⟨qI,d⟩
    ·obtain⟨_,_,_,_,o,_,_,e,ex,_⟩:=I.hok p _ d
     exact⟨o,e,ex⟩
    ·obtain⟨_,_,_,_,o,_,_,e,ex,_⟩:=I.hok p _ d
     exact⟨o,e,ex⟩
   obtain⟨o,e,ex⟩:=z
   refine⟨⟨o,e,ex.1⟩,λa g=>?_⟩
   cases g
   exact⟨o,e,ex.2.1⟩
  ·obtain⟨o,_,_,_,e,ex,_⟩:=I.hok p _ d
   refine⟨⟨o,e,ex.1⟩,λa g=>?_⟩
   cases g
   exact⟨o,e,ex.2.1⟩
 |_=>exact False.elim ty
def Ho(K:Fg)(T:String)(r:V->List V->Hp->VK->Prop)(to:TE)(t:TA):TE:=λσ H Q=>to σ H λx H1=>NV K T x H1/\t σ H1 λxs H2=>r x xs H2 Q
variable{o e:Expr}{to:TE}{t:TA}{name:Str}{T id:String}{r:V->List V->Hp->VK->Prop}
theorem Hr(pa:PlainAttrs T)(slot:Slot T name id)(g:typeOf (.builtin id)=pure (.type "method_descriptor"))(A:Hl X id r)(z:PE X o to)(B:PA X (e::es) t)
  (d:attributeBase o name X.env (eval o X.env)=eval o X.env:=by rfl)
  (f:((backTo qL (starEach (e::es) X.env)).all (λx=>!x.1)&&(backToKw qL (keywordEach [] X.env)).all (λx=>x.1.isSome)
   && decide ((e::es).length+([]:List Keyword).length+(if([]:List Keyword).isEmpty then 0 else 1)<30))=true:=by rfl)
  (c:(qM.endLine==qL.line)=true:=by rfl) (y:starEach (e::es) X.env=(false,eval e X.env)::starEach es X.env:=by rfl) (a:(backTo qL (starEach es X.env)).any (·.1)=false:=by rfl) :
  PE X (.Call (.Attribute o name qM) (e::es) [] qL) (Ho X.K T r to t):=by
 intro qA s σ H Q I h
 refine wpAny_Call_method_late d f c rfl (AH (z qA s σ H _ I h) λv p ⟨x,H1,l,i,ty,w⟩=>?_)
 obtain⟨h1,h2⟩:=T9 l i ty
 refine⟨T,id,pa,slot,g,h1,h2,?_⟩
 have j:=B qL qA p σ H1 _ l w
 rw[y]at j ⊢
 refine Calls.callWith_builtin (by show(false||(backTo qL (starEach es X.env)).any (·.1))=false;rw[a]<;>rfl) (Calls.evalArgs_plain ?_)
 exact AH j λus n ⟨vs,H2,C,q,u⟩=>A qA n σ H2 x vs v us Q C i q u
end
def UA(X:Cx)(id:String)(r:V->List V->Hp->VK->Prop):Prop :=
 ∀(qA:List (Addr×Obj)) (s:Shared) (σ:St) (H:Hp) (x:V) (xs:List V) (v:Value) (us:List Value) (Q:VK),Inv X qA σ H s->AG x v->AR xs us->r x xs H Q ->
  wpAny (model X.prog X.w) X.A (call (.builtin id) (v::us)) (EP X qA σ Q) X.xe s
theorem AR.one{x:V}(h:AR [x] us):∃u,us=[u]/\AG x u:=by
 cases h with
 |cons r h=>cases h;exact⟨_,rfl,r⟩
theorem AR.two{x y:V}(h:AR [x,y] us):∃u v,us=[u,v]/\AG x u/\AG y v:=by
 cases h with
 |cons r h=>obtain⟨v,rfl,q⟩:=AR.one h;exact⟨_,_,rfl,r,q⟩
section
variable{l b:Addr}{xs ys zs:List V}
theorem Inv.lset{qH its':List Value}{f:Array Value->Array Value}(I:Inv X qA σ H s)(g:H l=some (.lst xs))
  (e:s.heap.get? l=some { cls:=.type "list",data:=.seq qH.toArray n }) (d:f qH.toArray=its'.toArray) (a:AR ys its') (hz:ys.length<=sizeLine) :
  Inv X qA σ (AD H l (.lst ys)) { s with heap:=s.heap.update l (Obj.mapSeq f),toks:=t' }:=by
 have q:=PySem.IsL.update e f
 rw[d]at q
 refine I.write (x:=l) (e:=l) (by rw[g];exact trivial) (.inl rfl) (λh u hb c=>(Heap.get?_update_other s.heap (Obj.mapSeq f) (Ne.symm hb)).trans c) ⟨_,q⟩ ?_
 exact⟨hz,its',_,a,q⟩
theorem Inv.lnew{qH:List Value}(I:Inv X qA σ H s)(a:AR ys qH)(hz:ys.length<=sizeLine) :
  Inv X qA σ (AD H s.heap.objs.size (.lst ys)) { s with heap:=s.heap.push { cls:=.type "list",data:=.seq qH.toArray },toks:=t' } :=
 I.laid (λ_ _ q=>Heap.get?_push_of_some _ q) (Nat.le_refl _) ⟨hz,qH,0,a,Heap.get?_push_size _ rfl⟩
theorem Inv.fresh(I:Inv X qA σ H s):H s.heap.objs.size=none:=I.hok.fresh (Nat.le_refl _)
theorem Inv.lstM(I:Inv X qA σ H s)(a:H l=some (.lst xs)):xs.length<=sizeLine/\∃(qH:List Value) (n:Nat),AR xs qH/\xs.length=qH.length/\s.heap.get? l=some { cls:=.type "list",data:=.seq qH.toArray n }:=by
 obtain⟨z,qH,n,r,e⟩:=I.hok l _ a
 exact⟨z,qH,n,r,r.length,e⟩
theorem notLongL(h:n<=sizeLine):Builtin.List.listTooLong n=false:=by
 unfold Builtin.List.listTooLong
 exact decide_eq_false (by lia)
end
def Ht:V->List V->Hp->VK->Prop:=λx vs H Q=>∃l xs y,x=.ref l/\vs=[y]/\H l=some (.lst xs)/\xs.length<sizeLine/\Q .non (AD H l (.lst (xs++[y])))
theorem Hu:UA X "list.append" Ht:=by
 intro qA s σ H x vs v us Q I c rv h
 obtain⟨l,xs,y,rfl,rfl,a,f,q⟩:=h
 cases c
 obtain⟨u,rfl,d⟩:=rv.one
 obtain⟨z,qH,n,r,g,e⟩:=I.lstM a
 refine call_meets F.slot_list_append ⟨_,e,rfl⟩ F.entry_list_append (F.args_list_append_2 _ _) (PySem.list_append l qH.toArray n u (by rw[size_toArray];lia)) ⟨e,?_⟩
 refine⟨.non,_,I.lset (its':=qH++[u]) a e (by simp) (r.append (.cons d .nil)) ?_,rfl,q⟩
 rw[length_append,length_singleton]
 lia
def UB:R2:=λx y H Q=>∃l b xs zs,x=.ref l/\y=.ref b/\H l=some (.lst xs)/\H b=some (.lst zs)/\xs.length+zs.length<=sizeLine/\∀p,H p=none->Q (.ref p) (AD H p (.lst (xs++zs)))
theorem UC:Av X (binaryOp .Add) UB:=by
 intro qA s σ H x y v u Q I d c h
 obtain⟨l,b,xs,zs,rfl,rfl,i,j,B,q⟩:=h
 cases d
 cases c
 obtain⟨z,qH,n,r,C,e⟩:=I.lstM i
 obtain⟨w,a,A,f,g,p⟩:=I.lstM j
 refine PySem.P.add_list e p ?_ (by rw[size_toArray,size_toArray];lia)
 have o:qH.toArray++a.toArray=(qH++a).toArray:=by simp
 rw[o]
 exact⟨.ref _,_,I.lnew (t':=s.toks) (r.append f) (by rw[length_append];lia),rfl,q _ I.fresh⟩
section
variable{κ:Type}[DecidableEq κ]
def BB(qI:List (κ×V))(k:κ):Option V:=(qI.find? λkv=>decide (kv.1=k)).map (·.2)
def BK(qI:List (κ×V))(k:κ)(v:V):List (κ×V) :=
 if(qI.any λkv=>decide (kv.1=k))=true then qI.map (λkv=>if kv.1=k then(kv.1,v)else kv)else qI++[(k,v)]
theorem F9{p:κ×V}{r:List (κ×V)}{k:κ}(e:p.1=k):BB (p::r) k=some p.2:=by simp[BB,find?_cons,e]
theorem KD{p:κ×V}{r:List (κ×V)}{k:κ}(e:¬p.1=k):BB (p::r) k=BB r k:=by simp[BB,find?_cons,e]
theorem NW(k:κ):∀qI:List (κ×V),(qI.any λa=>decide (a.1=k))=(BB qI k).isSome
 |[]=>rfl
 |p::r=>by
  rw[any_cons]
  by_cases e:p.1=k
  ·simp only[F9 e,decide_eq_true e,Bool.true_or,Option.isSome_some]
  ·rw[KD e,decide_eq_false e,Bool.false_or];exact NW k r
theorem GA(qI:List (κ×V))(k:κ)(v:V):(BK qI k v).length<=qI.length+1:=by
 unfold BK
 split
 ·rw[length_map];lia
 ·rw[length_append,length_cons,length_nil];lia
theorem CZ.isSome_eq{o:Option V}{u:Option Value}(r:CZ o u):o.isSome=u.isSome:=by
 cases o with
 |none=>cases u with
  |none=>rfl
  |some _=>exact(show False from r).elim
 |some _=>cases u with
  |none=>exact(show False from r).elim
  |some _=>rfl
theorem CZ.getD{o:Option V}{u:Option Value}{d:V}{d':Value}(r:CZ o u)(a:AG d d'):AG (o.getD d) (u.getD d'):=by
 cases o with
 |none=>cases u with
  |none=>exact a
  |some _=>exact(show False from r).elim
 |some _=>cases u with
  |none=>exact(show False from r).elim
  |some _=>exact r
theorem KV.val{qI:List (κ×V)}{vs:List (κ×Value)}(r:KV qI vs)(k:κ):CZ (BB qI k) (valueAt vs k):=by
 unfold KV at r
 induction r with
 |nil=>exact True.intro
 |@cons p q ps a h t d =>
  obtain⟨h1,h2⟩:=h
  by_cases e:p.1=k
  ·have c:q.1=k:=h1.symm.trans e
   have b:valueAt (q::a) k=some q.2:=by simp[valueAt,find?_cons,c]
   rw[F9 e,b];exact h2
  ·have c:¬q.1=k:=λz=>e (h1.trans z)
   have b:valueAt (q::a) k=valueAt a k:=by simp[valueAt,find?_cons,c]
   rw[KD e,b];exact d
theorem KV.any{qI:List (κ×V)}{vs:List (κ×Value)}(r:KV qI vs)(k:κ):(qI.any λa=>decide (a.1=k))=vs.any λa=>decide (a.1=k):=by
 unfold KV at r
 induction r with
 |nil=>rfl
 |cons h t c=>rw[any_cons,any_cons,c,h.1]
theorem KV.repl{qI:List (κ×V)}{vs:List (κ×Value)}(r:KV qI vs)(k:κ){y:V}(c:AG y u) :
  KV (qI.map λa=>if a.1=k then(a.1,y)else a) (vs.map λa=>if a.1=k then(a.1,u)else a):=by
 unfold KV at r ⊢
 induction r with
 |nil=>exact .nil
 |@cons p q ps f h t d =>
  rw[map_cons,map_cons]
  refine .cons ?_ d
  obtain⟨h1,h2⟩:=h
  by_cases e:p.1=k
  ·rw[if_pos e,if_pos (h1.symm.trans e)];exact⟨h1,c⟩
  ·rw[if_neg e,if_neg (λz=>e (h1.trans z))];exact⟨h1,h2⟩
theorem KV.put{qI:List (κ×V)}{vs:List (κ×Value)}(r:KV qI vs)(k:κ){y:V}(a:AG y u):KV (BK qI k y) (stored vs k u):=by
 unfold BK stored
 rw[r.any k]
 by_cases e:(vs.any λc=>decide (c.1=k))=true
 ·rw[if_pos e,if_pos e];exact r.repl k a
 ·rw[if_neg e,if_neg e];exact Paired.snoc r ⟨rfl,a⟩
theorem KV.length{qI:List (κ×V)}{vs:List (κ×Value)}(r:KV qI vs):qI.length=vs.length:=Paired.length r
end
theorem Hv{P:Program}{k:AN}(r:AG (kV k) u):(Bn P w).is k u=true:=by
 cases k with
 |inl i=>obtain⟨t,e⟩:=(show∃t,u=Value.int i t from r);subst e;exact SK P w i t
 |inr x=>obtain⟨t,e⟩:=(show∃t,u=Value.str x t from r);subst e;exact SL P w x t
theorem NX{P:Program}{w:World}:∀{ks:List AN} {us:List Value},AR (ks.map kV) us->ItemsAre (Bn P w) ks us
 |[],_,r=>by rw[map_nil]at r;cases r;exact .nil
 |k::ks,_,r=>by
  rw[map_cons]at r
  cases r with
  |cons h t=>exact .cons (Hv h) (NX t)
abbrev KT(H:Hp):List (List AN×V)->List (List AN×Addr×Value)->Prop:=Paired λp q=>p.1=q.1/\H q.2.1=some (.tup (p.1.map kV))/\AG p.2 q.2.2
theorem KT.val{qI:List (List AN×V)}{xs:List (List AN×Addr×Value)}(r:KT H qI xs)(k:List AN):CZ (BB qI k) ((atKey xs k).map (·.2)):=by
 induction r with
 |nil=>exact True.intro
 |@cons p q ps a h t d =>
  obtain⟨h1,_,h2⟩:=h
  by_cases e:p.1=k
  ·have c:q.1=k:=h1.symm.trans e
   have b:atKey (q::a) k=some q.2:=by simp[atKey,find?_cons,c]
   rw[F9 e,b];exact h2
  ·have c:¬q.1=k:=λz=>e (h1.trans z)
   have b:atKey (q::a) k=atKey a k:=by simp[atKey,find?_cons,c]
   rw[KD e,b];exact d
theorem KT.repl{qI:List (List AN×V)}{xs:List (List AN×Addr×Value)}(r:KT H qI xs)(k:List AN){y:V}(c:AG y u) :
  KT H (qI.map λa=>if a.1=k then(a.1,y)else a) (xs.map (putAt k u)):=by
 induction r with
 |nil=>exact .nil
 |@cons p q ps g h t d =>
  rw[map_cons,map_cons]
  refine .cons ?_ d
  obtain⟨h1,h2,f⟩:=h
  unfold putAt
  by_cases e:p.1=k
  ·rw[if_pos e,if_pos (h1.symm.trans e)];exact⟨h1,h2,c⟩
  ·rw[if_neg e,if_neg (λz=>e (h1.trans z))];exact⟨h1,h2,f⟩
theorem KT.put{qI:List (List AN×V)}{xs:List (List AN×Addr×Value)}(r:KT H qI xs)(k:List AN){b:Addr}{y:V}(hb:H b=some (.tup (k.map kV)))(a:AG y u) :
  KT H (BK qI k y) (storedH xs k b u):=by
 have e:(qI.any λc=>decide (c.1=k))=(atKey xs k).isSome:=by
  rw[NW,(r.val k).isSome_eq,Option.isSome_map]
 unfold BK storedH
 rw[e]
 by_cases q:(atKey xs k).isSome=true
 ·rw[if_pos q,if_pos q];exact r.repl k a
 ·rw[if_neg q,if_neg q];exact Paired.snoc r ⟨rfl,hb,a⟩
theorem KT.keeps{qI:List (List AN×V)}{xs:List (List AN×Addr×Value)}(r:KT H qI xs)(a:∀b ys,H b=some (.tup ys)->H' b=some (.tup ys)):KT H' qI xs :=
 Paired.mapP r λ_ _ z=>⟨z.1,a _ _ z.2.1,z.2.2⟩
section
variable{P:Program}
theorem NY{u:HO}(ok:A4 P w H h)(e:Rd H a u):A0 P w H h a u:=e.ok ok
theorem GB{qI:List (AN×V)}(ok:A4 P w H h)(e:Rd H a (.dK qI)):qI.length<=sizeLine/\(a==sysModules)=false/\∃vs,KV qI vs/\h.DictOf (Bn P w) a vs :=
 show A0 P w H h a (.dK qI)from NY ok e
theorem UD{qI:List (AN×V)}(ok:A4 P w H h)(e:H a=some (.dK qI)):qI.length<=sizeLine/\(a==sysModules)=false/\∃vs,KV qI vs/\h.DictOf (Bn P w) a vs:=GB ok (.inl e)
theorem E5{ks:List AN}(ok:A4 P w H h)(e:H a=some (.tup (ks.map kV))):(tupleKind (Bn P w)).is h ks a:=by
 obtain⟨_,qH,r,o,h1,h2,⟨n,c⟩,_⟩:=(show A0 P w H h a (.tup (ks.map kV))from ok a _ e)
 exact⟨o,qH.toArray,n,h1,h2,c,by simpa using NX r⟩
theorem GC{qI:List (List AN×V)}(ok:A4 P w H h)(e:Rd H a (.dT qI)):qI.length<=sizeLine/\(a==sysModules)=false /\
  ∃xs,KT H qI xs/\h.DictOfH (tupleKind (Bn P w)) a xs:=by
 obtain⟨z,y,xs,r,o,es,ep,h1,h2,i,g,f⟩:=(show A0 P w H h a (.dT qI)from NY ok e)
 refine⟨z,y,xs,r,o,es,ep,h1,h2,i,g,λx hx=>?_,f⟩
 have all:∀{l:List (List AN×V)} {m:List (List AN×Addr×Value)},KT H l m->∀x∈m,(tupleKind (Bn P w)).is h x.1 x.2.1:=by
  intro l m q
  induction q with
  |nil=>intro x hx;exact nomatch hx
  |@cons p q ps j c t d =>
   intro x hx
   rcases mem_cons.mp hx with e|hx
   ·subst e
    exact E5 ok (by rw[<-c.1];exact c.2.1)
   ·exact d x hx
 exact all r x hx
theorem KF{qI:List (List AN×V)}(ok:A4 P w H h)(e:H a=some (.dT qI)):qI.length<=sizeLine/\(a==sysModules)=false /\
  ∃xs,KT H qI xs/\h.DictOfH (tupleKind (Bn P w)) a xs:=GC ok (.inl e)
end
def B9(H:Hp)(a:Addr)(y:V)(r:Option V):Prop :=
 (∃qI k,Rd H a (.dK qI)/\y=kV k/\r=BB qI k)\/∃qI k b,Rd H a (.dT qI)/\y=.ref b/\H b=some (.tup (k.map kV))/\r=BB qI k
def DE(H:Hp)(a:Addr)(y v:V)(H':Hp):Prop :=
 (∃qI k,H a=some (.dK qI)/\y=kV k/\qI.length<sizeLine/\H'=AD H a (.dK (BK qI k v))) \/
 ∃qI k b,H a=some (.dT qI)/\y=.ref b/\H b=some (.tup (k.map kV))/\qI.length<sizeLine/\H'=AD H a (.dT (BK qI k v))
theorem B9.k{qI:List (AN×V)}{k:AN}(e:H a=some (.dK qI)):B9 H a (kV k) (BB qI k):=.inl ⟨qI,k,.inl e,rfl,rfl⟩
theorem B9.t{b:Addr}{qI:List (List AN×V)}{k:List AN}(e:H a=some (.dT qI))(c:H b=some (.tup (k.map kV))):B9 H a (.ref b) (BB qI k):=.inr ⟨qI,k,b,.inl e,rfl,c,rfl⟩
theorem DE.k{qI:List (AN×V)}{k:AN}(e:H a=some (.dK qI))(c:qI.length<sizeLine):DE H a (kV k) v (AD H a (.dK (BK qI k v))):=.inl ⟨qI,k,e,rfl,c,rfl⟩
theorem DE.t{b:Addr}{qI:List (List AN×V)}{k:List AN}(e:H a=some (.dT qI))(d:H b=some (.tup (k.map kV)))(c:qI.length<sizeLine) :
  DE H a (.ref b) v (AD H a (.dT (BK qI k v))):=.inr ⟨qI,k,b,e,rfl,d,c,rfl⟩
section
variable{y:V}{r:Value}{o:Option V}
theorem Inv.big(I:Inv X qA σ H s):sysModules<s.heap.objs.size:=by
 have h:mainGlobals<s.heap.objs.size:=(I.mod.glob.keeps I.bk).lt
 exact Nat.lt_trans (by decide) h
theorem NZ(n:A.units+1<cLine)(I:Inv X qA σ H s)(g:B9 H a y (some v))(j:AG y u)(h:∀w' s',Inv X qA σ H s'->AG v w'->Q w' s') :
  wpAny (model X.prog X.w) A (getItem (.ref a) u) Q E s:=by
 rcases g with⟨qI,k,e,i,l⟩|⟨qI,k,b,e,i,x,l⟩
 ·subst i
  obtain⟨z,r,vs,rel,dd⟩:=GB I.hok e
  obtain⟨w',d,c⟩:=CZ.some_of (v:=v) (o:=valueAt vs k) (by rw[l];exact rel.val k)
  exact wpAny_getItem_of (Hv j) dd.mapOf d (h w' _ (I.tok _) c)
 ·subst i
  cases(show u=Value.ref b from j)
  obtain⟨z,r,xs,rel,dd⟩:=GC I.hok e
  obtain⟨w',d,c⟩:=CZ.some_of (v:=v) (o:=(atKey xs k).map (·.2)) (by rw[l];exact rel.val k)
  obtain⟨p,q,f⟩:=Option.map_eq_some_iff.mp d
  refine wpAny_getItem_heap (tupleKind_room_in1 n) (E5 I.hok x) dd q ?_
  rw[f]
  exact h w' _ (I.tok _) c
theorem GD{c:HO}(I:Inv X qA σ H s)(d:Ft (H a))(f:Heap.SameBut a s.heap h')(g:∃q,h'.get? a=some q)(new:A0 X.prog X.w (AD H a c) h' a c) :
  Inv X qA σ (AD H a c) { s with heap:=h',toks:=t' } :=
 I.write (x:=a) (e:=a) d (.inl rfl) (λb q h z=>(f.2 b h).trans z) g new
theorem UE{P:Program}{qI:List (AN×V)}{vs:List (AN×Value)}(z:qI.length<=sizeLine)(c:(a==sysModules)=false)(rel:KV qI vs)(dd:h'.DictOf (Bn P w) a vs) :
  A0 P w H' h' a (.dK qI):=⟨z,c,vs,rel,dd⟩
theorem Na{Q:Unit->Shared->Prop}(D:A.units+1<cLine)(I:Inv X qA σ H s)(g:DE H a y v H')(x:AG y u)(rv:AG v r)(h:∀s',Inv X qA σ H' s'->Q () s') :
  wpAny (model X.prog X.w) A (setItem (.ref a) u r) Q E s:=by
 rcases g with⟨qI,k,e,o,l,p⟩|⟨qI,k,b,e,o,C,l,p⟩
 ·subst o p
  obtain⟨z,n,vs,rel,dd⟩:=UD I.hok e
  have f:vs.length<=sizeLine:=by rw[<-rel.length];exact z
  have j:(BK qI k v).length<=sizeLine:=by have:=GA qI k v;lia
  refine wpAny_setItem_pairs (hsz:=f) (Hv x) dd λh' dd' i=>h _ ?_
  have G:∃q,h'.get? a=some q:=let⟨q,_,_,d,_⟩:=dd';⟨q,d⟩
  exact GD I (by rw[e];exact True.intro) i G (UE j n (rel.put k rv) dd')
 ·subst o p
  cases(show u=Value.ref b from x)
  obtain⟨z,n,xs,rel,dd⟩:=KF I.hok e
  have f:xs.length<=sizeLine:=by rw[<-Paired.length rel];exact z
  have j:(BK qI k v).length<=sizeLine:=by have:=GA qI k v;lia
  refine wpAny_setItem_heap (hsz:=f) (tupleKind_room_in1 D) (E5 I.hok C) dd λh' dd' i=>h _ ?_
  obtain⟨q,es,ep,d,h2,M,L,_,J⟩:=dd'
  refine GD I (by rw[e];exact True.intro) i ⟨q,d⟩ ⟨j,n,_,(rel.put k C rv).keeps λc ys B=>?_,q,es,ep,d,h2,M,L,J⟩
  rw[AL (Dr B e (λz=>nomatch z))]
  exact B
end
def KG(i:Expr):Prop:=∀ov iv,subscripted i false ov iv=operate [ov,iv] (getItem ov iv)
theorem UF{value a:Expr}{T id:String}
  (n:typeLookup (.type T) "__getitem__"=pure (some (.builtin id))) (l:KG a)
  (h:wpAny (model prog w) A (eval value env) (λo s₁=>wpAny (model prog w) A (eval a env) (λi s₂=>s₂.TypeIs o T/\wpAny (model prog w) A (getItem o i) Q E s₂) E s₁) E s) :
  wpAny (model prog w) A (eval (.Subscript value a pos) env) Q E s:=by
 refine Subscript_ (wpAny_mono h (λo s₁ g=>wpAny_mono g (λi s₂ c=>?_) λ_ _ x=>x) λ_ _ x=>x)
 obtain⟨j,c⟩:=c
 unfold subscriptTail
 refine wB ?_
 rw[getitemInPython_of_ne j.not_modules]
 refine wB (wpAny_specialOf j n ?_)
 have e:wpAny (model prog w) A (subscripted a false o i) (λr d=>wpAny (model prog w) A (letTemporaryGo value o r >>= λ_=>pure r) Q E d) E s₂:=by
  rw[l o i]
  exact wpAny_operating (wpAny_mono c (λr d f=>wB (wpAny_letTemporaryGo (wP f))) λ_ _ x=>x)
 first
  |exact wP (wB e)
  |exact wB (wP (wB e))
  |exact wB e
theorem UG{y:V}{o:Option V}(I:Inv X qA σ H s)(g:B9 H a y o):s.TypeIs (.ref a) "dict":=by
 rcases g with⟨qI,k,e,_,_⟩|⟨qI,k,b,e,_,_,_⟩
 ·obtain⟨_,_,vs,_,dd⟩:=GB I.hok e
  exact dd.typeIs
 ·obtain⟨_,_,xs,_,dd⟩:=GC I.hok e
  exact dd.typeIs
def UH(td ty:TE):TE:=λσ H Q=>td σ H λx H1=>ty σ H1 λy H2=>∃a v,x=.ref a/\B9 H2 a y (some v)/\Q v H2
def Nb(td ty tv:TE):TS:=λD σ H=>tv σ H λv H1=>td σ H1 λx H2=>ty σ H2 λy H3=>∃a H4,x=.ref a/\DE H3 a y v H4/\D.nx σ H4
def Nc(td ty tv:TE)(rd:V->V->Hp->VK->Prop):TS:=λD σ H=>td σ H λx H1=>ty σ H1 λy H2=>∃a v,x=.ref a/\B9 H2 a y (some v) /\
 tv σ H2 λy2 H3=>rd v y2 H3 λz H4=>∃H5,DE H4 a y z H5/\D.nx σ H5
section
variable{o i e value:Expr}{tpos:Pos}{td ty tv:TE}
theorem UI(p:X.A.units+1<cLine)(r:PE X o td)(hi:PE X i ty)(q:KG i):PE X (.Subscript o i pos) (UH td ty):=by
 intro qA s σ H Q I h
 refine UF PySem.F.slot_dict_getitem.lookup q (AH (r qA s σ H _ I h) λu e ⟨x,H1,z,j,n⟩=>AH (hi qA e σ H1 _ z n) λE D ⟨y,H2,d,f,a,v,ex,g,l⟩=>?_)
 subst ex
 obtain rfl:u=Value.ref a:=j
 exact⟨UG d g,NZ p d g f λB C w c=>⟨v,H2,w,c,l⟩⟩
theorem UJ(q:X.A.units+1<cLine)(z:PE X o td)(hi:PE X i ty)(p:PE X value tv)(w:swapsWith value (some (.Subscript o i pos')) pos.line X.env=pure false) :
  PS X (.Assign [.Subscript o i pos'] value pos) (Nb td ty tv):=by
 intro qA s σ H D I h
 refine wpAny_Assign_Subscript (AH (p qA s σ H _ I h) λr d ⟨v,H1,G,rv,n⟩=>AH (z qA d σ H1 _ G n) λu c ⟨x,H2,E,f,l⟩=>AH (hi qA c σ H2 _ E l) λN M ⟨y,O,C,e,a,J,ex,g,j⟩=>?_) w
 subst ex
 obtain rfl:u=Value.ref a:=f
 exact Na q C g e rv λL B=>⟨σ,J,B,j⟩
theorem UK{op:Operator}{n:V->V->Hp->VK->Prop}(p:X.A.units+1<cLine)(T:PE X o td)(hi:PE X i ty)(Q:PE X value tv)(j:Hj X op n)
  (U:∀d c new,augStore i d c new=(do holding [new,d,c] (setItem d c new);release [new,d,c] [];pure .next)):PS X (.AugAssign (.Subscript o i tpos) op value pos) (Nc td ty tv n):=by
 intro qA s σ H D I h
 refine wpAny_AugAssign_SubscriptAny (AH (T qA s σ H _ I h) λu E ⟨x,H1,I1,J,O⟩=>AH (hi qA E σ H1 _ I1 O) λc s2 ⟨y,H2,I2,l,a,v,ex,g,N⟩=>?_) U
 subst ex
 obtain rfl:u=Value.ref a:=J
 refine NZ p I2 g l λw C I3 f=>AH (Q qA C σ H2 _ I3 N) λr B ⟨q,H3,I4,e,M⟩=>AH (j qA B σ H3 v q w r _ I4 f e M) λw3 s5 ⟨z,H4,I5,G,H5,Y,L⟩=>?_
 exact Na p I5 Y l G λs6 I6=>⟨σ,H5,I6,L⟩
end
theorem Nd{P:Program}(h:Heap)(a:sysModules<h.objs.size):A0 P w H (h.push { cls:=.type "dict",data:=.dict #[] }) h.objs.size (.dT []) :=
 ⟨Nat.zero_le _,beq_eq_false_iff_ne.mpr (Ne.symm (Nat.ne_of_lt a)),[],.nil,_,#[],0,Heap.get?_push_size _ rfl,⟨rfl,rfl,rfl⟩,rfl,rfl,nodup_nil⟩
def UL:TE:=λ_ H Q=>∀p,H p=none->Q (.ref p) (AD H p (.dT []))
theorem UM:PE X (.Dict [] [] pos) UL:=λqA s σ H Q I h =>
 wpAny_Dict_empty ⟨.ref s.heap.objs.size,_,I.laid (a:=s.heap.objs.size) (o:=.dT []) (t':=s.toks) (λ_ _ q=>Heap.get?_push_of_some _ q) (Nat.le_refl _) (Nd s.heap I.big),rfl,h _ (I.hok.fresh (Nat.le_refl _))⟩
structure M2(X:Cx)(o:Expr)(m:Str)(qM:Pos)(e f:Expr)(qL:Pos):Prop where
 base:attributeBase o m X.env (eval o X.env)=eval o X.env
 few:((backTo qL (starEach [e,f] X.env)).all (λx=>!x.1)&&(backToKw qL (keywordEach [] X.env)).all (λx=>x.1.isSome)
  && decide (([e,f]:List Expr).length+([]:List Keyword).length+(if([]:List Keyword).isEmpty then 0 else 1)<30))=true
 line:(qM.endLine==qL.line)=true
 trees:backTo qL (starEach [e,f] X.env)=[(false,eval e X.env),(false,eval f X.env)]
def Hw(H:Hp)(a:Addr):Prop:=(∃qI,Rd H a (.dK qI))\/∃qI,Rd H a (.dT qI)
theorem Nf(I:Inv X qA σ H s)(d:Hw H a) :
  s.TypeIs (.ref a) "dict"/\(∀b,Value.ref a=.ref b->∃c,s.heap.get? b=some c/\c.dict=none)/\(a==sysModules)=false:=by
 rcases d with⟨qI,e⟩|⟨qI,e⟩
 ·obtain⟨_,f,vs,_,dd⟩:=GB I.hok e
  refine⟨dd.typeIs,λb q=>?_,f⟩
  cases q
  obtain⟨c,_,_,h1,h2,_⟩:=dd
  exact⟨c,h1,h2.2.1⟩
 ·obtain⟨_,f,xs,_,dd⟩:=GC I.hok e
  refine⟨dd.typeIs,λb q=>?_,f⟩
  cases q
  obtain⟨c,_,_,h1,h2,_⟩:=dd
  exact⟨c,h1,h2.2.1⟩
section
variable{y d:V}{r:Value}{o:Option V}
theorem UN(n:A.units+1<cLine)(I:Inv X qA σ H s)(g:B9 H a y o)(i:AG y u)(j:AG d r)(h:∀w' s',Inv X qA σ H s'->AG (o.getD d) w'->Q w' s') :
  wpAny (model X.prog X.w) A (call (.builtin "dict.get") [.ref a,u,r]) Q E s:=by
 rcases g with⟨qI,k,e,f,l⟩|⟨qI,k,b,e,f,p,l⟩
 ·subst f
  obtain⟨z,c,vs,rel,dd⟩:=GB I.hok e
  refine call_meetsIn PySem.F.slot_dict_get dd.typeIs PySem.F.entry_dict_get (PySem.F.args_dict_get_3 _ _ _) (meets_dict_get_default (Bn X.prog X.w) a (Hv i) c r) ⟨_,dd.mapOf,h _ _ (I.tok _) ?_⟩
  rw[l]
  exact(rel.val k).getD j
 ·subst f
  cases(show u=Value.ref b from i)
  obtain⟨z,c,xs,rel,dd⟩:=GC I.hok e
  refine call_meetsIn PySem.F.slot_dict_get dd.typeIs PySem.F.entry_dict_get (PySem.F.args_dict_get_3 _ _ _) (meetsH_dict_get_default (tupleKind (Bn X.prog X.w)) a b c r) ⟨tupleKind_room_in1 n,k,xs,E5 I.hok p,dd,h _ _ (I.tok _) ?_⟩
  rw[l]
  exact(rel.val k).getD j
end
def UO(td ty tx:TE):TE:=λσ H Q=>td σ H λx H1=>∃a,x=.ref a/\Hw H1 a/\ty σ H1 λy H2=>tx σ H2 λz H3=>∃o,B9 H3 a y o/\Q (o.getD z) H3
section
variable{o e f:Expr}{td ty tx:TE}
theorem UP(D:X.A.units+1<cLine)(E:PE X o td)(J:PE X e ty)(G:PE X f tx)(m:M2 X o "get" qM e f qL):PE X (.Call (.Attribute o "get" qM) [e,f] [] qL) (UO td ty tx):=by
 intro qA s σ H Q I h
 refine wpAny_Call_method m.base m.few m.line PySem.F.plainAttrs_dict PySem.F.slot_dict_get PySem.F.type_dict_get (AH (E qA s σ H _ I h) λu p ⟨x,H1,i,v,a,ex,d,C⟩=>?_)
 subst ex
 obtain rfl:u=Value.ref a:=v
 obtain⟨l,j,_⟩:=Nf i d
 refine⟨l,j,?_⟩
 rw[m.trees]
 refine Calls.callWith_builtin rfl (Calls.evalArgs_plain (Calls.spliced_cons (AH (J qA p σ H1 _ i C) λiv n ⟨y,H2,N,r,B⟩ =>
  Calls.spliced_cons (AH (G qA n σ H2 _ N B) λfv Y ⟨z,O,M,q,ov,g,w⟩=>Calls.spliced_nil ?_))))
 exact UN D M g r q λT U L c=>⟨_,O,L,c,w⟩
end
end L2
namespace Att
open PySem PySem.W PySem.Calls PyProof.Rows
theorem UQ{P:Params}:∀(ns:List Int) (vs:List Value),WellAll P h vs (ns.map WData.int)->IntsAre vs ns:=by
 intro ns
 induction ns with
 |nil =>
  intro vs w
  rw[map_nil]at w
  cases w
  exact .nil
 |cons n ns c =>
  intro vs w
  rw[map_cons]at w
  cases w with
  |cons a b =>
   cases a
   exact .cons _ _ (c _ b)
theorem UR{l:OpenLaw}(x:l.most=some n){P:Params}{args:List WData}{c:List Value}
  (e:l.row.toRowW.claim.pre args=true) (o:WellAll P h c args) :
  ∃a vs ns,c=[Value.ref a]/\args=[WData.list (ns.map WData.int)]/\h.get? a=some { cls:=.type "list",data:=.seq vs.toArray }/\IntsAre vs ns/\ns.length<=n:=by
 have p:WShape.hasAll [] args [.list .int]=true:=(pre_splitW e).1
 have s:l.pre.holds [] { args:=args }=true:=(pre_splitW e).2
 obtain⟨d,r,rfl,h1,h2⟩:=hasAllW_cons p
 obtain rfl:=hasAllW_nil h2
 obtain⟨xs,rfl,y⟩:=hasW_list h1
 obtain⟨ns,rfl⟩:=items_int y
 have f:ns.length<=n:=by
  unfold OpenLaw.pre at s
  have j:(WTm.not (.lt (.lit (.int (n:Int))) (.len (.arg 0)))).holds [] { args:=[.list (ns.map .int)] }=true:=by
   have j:=(holds_andW s).1
   rw[x]at j
   exact j
  have i:=condW_of j (w_not (w_lt w_lit (w_len_list (w_arg rfl))))
  rw[length_map]at i
  refine Nat.le_of_not_lt λq=>?_
  have q':(n:Int)<((ns.length:Nat):Int):=by lia
  first
   |(rw[decide_eq_true q']at i;exact absurd i (by decide))
   |(simp at i;lia)
 cases o with
 |cons v u =>
  cases u
  cases v with
  |list w g=>exact⟨_,_,ns,rfl,rfl,w,UQ ns _ g,f⟩
theorem US(l:OpenLaw)(args:List WData):l.row.toRowW.claim.post args (.bool true) args=true :=
 postW_of (r:=l.row.toRowW) (X:=(true==true))
  (show WShape.has [] (.bool true) .bool=true by first|rfl|decide|simp[WShape.has,WShape.arms,WShape.armsAll])
  (show(WTm.eq .res (.lit (.bool true))).value [] { args:=args,res:=some (.bool true),after:=args }=some (.bool (true==true))from w_eq_bool (w_res rfl) w_lit) rfl
theorem attach_call{l:OpenLaw}{q:Program}{c:List Str}{H:(Str->Option Value)->Heap->Prop}{E:World->Heap->Prop}{d:DefRec}
  (M:l.most=some n) (z:d.params.defaults=[])
  (call:∀(w:World) (s₀ s₁:Shared) (mg v:Str->Option Value) (j:Addr) (o:Obj) (u p doc:Value) (a:Addr) (vs:List Value) (ns:List Int),
   Ground q c [] H w s₀ mg v s₁.heap->E w s₁.heap ->
   s₁.heap.get? j=some o->o.data=.func (docDef d.name d.params d.body d.scope u p doc)->s₁.heap.CodeRec p d.name->mg d.name=some (.ref j) ->
   s₁.heap.get? a=some { cls:=.type "list",data:=.seq vs.toArray }->IntsAre vs ns->ns.length<=n->s₁.gens=#[] ->
   codeAny (model l.prog w) callerA (.call (.ref j) ⟨[.ref a],[]⟩) (λr s'=>r=.ok (.ret (.bool true))/\OldK s₁.heap s'.heap/\s'.os=s₁.os/\AllBare s'.gens) s₁) :
  WalkO q c H E l.row.toRowW d [] (λf vs=>PySem.call f vs):=by
 intro w s₀ s₁ mg v G Y j o u p doc dV kV L T A D y Q args B as g C I x O
 obtain rfl:dV=.none:=Dflts.none D z
 obtain rfl:kV=.none:=Dflts.noKw D
 obtain⟨a,vs,ns,rfl,rfl,h,e,i⟩:=UR M g x
 refine enter_call (codeAny_mono (call w s₀ s₁ mg v j o u p doc a vs ns G Y L (fd_plain T) A y h e i Q) λr s' J=>?_)
 obtain⟨rfl,h2,h3,U⟩:=J
 exact⟨.inl ⟨.bool true,.bool true,[],rfl,λ_=>rfl,.bool true,US l _,λ_=>⟨List.Pairwise.nil,λ_ N=>(nomatch N)⟩⟩,h2,h3,U⟩
section
variable{K:Frag}
def noObjs(h:Heap):Heap:={ h with objs:=#[] }
theorem noObjs_get(h:Heap)(b:Addr):(noObjs h).get? b=none:=by
 cases e:(noObjs h).get? b with
 |none=>rfl
 |some o=>exact absurd (Heap.lt_size e) (Nat.not_lt_zero _)
theorem fr_all{L:Addr}{m:Str->Option Value}(n:h.Ns L m):Fr (noObjs h) L h m :=
 ⟨n,λb o e=>(by rw[noObjs_get]at e;cases e),Nat.zero_le _⟩
end
end Att
namespace L2
open PySem PySem.Spec PyProof.Rows
theorem Ng:∀{vs:List Value} {ns:List Int},IntsAre vs ns->AR (ns.map V.int) vs
 |_,_,.nil=>.nil
 |_,_,.cons n t h=>.cons ⟨t,rfl⟩ (Ng h)
def KH(H:Hp):Prop:=∀b,H b=none\/∃o xs,H b=some (.frz o (.lst xs))
theorem UT{P:Program}{K:Fg}{J:Str->Option Value}{CX:Co}{k:Nat}{Q:Addr}{sp:Sp}{s₁:Shared}{vs:List Value}
  (KX:K.In s₁.heap) (B:s₁.heap.Ns mainGlobals mg) (f:s₁.heap.Ns builtinsNs J) (N:∀x:Str,x≠"__name__"->J x=bootBuiltins x) (C:s₁.heap.NoLimit) (hg:s₁.gens=#[])
  (G:s₁.heap.get? a=some { cls:=.type "list",data:=.seq vs.toArray }) (hi:IntsAre vs ns) (U:ns.length<=sizeLine) (hr:Room k callerA)
  (F:∀base:Heap,K.In base->base.Ns mainGlobals mg->FnOk P w K mg base CX k Q fd [x] sp) (j:∀(s:Shared) (u:Value),BindsTo s fd ⟨[u],[]⟩ [(x,u)])
  (L:∀H:Hp,KH H->Au K H a (ns.map V.int)->sp [.ref a] H (λv _=>v=.bl true) λ_ _ _=>False)
  (O:∀H e s',CX [] H s₁ (λ_ _ _=>False) e s'->False) :
  codeAny (model P w) callerA (.call (.ref Q) ⟨[.ref a],[]⟩) (λr s'=>r=.ok (.ret (.bool true))/\OldK s₁.heap s'.heap/\s'.os=s₁.os/\AllBare s'.gens) s₁:=by
 have rv:=Ng hi
 have p:=hi.length
 have i:∀H:Hp,KH H->Au K H a (ns.map V.int)->A4 P w H s₁.heap->(∀b,H b≠none->b=a)->(H a≠none->K.lookup a=none) ->
   codeAny (model P w) callerA (.call (.ref Q) ⟨[.ref a],[]⟩) (λr s'=>r=.ok (.ret (.bool true))/\OldK s₁.heap s'.heap/\s'.os=s₁.os/\AllBare s'.gens) s₁:=by
  intro H Y hS A hA hK
  have c:∀{b:Addr} {o:Obj},s₁.heap.get? b=some o->H b=none->(DZ s₁.heap H).get? b=some o:=λe n=>SN e n
  have I:∀{b:Addr} {o:Obj} {es:Array DictEntry} {ep:Nat},s₁.heap.get? b=some o->o.data=.dict es ep->H b=none:=λ{b o es ep} e d=>by
   cases q:H b with
   |none=>rfl
   |some u =>
    have T:b=a:=hA b (by rw[q];simp)
    subst T
    rw[G]at e;cases e
    have d':Data.seq vs.toArray _=Data.dict es ep:=d
    cases d'
  have g:∀{b:Addr} {m:Str->Option Value},s₁.heap.Ns b m->(DZ s₁.heap H).Ns b m:=λ{b m} ⟨o,es,ep,e,d,r⟩=>⟨o,es,ep,c e (I e d),d,r⟩
  have D:K.In (DZ s₁.heap H):=λb o e=>c (KX b o e) (by
   cases q:H b with
   |none=>rfl
   |some u =>
    have T:b=a:=hA b (by rw[q];simp)
    subst T
    rw[hK (by rw[q];simp)]at e;cases e)
  have hM:Mod K mg (DZ s₁.heap H):=⟨D,g B,⟨J,g f,N⟩,let⟨mc,h1,h2⟩:=C;⟨mc,g h1,h2⟩⟩
  have e0:Env0 P w K mg (DZ s₁.heap H) callerA [] s₁ H:=⟨rfl,hM,λb o e=>SO e,Nat.le_of_eq (SM _ _),trivial,λb f=>absurd (show b∈([]:List Addr)from f) (by simp),A,.of_eq hg⟩
  refine codeAny_mono ((F _ D (g B)).run callerA [] s₁ H ⟨[.ref a],[]⟩ [.ref a] [.ref a] _ _ hr e0 (j s₁ (.ref a)) (.cons rfl .nil) (L H Y hS)) λr s' h=>?_
  cases r with
  |error e=>exact(O H e s' h).elim
  |ok fl =>
   cases fl with
   |next=>exact False.elim h
   |brk=>exact False.elim h
   |cont=>exact False.elim h
   |ret u =>
    obtain⟨v,H',os,E,un,y,r',q⟩:=h
    have q':v=.bl true:=q
    subst q'
    obtain rfl:u=Value.bool true:=r'
    refine⟨rfl,OldK.of_keep λb o e=>?_,os,E⟩
    cases q:H b with
    |none=>exact un.keep b o e q (by intro z;exact absurd (show b∈([]:List Addr)from z) (by simp)) (by simp)
    |some u =>
     rcases Y b with z|⟨ob,xs,z⟩
     ·rw[q]at z;cases z
     ·have z2:=un.frzs b ob _ z
      obtain⟨e1,_⟩:=A b _ z
      obtain⟨e2,_⟩:=y b _ z2
      rw[e]at e1;cases e1
      exact e2
 cases M:K.lookup a with
 |some o =>
  have e:=KX a o M
  rw[G]at e
  cases e
  refine i (λ_=>none) (λ_=>.inl rfl) (.inr ⟨_,vs.toArray,_,M,rfl,rfl,rfl,by rw[size_toArray,p];exact U,by simpa using rv⟩) (λb u z=>by have l:(none:Option HO)=some u:=z;cases l) (λb z=>absurd rfl z) λz=>absurd rfl z
 |none =>
  refine i (λb=>if b=a then some (.frz { cls:=.type "list",data:=.seq vs.toArray } (.lst (ns.map V.int)))else none) (λb=>?_) (.inl (.inr ⟨{ cls:=.type "list",data:=.seq vs.toArray },if_pos rfl⟩)) (λb u z=>?_) (λb z=>?_) λ_=>M
  ·by_cases f:b=a
   ·exact .inr ⟨_,_,if_pos f⟩
   ·exact .inl (if_neg f)
  ·by_cases f:b=a
   ·have l:=(if_pos f).symm.trans z
    cases l
    subst f
    exact⟨G,by rw[length_map];exact U,vs,_,rv,G⟩
   ·have l:=(if_neg f).symm.trans z
    cases l
  ·by_cases f:b=a
   ·exact f
   ·exact absurd (if_neg f) z
theorem walk_of{l:PySem.W.OpenLaw}{k:Nat}{q:Program}{i:List Str}{XP:(Str->Option Value)->Heap->Prop}{I:World->Heap->Prop}{d:DefRec}{K:Params->Fg}{CX:World->Co}{sp:World->Sp}
  (M:l.most=some n) (A:n<=sizeLine) (C:d.params.defaults=[]) (L:Room k callerA)
  (U:∀(w:World) (h:Heap),I w h->(K w.params).In h)
  (F:∀(w:World) (mg:Str->Option Value) (y:Addr) (h:Heap),(K w.params).In h->h.Ns mainGlobals mg->mg d.name=some (.ref y) ->
   ∃fd:FuncData,(∀(s:Shared) (u:Value),BindsTo s fd ⟨[u],[]⟩ [(x,u)]) /\
    ∀base:Heap,(K w.params).In base->base.Ns mainGlobals mg->FnOk l.prog w (K w.params) mg base (CX w) k y fd [x] (sp w))
  (z:∀(w:World) (H:Hp) (a:Addr) (ns:List Int),ns.length<=n->KH H->Au (K w.params) H a (ns.map V.int)->sp w [.ref a] H (λv _=>v=.bl true) λ_ _ _=>False)
  (D:∀(w:World) (H:Hp) (s:Shared) (e:Value) (s':Shared),CX w [] H s (λ_ _ _=>False) e s'->False) :
  PySem.W.WalkO q i XP I l.row.toRowW d [] (λf vs=>PySem.call f vs):=by
 refine Att.attach_call M C λw E p mg mb y o pm cd doc a vs ns G Y ho hd O B r j c N=>?_
 have J:=U w _ Y
 obtain⟨fd,Q,hF⟩:=F w mg y _ J G.T.g B
 exact UT J G.T.g G.T.b G.T.builtins G.T.nolimit N r j (Nat.le_trans c A) L hF Q (λH hO hS=>z w H a ns c hO hS) λH e s'=>D w H p e s'
def Dd(s:Stmt):Arguments:=match s with
 |.FunctionDef _ a _ _ _ _ _ _ _ _=>a
 |_=>{ posonlyargs:=[],args:=[],vararg:=none,kwonlyargs:=[],kw_defaults:=[],kwarg:=none,defaults:=[] }
def Cr(s:Stmt):List Stmt:=match s with
 |.FunctionDef _ _ b _ _ _ _ _ _ _=>b
 |_=>[]
def AT(s:Stmt):Scope:=match s with
 |.FunctionDef _ _ _ _ _ _ sc _ _ _=>sc
 |_=>{ kind:=.function,names:=[],isGenerator:=false,isCoroutine:=false }
abbrev DF:Co:=λ_ _ _ _ _ _=>False
abbrev E0:XK:=λ_ _ _=>False
theorem UU:J7 DF X E0:=λ_ _ _ _ _ _ _ h=>h.elim
structure Fun(K:Fg)(x qual:Str)(st:Stmt)(f:Addr)(fd:FuncData):Prop where
 ex:∃(oc:Value) (od:Option Addr) (kV doc pm:Value) (an:Option Addr) (cdv ct:Value) (osl:Array (Option Value)),
  fd=PySem.W.fnOf x qual (Dd st) (Cr st) (AT st) .none kV doc pm an cdv ct/\K.lookup f=some ⟨oc,od,.func fd,osl⟩/\PySem.W.codeIn K cdv qual=true
 kp:PySem.W.keepIn K (.ref f)=true
section
variable{P:Program}{K:Fg}
theorem Fun.ok{st:Stmt}{f:Addr}{k:Nat}{sp:Sp}(F:Fun K x qual st f fd)(S:FnScope N ps (AT st))(len:∀vs H Q E,sp vs H Q E->vs.length=ps.length)
  (a:∀(cdv:Value) (A:Around) (outer:List Env) (s:Shared) (H:Hp) (vs:List V) (Q:VK) (E:XK),Room k (A.deeper (envOfC qual (AT st) s.heap.objs.size f cdv))->sp vs H Q E ->
   ∃t,BY (Dv DF P w K mg base N qual (AT st) f cdv A outer s H E).nox (Cr st) t/\t { nx:=λ_ H'=>Q .non H',rt:=Q } (CL N vs) H):FnOk P w K mg base DF (k+1) f fd ps sp:=by
 obtain⟨oc,od,kV,doc,pm,an,cdv,ct,osl,rfl,e,d⟩:=F.ex
 refine Tc e d S len λA outer s H vs Q E g c=>?_
 obtain⟨t,h,q⟩:=a cdv A outer s H vs Q E g c
 exact⟨t,h.nox,q⟩
theorem Fun.binds{st:Stmt}{f:Addr}(F:Fun K x qual st f fd)
  (h:∀(kV doc pm:Value) (an:Option Addr) (cdv ct:Value) (us:List Value),us.length=ps.length->bindArgs (PySem.W.fnOf x qual (Dd st) (Cr st) (AT st) .none kV doc pm an cdv ct) ⟨us,[]⟩=pure (ps.zip us)):E3 K fd ps []:=by
 obtain⟨oc,od,kV,doc,pm,an,cdv,ct,osl,rfl,c,a⟩:=F.ex
 exact .all (h kV doc pm an cdv ct)
theorem Nh{st:Stmt}{f:Addr}{i:Value}{h g:Option Addr}{d:Array (Option Value)}{kV doc e a ct:Value}(l:K.lookup f=some ⟨i,h,.func (PySem.W.fnOf x qual (Dd st) (Cr st) (AT st) .none kV doc e g a ct),d⟩)
  (c:PySem.W.codeIn K a qual=true) (k:PySem.W.keepIn K (.ref f)=true):Fun K x qual st f (PySem.W.fnOf x qual (Dd st) (Cr st) (AT st) .none kV doc e g a ct):=⟨⟨i,h,kV,doc,e,g,a,ct,d,rfl,l,c⟩,k⟩
end
theorem Dw{k:Nat}(a:Room k A):A.units+1<cLine:=Nat.lt_of_le_of_lt (Nat.add_le_add_left (by decide:1<=64) _) a.units
theorem Dx(h:n<=1000):n<sizeLine:=Nat.lt_of_le_of_lt h (by decide)
theorem pv(i:Nat)(e:X.N[i]?=some x:=by rfl)(c:Cv X.env.scope x:=by trivial)(d:(x==("__debug__":Str))=false:=by decide)
  (a:(x==("__classdict__":Str))=false:=by decide):PE X (.Name x pos) (Cb i):=Ds e c d a
theorem Bj{c A B:Prop}[Decidable c](h1:c->A)(h2:¬c->B):if c then A else B:=by
 by_cases h:c
 ·rw[if_pos h]
  exact h1 h
 ·rw[if_neg h]
  exact h2 h
def CA(H H':Hp):Prop:=∀b o,H b=some o->H' b=some o
theorem CA.trans(a:CA H H1)(b:CA H1 H2):CA H H2:=λc o h=>b c o (a c o h)
theorem CA.free(e:CA H H'){l:Addr}(h:H' l=Option.none):H l=Option.none:=by
 cases q:H l with
 |none=>rfl
 |some o =>
  rw[e l o q]at h
  cases h
theorem CA.seq{K:Fg}{xs:List V}(e:CA H H')(h:Au K H a xs):Au K H' a xs:=by
 rcases h with(h|⟨o,h⟩)|h
 ·exact .inl (.inl (e _ _ h))
 ·exact .inl (.inr ⟨o,e _ _ h⟩)
 ·exact .inr h
section
variable{κ:Type}[DecidableEq κ]
theorem Ni:∀{l:List κ} {k:κ},l.Nodup->¬k∈l->(l++[k]).Nodup
 |[],k,_,_=>by simp
 |a::r,k,h,c=>by
  obtain⟨h1,h2⟩:=nodup_cons.mp h
  show(a::(r++[k])).Nodup
  refine nodup_cons.mpr ⟨λm=>?_,Ni h2 λm=>c (mem_cons.mpr (Or.inr m))⟩
  rcases mem_append.mp m with q|q
  ·exact h1 q
  ·exact c (mem_cons.mpr (Or.inl (mem_singleton.mp q).symm))
end
def Be(cells:List (Str×Addr)):List (Str×NameKind)->List (Str×Addr)->List (Str×Addr)
 |[],cs=>cs
 |(n,k)::r,cs=>Be cells r (if(k==.free)=true then(match cells.lookup n with|some c=>(n,c)::cs|none=>cs)else cs)
theorem UV(h:∀y∈scope.names,y.2=NameKind.free->∃c,env.cells.lookup y.1=some c):closureFor scope env=pure (Be env.cells scope.names []):=by
 simp only[closureFor]
 have all:∀(l:List (Str×NameKind)) (f:List (Str×Addr)),(∀y∈l,y.2=NameKind.free->∃c,env.cells.lookup y.1=some c) ->
   (forIn l f λ(x:Str×NameKind) (r:List (Str×Addr))=>if(x.2==NameKind.free)=true then do let a <-cellOf env x.1;pure (ForInStep.yield ((x.1,a)::r))else pure (ForInStep.yield r))=(pure (Be env.cells l f):Sem _):=by
  intro l
  induction l with
  |nil=>intro f _;rfl
  |cons y r i =>
   intro f j
   obtain⟨n,k⟩:=y
   have o:∀y∈r,y.2=NameKind.free->∃c,env.cells.lookup y.1=some c:=λy m=>j y (mem_cons_of_mem _ m)
   rw[forIn_cons]
   by_cases g:(k==NameKind.free)=true
   ·obtain⟨c,d⟩:=j (n,k) mem_cons_self (by simpa using g)
    have d:env.cells.lookup n=some c:=d
    have e:cellOf env n=pure c:=by unfold cellOf;rw[d]
    simp only[g,if_true,e,Be,d]
    exact i _ o
   ·simp only[g,Be]
    exact i _ o
 exact(congrArg (λz=>z >>= λr=>(pure r:Sem (List (Str×Addr)))) (all scope.names [] h)).trans rfl
theorem KI{a:List (Str×Addr)}{x:Str}{c:Addr}:∀{names:List (Str×NameKind)} {cs:List (Str×Addr)},(Be a names cs).lookup x=some c->a.lookup x=some c\/cs.lookup x=some c
 |[],cs,h=>.inr h
 |(n,k)::r,cs,h=>by
  unfold Be at h
  rcases KI (names:=r) h with q|q
  ·exact .inl q
  ·split at q
   ·cases f:a.lookup n with
    |none=>rw[f]at q;exact .inr q
    |some g =>
     rw[f]at q
     dsimp only at q
     rw[lookup_cons]at q
     cases d:x==n with
     |true =>
      rw[d]at q
      have e:x=n:=by simpa using d
      subst e
      exact .inl (f.trans q)
     |false=>rw[d]at q;exact .inr q
   ·exact .inr q
theorem Nj{a:List (Str×Addr)}{x:Str}:∀{names:List (Str×NameKind)} {cs:List (Str×Addr)},(cs.lookup x).isSome=true->((Be a names cs).lookup x).isSome=true
 |[],_,h=>h
 |(n,k)::r,cs,h=>by
  unfold Be
  refine Nj (names:=r) ?_
  split
  ·cases d:a.lookup n with
   |none=>exact h
   |some e =>
    dsimp only
    rw[lookup_cons]
    cases c:x==n<;>first|exact h|rfl
  ·exact h
theorem KJ{a:List (Str×Addr)}{x:Str}{c:Addr}(d:a.lookup x=some c):∀{names:List (Str×NameKind)} {cs:List (Str×Addr)},(x,NameKind.free)∈names->((Be a names cs).lookup x).isSome=true
 |(n,k)::r,cs,h=>by
  unfold Be
  rcases mem_cons.mp h with e|h
  ·cases e
   refine Nj (names:=r) ?_
   rw[if_pos (by rfl),d]
   dsimp only
   rw[lookup_cons,beq_self_eq_true]
   rfl
  ·exact KJ d (names:=r) h
theorem UW{env:Env}{x:Str}:∀{names:List (Str×NameKind)},(∀y∈names,y.2≠NameKind.cell) ->
  let l:=(names.map λ(n,k)=>if(k==NameKind.free&&env.scope.kind==.function&&env.kindOf n==some .cell)then(n,NameKind.cell)else(n,k)).lookup x
  (l=some .cell\/l=some .free)->(x,NameKind.free)∈names
 |[],_,h=>by rcases h with h|h<;>simp at h
 |(n,k)::r,f,h=>by
  have d:=@UW env x r λy m=>f y (mem_cons_of_mem _ m)
  simp only[map_cons]at h d
  by_cases c:(k==NameKind.free&&env.scope.kind==.function&&env.kindOf n==some .cell)=true
  ·rw[if_pos c,lookup_cons]at h
   have g:k=.free:=by
    rw[Bool.and_assoc,Bool.and_eq_true]at c
    simpa using c.1
   cases a:x==n with
   |true =>
    have e:x=n:=by simpa using a
    subst e
    rw[g]
    exact mem_cons_self
   |false=>rw[a]at h;exact mem_cons_of_mem _ (d h)
  ·rw[if_neg c,lookup_cons]at h
   cases a:x==n with
   |true =>
    have e:x=n:=by simpa using a
    subst e
    rw[a]at h
    rcases h with h|h
    ·exact absurd (oI h) (f (x,k) mem_cons_self)
    ·rw[oI h];exact mem_cons_self
   |false=>rw[a]at h;exact mem_cons_of_mem _ (d h)
theorem Nk{env:Env}:∀{names:List (Str×NameKind)} {x:Str},names.lookup x=some .free ->
  let l:=(names.map λ(n,k)=>if(k==NameKind.free&&env.scope.kind==.function&&env.kindOf n==some .cell)then(n,NameKind.cell)else(n,k)).lookup x
  (l=some .cell\/l=some .free)
 |[],_,h=>by simp at h
 |(n,k)::r,x,h=>by
  have c:=@Nk env r x
  simp only[map_cons]at c ⊢
  by_cases d:(k==NameKind.free&&env.scope.kind==.function&&env.kindOf n==some .cell)=true
  ·rw[if_pos d,lookup_cons]
   cases a:x==n with
   |true=>exact .inl rfl
   |false =>
    rw[lookup_cons,a]at h
    exact c h
  ·rw[if_neg d,lookup_cons]
   cases a:x==n with
   |true =>
    rw[lookup_cons,a]at h
    exact .inr h
   |false =>
    rw[lookup_cons,a]at h
    exact c h
structure CompP where
 cl:List (Str×Addr)
 C:Addr
 s:Shared
 H:Hp
 fp:List Addr
 qA:List (Addr×Obj)
def Cx.comp(X:Cx)(N':List Str)(scope:Scope)(p:CompP):Cx where
 prog:=X.prog
 w:=X.w
 K:=X.K
 mg:=X.mg
 base:=X.base
 A:=X.A
 N:=N'
 s₀:=p.s
 H₀:=p.H
 env:=compEnvC scope p.cl p.C X.env
 outer:=X.stack
 stack:=X.stack
 ex:=p.fp
 fn:=λ_=>false
 calm:=X.calm
 pn:=X.pn++p.qA
 xe:=λ_ _=>False
structure CompScope(N:List Str)(sc:Scope)(N':List Str)(qD:List (Option Nat))(scope:Scope):Prop where
 kind:scope.kind=.function
 nocell:∀y∈scope.names,y.2≠NameKind.cell
 names:∀y∈scope.names,y.2=NameKind.local->scope.names.lookup y.1=some .local
 free:∀y∈scope.names,y.2=NameKind.free->scope.names.lookup y.1=some .free
 has:∀y∈scope.names,y.2=NameKind.free->(sc.names.lookup y.1=some .cell\/sc.names.lookup y.1=some .free)
 len:qD.length=N'.length
 cap:∀q∈qD.zip N',q.1=none\/(N[q.1.getD 0]?=some q.2/\(q.2,NameKind.free)∈scope.names)
def picked(σ:St)(qD:List (Option Nat)):St:=qD.map λo=>match o with|none=>none|some j=>(σ[j]?).join
def Dy(X:Cx)(ifs:List Expr)(t:TT):Prop :=
 ∀(qA:List (Addr×Obj)) (s:Shared) (σ:St) (H:Hp) (Q:Bool->Hp->Prop),Inv X qA σ H s->t σ H Q ->
  wpAny (model X.prog X.w) X.A (forIn ifs true λc r=>if r=true then do let ok <-isTrue c X.env (eval c X.env);pure (ForInStep.yield ok)else pure (ForInStep.yield r)) (TP X qA σ Q) X.xe s
def UX:TT:=λ_ H Q=>Q true H
theorem Nl:Dy X [] UX:=λqA s σ H Q I h=>wpAny_tests_nil ⟨H,I,h⟩
theorem UY{t:TT}(h:PT X c t):Dy X [c] t:=λqA s σ H Q I q=>wpAny_tests_one (h qA s σ H Q I q)
theorem UZ{R:Result->Shared->Prop}{a:Expr}{it o:Value}(I:Nat->Shared->Prop)
  (turn:∀n s,I n s->wpAny (model prog w) A (pyNext it) (λr s₁=>match r with
   |none=>R (.ok .next) s₁
   |some v=>wpAny (model prog w) A (letOwnedTupleGo a it v) (λ_ e=>wpAny (model prog w) A (assign a env v) (λ_ s₂ =>
     wpAny (model prog w) A (forIn ifs true λc r=>if r=true then do let ok <-isTrue c env (eval c env);pure (ForInStep.yield ok)else pure (ForInStep.yield r)) (λok d =>
      if ok=true then wpAny (model prog w) A (eval elt env) (λx g =>
       wpAny (model prog w) A (call (.builtin "list.append") [o,x]) (λ_ f=>∃m,m<n/\I m f) (λ_ _=>False) g) (λ_ _=>False) d
      else∃m,m<n/\I m d) (λ_ _=>False) s₂) (λ_ _=>False) e) (λ_ _=>False) s₁) (λ_ _=>False) s)
  (n:Nat) (h:I n s) :
  codeAny (model prog w) A (.compLoop (.ListComp elt [⟨a,iter,ifs,0⟩] scope pos) 0 it o env) R s:=by
 refine codeAny_loop rfl I (λn s y=>?_) n h
 show wpAny _ A ((compTurn (.ListComp elt [⟨a,iter,ifs,0⟩] scope pos) 0 it o env).onRaise (λx=>do noteFrame x env;theTreesLotGoes x)) _ _ s
 refine wpAny_noted ?_
 rw[compTurn_list]
 refine wB (wpAny_standAt (wB (wpAny_mono (turn n s y) (λr s₁ j=>?_) λ_ _ h'=>h'.elim)))
 cases r with
 |none=>exact wP j
 |some v =>
  refine wB (wpAny_mono j (λ_ e l=>?_) λ_ _ h'=>h'.elim)
  refine wB (wpAny_mono l (λ_ s₂ u=>wB (wpAny_mono u (λok d i=>?_) λ_ _ h'=>h'.elim)) λ_ _ h'=>h'.elim)
  cases ok with
  |false=>exact wP ⟨rfl,i⟩
  |true =>
   exact wB (wB (wpAny_mono i (λx g q=>wB (wpAny_mono q (λ_ f p=>wP (wP ⟨rfl,p⟩)) λ_ _ h'=>h'.elim)) λ_ _ h'=>h'.elim))
def KL(J:It)(qD:List (Option Nat))(g:TG)(tt:TT)(te:TE)(σ:St)(Q:VK)(H1:Hp):Prop:=∀D,H1 D=none->∃W:Nat->Nat->List V->Hp->Prop,(∃m,W 0 m [] (AD H1 D (.lst []))) /\
 ∀i m ys H2,W i m ys H2->H2 D=some (.lst ys)/\((J.stop i H2/\Q (.ref D) H2)\/(J.go i H2/\∃M:List V->Hp->Prop,(∀zs H',M zs H'->∃m',m'<m/\W (i+1) m' zs H')/\∀x H3,J.yld i H2 x H3->g x (L2.picked σ qD) H3 λσ4 H4=>tt σ4 H4 λb H5 =>
  if b=true then te σ4 H5 λy H6=>H6 D=some (.lst ys)/\ys.length<sizeLine/\M (ys++[y]) (AD H6 D (.lst (ys++[y])))
  else M ys H5))
def E6(wi:TI)(qD:List (Option Nat))(g:TG)(tt:TT)(te:TE):TE:=λσ H Q=>wi σ H λJ H1=>KL J qD g tt te σ Q H1
def Dz(qD:List (Option Nat))(g:TG):Prop:=∀(σ:St) (x:V) (H:Hp) (Q:St->Hp->Prop),g x (L2.picked σ qD) H Q->g x (L2.picked σ qD) H λσ' H'=>Q σ' H'/\∀(k:Nat) v,(L2.picked σ qD)[k]?=some (some v)->σ'[k]?=some (some v)
theorem KM(h:qD[i]?=some none):(L2.picked σ qD)[i]?=some none:=by
 unfold L2.picked
 rw[getElem?_map,h]
 rfl
theorem Nm(h:qD[i]?=some none):Dz qD (Cd i):=λσ x H Q q=>⟨q,λk v e=>by
 have a:i≠k:=λz=>by subst z;rw[KM h]at e;cases e
 rw[getElem?_set_ne a]
 exact e⟩
theorem Ua{K:Fg}(h:qD[i]?=some none)(h':qD[j]?=some none):Dz qD (EL K 2 (HY (Cd i) (HY (Cd j) Jx))):=by
 rintro σ x H Q ⟨a,xs,rfl,f,g,v,r,rfl,v',l,rfl,rfl,q⟩
 refine⟨a,_,rfl,f,g,v,_,rfl,v',_,rfl,rfl,q,λk v e=>?_⟩
 have d:i≠k:=λz=>by subst z;rw[KM h]at e;cases e
 have c:j≠k:=λz=>by subst z;rw[KM h']at e;cases e
 rw[getElem?_set_ne c,getElem?_set_ne d]
 exact e
theorem DG:∀(names:List (Str×NameKind)) (n:Nat) (a:List (Str×Addr)),cellsFrom n names a=cellsFrom n names []++a
 |[],n,a=>rfl
 |(x,k)::r,n,a=>by
  unfold cellsFrom
  split
  ·rw[DG r (n+1) ((x,n)::a),DG r (n+1) [(x,n)],append_assoc]
   rfl
  ·exact DG r n a
theorem Hx{x:Str}:∀{names:List (Str×NameKind)} {n:Nat},(x,NameKind.cell)∈names->∃c,(x,c)∈cellsFrom n names []
 |(y,k)::r,n,h=>by
  unfold cellsFrom
  split
  ·rw[DG]
   rcases mem_cons.mp h with e|h
   ·cases e;exact⟨n,mem_append_right _ mem_cons_self⟩
   ·obtain⟨c,d⟩:=Hx (n:=n+1) h
    exact⟨c,mem_append_left _ d⟩
  ·rename_i a
   rcases mem_cons.mp h with e|h
   ·cases e;exact absurd rfl a
   ·exact Hx h
theorem KN{x:Str}{c:Addr}:∀{names:List (Str×NameKind)} {n:Nat},(x,c)∈cellsFrom n names []->(x,NameKind.cell)∈names
 |[],n,h=>by cases h
 |(y,k)::r,n,h=>by
  unfold cellsFrom at h
  split at h
  ·rename_i a
   rw[DG]at h
   rcases mem_append.mp h with h|h
   ·exact mem_cons_of_mem _ (KN h)
   ·rw[mem_singleton]at h
    cases h
    have:k=.cell:=by simpa using a
    rw[this];exact mem_cons_self
  ·exact mem_cons_of_mem _ (KN h)
theorem D0{α f:Type}[BEq α][LawfulBEq α]{l:List (α×f)}{x:α}{c:f}(h:l.lookup x=some c):(x,c)∈l:=by
 induction l with
 |nil=>cases h
 |cons q r g =>
  obtain⟨a,b⟩:=q
  rw[lookup_cons]at h
  cases d:x==a with
  |true =>
   rw[d]at h
   have e:x=a:=by simpa using d
   subst e
   injection h with h
   subst h
   exact mem_cons_self
  |false=>rw[d]at h;exact mem_cons_of_mem _ (g h)
theorem Nn{α d:Type}[BEq α][LawfulBEq α]{l:List (α×d)}{x:α}{c:d}(h:(x,c)∈l):(l.lookup x).isSome=true:=by
 induction l with
 |nil=>cases h
 |cons q r f =>
  obtain⟨a,b⟩:=q
  rw[lookup_cons]
  cases g:x==a with
  |true=>rfl
  |false =>
   rcases mem_cons.mp h with e|h
   ·cases e;simp at g
   ·exact f h
theorem GF{α c:Type}[BEq α]{l r:List (α×c)}{x:α}:(l++r).lookup x=(l.lookup x).or (r.lookup x):=by
 induction l with
 |nil=>simp
 |cons q l d =>
  obtain⟨a,b⟩:=q
  rw[cons_append,lookup_cons,lookup_cons,d]
  cases x==a<;>rfl
section
variable{M:Model}
theorem Ub{globals:Addr}{cl:List (Str×Addr)}{outer:Env}{Q:Env->Shared->Prop}
  (f:Q (newEnv scope s.heap.objs.size globals (cellsFrom (s.heap.objs.size+1) scope.names cl) qual none .none (some outer) builtinsNs) { s with heap:=pushCells (s.heap.push { cls:=.type "dict",data:=.dict #[] }) scope.names }) :
  wpAny M A (newFunctionEnv scope globals cl [] qual none .none (some outer)) Q E s:=by
 simp only[newFunctionEnv,Option.isSome_some,if_true]
 refine wB (wpAny_alloc (wB (wpAny_layCells _ (λname a d=>by cases c:a==NameKind.cell<;>simp[c]) _ _ _ _ ?_)))
 refine wB (wP (wP ?_))
 have e:(s.heap.push { cls:=.type "dict",data:=.dict #[] }).objs.size=s.heap.objs.size+1:=Heap.size_push ..
 rw[<-e]at f
 exact f
end
def Cx.compC(X:Cx)(N':List Str)(scope:Scope)(p:CompP):Cx:={ X.comp N' scope p with fn:=λx=>scope.names.lookup x==some .cell }
structure CompScopeC(N:List Str)(sc:Scope)(N':List Str)(qD:List (Option Nat))(scope:Scope):Prop where
 kind:scope.kind=.function
 cell:∀y∈scope.names,y.2=NameKind.cell->scope.names.lookup y.1=some .cell
 names:∀y∈scope.names,y.2=NameKind.local->scope.names.lookup y.1=some .local
 free:∀y∈scope.names,y.2=NameKind.free->scope.names.lookup y.1=some .free
 has:∀y∈scope.names,y.2=NameKind.free->(sc.names.lookup y.1=some .cell\/sc.names.lookup y.1=some .free)
 len:qD.length=N'.length
 cap:∀q∈qD.zip N',q.1=none\/(N[q.1.getD 0]?=some q.2/\(q.2,NameKind.free)∈scope.names)
theorem Uc{env:Env}{x:Str}{names:List (Str×NameKind)} :
  let l:=(names.map λ(n,k)=>if(k==NameKind.free&&env.scope.kind==.function&&env.kindOf n==some .cell)then(n,NameKind.cell)else(n,k)).lookup x
  (l=some .cell\/l=some .free)->(x,NameKind.free)∈names\/(x,NameKind.cell)∈names:=by
 intro l h
 have a:∃k,(x,k)∈(names.map λ(n,k)=>if(k==NameKind.free&&env.scope.kind==.function&&env.kindOf n==some .cell)then(n,NameKind.cell)else(n,k))/\(k=.cell\/k=.free):=by
  rcases h with h|h
  ·exact⟨_,D0 h,.inl rfl⟩
  ·exact⟨_,D0 h,.inr rfl⟩
 obtain⟨k,a,d⟩:=a
 obtain⟨⟨n,k0⟩,h1,h2⟩:=mem_map.mp a
 dsimp only at h2
 split at h2
 ·rename_i c
  cases h2
  rw[Bool.and_assoc,Bool.and_eq_true]at c
  have:k0=.free:=by simpa using c.1
  subst this
  exact .inl h1
 ·cases h2
  rcases d with rfl|rfl
  ·exact .inr h1
  ·exact .inl h1
theorem Ud{s4:Shared}{m:Str->Option Value}
  (S:CompScopeC N sc N' qD scope) (hN:X.N=N) (M:X.env.scope=sc) (I:Inv X qA σ H s) (hf:∀b∈fp,B1 X qA H b) (T:∀b∈fp,∃o,s.heap.get? b=some o)
  (Q:∀b o,s.heap.get? b=some o->s4.heap.get? b=some o) (hn:s4.heap.Ns s.heap.objs.size m) (ho:s4.os=s.os) (hg:s4.gens=s.gens) (co:CellsOk s4.heap (s.heap.objs.size+1) (cellsFrom (s.heap.objs.size+1) scope.names [])) :
  Inv (X.compC N' scope ⟨cellsFrom (s.heap.objs.size+1) scope.names (Be X.env.cells scope.names []),s.heap.objs.size,s,H,fp,qA⟩) [] (L2.picked σ qD) H s4:=by
 have hC:s.heap.objs.size<=s.heap.objs.size:=Nat.le_refl _
 have ok:=I.ok
 have Y:∀y,(y,NameKind.free)∈scope.names->∃c,X.env.cells.lookup y=some c:=λy hy=>by
  have q:=S.has (y,.free) hy rfl
  rw[<-M]at q
  exact ok.has y q
 have A:∀y c,(Be X.env.cells scope.names []).lookup y=some c->X.env.cells.lookup y=some c:=λy c e=>by
  rcases KI e with q|q
  ·exact q
  ·simp at q
 have a0:∀x c,X.env.cells.lookup x=some c->c<s.heap.objs.size:=λx c e=>by
  obtain⟨v,q⟩:=I.cell x c e
  exact q.lt
 have two:∀y c,(cellsFrom (s.heap.objs.size+1) scope.names (Be X.env.cells scope.names [])).lookup y=some c->(y,c)∈cellsFrom (s.heap.objs.size+1) scope.names []\/X.env.cells.lookup y=some c:=λy c e=>by
  rw[DG,GF]at e
  cases h:(cellsFrom (s.heap.objs.size+1) scope.names []).lookup y with
  |some d=>rw[h]at e;injection e with e;subst e;exact .inl (D0 h)
  |none=>rw[h]at e;exact .inr (A y c e)
 have f:∀y c,(y,c)∈cellsFrom (s.heap.objs.size+1) scope.names []->s.heap.objs.size+1<=c:=λy c e=>(co.empty y c e).2
 refine⟨⟨ok.mod,S.kind,ok.glob,ok.blt,hC,λx y c e1 g=>?_,λx hx=>?_,λx c z e=>?_,ok.hd,ok.frames,.inl rfl,
   λb C=>⟨λz=>?_,λx c e=>?_⟩,I.bs,Nat.le_trans ok.bsz I.sz,λb o e C=>?_,λb C z=>?_,I.stack,I.stkFree⟩,
  ho,by rw[hg];exact I.bare,Un.kept Q,⟨m,hn,λi x v e1 g e3=>?_⟩,λx c e=>?_,I.hok.fresh hC,λx c e=>?_,λp hp=>?_,I.hok.kept Q,?_⟩
 ·rcases two x c e1 with a1|a1<;>rcases two y c g with a2|a2
  ·exact name_of_addr co.apart a1 a2
  ·exact absurd (Nat.lt_of_lt_of_le (a0 y c a2) (Nat.le_trans (Nat.le_succ _) (f x c a1))) (Nat.lt_irrefl _)
  ·exact absurd (Nat.lt_of_lt_of_le (a0 x c a1) (Nat.le_trans (Nat.le_succ _) (f y c a2))) (Nat.lt_irrefl _)
  ·exact ok.inj x y c a1 a2
 ·have hx':(x,NameKind.free)∈scope.names\/(x,NameKind.cell)∈scope.names:=Uc hx
  show∃c,(cellsFrom (s.heap.objs.size+1) scope.names (Be X.env.cells scope.names [])).lookup x=some c
  rw[DG,GF]
  rcases hx' with hx'|hx'
  ·obtain⟨c,G⟩:=Y x hx'
   obtain⟨c',w⟩:=Option.isSome_iff_exists.mp (KJ (cs:=[]) G hx')
   cases(cellsFrom (s.heap.objs.size+1) scope.names []).lookup x with
   |some d=>exact⟨d,rfl⟩
   |none=>exact⟨c',w⟩
  ·obtain⟨c,G⟩:=Hx (n:=s.heap.objs.size+1) hx'
   obtain⟨d,B⟩:=Option.isSome_iff_exists.mp (Nn G)
   rw[B]
   exact⟨d,rfl⟩
 ·have z:(scope.names.lookup x==some NameKind.cell)=true:=z
  have hz:(x,NameKind.cell)∈scope.names:=D0 (by simpa using z)
  have e:(cellsFrom (s.heap.objs.size+1) scope.names (Be X.env.cells scope.names [])).lookup x=some c:=e
  obtain⟨c0,a7⟩:=Hx (n:=s.heap.objs.size+1) hz
  obtain⟨d,B⟩:=Option.isSome_iff_exists.mp (Nn a7)
  rw[DG,GF,B]at e
  injection e with e
  subst e
  exact Nat.le_trans (Nat.le_succ _) (f x d (D0 B))
 ·obtain⟨o,e⟩:=T b C
  have e':b=s.heap.objs.size:=z
  exact absurd (Heap.lt_size e) (by rw[e'];exact Nat.lt_irrefl _)
 ·rcases two x c e with a1|a1
  ·obtain⟨o,eo⟩:=T b C
   exactλz=>absurd (Nat.lt_of_lt_of_le (Heap.lt_size eo) (Nat.le_trans (Nat.le_succ _) (f x c a1))) (by rw[z];exact Nat.lt_irrefl _)
  ·exact(hf b C).2.2.2.2.1 x c a1
 ·rcases(hf b C).2.2.2.1 with q|q
  ·exact ok.noex b o e q
  ·exact absurd (Nat.lt_of_lt_of_le (Heap.lt_size e) (Nat.le_trans ok.bsz q)) (Nat.lt_irrefl _)
 ·rcases mem_cons.mp (I.stkSub b z)with q|q
  ·exact(hf b C).2.1 q
  ·exact(hf b C).2.2.1 q
 ·-- a J name
  have hi:i<qD.length:=by
   rcases Nat.lt_or_ge i qD.length with q|q
   ·exact q
   ·unfold L2.picked at g
    rw[getElem?_eq_none (by simpa using q)]at g
    cases g
  obtain⟨o,O⟩:∃o,qD[i]?=some o:=⟨qD[i],by simp[hi]⟩
  unfold L2.picked at g
  rw[getElem?_map,O]at g
  cases o with
  |none=>cases g
  |some j =>
   have g:some ((σ[j]?).join)=some (some v):=g
   have e1:N'[i]?=some x:=e1
   have hz:(some j,x)∈qD.zip N':=by
    refine mem_of_getElem? (i:=i) ?_
    rw[getElem?_zip_eq_some]
    exact⟨O,e1⟩
   obtain⟨c1,c2⟩:=(S.cap _ hz).resolve_left (λz=>nomatch z)
   have c1:N[j]?=some x:=c1
   have e3:σ[j]?=some (some v):=by
    have q:=oI g
    cases L:σ[j]? with
    |none=>rw[L]at q;cases q
    |some y=>rw[L]at q;exact congrArg some q
   rw[<-hN]at c1
   obtain⟨m0,a9,a5⟩:=I.loc
   have kq:=S.has (x,.free) c2 rfl
   rw[<-M]at kq
   obtain⟨u,r,l⟩:=a5 j x v c1 e3 (kq.elim (λz=>.inr (.inl z)) λz=>.inr (.inr z))
   refine⟨u,r,?_⟩
   obtain⟨c,G⟩:=Y x c2
   obtain⟨c',w⟩:=Option.isSome_iff_exists.mp (KJ (cs:=[]) G c2)
   have a8:c'=c:=oI ((A x c' w).symm.trans G)
   subst a8
   have a6:(cellsFrom (s.heap.objs.size+1) scope.names (Be X.env.cells scope.names [])).lookup x=some c':=by
    rw[DG,GF]
    cases hl:(cellsFrom (s.heap.objs.size+1) scope.names []).lookup x with
    |none=>exact w
    |some d =>
     have q1:=S.cell _ (KN (D0 hl)) rfl
     have q2:=S.free (x,.free) c2 rfl
     rw[q1]at q2
     cases q2
   have a3:(compEnvC scope (cellsFrom (s.heap.objs.size+1) scope.names (Be X.env.cells scope.names [])) s.heap.objs.size X.env).kindOf x=some .cell\/(compEnvC scope (cellsFrom (s.heap.objs.size+1) scope.names (Be X.env.cells scope.names [])) s.heap.objs.size X.env).kindOf x=some .free:=by
    exact Nk (S.free (x,.free) c2 rfl)
   rcases l with⟨k,_⟩|⟨_,aa,U,E⟩
   ·exfalso
    have k:X.env.scope.names.lookup x=some .local:=k
    rcases kq with z|z
    ·rw[k]at z;cases z
    ·rw[k]at z;cases z
   ·rw[G]at U
    cases U
    obtain⟨oc,D,B⟩:=E
    exact .inr ⟨a3,c',a6,oc,Q _ _ D,B⟩
 ·rcases two x c e with a1|a1
  ·exact⟨none,(co.empty x c a1).1⟩
  ·obtain⟨v,oc,D,B⟩:=I.cell x c a1
   exact⟨v,oc,Q _ _ D,B⟩
 ·rcases two x c e with a1|a1
  ·exact I.hok.fresh (Nat.le_trans (Nat.le_succ _) (f x c a1))
  ·exact I.freeC x c a1
 ·have a4:p∈X.pn++qA:=by
   have hp:p∈(X.pn++qA)++[]:=hp
   simpa using hp
  obtain⟨e,n,ne,nf,d⟩:=I.pin p a4
  refine⟨Q _ _ e,n,λz=>?_,λz=>?_,d⟩
  ·have z:p.1=s.heap.objs.size:=z
   exact absurd (Heap.lt_size e) (by rw[z];exact Nat.lt_irrefl _)
  ·rcases mem_cons.mp (I.stkSub _ z)with q|q
   ·exact ne q
   ·exact nf q
 ·unfold L2.picked
  rw[length_map]
  exact S.len
theorem Np{Q:VK}{a0:Option (Value->Sem Unit)}{QQ:VS}
  (S:CompScopeC N sc N' qD scope) (hN:X.N=N) (a9:X.env.scope=sc) (hc:X.calm=true) (hi:PI X tg iter wi) (hk:Dz qD g)
  (hg:∀p,PG (X.compC N' scope p) tg g) (ht:∀p,Dy (X.compC N' scope p) ifs tt) (he:∀p,PE (X.compC N' scope p) elt te) (hs:∀x,foldedSetIterable iter X.env x=pure x)
  (I:Inv X qA σ H s) (h:E6 wi qD g tt te σ H Q)
  (fin:∀(D C:Addr) (H':Hp) (s':Shared) (m:Str->Option Value),Inv X qA σ H' s'->Q (.ref D) H'->H' C=none->C≠X.env.locals->X.s₀.heap.objs.size<=C->(∀x c,X.env.cells.lookup x=some c->c≠C)->(∀p∈X.pn++qA,p.1≠C)->s'.heap.Ns C m ->
   compPost (model X.prog X.w) X.A X.xe a0 QQ (.ref D) C (.ok .next) s') :
  wpAny (model X.prog X.w) X.A (comprehension (.ListComp elt [⟨tg,iter,ifs,0⟩] scope pos) scope X.env (firstIterPos [⟨tg,iter,ifs,0⟩] pos) (newList []) false (eval iter X.env) a0) QQ X.xe s:=by
 have aa:∀y∈scope.names,y.2=NameKind.free->∃c,X.env.cells.lookup y.1=some c:=λy hy e=>by
  have q:=S.has y hy e
  rw[<-a9]at q
  exact I.ok.has y.1 q
 refine wpAny_comprehension_free rfl hs (UV aa) S.kind S.names (AH (hi qA s σ H _ I h) λv s1 h1=>AH h1 λau f h2=>?_)
 obtain⟨it,fp,tn,J,H2,e,Y,T,a2,E,q⟩:=h2
 subst e
 have ae:H2 f.heap.objs.size=none:=Y.fresh
 obtain⟨W,⟨m0,w0⟩,a5⟩:=q f.heap.objs.size ae
 refine wpAny_newObj_type (T:="list") (Ub ?_)
 dsimp only
 have I3:Inv X qA σ (AD H2 f.heap.objs.size (.lst [])) { f with heap:=f.heap.push { cls:=.type "list",dict:=none,data:=.seq ([]:List Value).toArray } } :=
  Y.lnew (t':=f.toks) (qH:=[]) .nil (Nat.zero_le _)
 generalize O:f.heap.push { cls:=.type "list",dict:=none,data:=.seq ([]:List Value).toArray }=G3 at I3 ⊢
 have f3:∀b∈fp,B1 X qA (AD H2 f.heap.objs.size (.lst [])) b:=λb a=>by
  obtain⟨o,e,_⟩:=T.obj _ _ a2 b a
  refine⟨?_,(E b a).2⟩
  rw[AL (Nat.ne_of_lt (Heap.lt_size e))]
  exact(E b a).1
 have a4:∀b∈fp,∃o,G3.get? b=some o:=λb a=>by
  obtain⟨o,e,_⟩:=T.obj _ _ a2 b a
  exact⟨o,O▸Heap.get?_push_of_some _ e⟩
 have a3:∀b o,G3.get? b=some o->(pushCells (G3.push { cls:=.type "dict",data:=.dict #[] }) scope.names).get? b=some o:=λb o e=>pushCells_keeps _ _ b o (Heap.get?_push_of_some _ e)
 have j:(pushCells (G3.push { cls:=.type "dict",data:=.dict #[] }) scope.names).Ns G3.objs.size (λ_=>none):=(Heap.Ns.new G3 (.type "dict")).keeps (pushCells_keeps _ _)
 have co:CellsOk (pushCells (G3.push { cls:=.type "dict",data:=.dict #[] }) scope.names) (G3.objs.size+1) (cellsFrom (G3.objs.size+1) scope.names []):=by
  have e:(G3.push { cls:=.type "dict",data:=.dict #[] }).objs.size=G3.objs.size+1:=Heap.size_push ..
  have:=cellsFrom_ok scope.names (G3.push { cls:=.type "dict",data:=.dict #[] }) (G3.objs.size+1) [] ⟨λ_ _ hm=>(nomatch hm),List.Pairwise.nil⟩ (by rw[e];exact Nat.le_refl _)
  rwa [e]at this
 generalize av:pushCells (G3.push { cls:=.type "dict",data:=.dict #[] }) scope.names=h₁ at a3 j co ⊢
 have I4:=Ud (s4:={ f with heap:=h₁ }) S hN a9 I3 f3 a4 a3 j rfl rfl co
 have a8:tn 0 h₁:=T.keep _ _ _ a2 λb a o e=>a3 b o (O▸Heap.get?_push_of_some _ e)
 have L:f.heap.objs.size<=G3.objs.size:=by rw[<-O,Heap.size_push];exact Nat.le_succ _
 generalize B:(⟨cellsFrom (G3.objs.size+1) scope.names (Be X.env.cells scope.names []),G3.objs.size,{ f with heap:=G3 },AD H2 f.heap.objs.size (.lst []),fp,qA⟩:CompP)=p at I4
 have al:∀b∈fp,∀y c,(X.compC N' scope p).env.cells.lookup y=some c->c≠b:=λb a y c e=>by
  subst B
  have e:(cellsFrom (G3.objs.size+1) scope.names (Be X.env.cells scope.names [])).lookup y=some c:=e
  rw[DG,GF]at e
  cases h:(cellsFrom (G3.objs.size+1) scope.names []).lookup y with
  |some d =>
   rw[h]at e
   injection e with e
   subst e
   obtain⟨o,eo⟩:=a4 b a
   exactλz=>absurd (Nat.lt_of_lt_of_le (Heap.lt_size eo) (Nat.le_trans (Nat.le_succ _) (co.empty y d (D0 h)).2)) (by rw[z];exact Nat.lt_irrefl _)
  |none =>
   rw[h]at e
   rcases KI (cs:=[]) e with q|q
   ·exact(E b a).2.2.2.2.1 y c q
   ·simp at q
 have l:∀{H':Hp},(∀b∈fp,H' b=none)->∀b∈fp,B1 (X.compC N' scope p) [] H' b:=λhn b a=>by
  refine⟨hn b a,λz=>?_,λz=>?_,.inl (by subst B;exact a),λx c e=>al b a x c e,λq hq=>?_⟩
  ·subst B
   obtain⟨o,e⟩:=a4 b a
   have z:b=G3.objs.size:=z
   exact absurd (Heap.lt_size e) (by rw[z];exact Nat.lt_irrefl _)
  ·subst B
   rcases mem_cons.mp (Y.stkSub b z)with q|q
   ·exact(E b a).2.1 q
   ·exact(E b a).2.2.1 q
  ·refine(E b a).2.2.2.2.2 q ?_
   subst B
   have hq:q∈(X.pn++qA)++[]:=hq
   simpa using hq
 have U:codeAny (model X.prog X.w) X.A (.compLoop (.ListComp elt [⟨tg,iter,ifs,0⟩] scope pos) 0 (.ref it) (.ref f.heap.objs.size) (X.compC N' scope p).env)
   (compPost (model X.prog X.w) X.A X.xe a0 QQ (.ref f.heap.objs.size) G3.objs.size) { f with heap:=h₁ }:=by
  refine UZ (λn s'=>∃i ys H',Inv (X.compC N' scope p) [] (L2.picked σ qD) H' s'/\tn i s'.heap/\(∀b∈fp,H' b=none)/\W i n ys H') ?_ m0 ⟨0,[],_,I4,a8,λb a=>(f3 b a).1,w0⟩
  rintro n s5 ⟨i,ys,H5,I5,a7,ac,w5⟩
  obtain⟨hD,am⟩:=a5 i n ys H5 w5
  rcases am with⟨a6,qn⟩|⟨go,M,hM,step⟩
  ·refine AH (T.done (X.compC N' scope p) rfl rfl rfl hc i [] s5 _ H5 _ I5 (l ac) a7 a6) λr s6 ⟨hr,I6⟩=>?_
   subst hr
   obtain⟨m6,aj,_⟩:=I6.loc
   have un:Un (Ca X.stack) fp H2 H5 f.heap s6.heap:=by
    have u1:Un (Ca X.stack) fp H2 (AD H2 f.heap.objs.size (.lst [])) f.heap G3:=Un.laid (λb o e=>O▸Heap.get?_push_of_some _ e) (Nat.le_refl _) ae
    have u2:=I6.base
    subst B
    exact u1.trans u2
   have IO:Inv X qA σ H5 s6:=Y.call' (by have e:=I6.os;subst B;exact e) un (by have e:=I6.hok;subst B;exact e) I6.bare λb a=>⟨(E b a).2.2.2.1,(E b a).2.1,(E b a).2.2.2.2.1,(E b a).2.2.2.2.2⟩
   refine fin _ _ H5 s6 m6 IO qn ?_ ?_ ?_ ?_ ?_ ?_
   ·have e:=I6.free;subst B;exact e
   ·exact Nat.ne_of_gt (Nat.lt_of_lt_of_le Y.lt L)
   ·exact Nat.le_trans Y.sz L
   ·intro x c e z
    obtain⟨v,q⟩:=Y.cell x c e
    exact absurd (Nat.lt_of_lt_of_le q.lt L) (by rw[z];exact Nat.lt_irrefl _)
   ·intro q hq z
    exact absurd (Nat.lt_of_lt_of_le (Heap.lt_size (Y.pin q hq).1) L) (by rw[z];exact Nat.lt_irrefl _)
   ·subst B;exact aj
  ·refine AH (T.item (X.compC N' scope p) rfl rfl rfl hc i [] s5 _ H5 _ I5 (l ac) a7 go) λr s6 ⟨u,hr,h6⟩=>?_
   subst hr
   refine AH h6 λ_ s7 ⟨x,H7,I7,r7,y7,a1,ak⟩=>?_
   have an:=I7.pinned (l ak) (T.obj _ _ a1)
   refine AH (hg p _ s7 _ H7 x u _ an r7 (hk σ x H7 _ (step x H7 y7))) λ_ s8 ⟨G,H8,I8,q8,w8⟩=>?_
   refine AH (ht p _ s8 G H8 _ I8 q8) λok s9 ⟨H9,I9,q9⟩=>?_
   have back:∀{H':Hp} {s':Shared},Inv (X.compC N' scope p) ([]++F0 fp s7.heap) G H' s'->∀{k:Nat} {zs:List V},M zs H' ->
     ∃m,m<n/\∃i ys H'',Inv (X.compC N' scope p) [] (L2.picked σ qD) H'' s'/\tn i s'.heap/\(∀b∈fp,H'' b=none)/\W i m ys H'':=λ{H' s'} I' {k zs} mz=>by
    obtain⟨m',hm,w'⟩:=hM _ _ mz
    refine⟨m',hm,i+1,zs,H',?_,T.keep _ _ _ a1 λb a o e=>(I'.pin (b,o) (mem_append_right _ (mem_append_right _ (Hd a e)))).1,λb a=>?_,w'⟩
    ·refine(I'.unpinned).weak ?_ w8
     rw[(I'.unpinned).len,I7.len]
    ·obtain⟨o,e,d⟩:=T.obj _ _ a1 b a
     exact(I'.pin (b,o) (mem_append_right _ (mem_append_right _ (Hd a e)))).2.1
   cases ok with
   |false=>exact back I9 (k:=0) q9
   |true =>
    refine AH (he p _ s9 G H9 _ I9 q9) λv af ⟨y,aq,ap,ag,ab,hz,ai⟩=>?_
    refine AH (Hu (X:=X.compC N' scope p) _ af G aq (.ref f.heap.objs.size) [y] _ [v] (λ_ H'=>M (ys++[y]) H') ap rfl (.cons ag .nil) ⟨_,ys,y,rfl,rfl,ab,hz,ai⟩) λw ar ⟨z,aw,ao,as,ah⟩=>?_
    exact back ao (k:=0) ah
 subst B
 exact codeAny_compStart_list U (T.self _ 0 _ _ _ a8 U)
theorem Nq{Q:VK}{a:Option (Value->Sem Unit)}{QQ:VS}
  (S:CompScope N sc N' qD scope) (u:X.N=N) (d:X.env.scope=sc) (r:X.calm=true) (hi:PI X tg iter wi) (l:Dz qD g)
  (n:∀p,PG (X.comp N' scope p) tg g) (i:∀p,Dy (X.comp N' scope p) ifs tt) (o:∀p,PE (X.comp N' scope p) elt te) (j:∀x,foldedSetIterable iter X.env x=pure x)
  (I:Inv X qA σ H s) (h:E6 wi qD g tt te σ H Q)
  (fin:∀(D C:Addr) (H':Hp) (s':Shared) (m:Str->Option Value),Inv X qA σ H' s'->Q (.ref D) H'->H' C=none->C≠X.env.locals->X.s₀.heap.objs.size<=C->(∀x c,X.env.cells.lookup x=some c->c≠C)->(∀p∈X.pn++qA,p.1≠C)->s'.heap.Ns C m ->
   compPost (model X.prog X.w) X.A X.xe a QQ (.ref D) C (.ok .next) s') :
  wpAny (model X.prog X.w) X.A (comprehension (.ListComp elt [⟨tg,iter,ifs,0⟩] scope pos) scope X.env (firstIterPos [⟨tg,iter,ifs,0⟩] pos) (newList []) false (eval iter X.env) a) QQ X.xe s:=by
 have e:∀p,X.compC N' scope p=X.comp N' scope p:=λp=>by
  have:(λx=>scope.names.lookup x==some NameKind.cell)=λ_=>false:=funext λx=>by
   cases h:scope.names.lookup x==some NameKind.cell with
   |false=>rfl
   |true=>exact absurd rfl (S.nocell _ (D0 (eq_of_beq h)))
  unfold Cx.compC
  rw[this]
  rfl
 exact Np ⟨S.kind,λy f q=>absurd q (S.nocell y f),S.names,S.free,S.has,S.len,S.cap⟩ u d r hi l (λp=>e p▸n p) (λp=>e p▸i p) (λp=>e p▸o p) j I h fin
theorem Nr(S:CompScope N sc N' qD scope)(z:X.calm=true)(hi:PI X tg iter wi)(v:Dz qD g)
  (w:∀p,PG (X.comp N' scope p) tg g) (n:∀p,Dy (X.comp N' scope p) ifs tt) (y:∀p,PE (X.comp N' scope p) elt te) (B:X.N=N:=by rfl) (a:X.env.scope=sc:=by rfl) (r:∀x,foldedSetIterable iter X.env x=pure x:=by intro _;rfl) :
  PE X (.ListComp elt [⟨tg,iter,ifs,0⟩] scope pos) (E6 wi qD g tt te):=by
 intro qA s σ H Q I h
 rw[eval_ListComp]
 refine Nq S B a z hi v w n y r I h λD C H' s' m IO q l j i f d u=>?_
 exact⟨m,u,λh' c=>⟨.ref D,H',IO.turned (t':=s'.toks) (λb o A e=>(c.2 b A).trans e) l (Ne.symm (Ne.symm j)) (.inr i) f d,rfl,q⟩⟩
theorem Ue{r:Pos}(S:CompScope N sc N' qD scope)(l:X.N.Nodup)(n:X.N[i]?=some x)(J:Bu X.env.scope x)(hc:X.calm=true)(hi:PI X tg iter wi)(T:Dz qD g)
  (U:∀p,PG (X.comp N' scope p) tg g) (L:∀p,Dy (X.comp N' scope p) ifs tt) (he:∀p,PE (X.comp N' scope p) elt te) (hN:X.N=N:=by rfl) (d:X.env.scope=sc:=by rfl)
  (c:swapsWith (.ListComp elt [⟨tg,iter,ifs,0⟩] scope pos) (some (.Name x pos')) r.line X.env=pure true:=by rfl) (M:∀x,foldedSetIterable iter X.env x=pure x:=by intro _;rfl)
  (Y:X.fn x=true\/X.env.scope.names.lookup x=some .local:=by trivial) :
  PS X (.Assign [.Name x pos'] (.ListComp elt [⟨tg,iter,ifs,0⟩] scope pos) r) (Da (E6 wi qD g tt te) (Cd i)):=by
 intro qA s σ H D I h
 rw[exec_Assign_Name_used _ _ _ _ c]
 refine wB (wpAny_standAt (wB ?_))
 show wpAny _ _ (do let _ <-comprehension (.ListComp elt [⟨tg,iter,ifs,0⟩] scope pos) scope X.env _ (newList []) false (eval iter X.env) (some (assign (.Name x pos') X.env))) _ _ s
 refine wB (AH (Nq (QQ:=λ_ s'=>SP X qA D .next s') S hN d hc hi T U L he M I h λD' C H' s' m IO q G w E u B Q=>?_) λ_ s' O=>wP (wP O))
 refine wpAny_assign_Name (Js (v:=V.ref D') IO l n J rfl (λy I2 ⟨a,f,ha⟩=>?_) Y)
 have A:C≠a:=by
  rcases ha with e|e
  ·rw[e];exact w
  ·exactλz=>u _ _ e z.symm
 refine⟨m,Q.sameBut f A,λh' j=>⟨_,H',I2.turned (t':=y.toks) (λb o hb e=>(j.2 b hb).trans e) G w (.inr E) u B,q⟩⟩
section
variable{K:Fg}{xs:List V}{Q:VK}{J:It}
theorem Uf{y:Nat->V->Prop}(Pv:Addr->Nat->List V->Hp->Prop)(A:∀D,H D=none->Pv D 0 [] (AD H D (.lst [])))(w:∀D i ys H2,H D=none->i<=n->Pv D i ys H2->H2 D=some (.lst ys))
  (h:∀D i ys H2,H D=none->i<n->Pv D i ys H2->J.go i H2) (c:∀D ys H2,H D=none->Pv D n ys H2->J.stop n H2) (s:∀D i ys H2 x l,H D=none->i<n->Pv D i ys H2->J.yld i H2 x l->y i x/\l=H2)
  (u:∀D,H D=none->∀i x ys H2,i<n->y i x->Pv D i ys H2->g x (L2.picked σ qD) H2 λf B=>tt f B λb H5=>if b=true then te f H5 λy j=>j D=some (.lst ys)/\ys.length<sizeLine/\Pv D (i+1) (ys++[y]) (AD j D (.lst (ys++[y])))else Pv D (i+1) ys H5)
  (v:∀D ys H2,H D=none->Pv D n ys H2->Q (.ref D) H2):KL J qD g tt te σ Q H:=by
 intro D d
 refine⟨λi m ys H2=>m=n - i/\i<=n/\Pv D i ys H2,⟨n,by simp,Nat.zero_le _,A D d⟩,?_⟩
 rintro i m ys H2 ⟨rfl,hi,p⟩
 refine⟨w D i ys H2 d hi p,?_⟩
 by_cases a:i<n
 ·refine .inr ⟨h D i ys H2 d a p,Pv D (i+1),λzs H' r=>⟨n - (i+1),by lia,rfl,a,r⟩,λx H' z=>?_⟩
  obtain⟨q,o⟩:=s D i ys H2 x H' d a p z
  subst o
  exact u D d i x ys _ a q p
 ·have e:i=n:=by lia
  subst e
  exact .inl ⟨c D ys H2 d p,v D ys H2 d p⟩
theorem Ug{lo:Int}(Pv:Addr->Nat->List V->Hp->Prop)(l:∀D,H D=none->Pv D 0 [] (AD H D (.lst [])))(j:∀D i ys H2,H D=none->i<=n->Pv D i ys H2->H2 D=some (.lst ys))
  (f:∀D,H D=none->∀(i:Nat) ys H2,i<n->Pv D i ys H2->g (.int (lo+i)) (L2.picked σ qD) H2 λa o=>tt a o λb H5=>if b=true then te a H5 λy d=>d D=some (.lst ys)/\ys.length<sizeLine/\Pv D (i+1) (ys++[y]) (AD d D (.lst (ys++[y])))else Pv D (i+1) ys H5)
  (h:∀D ys H2,H D=none->Pv D n ys H2->Q (.ref D) H2):KL (DC lo n) qD g tt te σ Q H :=
 Uf (n:=n) (y:=λi x=>x=.int (lo+i)) Pv l j (λD i ys H2 c hi p=>hi) (λD ys H2 c p=>Nat.le_refl _) (λD i ys H2 x q c hi p z=>⟨z.2,z.1⟩)
  (λD c i x ys H2 hi e p=>by subst e;exact f D c i ys H2 hi p) h
end
def Nt:V->Option Int->Option Int->Hp->VK->Prop:=λx lo hi H Q=>∃z,x=.str z/\z.length<=sizeLine/\Q (.str (Txt.slice z lo hi)) H
theorem Nu{v:Value}{o:Option Int}(h:IsPart v o):∃l:Option (Int×Tok),l.map (·.1)=o/\partValue l=v:=by
 cases h with
 |none=>exact⟨none,rfl,rfl⟩
 |int i t=>exact⟨some (i,t),rfl,rfl⟩
theorem Nv:Cp X Nt:=by
 intro qA s σ H x v g f lo hi i Q I a e pl c h
 obtain⟨z,rfl,d,q⟩:=h
 obtain⟨t,rfl⟩:=a
 obtain⟨l,rfl,rfl⟩:=Nu pl
 obtain⟨u,rfl,rfl⟩:=Nu c
 refine⟨"str",_,F.slot_str_getitem.lookup,typeIs_str _ _ _,wpAny_getItem_str_slice (l:=l) (u:=u) (st:=none) e rfl ?_⟩
 exact post_val_or_str ⟨Nat.le_trans (Txt.slice_le z _ _) d,λt' k=>⟨.str (Txt.slice z _ _),H,I.tok k,⟨t',rfl⟩,q⟩⟩
theorem GG:∀{ys:List Str} {us:List Value},AR (ys.map V.str) us->StrsAre us ys
 |[],_,.nil=>.nil
 |y::ys,_,.cons ⟨t,e⟩ r=>by subst e;exact .cons y t (GG r)
def Uh(K:Fg):V->List V->Hp->VK->Prop:=λx vs H Q=>∃z p ys,x=.str z/\vs=[.ref p]/\Au K H p (ys.map V.str)/\(ys.map (·.length)).sum+ys.length * z.length<=16777216/\Q (.str (Txt.join z ys)) H
theorem Ui:Hl X "str.join" (Uh X.K):=by
 intro qA s σ H x vs v us Q I c rv h
 obtain⟨z,p,ys,rfl,rfl,e,a,q⟩:=h
 obtain⟨t,rfl⟩:=c
 obtain⟨u,rfl,d⟩:=rv.one
 cases d
 obtain⟨qH,r,pl,f⟩:=I.list e
 exact join_list pl.isList (GG (by simpa using r)) a λt' k=>⟨.str _,H,I.tok k,⟨t',rfl⟩,q⟩
theorem Nw:∀{bs:List Bool} {us:List Value},AR (bs.map V.bl) us->LSm.BoolsAre us bs
 |[],_,.nil=>.nil
 |b::bs,_,.cons e r=>by cases e;exact .cons b (Nw r)
theorem GH(n:X.calm=true):BP X (.builtin "all") (λxs H Q=>∃(p:Addr) (bs:List Bool),xs=[.ref p]/\Au X.K H p (bs.map V.bl)/\Q (.bl (bs.all id)) H):=by
 intro qA s σ H xs us Q I r h
 obtain⟨p,bs,rfl,j,q⟩:=h
 obtain⟨u,rfl,g⟩:=r.one
 cases g
 obtain⟨qH,r,pl,w⟩:=I.list j
 have d:=Nw r
 have c:=pl.isList
 have a:p<s.heap.objs.size:=by obtain⟨_,e,_⟩:=c;exact Heap.lt_size e
 refine call_all_walk (wpAny_pyIter_list c ?_)
 refine⟨s.heap.objs.size,[s.heap.objs.size,p],[s.heap.objs.size],qH.toArray.size,_,_,λi=>(bs[i]?).getD true,rfl,Walks.list (A:=X.A.in1) (I.ok.hd n) _ p (Nat.ne_of_lt a) qH.toArray,
  ⟨⟨_,Heap.get?_push_size _ rfl,rfl,rfl⟩,c.push _⟩,λi v s' x y o f=>?_,λh' tk l=>?_⟩
 ·obtain⟨b,e,rfl⟩:=d.get i v (by simpa using o)
  simp only[e,Option.getD_some]at f
  exact wpAny_truthy_bool f
 ·have e:((List.range qH.toArray.size).all λi=>(bs[i]?).getD true)=bs.all id:=by
   rw[size_toArray,d.length];exact LSm.range_all bs
  rw[e]
  exact⟨.bl _,H,I.kept (t':=tk) (LSm.kept_iter l),rfl,q⟩
theorem Uj:BP X (.builtin "isinstance") (λxs H Q=>∃x t n b,xs=[x,.ty n]/\TyOf X.K H x t/\PySem.W.kitOne X.K t (.type n)=some b/\Q (.bl b) H):=by
 intro qA s σ H xs us Q I r h
 obtain⟨x,t,n,b,rfl,ty,e,q⟩:=h
 obtain⟨u,v,rfl,a,rv⟩:=r.two
 cases(show v=Value.type n from rv)
 exact TU I a ty e λtk=>⟨.bl b,H,I.tok tk,rfl,q⟩
theorem Nx:Av X (binaryOp .FloorDiv) (rI (λ_ j=>0<j/\j<2 ^ 64) λi j=>.int (i / j)):=F2 λi j t u s E Q a q=>by
 have e:i.fdiv j=i / j:=Int.fdiv_eq_ediv_of_nonneg _ (Int.le_of_lt a.1)
 refine floordiv_int (Int.ne_of_gt a.1) (by rw[e];exact q) (.inl (PyProof.noPylong_of_log2 ?_))
 have h:j.natAbs<2 ^ 64:=by have:=a.2;lia
 have c:j.natAbs≠0:=by have:=a.1;lia
 exact Nat.lt_of_lt_of_le ((Nat.log2_lt c).mpr h) (by decide)
def KO:R2:=λx y H Q=>∃p i xs,x=.ref p/\y=.int i/\H p=some (.lst xs)/\∃v,atI xs i=some v/\Q v H
theorem CM:ES X KO:=λvalue a qA s σ H x y v u Q I d c ⟨p,i,xs,j,g,h,w,e,q⟩ f=>NQ value a qA s σ H x y v u Q I d c ⟨p,xs,i,w,j,g,.of h,e,q⟩ f
theorem Ny:Mt X KO:=by
 intro qA s σ H o i A B Q I g l h
 obtain⟨p,k,xs,rfl,rfl,n,z,v,q⟩:=h
 cases g
 obtain⟨t,rfl⟩:=l
 obtain⟨qH,r,pl,C⟩:=I.list (.of n)
 obtain⟨j,h1,h2,E,y,x⟩:=Hk v
 obtain⟨w,f,c⟩:=r.get h2
 have u:=r.length
 have D:=EO
 have a:EP X qA σ Q w s:=⟨z,H,I,c,q⟩
 by_cases e:0<=k
 ·have d:k.toNat=j:=by
   rw[seqIndex_of e x]at h1
   exact oI h1
  exact wpAny_getItem_list pl.isList e (by lia) (by rw[d];simpa using f) a
 ·have d:(k+(qH.toArray.size:Int)).toNat=j:=by
   rw[seqIndex_neg (by lia) y]at h1
   rw[size_toArray,<-u]
   exact oI h1
  exact wpAny_getItem_list_neg pl.isList (by lia) (by rw[size_toArray]<;>lia) (by lia) (by rw[d];simpa using f) a
theorem KP:BP X (.builtin "len") (λxs H Q=>∃p ys,xs=[.ref p]/\H p=some (.lst ys)/\Q (.int ys.length) H):=by
 intro qA s σ H xs us Q I r h
 obtain⟨p,ys,rfl,a,q⟩:=h
 exact NT qA s σ H _ us Q I r ⟨p,ys,rfl,.inl (.of a),q⟩
def Fn(P:Program)(w:World)(K:Fg)(mg:Str->Option Value)(base:Heap)(x:Str)(k:Nat)(ps:List Str)(sp:Sp):Prop :=
 ∃(f:Addr) (fd:FuncData),FnOk P w K mg base DF k f fd ps sp/\mg x=some (.ref f)/\PySem.W.keepIn K (.ref f)=true/\E3 K fd ps []
theorem ET{k:Nat}{sp:Sp}{p:Pos}{e:Expr}{t:TA}(G:Fn X.prog X.w X.K X.mg X.base x k ps sp)(d:Room k X.A)(i:Gl X x)
  (n:PA X (e::es) t) (c:(x==("__debug__":Str))=false:=by decide +kernel) (j:starEach (e::es) X.env=(false,eval e X.env)::starEach es X.env:=by rfl) (a:(backTo pos (starEach es X.env)).any (·.1)=false:=by rfl) :
  PE X (.Call (.Name x p) (e::es) [] pos) (F4 sp [] E0 t):=by
 obtain⟨f,fd,F,g,h,l⟩:=G
 exact TY F d i g h l .nil UU n c j a
def Az(K:Fg)(mg:Str->Option Value)(x:Str)(st:Stmt):Prop:=∃(f:Addr) (fd:FuncData),Fun K x x st f fd/\mg x=some (.ref f)
theorem GI{P:Program}{K:Fg}{st:Stmt}{k:Nat}{sp:Sp}(D:Az K mg x st)(S:FnScope N ps (AT st))
  (g:∀(kV doc d:Value) (h:Option Addr) (a ct:Value) (us:List Value),us.length=ps.length->bindArgs (PySem.W.fnOf x x (Dd st) (Cr st) (AT st) .none kV doc d h a ct) ⟨us,[]⟩=pure (ps.zip us))
  (len:∀vs H Q E,sp vs H Q E->vs.length=ps.length)
  (c:∀(f:Addr) (a:Value) (A:Around) (outer:List Env) (s:Shared) (H:Hp) (vs:List V) (Q:VK) (E:XK),Room k (A.deeper (PyProof.Rows.envOfC x (AT st) s.heap.objs.size f a))->sp vs H Q E ->
   ∃t,BY (Dv DF P w K mg base N x (AT st) f a A outer s H E).nox (Cr st) t/\t { nx:=λ_ H'=>Q .non H',rt:=Q } (CL N vs) H):Fn P w K mg base x (k+1) ps sp:=by
 obtain⟨f,fd,F,e⟩:=D
 exact⟨f,fd,F.ok S len (c f),e,F.kp,F.binds g⟩
theorem E7:BP X (.type "list") (λxs H Q=>∃p ys,xs=[.ref p]/\(H p=some (.lst ys)\/H p=some (.tup ys))/\∀l,H l=none->Q (.ref l) (AD H l (.lst ys))):=by
 intro qA s σ H xs us Q I r h
 obtain⟨p,ys,rfl,a,q⟩:=h
 exact T7 qA s σ H _ us Q I r ⟨p,ys,rfl,a.elim (λz=>.inl (.of z)) (λz=>.inr (.of z)),q⟩
theorem Cw:BP X (.type "tuple") (λxs H Q=>∃p ys,xs=[.ref p]/\H p=some (.lst ys)/\∀l,H l=none->Q (.ref l) (AD H l (.tup ys))):=by
 intro qA s σ H xs us Q I r h
 obtain⟨p,ys,rfl,a,q⟩:=h
 exact T8 qA s σ H _ us Q I r ⟨p,ys,rfl,.inl ⟨.of a,q⟩⟩
theorem Uk{k:Nat}(h:k<=x.length):(Txt.slice x none (some (k:Int))).cps.toList=x.cps.toList.take k:=by
 have e:=beq_iff_eq.mp (slice_closes_to (x:=x) (j:=(k:Int)) ⟨by lia,by have:x.cps.toList.length=x.length:=Array.length_toList;lia⟩)
 rw[e]
 simp
theorem Ul:∀ys:List Str,(Txt.join ⟨#[]⟩ ys).cps.toList=(ys.map (·.cps.toList)).flatten:=by
 have c:∀ys:List Str,(Str.join ⟨#[]⟩ ys).cps.toList=(ys.map (·.cps.toList)).flatten:=by
  intro ys
  induction ys with
  |nil=>rfl
  |cons y r a =>
   cases r with
   |nil=>simp[Str.join]
   |cons z r =>
    have e:Str.join ⟨#[]⟩ (y::z::r)=y++⟨#[]⟩++Str.join ⟨#[]⟩ (z::r):=rfl
    rw[e]
    show((y.cps++#[])++(Str.join ⟨#[]⟩ (z::r)).cps).toList=_
    rw[Array.toList_append,a]
    simp
 intro ys
 have e:=beq_iff_eq.mp (join_plain_closes ⟨#[]⟩ ys)
 rw[e]
 exact c ys
theorem KQ:∀{ys:List Str} {us:List Value},StrsAre us ys->AR (ys.map V.str) us
 |_,_,.nil=>.nil
 |_,_,.cons y t r=>.cons ⟨t,rfl⟩ (KQ r)
theorem Um(_:True):BP X (.builtin "sorted") (λxs H Q=>∃(p:Addr) (ss:List Str),xs=[.ref p]/\H p=some (.lst (ss.map V.str))/\ss.length<64/\∀(l:Addr) (a:List Str),H l=none->a.Perm ss->sortedS a=true->Q (.ref l) (AD H l (.lst (a.map V.str)))):=by
 intro qA s σ H xs us Q I r h
 obtain⟨p,ss,rfl,d,j,q⟩:=h
 obtain⟨u,rfl,c⟩:=r.one
 cases c
 obtain⟨qH,r,pl,v⟩:=I.list (.of d)
 have i:=GG r
 have f:=r.length
 rw[length_map]at f
 refine sorted_strs pl.isList i (by lia) λout a h1 h2 n=>?_
 obtain⟨e,g⟩:=sortedAll_at s.heap qH out
 refine⟨.ref (s.heap.objs.size+1),_,I.laid (t':=s.toks) (o:=.lst (a.map V.str)) (λb o q=>sortedAll_old q) (Nat.le_succ _) ?_,rfl,q _ a (I.hok.fresh (Nat.le_succ _)) h2 n⟩
 refine⟨?_,out.toList,e,KQ h1,g⟩
 rw[length_map,h2.length_eq]
 exact Nat.le_of_lt (Dx (by lia))
theorem Nz(z:Str):∀xs:List Str,Hn (.str z) (xs.map V.str)=decide (z∈xs)
 |[]=>rfl
 |x::r=>by
  have a:=Nz z r
  unfold Hn at a ⊢
  rw[map_cons,any_cons,a]
  by_cases e:x=z
  ·subst e;simp[DD]
  ·have c:¬z=x:=λh=>e h.symm
   simp[DD,e,c]
theorem N0:∀xs:List Str,(xs.map V.str).all Db=true
 |[]=>rfl
 |x::r=>by rw[map_cons,all_cons,N0 r];rfl
theorem Uo:Av X (compareOp .In) (λx y H Q=>∃(z:Str) (p:Addr) (xs:List Str),x=.str z/\y=.ref p/\(H p=some (.lst (xs.map V.str))\/H p=some (.tup (xs.map V.str)))/\Q (.bl (decide (z∈xs))) H):=by
 intro qA s σ H x y v u Q I c a h
 obtain⟨z,p,xs,rfl,rfl,d,q⟩:=h
 refine T6 qA s σ H _ _ v u Q I c a ⟨p,xs.map V.str,rfl,d.elim (λz=>.inl (.of z)) (λz=>.inr (.of z)),rfl,N0 xs,?_⟩
 rw[Nz]
 exact q
open PySem.Builtin PySem.Builtin.Str in
theorem KR(h:0<x.length):(Txt.slice x none (some (-1))).cps.toList=x.cps.toList.take (x.length - 1):=by
 have e:Txt.slice x none (some (-1))=Txt.slice x none (some (((x.length - 1:Nat)):Int)):=by
  unfold Txt.slice
  have a:strSliceIndices none (some (-1)) 1 x.length=strSliceIndices none (some (((x.length - 1:Nat)):Int)) 1 x.length:=by
   unfold strSliceIndices
   have d:(-1:Int)<0:=by decide
   have c:¬(((x.length - 1:Nat)):Int)<0:=by lia
   simp only[d,c,if_true,if_false,show(1:Int) > 0 by decide]
   congr 1
   lia
  rw[a]
 rw[e]
 exact Uk (by lia)
theorem BY.weak{st:List Stmt}{u m:TS}(h:BY X st u)(hw:∀D σ H,m D σ H->u D σ H):BY X st m:=λqA s σ H D I q=>h qA s σ H D I (hw D σ H q)
end L2
namespace HT
open PySem PySem.Spec PyProof.Rows
theorem getItem_tuple_whole{t c:Addr}{items:Array Value}{i g:Value}{lo hi:Option Int}(a:IsTup s.heap t items)(j:s.heap.IsSliceOf c i g .none)(pl:IsPart i lo)(l:IsPart g hi)
  (hw:sIx items.size 0 lo=0/\sIx items.size items.size hi=items.size) (h:Q (.ref t) s):wpAny (model prog w) A (getItem (.ref t) (.ref c)) Q E s:=by
 obtain⟨os,d,e,n⟩:=id j
 have f:s.TypeIs (.ref c) "slice":=⟨os,d,e⟩
 unfold getItem
 try with_reducible refine wpAny_holding ?_
 first|refine wB (wP ?_)|skip
 refine wB (wpAny_sequenceKey a.typeIs (by decide) ?_)
 refine wB (wpAny_callSpecial?_slot (name:=Str.ofString "__getitem__") a.typeIs PyProof.Rows.slot_tuple_getitem
  (wpAny_call_entry PyProof.Rows.slot_tuple_getitem a.typeIs entry_tuple_getitem ?_ (args_tuple_getitem _ _)))
 show wpAny _ _ (Builtin.Tuple.tupleItemsOf (.ref t) >>= _) _ _ s
 refine wB (tupleItemsOf_ a (wB (wpAny_typeOf f ?_)))
 rw[if_pos (by decide)]
 refine wB (NK j pl l ?_)
 show wpAny _ _ (if(((sIx items.size 0 lo:Nat):Int)==0&&(1:Int)==1&&(sIx items.size items.size hi - sIx items.size 0 lo)==items.size)=true then _ else _) _ _ s
 rw[if_pos (by rw[hw.1,hw.2];simp)]
 unfold Builtin.Tuple.tupleIsExact
 refine wB (wB (wpAny_typeOf a.typeIs (wP ?_)))
 simp only[beq_self_eq_true,if_true]
 first
  |exact wB (wpAny_rule (wP ⟨_,rfl,wP h⟩))
  |exact wB (wpAny_rule (wB (wP (wP ⟨_,rfl,wP h⟩))))
  |exact wB (wB (wpAny_rule (wP (wP ⟨_,rfl,wP h⟩))))
end HT
namespace L2
open PySem PySem.Spec PyProof.Rows
theorem Inv.turnedL{ch:List Addr}(I:Inv X qA σ H s)(k:∀b o,b∉ch->s.heap.get? b=some o->h'.get? b=some o)(d:∀b∈ch,B1 X qA H b):Inv X qA σ H { s with heap:=h',toks:=t' }:=by
 have f:∀b u,H b=some u->b∉ch:=λb u e z=>by rw[(d b z).1]at e;cases e
 refine I.step (g':=s.gens) (d':=s.drawn) (ch:=ch) (λb hb=>⟨(d b hb).2.2.2.1,(d b hb).2.1,(d b hb).2.2.2.2.1,(d b hb).2.2.2.2.2⟩) (λb o _ _ a e _=>k b o a e) (λb o _ _ a e _=>⟨o.slots,k b o a e⟩) (λ_ _ _ _ n=>n)
  (λb o a e=>⟨o,k b o a e⟩) (λ_ _ e=>e) (λ_ _ _ e=>e) (λb ps e=>⟨#[],by rw[e];simp⟩) (λm hm=>?_) (λb u e=>?_) I.bare
 ·obtain⟨o,es,ep,g,r⟩:=hm
  exact⟨o,es,ep,k _ o (λz=>(d _ z).2.1 rfl) g,r⟩
 ·refine(I.hok b u e).stay (λc v a q=>k c v ?_ q) (λ_ q=>q) λ_ _ q=>q
  rcases a with z|z
  ·rw[z];exact f b u e
  ·exact f c _ z
theorem Uq:bootBuiltins "zip"=some (.type "zip"):=by decide +kernel
def N1:V->Option Int->Option Int->Hp->VK->Prop:=λx lo hi H Q=>∃a xs,x=.ref a/\H a=some (.tup xs) /\
 ((HT.sIx xs.length 0 lo=0/\HT.sIx xs.length xs.length hi=xs.length)->Q (.ref a) H) /\
 (¬(HT.sIx xs.length 0 lo=0/\HT.sIx xs.length xs.length hi=xs.length)->∀p,H p=none->Q (.ref p) (AD H p (.tup (Cq xs lo hi))))
theorem Ur:Cp X N1:=by
 intro qA s σ H x v n l lo hi o Q I e j pl f h
 obtain⟨a,xs,rfl,g,h1,h2⟩:=h
 by_cases d:HT.sIx xs.length 0 lo=0/\HT.sIx xs.length xs.length hi=xs.length
 ·cases e
  obtain⟨qH,r,i,p⟩:=I.tuple (.of g)
  have c:qH.toArray.size=xs.length:=by rw[size_toArray];exact r.length.symm
  exact⟨"tuple",_,PyProof.Rows.slot_tuple_getitem.lookup,i.typeIs,HT.getItem_tuple_whole i j pl f (by rw[c];exact d) ⟨.ref a,H,I,rfl,h1 d⟩⟩
 ·exact Ts qA s σ H _ v n l lo hi o Q I e j pl f ⟨a,xs,rfl,.of g,d,h2 d⟩
end L2
namespace L2
open PySem PySem.Spec PyProof.Rows PySem.W
theorem E8:∀a:List Int,HT.lexLt a a=false
 |[]=>rfl
 |x::r=>by rw[HT.lexLt_cons,if_pos rfl];exact E8 r
theorem GJ:∀a b c:List Int,HT.lexLt a b=true->HT.lexLt b c=true->HT.lexLt a c=true
 |[],[],c,h,_=>by simp[HT.lexLt]at h
 |[],_::_,[],_,h=>by simp[HT.lexLt]at h
 |[],_::_,_::_,_,_=>rfl
 |_::_,[],_,h,_=>by simp[HT.lexLt]at h
 |_::_,_::_,[],_,h=>by simp[HT.lexLt]at h
 |x::xs,y::ys,z::zs,h1,h2=>by
  rw[HT.lexLt_cons]at h1 h2 ⊢
  by_cases e:x=y
  ·subst e
   rw[if_pos rfl]at h1
   by_cases d:x=z
   ·subst d
    rw[if_pos rfl]at h2 ⊢
    exact GJ xs ys zs h1 h2
   ·rw[if_neg d]at h2 ⊢;exact h2
  ·rw[if_neg e]at h1
   have h1:=of_decide_eq_true h1
   by_cases d:y=z
   ·subst d
    rw[if_neg e];exact decide_eq_true h1
   ·rw[if_neg d]at h2
    have h2:=of_decide_eq_true h2
    rw[if_neg (by lia)];exact decide_eq_true (by lia)
theorem E9:∀a b:List Int,HT.lexLt a b=false->HT.lexLt b a=false->a=b
 |[],[],_,_=>rfl
 |[],_::_,h,_=>by simp[HT.lexLt]at h
 |_::_,[],_,h=>by simp[HT.lexLt]at h
 |x::xs,y::ys,h1,h2=>by
  rw[HT.lexLt_cons]at h1 h2
  by_cases c:x=y
  ·subst c
   rw[if_pos rfl]at h1 h2
   rw[E9 xs ys h1 h2]
  ·rw[if_neg c]at h1
   rw[if_neg (λz=>c z.symm)]at h2
   have h1:=of_decide_eq_false h1
   have h2:=of_decide_eq_false h2
   lia
theorem KS(a b c:List Int)(h:HT.lexLt a c=true):HT.lexLt a b=true\/HT.lexLt b c=true:=by
 cases h1:HT.lexLt a b
 ·cases h2:HT.lexLt b c
  ·exfalso
   cases d:HT.lexLt b a
   ·rw[E9 a b h1 d,h2]at h;cases h
   ·have:=GJ b a c d h
    rw[h2]at this;cases this
  ·exact .inr rfl
 ·exact .inl rfl
def DH:KeyOrd:=⟨List Int,HT.lexLt,E8,GJ,KS,E9⟩
theorem N2{prog:Program}{w:World}{A:Around}{s:Shared}{Q:Bool->Shared->Prop}:∀{us vs:List Value} {ns ms:List Int} (i:Nat),IntsAre us ns->IntsAre vs ms->ns.length=ms.length->Q (HT.lexLt ns ms) s->KatLex prog w A true false Q (us.zip vs) i s
 |_,_,_,_,i,.nil,.nil,_,q=>q
 |_,_,_,_,i,.nil,.cons _ _ _,d,_=>by simp at d
 |_,_,_,_,i,.cons _ _ _,.nil,d,_=>by simp at d
 |_,_,_,_,i,.cons a t g,.cons c u f,d,q=>by
  rw[zip_cons_cons]
  refine kat_cons (SeqAt.EqAt.int_int a t c u prog w _ _ ?_)
  rw[HT.lexLt_cons]at q
  by_cases e:a=c
  ·rw[if_pos e]at q
   rw[show(a==c)=true by simpa using e]
   exact kat_yes (N2 (i+1) g f (by simpa using d) q)
  ·rw[if_neg e]at q
   rw[show(a==c)=false by simpa using e]
   refine kat_no ?_
   by_cases hi:i=0
   ·subst hi
    exact kat_lt_int (E:=λ_ _=>False) q
   ·rw[show(true&&i==0)=false by simp[hi]]
    exact kat_one _ _ (lt_int (E:=λ_ _=>False) q)
end L2
namespace L2
open PySem PySem.Spec PyProof.Rows
abbrev De(a:Addr)(i c z:Int):HO:=.lst [.ref a,.int i,.int c,.int z]
structure Bag(H:Hp)(b a:Addr):Prop where
 ob:∃(ns:List Int) (i c z:Int),H b=some (De a i c z)/\H a=some (.lst (ns.map V.int))/\0<=i/\a≠b
structure Step(b a:Addr)(H H':Hp):Prop where
 bag:Bag H' b a
 same:∀p o,p≠b->H p=some o->H' p=some o
section
variable{b D:Addr}
theorem Step.refl(h:Bag H b a):Step b a H H:=⟨h,λ_ _ _ e=>e⟩
theorem Step.trans(x:Step b a H H1)(y:Step b a H1 H2):Step b a H H2:=⟨y.bag,λp o n e=>y.same p o n (x.same p o n e)⟩
theorem Bag.put(h:Bag H b a)(nb:p≠b)(na:p≠a):Bag (AD H p o) b a:=by
 obtain⟨ns,i,c,z,h1,h2,r⟩:=h
 exact⟨ns,i,c,z,by rw[AL nb.symm];exact h1,by rw[AL na.symm];exact h2,r⟩
theorem Bag.atb(h:Bag H b a):∃l,H b=some (.lst l):=by
 obtain⟨ns,i,c,z,h1,_⟩:=h
 exact⟨_,h1⟩
theorem Bag.ata(h:Bag H b a):∃l,H a=some (.lst l):=by
 obtain⟨ns,i,c,z,h1,h2,_⟩:=h
 exact⟨_,h2⟩
theorem Bag.nb(h:Bag H b a)(n:H p=none):p≠b:=by
 obtain⟨l,h1⟩:=h.atb
 exact(A3 h1 n).symm
theorem Bag.na(h:Bag H b a)(n:H p=none):p≠a:=by
 obtain⟨l,h1⟩:=h.ata
 exact(A3 h1 n).symm
theorem Bag.new(h:Bag H b a)(n:H p=none):Bag (AD H p o) b a:=h.put (h.nb n) (h.na n)
theorem Step.new(h:Bag H b a)(n:H p=none):Step b a H (AD H p o):=⟨h.new n,λq u _ e=>by rw[AL (A3 e n)];exact e⟩
theorem Bag.neT(h:Bag H b a){xs:List V}(e:H p=some (.tup xs)):p≠b/\p≠a:=by
 obtain⟨ns,i,c,z,h1,h2,_⟩:=h
 exact⟨Dr e h1 (λz=>by cases z),Dr e h2 (λz=>by cases z)⟩
theorem Step.free(s:Step b a H H1)(n:H1 p=none):H p=none:=by
 cases e:H p with
 |none=>rfl
 |some o =>
  rw[s.same p o (s.bag.nb n) e]at n
  cases n
end
abbrev AV(r:List Int):List AN:=r.map Sum.inl
abbrev Df(x:Str):AN:=Sum.inr x
inductive P where
 |non|bl (b:Bool)|int (i:Int)|str (x:Str)|bag
 |tup (xs:List P)|lst (xs:List P)
 |dT (ks:List (List Int)) (vs:List P)|dK (ks:List Str) (vs:List P)
 |fT (ks:List (List Int)) (vs:List P)
mutual
def P.imm:P->Bool
 |.lst _=>false|.dT _ _=>false|.dK _ _=>false|.fT _ _=>false
 |.tup xs=>P.imms xs
 |.non=>true|.bl _=>true|.int _=>true|.str _=>true|.bag=>true
def P.imms:List P->Bool
 |[]=>true
 |x::r=>x.imm&&P.imms r
end
def P.mut:P->Bool
 |.lst _=>true|.dT _ _=>true|.dK _ _=>true|.fT _ _=>true|_=>false
theorem Ut{x:P}(h:x.mut=true):x.imm=false:=by cases x<;>simp_all [P.mut,P.imm]
def P.items:P->Option (List P)
 |.lst xs=>some xs|.tup xs=>some xs|_=>none
def Fz(H:Hp)(p:Addr)(qI:List (List AN×V)):Prop:=∃o,H p=some (.frz o (.dT qI))
theorem Fz.map{qI:List (List AN×V)}(h:Fz H p qI)(k:∀o,H p=some o->H' p=some o):Fz H' p qI:=let⟨o,e⟩:=h;⟨o,k _ e⟩
mutual
def Rp(b:Addr)(Z:Addr->Prop)(H:Hp):P->V->Prop
 |.non,v=>v=.non
 |.bl k,v=>v=.bl k
 |.int i,v=>v=.int i
 |.str x,v=>v=.str x
 |.bag,v=>v=.ref b
 |.tup xs,v=>∃p vs,v=.ref p/\H p=some (.tup vs)/\AB b Z H xs vs
 |.lst xs,v=>∃p vs,v=.ref p/\¬Z p/\H p=some (.lst vs)/\AB b Z H xs vs
 |.dT ks xs,v=>∃p vs,v=.ref p/\¬Z p/\H p=some (.dT ((ks.map AV).zip vs))/\ks.length=xs.length/\AB b Z H xs vs
 |.fT ks xs,v=>∃p vs,v=.ref p/\¬Z p/\Fz H p ((ks.map AV).zip vs)/\ks.length=xs.length/\AB b Z H xs vs
 |.dK ks xs,v=>∃p vs,v=.ref p/\¬Z p/\H p=some (.dK ((ks.map Df).zip vs))/\ks.length=xs.length/\AB b Z H xs vs
def AB(b:Addr)(Z:Addr->Prop)(H:Hp):List P->List V->Prop
 |[],vs=>vs=[]
 |x::xs,vs=>∃v r,vs=v::r/\Rp b Z H x v/\AB b Z H xs r
end
def Rc(b:Addr)(Z:Addr->Prop)(H:Hp):P->Addr->Prop
 |.lst xs,p=>∃vs,H p=some (.lst vs)/\AB b Z H xs vs
 |.dT ks xs,p=>∃vs,H p=some (.dT ((ks.map AV).zip vs))/\ks.length=xs.length/\AB b Z H xs vs
 |.fT ks xs,p=>∃vs,Fz H p ((ks.map AV).zip vs)/\ks.length=xs.length/\AB b Z H xs vs
 |.dK ks xs,p=>∃vs,H p=some (.dK ((ks.map Df).zip vs))/\ks.length=xs.length/\AB b Z H xs vs
 |_,_=>False
section
variable{b:Addr}{Z':Addr->Prop}
mutual
theorem Rp.keep(a:∀p o,¬Z p->H p=some o->¬Z' p/\H' p=some o)(e:∀p vs,H p=some (.tup vs)->H' p=some (.tup vs)):∀{x:P} {v:V},Rp b Z H x v->Rp b Z' H' x v
 |.non,_,h=>h
 |.bl _,_,h=>h
 |.int _,_,h=>h
 |.str _,_,h=>h
 |.bag,_,h=>h
 |.tup xs,v,h=>by
  obtain⟨p,vs,h1,h2,c⟩:=h
  exact⟨p,vs,h1,e p vs h2,AB.keep a e c⟩
 |.lst xs,v,h=>by
  obtain⟨p,vs,h1,h2,c,d⟩:=h
  exact⟨p,vs,h1,(a p _ h2 c).1,(a p _ h2 c).2,AB.keep a e d⟩
 |.dT ks xs,v,h=>by
  obtain⟨p,vs,h1,h2,c,f,d⟩:=h
  exact⟨p,vs,h1,(a p _ h2 c).1,(a p _ h2 c).2,f,AB.keep a e d⟩
 |.fT ks xs,v,h=>by
  obtain⟨p,vs,h1,h2,⟨o,c⟩,f,d⟩:=h
  exact⟨p,vs,h1,(a p _ h2 c).1,⟨o,(a p _ h2 c).2⟩,f,AB.keep a e d⟩
 |.dK ks xs,v,h=>by
  obtain⟨p,vs,h1,h2,c,f,d⟩:=h
  exact⟨p,vs,h1,(a p _ h2 c).1,(a p _ h2 c).2,f,AB.keep a e d⟩
theorem AB.keep(c:∀p o,¬Z p->H p=some o->¬Z' p/\H' p=some o)(a:∀p vs,H p=some (.tup vs)->H' p=some (.tup vs)):∀{xs:List P} {vs:List V},AB b Z H xs vs->AB b Z' H' xs vs
 |[],_,h=>h
 |x::xs,vs,h=>by
  obtain⟨v,r,h1,h2,d⟩:=h
  exact⟨v,r,h1,Rp.keep c a h2,AB.keep c a d⟩
end
mutual
theorem Rp.imm:∀{x:P} {v:V},x.imm=true->Rp b Z H x v->Rp b Z' H x v
 |.non,_,_,h=>h
 |.bl _,_,_,h=>h
 |.int _,_,_,h=>h
 |.str _,_,_,h=>h
 |.bag,_,_,h=>h
 |.tup xs,v,hi,h=>by
  obtain⟨p,vs,h1,h2,a⟩:=h
  exact⟨p,vs,h1,h2,AB.imm (by simpa[P.imm]using hi) a⟩
 |.lst _,_,hi,_=>by simp[P.imm]at hi
 |.dT _ _,_,hi,_=>by simp[P.imm]at hi
 |.fT _ _,_,hi,_=>by simp[P.imm]at hi
 |.dK _ _,_,hi,_=>by simp[P.imm]at hi
theorem AB.imm:∀{xs:List P} {vs:List V},P.imms xs=true->AB b Z H xs vs->AB b Z' H xs vs
 |[],_,_,h=>h
 |x::xs,vs,hi,h=>by
  obtain⟨v,r,h1,h2,a⟩:=h
  rw[P.imms,Bool.and_eq_true]at hi
  exact⟨v,r,h1,Rp.imm hi.1 h2,AB.imm hi.2 a⟩
end
theorem AB.length:∀{xs:List P} {vs:List V},AB b Z H xs vs->xs.length=vs.length
 |[],_,h=>by rw[show _=[]from h];rfl
 |x::xs,vs,h=>by
  obtain⟨v,r,h1,h2,a⟩:=h
  rw[h1,length_cons,length_cons,AB.length a]
theorem AB.get:∀{xs:List P} {vs:List V} {i:Nat} {x:P},AB b Z H xs vs->xs[i]?=some x->∃v,vs[i]?=some v/\Rp b Z H x v
 |[],_,_,_,_,e=>by simp at e
 |y::xs,vs,0,x,h,e=>by
  obtain⟨v,r,h1,h2,a⟩:=h
  simp at e;subst e;subst h1
  exact⟨v,rfl,h2⟩
 |y::xs,vs,i+1,x,h,e=>by
  obtain⟨v,r,h1,h2,a⟩:=h
  subst h1
  obtain⟨u,d,c⟩:=AB.get (i:=i) a (by simpa using e)
  exact⟨u,by simpa using d,c⟩
theorem AB.app:∀{xs ys:List P} {vs us:List V},AB b Z H xs vs->AB b Z H ys us->AB b Z H (xs++ys) (vs++us)
 |[],_,_,_,h,g=>by rw[show _=[]from h];exact g
 |x::xs,ys,vs,us,h,g=>by
  obtain⟨v,r,h1,h2,a⟩:=h
  subst h1
  exact⟨v,r++us,rfl,h2,AB.app a g⟩
theorem AB.take:∀{xs:List P} {vs:List V} (n:Nat),AB b Z H xs vs->AB b Z H (xs.take n) (vs.take n)
 |_,_,0,_=>rfl
 |[],_,_+1,h=>by rw[show _=[]from h];rfl
 |x::xs,vs,n+1,h=>by
  obtain⟨v,r,h1,h2,a⟩:=h
  subst h1
  exact⟨v,r.take n,rfl,h2,AB.take n a⟩
theorem AB.drop:∀{xs:List P} {vs:List V} (n:Nat),AB b Z H xs vs->AB b Z H (xs.drop n) (vs.drop n)
 |_,_,0,h=>h
 |[],_,_+1,h=>by rw[show _=[]from h];rfl
 |x::xs,vs,n+1,h=>by
  obtain⟨v,r,h1,h2,a⟩:=h
  subst h1
  exact AB.drop n a
theorem AB.set{x:P}{v:V}(c:Rp b Z H x v):∀{xs:List P} {vs:List V} (n:Nat),AB b Z H xs vs->AB b Z H (xs.set n x) (vs.set n v)
 |[],_,_,h=>by rw[show _=[]from h];rfl
 |y::xs,vs,0,h=>by
  obtain⟨u,r,h1,h2,a⟩:=h
  subst h1
  exact⟨v,r,rfl,c,a⟩
 |y::xs,vs,n+1,h=>by
  obtain⟨u,r,h1,h2,a⟩:=h
  subst h1
  exact⟨u,r.set n v,rfl,h2,AB.set c n a⟩
theorem AB.snoc{xs:List P}{x:P}(h:AB b Z H xs vs)(g:Rp b Z H x v):AB b Z H (xs++[x]) (vs++[v]):=h.app ⟨v,[],rfl,g,rfl⟩
theorem AB.ints:∀{ns:List Int} {vs:List V},AB b Z H (ns.map P.int) vs↔vs=ns.map V.int
 |[],vs=>Iff.rfl
 |n::ns,vs=>by
  constructor
  ·rintro⟨v,r,h1,h2,a⟩
   rw[h1,show v=.int n from h2,AB.ints.mp a];rfl
  ·intro h
   exact⟨.int n,ns.map V.int,h,rfl,AB.ints.mpr rfl⟩
theorem AB.strs:∀{ns:List Str} {vs:List V},AB b Z H (ns.map P.str) vs↔vs=ns.map V.str
 |[],vs=>Iff.rfl
 |n::ns,vs=>by
  constructor
  ·rintro⟨v,r,h1,h2,a⟩
   rw[h1,show v=.str n from h2,AB.strs.mp a];rfl
  ·intro h
   exact⟨.str n,ns.map V.str,h,rfl,AB.strs.mpr rfl⟩
theorem AB.bls:∀{ns:List Bool} {vs:List V},AB b Z H (ns.map P.bl) vs↔vs=ns.map V.bl
 |[],vs=>Iff.rfl
 |n::ns,vs=>by
  constructor
  ·rintro⟨v,r,h1,h2,a⟩
   rw[h1,show v=.bl n from h2,AB.bls.mp a];rfl
  ·intro h
   exact⟨.bl n,ns.map V.bl,h,rfl,AB.bls.mpr rfl⟩
end
@[simp] theorem Uu(i:Int):(P.int i).imm=true:=rfl
@[simp] theorem Uv(i:Str):(P.str i).imm=true:=rfl
@[simp] theorem Uw(i:Bool):(P.bl i).imm=true:=rfl
@[simp] theorem Ux:P.non.imm=true:=rfl
@[simp] theorem Uy:P.bag.imm=true:=rfl
@[simp] theorem Uz(xs:List P):(P.lst xs).imm=false:=rfl
@[simp] theorem U0(ks:List (List Int))(xs:List P):(P.dT ks xs).imm=false:=rfl
@[simp] theorem U1(ks:List Str)(xs:List P):(P.dK ks xs).imm=false:=rfl
@[simp] theorem U2(xs:List P):(P.tup xs).imm=P.imms xs:=by simp[P.imm]
@[simp] theorem U3:P.imms []=true:=by simp[P.imms]
@[simp] theorem Hz(x:P)(xs:List P):P.imms (x::xs)=(x.imm&&P.imms xs):=by simp[P.imms]
theorem H0{xs:List P}:P.imms xs=true↔∀x∈xs,x.imm=true:=by
 induction xs with
 |nil=>simp
 |cons x r a=>simp[a]
@[simp] theorem U4(xs ys:List P):P.imms (xs++ys)=(P.imms xs&&P.imms ys):=by
 induction xs with
 |nil=>simp
 |cons x r a=>simp[a,Bool.and_assoc]
theorem FA{α:Type}{f:α->P}(h:∀a,(f a).imm=true)(xs:List α):P.imms (xs.map f)=true:=by
 rw[H0]
 intro x c
 obtain⟨a,_,rfl⟩:=mem_map.mp c
 exact h a
@[simp] theorem IA(ns:List Int):P.imms (ns.map P.int)=true:=FA (λ_=>rfl) ns
@[simp] theorem KU(ns:List Str):P.imms (ns.map P.str)=true:=FA (λ_=>rfl) ns
@[simp] theorem U5(ns:List Bool):P.imms (ns.map P.bl)=true:=FA (λ_=>rfl) ns
@[simp] theorem U6(xs:List P):(P.lst xs).mut=true:=rfl
@[simp] theorem U7(ks:List (List Int))(xs:List P):(P.dT ks xs).mut=true:=rfl
@[simp] theorem U8(ks:List Str)(xs:List P):(P.dK ks xs).mut=true:=rfl
@[simp] theorem U9(xs:List P):(P.tup xs).mut=false:=rfl
@[simp] theorem VA(xs:List P):(P.lst xs).items=some xs:=rfl
@[simp] theorem VB(xs:List P):(P.tup xs).items=some xs:=rfl
inductive S where
 |emp|sh (x:P)|fr (x:P)|own (x:P)
inductive Fl where
 |nw|fr|cl|bo|rf|an
 deriving DecidableEq
def Fl.el:Fl->Fl
 |.nw=>.fr|.fr=>.fr|.bo=>.fr|.cl=>.cl|.rf=>.rf|.an=>.an
def Fl.top:Fl->Fl
 |.nw=>.nw|.fr=>.nw|.bo=>.nw|.cl=>.cl|.rf=>.rf|.an=>.an
def Fl.join:Fl->Fl->Fl
 |.nw,g=>g|f,.nw=>f
 |.cl,.cl=>.cl|.rf,.rf=>.rf|_,_=>.an
def Bk(f:Fl)(xs:List P):Fl:=if P.imms xs=true then .nw else f.top
structure Wd where
 b:Addr
 a:Addr
 H₀:Hp
 F:Hp
 O:Addr->Prop
end L2
variable{xs ys:List L2.P}{y:L2.P}{f:L2.Fl}{W:L2.Wd}{ρ ρ':List L2.S}
namespace L2
open PySem PySem.Spec PyProof.Rows
def Ac(ρ:List S)(σ:St)(p:Addr):Prop:=∃(i:Nat) (x:P),ρ[i]?=some (.own x)/\σ[i]?=some (some (.ref p))
def Ow(W:Wd)(ρ:List S)(σ:St)(p:Addr):Prop:=W.O p\/Ac ρ σ p
def AC(W:Wd)(ρ:List S)(σ:St):Fl->Addr->Prop
 |.cl,p=>p=W.b\/Ow W ρ σ p
 |.rf,p=>p=W.b\/W.H₀ p≠none
 |.an,p=>p=W.b
 |_,p=>p=W.b\/Ow W ρ σ p\/W.H₀ p≠none
abbrev Zf(W:Wd)(ρ:List S)(σ:St):Addr->Prop:=AC W ρ σ .fr
abbrev Zc(W:Wd)(ρ:List S)(σ:St):Addr->Prop:=AC W ρ σ .cl
def Bo(W:Wd)(ρ:List S)(σ:St)(H:Hp):S->Option V->Prop
 |.emp,_=>True
 |.sh x,o=>∃v,o=some v/\Rp W.b (Zc W ρ σ) H x v
 |.fr x,o=>∃v,o=some v/\Rp W.b (Zf W ρ σ) H x v
 |.own x,o=>∃p,o=some (.ref p)/\W.H₀ p=none/\W.F p=none/\p≠W.b/\p≠W.a/\Rc W.b (Zf W ρ σ) H x p
structure Ok(W:Wd)(ρ:List S)(σ:St)(H:Hp):Prop where
 bag:Bag H W.b W.a
 fb:W.F W.b=none
 old:∀p o,p≠W.b->W.H₀ p=some o->H p=some o
 frm:∀p o,W.F p=some o->H p=some o
 oo:∀p,W.O p->W.H₀ p=none/\W.F p=none/\p≠W.b/\p≠W.a/\∃o,H p=some o/\∀ys,o≠.tup ys
 len:σ.length=ρ.length
 slot:∀(i:Nat) s,ρ[i]?=some s->∃o,σ[i]?=some o/\Bo W ρ σ H s o
 uniq:∀(i j:Nat) x y,ρ[i]?=some (S.own x)->ρ[j]?=some (S.own y)->σ[i]?=σ[j]?->i=j
def RF(W:Wd)(ρ:List S)(σ:St)(Hs:Hp):Fl->Hp->P->V->Prop
 |.bo,H,x,v=>∃p,v=.ref p/\Ac ρ σ p/\Rc W.b (Zf W ρ σ) H x p
 |.nw,H,x,v=>Rp W.b (Zf W ρ σ) H x v/\(x.mut=true->∃p,v=.ref p/\Hs p=none)
 |f,H,x,v=>Rp W.b (AC W ρ σ f) H x v
section
variable{x:P}
theorem Rc.cell{b:Addr}(h:Rc b Z H x p):∃o,H p=some o/\∀ys,o≠.tup ys:=by
 cases x with
 |lst xs=>obtain⟨vs,h1,_⟩:=h;exact⟨_,h1,λ_ z=>nomatch z⟩
 |dT ks xs=>obtain⟨vs,h1,_⟩:=h;exact⟨_,h1,λ_ z=>nomatch z⟩
 |fT ks xs=>obtain⟨vs,⟨o,h1⟩,_⟩:=h;exact⟨_,h1,λ_ z=>nomatch z⟩
 |dK ks xs=>obtain⟨vs,h1,_⟩:=h;exact⟨_,h1,λ_ z=>nomatch z⟩
 |_=>exact h.elim
theorem Ok.ow(ok:Ok W ρ σ H)(h:Ow W ρ σ p):W.H₀ p=none/\W.F p=none/\p≠W.b/\p≠W.a/\∃o,H p=some o/\∀ys,o≠.tup ys:=by
 rcases h with h|⟨i,x,h1,h2⟩
 ·exact ok.oo p h
 obtain⟨o,c,q,l,j,g,f,e,d⟩:=ok.slot i _ h1
 rw[h2]at c
 cases c
 cases l
 exact⟨j,g,f,e,d.cell⟩
theorem Ok.dom(ok:Ok W ρ σ H)(h:AC W ρ σ f p):H p≠none:=by
 have hb:p=W.b->H p≠none:=λe=>by
  obtain⟨l,q⟩:=ok.bag.atb
  rw[e,q];exactλz=>nomatch z
 have a:Ow W ρ σ p->H p≠none:=λe=>by
  obtain⟨_,_,_,_,o,q,_⟩:=ok.ow e
  rw[q];exactλz=>nomatch z
 have c:W.H₀ p≠none->H p≠none:=λe z=>by
  by_cases d:p=W.b
  ·exact hb d z
  ·cases q:W.H₀ p with
   |none=>exact e q
   |some o=>rw[ok.old p o d q]at z;cases z
 cases f<;>simp only[AC]at h
 ·exact h.elim hb λh=>h.elim a c
 ·exact h.elim hb λh=>h.elim a c
 ·exact h.elim hb a
 ·exact h.elim hb λh=>h.elim a c
 ·exact h.elim hb c
 ·exact hb h
theorem AC.b:AC W ρ σ f W.b:=by
 cases f<;>simp[AC]
theorem Rp.step(h:Rp W.b (AC W ρ σ f) H x v)(s:Step W.b W.a H H')(hb:Bag H W.b W.a):Rp W.b (AC W ρ σ f) H' x v :=
 h.keep (λp o c e=>⟨c,s.same p o (λz=>c (z▸AC.b)) e⟩) λp vs e=>s.same p _ (hb.neT e).1 e
theorem AB.step(h:AB W.b (AC W ρ σ f) H xs vs)(s:Step W.b W.a H H')(hb:Bag H W.b W.a):AB W.b (AC W ρ σ f) H' xs vs :=
 h.keep (λp o c e=>⟨c,s.same p o (λz=>c (z▸AC.b)) e⟩) λp vs e=>s.same p _ (hb.neT e).1 e
theorem Rc.step(h:Rc W.b (Zf W ρ σ) H x p)(s:Step W.b W.a H H')(hb:Bag H W.b W.a)(d:p≠W.b):Rc W.b (Zf W ρ σ) H' x p:=by
 cases x with
 |lst xs=>obtain⟨vs,h1,h2⟩:=h;exact⟨vs,s.same p _ d h1,h2.step s hb⟩
 |dT ks xs=>obtain⟨vs,h1,c,h2⟩:=h;exact⟨vs,s.same p _ d h1,c,h2.step s hb⟩
 |fT ks xs=>obtain⟨vs,h1,c,h2⟩:=h;exact⟨vs,h1.map λ_ e=>s.same p _ d e,c,h2.step s hb⟩
 |dK ks xs=>obtain⟨vs,h1,c,h2⟩:=h;exact⟨vs,s.same p _ d h1,c,h2.step s hb⟩
 |_=>exact h.elim
theorem Bo.step{s:S}{o:Option V}(h:Bo W ρ σ H s o)(st:Step W.b W.a H H')(hb:Bag H W.b W.a):Bo W ρ σ H' s o:=by
 cases s with
 |emp=>trivial
 |sh x=>obtain⟨v,h1,h2⟩:=h;exact⟨v,h1,h2.step st hb⟩
 |fr x=>obtain⟨v,h1,h2⟩:=h;exact⟨v,h1,h2.step st hb⟩
 |own x=>obtain⟨p,h1,h2,f,c,e,d⟩:=h;exact⟨p,h1,h2,f,c,e,d.step st hb c⟩
theorem Ok.step(ok:Ok W ρ σ H)(st:Step W.b W.a H H'):Ok W ρ σ H' where
 bag:=st.bag
 fb:=ok.fb
 old:=λp o c e=>st.same p o c (ok.old p o c e)
 frm:=λp o e=>st.same p o (λz=>by rw[z,ok.fb]at e;cases e) (ok.frm p o e)
 oo:=λp h=>let⟨h1,h2,d,j,o,g,f⟩:=ok.oo p h;⟨h1,h2,d,j,o,st.same p o d g,f⟩
 len:=ok.len
 slot:=λi s e=>let⟨o,h1,h2⟩:=ok.slot i s e;⟨o,h1,h2.step st ok.bag⟩
 uniq:=ok.uniq
theorem RF.step(h:RF W ρ σ Hs f H x v)(ok:Ok W ρ σ H)(s:Step W.b W.a H H'):RF W ρ σ Hs f H' x v:=by
 cases f with
 |bo =>
  obtain⟨p,h1,h2,c⟩:=h
  exact⟨p,h1,h2,c.step s ok.bag (ok.ow (.inr h2)).2.2.1⟩
 |nw=>exact⟨h.1.step (f:=.fr) s ok.bag,h.2⟩
 |fr=>exact Rp.step (f:=.fr) h s ok.bag
 |cl=>exact Rp.step (f:=.cl) h s ok.bag
 |rf=>exact Rp.step (f:=.rf) h s ok.bag
 |an=>exact Rp.step (f:=.an) h s ok.bag
theorem RF.back(h:RF W ρ σ H1 f H x v)(s:Step W.b W.a Hs H1):RF W ρ σ Hs f H x v:=by
 cases f with
 |nw=>exact⟨h.1,λm=>let⟨p,e,n⟩:=h.2 m;⟨p,e,s.free n⟩⟩
 |_=>exact h
theorem RF.any(h:RF W ρ σ Hs f H x v)(ok:Ok W ρ σ H):Rp W.b (AC W ρ σ .an) H x v:=by
 have k:∀{g:Fl},Rp W.b (AC W ρ σ g) H x v->Rp W.b (AC W ρ σ .an) H x v:=λ{g} h=>h.keep (λp o j e=>⟨λz=>j (by rw[show p=W.b from z];exact AC.b),e⟩) λp vs e=>e
 cases f with
 |bo =>
  obtain⟨p,h1,h2,d⟩:=h
  have nb:=(ok.ow (.inr h2)).2.2.1
  have k2:∀{xs:List P} {vs:List V},AB W.b (Zf W ρ σ) H xs vs->AB W.b (AC W ρ σ .an) H xs vs:=λh=>h.keep (λp o j e=>⟨λz=>j (by rw[show p=W.b from z];exact AC.b),e⟩) λp vs e=>e
  cases x with
  |lst xs=>obtain⟨vs,c,a⟩:=d;exact⟨p,vs,h1,nb,c,k2 a⟩
  |dT ks xs=>obtain⟨vs,c,i,a⟩:=d;exact⟨p,vs,h1,nb,c,i,k2 a⟩
  |fT ks xs=>obtain⟨vs,c,i,a⟩:=d;exact⟨p,vs,h1,nb,c,i,k2 a⟩
  |dK ks xs=>obtain⟨vs,c,i,a⟩:=d;exact⟨p,vs,h1,nb,c,i,k2 a⟩
  |_=>exact d.elim
 |nw=>exact k (g:=.fr) h.1
 |fr=>exact k (g:=.fr) h
 |cl=>exact k (g:=.cl) h
 |rf=>exact k (g:=.rf) h
 |an=>exact h
theorem RF.items(h:RF W ρ σ Hs f H x v)(c:x.items=some xs):∃p vs,v=.ref p/\(H p=some (.lst vs)\/H p=some (.tup vs))/\AB W.b (AC W ρ σ f) H xs vs:=by
 have k:∀{g:Fl},Rp W.b (AC W ρ σ g) H x v->∃p vs,v=.ref p/\(H p=some (.lst vs)\/H p=some (.tup vs))/\AB W.b (AC W ρ σ g) H xs vs:=λ{g} h=>by
  cases x<;>simp only[P.items]at c<;>try cases c
  ·obtain⟨p,vs,h1,h2,a⟩:=h;exact⟨p,vs,h1,.inr h2,a⟩
  ·obtain⟨p,vs,h1,i,h2,a⟩:=h;exact⟨p,vs,h1,.inl h2,a⟩
 cases f with
 |bo =>
  obtain⟨p,h1,h2,a⟩:=h
  cases x<;>simp only[P.items]at c<;>try cases c
  ·exact a.elim
  ·obtain⟨vs,e,d⟩:=a;exact⟨p,vs,h1,.inl e,d⟩
 |nw=>exact k (g:=.fr) h.1
 |fr=>exact k (g:=.fr) h
 |cl=>exact k (g:=.cl) h
 |rf=>exact k (g:=.rf) h
 |an=>exact k (g:=.an) h
theorem RF.ofEl(h:Rp W.b (AC W ρ σ f) H x v):RF W ρ σ Hs f.el H x v:=by
 cases f<;>exact h
theorem RF.ofImm{g:Addr->Prop}(hi:x.imm=true)(h:Rp W.b g H x v):RF W ρ σ Hs .fr H x v:=h.imm hi
theorem RF.immAny(hi:x.imm=true)(ok:Ok W ρ σ H)(h:RF W ρ σ Hs f H x v){g:Fl}(a:g≠.bo):RF W ρ σ Hs g H x v:=by
 have k:=h.any ok
 cases g with
 |bo=>exact absurd rfl a
 |nw=>exact⟨k.imm hi,λm=>by rw[Ut m]at hi;cases hi⟩
 |fr=>exact k.imm hi
 |cl=>exact k.imm hi
 |rf=>exact k.imm hi
 |an=>exact k.imm hi
theorem RF.newL(ok:Ok W ρ σ H)(st:Step W.b W.a Hs H)(c:AB W.b (AC W ρ σ f) H xs vs)(d:H p=none):RF W ρ σ Hs (Bk f xs) (AD H p (.lst vs)) (.lst xs) (.ref p):=by
 have e:∀g,¬AC W ρ σ g p:=λg z=>ok.dom z d
 have k:∀g,AB W.b (AC W ρ σ g) H xs vs->Rp W.b (AC W ρ σ g) (AD H p (.lst vs)) (.lst xs) (.ref p):=λg h=>⟨p,vs,rfl,e g,Af,h.step (Step.new ok.bag d) ok.bag⟩
 unfold Bk
 split
 ·exact⟨k .fr (c.imm ‹_›),λ_=>⟨p,rfl,st.free d⟩⟩
 ·cases f with
  |nw=>exact⟨k .fr c,λ_=>⟨p,rfl,st.free d⟩⟩
  |fr=>exact⟨k .fr c,λ_=>⟨p,rfl,st.free d⟩⟩
  |bo=>exact⟨k .fr c,λ_=>⟨p,rfl,st.free d⟩⟩
  |cl=>exact k .cl c
  |rf=>exact k .rf c
  |an=>exact k .an c
theorem RF.newT(ok:Ok W ρ σ H)(a:AB W.b (AC W ρ σ f) H xs vs)(c:H p=none):RF W ρ σ Hs (Bk f xs) (AD H p (.tup vs)) (.tup xs) (.ref p):=by
 have k:∀g,AB W.b (AC W ρ σ g) H xs vs->Rp W.b (AC W ρ σ g) (AD H p (.tup vs)) (.tup xs) (.ref p):=λg h=>⟨p,vs,rfl,Af,h.step (Step.new ok.bag c) ok.bag⟩
 unfold Bk
 split
 ·exact⟨k .fr (a.imm ‹_›),λm=>by simp at m⟩
 ·cases f with
  |nw=>exact⟨k .fr a,λm=>by simp at m⟩
  |fr=>exact⟨k .fr a,λm=>by simp at m⟩
  |bo=>exact⟨k .fr a,λm=>by simp at m⟩
  |cl=>exact k .cl a
  |rf=>exact k .rf a
  |an=>exact k .an a
end
abbrev pE:=List S->(P->Fl->Prop)->Prop
end L2
variable{pe:L2.pE}
namespace L2
open PySem PySem.Spec PyProof.Rows
abbrev pT:=List S->(Bool->Prop)->Prop
abbrev pA:=List S->(List (P×Fl)->Prop)->Prop
def A6(t:TE)(p:pE):Prop:=∀(W:Wd) (ρ:List S) (σ:St) (H:Hp) (Q:VK) (K:P->Fl->Prop),Ok W ρ σ H->p ρ K->(∀x f v H',K x f->Step W.b W.a H H'->RF W ρ σ H f H' x v->Q v H')->t σ H Q
def GK(t:TT)(p:pT):Prop:=∀(W:Wd) (ρ:List S) (σ:St) (H:Hp) (Q:Bool->Hp->Prop) (K:Bool->Prop),Ok W ρ σ H->p ρ K->(∀c H',K c->Step W.b W.a H H'->Q c H')->t σ H Q
def BZ(W:Wd)(ρ:List S)(σ:St)(Hs H:Hp):List (P×Fl)->List V->Prop
 |[],vs=>vs=[]
 |(x,f)::r,vs=>∃v t,vs=v::t/\RF W ρ σ Hs f H x v/\BZ W ρ σ Hs H r t
def KW(t:TA)(p:pA):Prop:=∀(W:Wd) (ρ:List S) (σ:St) (H:Hp) (Q:List V->Hp->Prop) (K:List (P×Fl)->Prop),Ok W ρ σ H->p ρ K->(∀xs vs H',K xs->Step W.b W.a H H'->BZ W ρ σ H H' xs vs->Q vs H')->t σ H Q
section
variable{ι:Type}
def QE(Xs:ι->Cx)(e:Expr)(p:pE):Prop:=∃t,(∀i,PE (Xs i) e t)/\A6 t p
def QT(Xs:ι->Cx)(e:Expr)(p:pT):Prop:=∃t,(∀i,PT (Xs i) e t)/\GK t p
def QW(Xs:ι->Cx)(e:Expr)(p:pT):Prop:=∃t,(∀i,PW (Xs i) e t)/\GK t p
def QA(Xs:ι->Cx)(es:List Expr)(p:pA):Prop:=∃t,(∀i,PA (Xs i) es t)/\KW t p
end
abbrev p2:=P->Fl->P->Fl->(P->Fl->Prop)->Prop
def A9(r:R2)(pr:p2):Prop:=∀(W:Wd) (ρ:List S) (σ:St) (Hs H:Hp) (Q:VK) (K:P->Fl->Prop) (x y:P) (f g:Fl) (v u:V),Ok W ρ σ H->Step W.b W.a Hs H->RF W ρ σ Hs f H x v->RF W ρ σ Hs g H y u->pr x f y g K ->
 (∀z h v' H',K z h->Step W.b W.a H H'->RF W ρ σ Hs h H' z v'->Q v' H')->r v u H Q
abbrev pC:=List (P×Fl)->(P->Fl->Prop)->Prop
def CB(r:List V->Hp->VK->Prop)(pr:pC):Prop:=∀(W:Wd) (ρ:List S) (σ:St) (Hs H:Hp) (Q:VK) (K:P->Fl->Prop) (xs:List (P×Fl)) (vs:List V),Ok W ρ σ H->Step W.b W.a Hs H->BZ W ρ σ Hs H xs vs->pr xs K ->
 (∀z h v' H',K z h->Step W.b W.a H H'->RF W ρ σ Hs h H' z v'->Q v' H')->r vs H Q
section
variable{x:P}{ar:List (P×Fl)}
theorem BZ.back:∀{ar:List (P×Fl)} {vs:List V},BZ W ρ σ H1 H ar vs->Step W.b W.a Hs H1->BZ W ρ σ Hs H ar vs
 |[],_,h,_=>h
 |(x,f)::r,vs,h,st=>by
  obtain⟨v,t,h1,h2,c⟩:=h
  exact⟨v,t,h1,h2.back st,BZ.back c st⟩
theorem BZ.any:∀{ar:List (P×Fl)} {vs:List V},BZ W ρ σ Hs H ar vs->Ok W ρ σ H->AB W.b (AC W ρ σ .an) H (ar.map (·.1)) vs
 |[],_,h,_=>h
 |(x,f)::r,vs,h,ok=>by
  obtain⟨v,t,h1,h2,a⟩:=h
  exact⟨v,t,h1,h2.any ok,BZ.any a ok⟩
theorem BZ.length:∀{ar:List (P×Fl)} {vs:List V},BZ W ρ σ Hs H ar vs->vs.length=ar.length
 |[],_,h=>by rw[show _=[]from h];rfl
 |(x,f)::r,vs,h=>by
  obtain⟨v,t,h1,h2,a⟩:=h
  rw[h1,length_cons,length_cons,BZ.length a]
end
def GL(k:Nat):pE:=λρ K=>match ρ[k]? with
 |some (.sh x)=>K x .cl
 |some (.fr x)=>K x .fr
 |some (.own x)=>K x .bo
 |_=>False
def pK(x:P):pE:=λ_ K=>K x .fr
def FB(pr:p2)(pa pb:pE):pE:=λρ K=>pa ρ λx f=>pb ρ λy g=>pr x f y g K
def N3:pA:=λ_ K=>K []
def N4(pa:pE)(pr:pA):pA:=λρ K=>pa ρ λx f=>pr ρ λxs=>K ((x,f)::xs)
def GM(pr:pC)(pa:pA):pE:=λρ K=>pa ρ λxs=>pr xs K
section
variable{ι:Type}{Xs:ι->Cx}{a b:Expr}{pa pb pc:pE}
theorem Ok.var(ok:Ok W ρ σ H){k:Nat}{K:P->Fl->Prop}(h:GL k ρ K):∃x f v,K x f/\σ[k]?=some (some v)/\RF W ρ σ H f H x v:=by
 unfold GL at h
 cases e:ρ[k]? with
 |none=>rw[e]at h;exact h.elim
 |some s =>
  rw[e]at h
  obtain⟨o,h1,h2⟩:=ok.slot k s e
  cases s with
  |emp=>exact h.elim
  |sh x=>obtain⟨v,rfl,a⟩:=h2;exact⟨x,_,v,h,h1,a⟩
  |fr x=>obtain⟨v,rfl,a⟩:=h2;exact⟨x,_,v,h,h1,a⟩
  |own x=>obtain⟨p,rfl,a,i,g,d,c⟩:=h2;exact⟨x,_,_,h,h1,p,rfl,⟨k,x,e,h1⟩,c⟩
theorem VC(k:Nat):A6 (Cb k) (GL k):=λW ρ σ H Q K ok h q=>by
 obtain⟨x,f,v,h1,h2,a⟩:=ok.var h
 exact⟨v,h2,q x f v H h1 (Step.refl ok.bag) a⟩
theorem qv(k:Nat)(e:∀i,(Xs i).N[k]?=some x:=by intro _;rfl)(c:∀i,Cv (Xs i).env.scope x:=by intro _;trivial)(d:(x==("__debug__":Str))=false:=by decide)
  (a:(x==("__classdict__":Str))=false:=by decide):QE Xs (.Name x pos) (GL k):=⟨_,λi=>Ds (e i) (c i) d a,VC k⟩
theorem IB{x:P}(hi:x.imm=true)(h:∀W H,Rp W (λ_=>False) H x v):A6 (tC v) (pK x):=λW ρ σ H Q K ok a q=>q x .fr v H a (Step.refl ok.bag) ((h W.b H).imm hi)
theorem Aa{i j}:QE Xs (.Constant (.int i) j pos) (pK (.int i)):=⟨_,λ_=>Ag,IB rfl λ_ _=>rfl⟩
theorem Cy{b j}:QE Xs (.Constant (.bool b) j pos) (pK (.bl b)):=⟨_,λ_=>SU,IB rfl λ_ _=>rfl⟩
theorem N5{j}:QE Xs (.Constant .none j pos) (pK .non):=⟨_,λ_=>SV,IB rfl λ_ _=>rfl⟩
theorem VD{n:Int}(a:∀i,∃t,(Xs i).mg x=some (.int n t))(c:∀i,Gl (Xs i) x:=by intro _;rfl)(d:(x==("__debug__":Str))=false:=by decide +kernel):QE Xs (.Name x pos) (pK (.int n)) :=
 ⟨_,λi=>let⟨t,h⟩:=a i;SW (v:=.int n) (c i) h ⟨t,rfl⟩ d,IB rfl λ_ _=>rfl⟩
theorem IC{r:R2}{pr:p2}(l:A9 r pr)(o:A6 ta pa)(n:A6 tb pb):A6 (Ez r ta tb) (FB pr pa pb):=λW ρ σ H Q K ok h q =>
 o W ρ σ H _ _ ok h λx f v H1 h1 a j=>n W ρ σ H1 _ _ (ok.step a) h1 λy g u H2 h2 c i =>
  l W ρ σ H H2 Q K x y f g v u ((ok.step a).step c) (a.trans c) (j.step (ok.step a) c) (i.back a) h2 λz h v' H' p d e=>q z h v' H' p ((a.trans c).trans d) e
theorem B2{op:Operator}{r:R2}{pr:p2}(h:∀i,Av (Xs i) (binaryOp op) r)(g:A9 r pr)(l:QE Xs a pa)(j:QE Xs b pb):QE Xs (.BinOp a op b pos) (FB pr pa pb):=by
 obtain⟨ta,f,e⟩:=l
 obtain⟨tb,d,c⟩:=j
 exact⟨_,λi=>BQ (h i) (f i) (d i),IC g e c⟩
theorem KY{op:CmpOp}{r:R2}{pr:p2}(h:∀i,Av (Xs i) (compareOp op) r)(g:A9 r pr)(n:QE Xs a pa)(l:QE Xs b pb)(j:behindInMarks op b=false):QE Xs (.Compare a [op] [b] pos) (FB pr pa pb):=by
 obtain⟨ta,f,e⟩:=n
 obtain⟨tb,d,c⟩:=l
 exact⟨_,λi=>TJ (h i) (f i) (d i) j,IC g e c⟩
theorem BC{r:R2}{pr:p2}(j:∀i,ES (Xs i) r)(h:A9 r pr)(n:QE Xs a pa)(l:QE Xs b pb)(g:NO b):QE Xs (.Subscript a b pos) (FB pr pa pb):=by
 obtain⟨ta,f,e⟩:=n
 obtain⟨tb,d,c⟩:=l
 exact⟨_,λi=>Bv (j i) (f i) (d i) g,IC h e c⟩
theorem AE:QA Xs [] N3:=⟨_,λ_=>BA,λW ρ σ H Q K ok h q=>q [] [] H h (Step.refl ok.bag) rfl⟩
theorem AA{pr:pA}(s:QE Xs a pa)(r:QA Xs es pr)(p:∀i,starEach (a::es) (Xs i).env=(false,eval a (Xs i).env)::starEach es (Xs i).env:=by intro _;rfl):QA Xs (a::es) (N4 pa pr):=by
 obtain⟨ta,j,g⟩:=s
 obtain⟨u,e,d⟩:=r
 refine⟨_,λi=>Ap (j i) (e i) (p i),λW ρ σ H Q K ok h q=>?_⟩
 exact g W ρ σ H _ _ ok h λx f v H1 h1 c o=>d W ρ σ H1 _ _ (ok.step c) h1 λxs vs H2 h2 l n =>
  q _ _ H2 h2 (c.trans l) ⟨v,vs,rfl,o.step (ok.step c) l,n.back c⟩
theorem KZ{r:List V->Hp->VK->Prop}{pr:pC}{t:TA}{p:pA}(f:CB r pr)(g:KW t p):A6 (EQ r t) (GM pr p):=λW ρ σ H Q K ok h q =>
 g W ρ σ H _ _ ok h λxs vs H1 h1 a e=>f W ρ σ H H1 Q K xs vs (ok.step a) a e h1 λz h v' H' i c d=>q z h v' H' i (a.trans c) d
theorem BS{id:String}{r:List V->Hp->VK->Prop}{pr:pC}{p:pA}{p1:Pos}(n:∀i,BP (Xs i) (.builtin id) r)(f:CB r pr)(h:∀i,(Xs i).mg x=none)(e:bootBuiltins x=some (.builtin id))(o:QA Xs (a::es) p)
  (j:∀i,Gl (Xs i) x:=by intro _;rfl) (g:x≠"__name__":=by decide +kernel) (d:(x==("__debug__":Str))=false:=by decide +kernel) (l:∀i,starEach (a::es) (Xs i).env=(false,eval a (Xs i).env)::starEach es (Xs i).env:=by intro _;rfl) (c:∀i,(backTo pos (starEach es (Xs i).env)).any (·.1)=false:=by intro _;rfl) :
  QE Xs (.Call (.Name x p1) (a::es) [] pos) (GM pr p):=by
 obtain⟨t,h1,h2⟩:=o
 exact⟨_,λi=>ER (n i) (j i) (h i) e (h1 i) g d (l i) (c i),KZ f h2⟩
theorem BU{T:String}{r:List V->Hp->VK->Prop}{pr:pC}{p:pA}{p1:Pos}(n:∀i,BP (Xs i) (.type T) r)(f:CB r pr)(h:∀i,(Xs i).mg x=none)(e:bootBuiltins x=some (.type T))(o:QA Xs (a::es) p)
  (j:∀i,Gl (Xs i) x:=by intro _;rfl) (g:x≠"__name__":=by decide +kernel) (d:(x==("__debug__":Str))=false:=by decide +kernel) (l:∀i,starEach (a::es) (Xs i).env=(false,eval a (Xs i).env)::starEach es (Xs i).env:=by intro _;rfl) (c:∀i,(backTo pos (starEach es (Xs i).env)).any (·.1)=false:=by intro _;rfl) :
  QE Xs (.Call (.Name x p1) (a::es) [] pos) (GM pr p):=by
 obtain⟨t,h1,h2⟩:=o
 exact⟨_,λi=>J8 (n i) (j i) (h i) e (h1 i) g d (l i) (c i),KZ f h2⟩
end
def A2:P->Fl->Fl
 |x,.bo=>if x.imm=true then .nw else .rf
 |x,.nw=>.nw
 |x,.fr=>.nw
 |x,.cl=>if x.imm=true then .nw else .cl
 |x,.rf=>if x.imm=true then .nw else .rf
 |x,.an=>if x.imm=true then .nw else .an
def Cs:List (P×Fl)->Fl
 |[]=>.nw
 |(x,f)::r=>(A2 x f).join (Cs r)
def N6(p:pA):pE:=λρ K=>p ρ λxs=>K (.tup (xs.map (·.1))) (Cs xs)
def N7(p:pA):pE:=λρ K=>p ρ λxs=>K (.lst (xs.map (·.1))) (Cs xs)
section
variable{x:P}{g:Fl}{ar:List (P×Fl)}
theorem Ka(ok:Ok W ρ σ H)(h2:RF W ρ σ Hs f H x v):A2 x f≠.bo/\A2 x f≠.fr/\Rp W.b (AC W ρ σ (A2 x f)) H x v:=by
 by_cases hi:x.imm=true
 ·have e:A2 x f=.nw:=by cases f<;>simp[A2,hi]
  rw[e]
  exact⟨by simp,by simp,(h2.any ok).imm hi⟩
 ·cases f with
  |nw=>exact⟨by simp[A2],by simp[A2],h2.1⟩
  |fr=>exact⟨by simp[A2],by simp[A2],h2⟩
  |cl=>simp only[A2,if_neg hi];exact⟨by simp,by simp,h2⟩
  |rf=>simp only[A2,if_neg hi];exact⟨by simp,by simp,h2⟩
  |an=>simp only[A2,if_neg hi];exact⟨by simp,by simp,h2⟩
  |bo =>
   simp only[A2,if_neg hi]
   refine⟨by simp,by simp,?_⟩
   obtain⟨p,i,q,d⟩:=h2
   have n:=ok.ow (.inr q)
   have j:¬AC W ρ σ .rf p:=by
    simp only[AC,not_or,Classical.not_not]
    exact⟨n.2.2.1,n.1⟩
   have l:∀{xs:List P} {vs:List V},AB W.b (Zf W ρ σ) H xs vs->AB W.b (AC W ρ σ .rf) H xs vs:=λh=>h.keep (λp o r e=>⟨λz=>r (z.elim .inl λz=>.inr (.inr z)),e⟩) λp vs e=>e
   cases x with
   |lst xs=>obtain⟨us,c,a⟩:=d;exact⟨p,us,i,j,c,l a⟩
   |dT ks xs=>obtain⟨us,c,g,a⟩:=d;exact⟨p,us,i,j,c,g,l a⟩
   |fT ks xs=>obtain⟨us,c,g,a⟩:=d;exact⟨p,us,i,j,c,g,l a⟩
   |dK ks xs=>obtain⟨us,c,g,a⟩:=d;exact⟨p,us,i,j,c,g,l a⟩
   |_=>exact d.elim
theorem N8{g j:Fl}(h1:g≠.bo)(h2:g≠.fr)(c:j≠.bo)(a:j≠.fr)(p:Addr)(z:AC W ρ σ (g.join j) p):AC W ρ σ g p/\AC W ρ σ j p:=by
 cases g<;>cases j<;>simp_all [Fl.join,AC]<;>rcases z with z|z<;>simp_all
theorem Kb{g j:Fl}(h1:g≠.bo)(h2:g≠.fr)(c:j≠.bo)(a:j≠.fr):g.join j≠.bo/\g.join j≠.fr:=by
 cases g<;>cases j<;>simp_all [Fl.join]
theorem BZ.items:∀{ar:List (P×Fl)} {vs:List V},Ok W ρ σ H->BZ W ρ σ Hs H ar vs->Cs ar≠.bo/\Cs ar≠.fr/\AB W.b (AC W ρ σ (Cs ar)) H (ar.map (·.1)) vs
 |[],_,_,h=>⟨by simp[Cs],by simp[Cs],h⟩
 |(x,f)::r,vs,ok,h=>by
  obtain⟨v,t,h1,h2,q⟩:=h
  obtain⟨g,d,n⟩:=BZ.items ok q
  obtain⟨c,a,l⟩:=Ka ok h2
  have j:=N8 (W:=W) (ρ:=ρ) (σ:=σ) c a g d
  exact⟨(Kb c a g d).1,(Kb c a g d).2,v,t,h1,l.keep (λp o i e=>⟨λz=>i (j p z).1,e⟩) (λp vs e=>e),n.keep (λp o i e=>⟨λz=>i (j p z).2,e⟩) (λp vs e=>e)⟩
theorem RF.topped{g:Fl}(hb:g≠.bo)(a:g≠.fr):g.top=g:=by cases g<;>simp_all [Fl.top]
end
section
variable{ι:Type}{Xs:ι->Cx}{a b:Expr}{pa pb pc:pE}
theorem Kc:∀{xs:List (P×Fl)},P.imms (xs.map (·.1))=true->Cs xs=.nw
 |[],_=>rfl
 |(x,f)::r,hi=>by
  simp only[map_cons,Hz,Bool.and_eq_true]at hi
  rw[Cs,Kc hi.2]
  have:A2 x f=.nw:=by cases f<;>simp[A2,hi.1]
  rw[this];rfl
theorem DI{x1}{p:pA}(h:QA Xs es p)(r:es.length=n:=by rfl)(hz:n<=sizeLine:=by decide):QE Xs (.Tuple es x1 pos) (N6 λρ K=>p ρ λxs=>xs.length=n/\K xs):=by
 obtain⟨t,h1,h2⟩:=h
 refine⟨_,λi=>TW (h1 i),λW ρ σ H Q K ok l q=>?_⟩
 refine h2 W ρ σ H _ _ ok l λxs vs H1 ⟨j,k1⟩ a c=>⟨by rw[c.length,j];exact hz,λp d=>?_⟩
 obtain⟨g,f,e⟩:=BZ.items (ok.step a) c
 have st:=a.trans (Step.new (o:=.tup vs) a.bag d)
 refine q _ _ (.ref p) _ k1 st ?_
 have:=RF.newT (Hs:=H) (ok.step a) e d
 unfold Bk at this
 split at this
 ·rename_i hi
  rw[Kc hi];exact this
 ·rw[RF.topped g f]at this;exact this
theorem GN{p:pA}(h:QA Xs es p)(r:es.length=n:=by rfl)(hz:n<=sizeLine:=by decide):QE Xs (.List es pos) (N7 λρ K=>p ρ λxs=>xs.length=n/\K xs):=by
 obtain⟨t,h1,h2⟩:=h
 refine⟨_,λi=>F3 (h1 i),λW ρ σ H Q K ok l q=>?_⟩
 refine h2 W ρ σ H _ _ ok l λxs vs H1 ⟨j,k1⟩ a c=>⟨by rw[c.length,j];exact hz,λp d=>?_⟩
 obtain⟨g,f,e⟩:=BZ.items (ok.step a) c
 have st:=a.trans (Step.new (o:=.lst vs) a.bag d)
 refine q _ _ (.ref p) _ k1 st ?_
 have:=RF.newL (ok.step a) a e d
 unfold Bk at this
 split at this
 ·rename_i hi
  rw[Kc hi];exact this
 ·rw[RF.topped g f]at this;exact this
end
def Kd(k:List AN):List Int:=k.map λx=>match x with|.inl i=>i|.inr _=>0
def N9(k:AN):Str:=match k with|.inr x=>x|.inl _=>⟨#[]⟩
theorem Ke(r:List Int):Kd (AV r)=r:=by simp[Kd,map_map,Function.comp_def]
theorem OA{ks':List (List Int)}(h:ks.map AV=ks'.map AV):ks=ks':=by
 have:=congrArg (map Kd) h
 simpa[map_map,Function.comp_def,Ke]using this
theorem VE{ks ks':List Str}(h:ks.map Df=ks'.map Df):ks=ks':=by
 have:=congrArg (map N9) h
 simpa[map_map,Function.comp_def,N9]using this
theorem Kg{α c:Type}{ks ks':List α}{vs vs':List c}(h1:ks.length=vs.length)(h2:ks'.length=vs'.length)(h:ks.zip vs=ks'.zip vs'):ks=ks'/\vs=vs':=by
 have a:=congrArg (map Prod.fst) h
 have b:=congrArg (map Prod.snd) h
 rw[map_fst_zip (by lia),map_fst_zip (by lia)]at a
 rw[map_snd_zip (by lia),map_snd_zip (by lia)]at b
 exact⟨a,b⟩
section
variable{b:Addr}{Z':Addr->Prop}
mutual
theorem Rp.fun(hz:Z b)(hb:∀vs,H b≠some (.tup vs)):∀{x y:P} {v:V},Rp b Z H x v->Rp b Z H y v->x=y
 |.non,y,v,h1,h2=>by
  rw[show v=_ from h1]at h2
  cases y<;>simp_all [Rp]
 |.bl _,y,v,h1,h2=>by
  rw[show v=_ from h1]at h2
  cases y<;>simp_all [Rp]
 |.int _,y,v,h1,h2=>by
  rw[show v=_ from h1]at h2
  cases y<;>simp_all [Rp]
 |.str _,y,v,h1,h2=>by
  rw[show v=_ from h1]at h2
  cases y<;>simp_all [Rp]
 |.bag,y,v,h1,h2=>by
  rw[show v=_ from h1]at h2
  cases y<;>simp_all [Rp]
 |.tup xs,y,v,h1,h2=>by
  obtain⟨p,vs,rfl,e,f⟩:=h1
  cases y with
  |tup ys =>
   obtain⟨q,us,c,a,d⟩:=h2
   cases c
   rw[e]at a
   cases a
   rw[AB.fun hz hb f d]
  |lst ys=>obtain⟨q,us,c,_,a,d⟩:=h2;cases c;rw[e]at a;cases a
  |dT ks ys=>obtain⟨q,us,c,_,a,d⟩:=h2;cases c;rw[e]at a;cases a
  |fT ks ys=>obtain⟨q,us,c,_,⟨o,a⟩,d⟩:=h2;cases c;rw[e]at a;cases a
  |dK ks ys=>obtain⟨q,us,c,_,a,d⟩:=h2;cases c;rw[e]at a;cases a
  |bag=>cases(show V.ref p=V.ref b from h2);exact absurd e (hb vs)
  |_=>cases h2
 |.lst xs,y,v,h1,h2=>by
  obtain⟨p,vs,rfl,i,e,f⟩:=h1
  cases y with
  |lst ys =>
   obtain⟨q,us,c,_,a,d⟩:=h2
   cases c
   rw[e]at a
   cases a
   rw[AB.fun hz hb f d]
  |tup ys=>obtain⟨q,us,c,a,d⟩:=h2;cases c;rw[e]at a;cases a
  |dT ks ys=>obtain⟨q,us,c,_,a,d⟩:=h2;cases c;rw[e]at a;cases a
  |fT ks ys=>obtain⟨q,us,c,_,⟨o,a⟩,d⟩:=h2;cases c;rw[e]at a;cases a
  |dK ks ys=>obtain⟨q,us,c,_,a,d⟩:=h2;cases c;rw[e]at a;cases a
  |bag=>cases(show V.ref p=V.ref b from h2);exact absurd hz i
  |_=>cases h2
 |.dT ks xs,y,v,h1,h2=>by
  obtain⟨p,vs,rfl,i,e,el,f⟩:=h1
  cases y with
  |dT h ys =>
   obtain⟨q,us,c,_,a,l,d⟩:=h2
   cases c
   rw[e]at a
   obtain⟨g,j⟩:=Kg (by rw[length_map];exact el.trans f.length) (by rw[length_map];exact l.trans d.length) (HO.dT.inj (oI a))
   have g:=OA g
   subst g;subst j
   rw[AB.fun hz hb f d]
  |fT h ys=>obtain⟨q,us,c,_,⟨o,a⟩,d⟩:=h2;cases c;rw[e]at a;cases a
  |tup ys=>obtain⟨q,us,c,a,d⟩:=h2;cases c;rw[e]at a;cases a
  |lst ys=>obtain⟨q,us,c,_,a,d⟩:=h2;cases c;rw[e]at a;cases a
  |dK ks ys=>obtain⟨q,us,c,_,a,d⟩:=h2;cases c;rw[e]at a;cases a
  |bag=>cases(show V.ref p=V.ref b from h2);exact absurd hz i
  |_=>cases h2
 |.fT ks xs,y,v,h1,h2=>by
  obtain⟨p,vs,rfl,i,⟨o,e⟩,el,f⟩:=h1
  cases y with
  |fT h ys =>
   obtain⟨q,us,c,_,⟨o',a⟩,l,d⟩:=h2
   cases c
   rw[e]at a
   have a:=(HO.frz.inj (oI a)).2
   obtain⟨g,j⟩:=Kg (by rw[length_map];exact el.trans f.length) (by rw[length_map];exact l.trans d.length) (HO.dT.inj a)
   have g:=OA g
   subst g;subst j
   rw[AB.fun hz hb f d]
  |tup ys=>obtain⟨q,us,c,a,d⟩:=h2;cases c;rw[e]at a;cases a
  |lst ys=>obtain⟨q,us,c,_,a,d⟩:=h2;cases c;rw[e]at a;cases a
  |dT ks ys=>obtain⟨q,us,c,_,a,d⟩:=h2;cases c;rw[e]at a;cases a
  |dK ks ys=>obtain⟨q,us,c,_,a,d⟩:=h2;cases c;rw[e]at a;cases a
  |bag=>cases(show V.ref p=V.ref b from h2);exact absurd hz i
  |_=>cases h2
 |.dK ks xs,y,v,h1,h2=>by
  obtain⟨p,vs,rfl,i,e,el,f⟩:=h1
  cases y with
  |dK h ys =>
   obtain⟨q,us,c,_,a,l,d⟩:=h2
   cases c
   rw[e]at a
   obtain⟨g,j⟩:=Kg (by rw[length_map];exact el.trans f.length) (by rw[length_map];exact l.trans d.length) (HO.dK.inj (oI a))
   have g:=VE g
   subst g;subst j
   rw[AB.fun hz hb f d]
  |tup ys=>obtain⟨q,us,c,a,d⟩:=h2;cases c;rw[e]at a;cases a
  |lst ys=>obtain⟨q,us,c,_,a,d⟩:=h2;cases c;rw[e]at a;cases a
  |dT ks ys=>obtain⟨q,us,c,_,a,d⟩:=h2;cases c;rw[e]at a;cases a
  |fT ks ys=>obtain⟨q,us,c,_,⟨o,a⟩,d⟩:=h2;cases c;rw[e]at a;cases a
  |bag=>cases(show V.ref p=V.ref b from h2);exact absurd hz i
  |_=>cases h2
theorem AB.fun(hz:Z b)(hb:∀vs,H b≠some (.tup vs)):∀{xs ys:List P} {vs:List V},AB b Z H xs vs->AB b Z H ys vs->xs=ys
 |[],ys,vs,h1,h2=>by
  rw[show vs=[]from h1]at h2
  cases ys with
  |nil=>rfl
  |cons y r=>obtain⟨v,t,e,_⟩:=h2;cases e
 |x::xs,ys,vs,h1,h2=>by
  obtain⟨v,r,rfl,g,f⟩:=h1
  cases ys with
  |nil=>cases(show v::r=[]from h2)
  |cons y ys =>
   obtain⟨u,t,d,c,a⟩:=h2
   cases d
   rw[Rp.fun hz hb g c,AB.fun hz hb f a]
end
mutual
theorem Rp.avoid(hz:Z b)(hb:∀vs,H b≠some (.tup vs)){x:P}{p:Addr}(c:Rp b Z H x (.ref p)):∀{y:P} {v:V},sizeOf y<sizeOf x->Rp b Z H y v->Rp b (λq=>Z q\/q=p) H y v
 |.non,_,_,h=>h
 |.bl _,_,_,h=>h
 |.int _,_,_,h=>h
 |.str _,_,_,h=>h
 |.bag,_,_,h=>h
 |.tup ys,v,a,h=>by
  obtain⟨q,vs,f,e,d⟩:=h
  exact⟨q,vs,f,e,AB.avoid hz hb c (by simp at a ⊢;lia) d⟩
 |.lst ys,v,a,h=>by
  obtain⟨q,vs,rfl,f,e,d⟩:=id h
  refine⟨q,vs,rfl,λz=>z.elim f λz=>?_,e,AB.avoid hz hb c (by simp at a ⊢;lia) d⟩
  subst z
  rw[Rp.fun hz hb c h]at a
  exact Nat.lt_irrefl _ a
 |.dT ks ys,v,a,h=>by
  obtain⟨q,vs,rfl,f,e,el,d⟩:=id h
  refine⟨q,vs,rfl,λz=>z.elim f λz=>?_,e,el,AB.avoid hz hb c (by simp at a ⊢;lia) d⟩
  subst z
  rw[Rp.fun hz hb c h]at a
  exact Nat.lt_irrefl _ a
 |.fT ks ys,v,a,h=>by
  obtain⟨q,vs,rfl,f,e,el,d⟩:=id h
  refine⟨q,vs,rfl,λz=>z.elim f λz=>?_,e,el,AB.avoid hz hb c (by simp at a ⊢;lia) d⟩
  subst z
  rw[Rp.fun hz hb c h]at a
  exact Nat.lt_irrefl _ a
 |.dK ks ys,v,a,h=>by
  obtain⟨q,vs,rfl,f,e,el,d⟩:=id h
  refine⟨q,vs,rfl,λz=>z.elim f λz=>?_,e,el,AB.avoid hz hb c (by simp at a ⊢;lia) d⟩
  subst z
  rw[Rp.fun hz hb c h]at a
  exact Nat.lt_irrefl _ a
theorem AB.avoid(hz:Z b)(hb:∀vs,H b≠some (.tup vs)){x:P}{p:Addr}(a:Rp b Z H x (.ref p)):∀{ys:List P} {vs:List V},sizeOf ys<sizeOf x->AB b Z H ys vs->AB b (λq=>Z q\/q=p) H ys vs
 |[],_,_,h=>h
 |y::ys,vs,c,h=>by
  obtain⟨v,r,f,e,d⟩:=h
  exact⟨v,r,f,Rp.avoid hz hb a (by simp at c ⊢;lia) e,AB.avoid hz hb a (by simp at c ⊢;lia) d⟩
end
theorem Rp.toRc(hz:Z b)(hb:∀vs,H b≠some (.tup vs)){x:P}(hm:x.mut=true)(a:Rp b Z H x (.ref p)):¬Z p/\Rc b (λq=>Z q\/q=p) H x p:=by
 cases x with
 |lst xs =>
  obtain⟨q,vs,f,e,d,c⟩:=id a
  cases f
  exact⟨e,vs,d,AB.avoid hz hb a (by simp) c⟩
 |dT ks xs =>
  obtain⟨q,vs,f,e,d,el,c⟩:=id a
  cases f
  exact⟨e,vs,d,el,AB.avoid hz hb a (by simp;lia) c⟩
 |fT ks xs =>
  obtain⟨q,vs,f,e,d,el,c⟩:=id a
  cases f
  exact⟨e,vs,d,el,AB.avoid hz hb a (by simp;lia) c⟩
 |dK ks xs =>
  obtain⟨q,vs,f,e,d,el,c⟩:=id a
  cases f
  exact⟨e,vs,d,el,AB.avoid hz hb a (by simp;lia) c⟩
 |_=>simp[P.mut]at hm
end
def BL(k:Nat)(x:P)(f:Fl)(ρ:List S)(K:List S->Prop):Prop :=
 if x.imm=true then K (ρ.set k (.sh x))else match f with
 |.nw=>K (ρ.set k (if x.mut=true then .own x else .fr x))
 |.fr=>K (ρ.set k (.fr x))
 |.cl=>K (ρ.set k (.sh x))
 |_=>False
section
variable{x:P}{k:Nat}
theorem Ok.nt(ok:Ok W ρ σ H):∀vs,H W.b≠some (.tup vs):=λvs e=>(ok.bag.neT e).1 rfl
theorem Kh(st:Step W.b W.a Hs H)(c:∀p,Ac ρ' σ' p->Ac ρ σ p\/Hs p=none)(p:Addr)(o:HO)(hz:¬AC W ρ σ f p)(e:Hs p=some o):¬AC W ρ' σ' f p/\H p=some o:=by
 refine⟨λz=>hz ?_,st.same p o (λz=>hz (z▸AC.b)) e⟩
 have k:Ow W ρ' σ' p->Ow W ρ σ p:=λz=>z.elim .inl λz=>(c p z).elim .inr λz=>by rw[e]at z;cases z
 cases f<;>simp only[AC]at z ⊢
 ·exact z.elim .inl λz=>.inr (z.elim (λz=>.inl (k z)) .inr)
 ·exact z.elim .inl λz=>.inr (z.elim (λz=>.inl (k z)) .inr)
 ·exact z.elim .inl λz=>.inr (k z)
 ·exact z.elim .inl λz=>.inr (z.elim (λz=>.inl (k z)) .inr)
 ·exact z
 ·exact z
theorem Rp.move(hb:Bag Hs W.b W.a)(st:Step W.b W.a Hs H)(hn:∀p,Ac ρ' σ' p->Ac ρ σ p\/Hs p=none)(h:Rp W.b (AC W ρ σ f) Hs x v):Rp W.b (AC W ρ' σ' f) H x v :=
 h.keep (Kh st hn) λp vs e=>st.same p _ (hb.neT e).1 e
theorem AB.move(hb:Bag Hs W.b W.a)(st:Step W.b W.a Hs H)(hn:∀p,Ac ρ' σ' p->Ac ρ σ p\/Hs p=none)(h:AB W.b (AC W ρ σ f) Hs xs vs):AB W.b (AC W ρ' σ' f) H xs vs :=
 h.keep (Kh st hn) λp vs e=>st.same p _ (hb.neT e).1 e
theorem Rc.move(hb:Bag Hs W.b W.a)(st:Step W.b W.a Hs H)(d:p≠W.b)(hn:∀p,Ac ρ' σ' p->Ac ρ σ p\/Hs p=none)(h:Rc W.b (Zf W ρ σ) Hs x p):Rc W.b (Zf W ρ' σ') H x p:=by
 cases x with
 |lst xs=>obtain⟨vs,h1,h2⟩:=h;exact⟨vs,st.same p _ d h1,h2.move hb st hn⟩
 |dT ks xs=>obtain⟨vs,h1,c,h2⟩:=h;exact⟨vs,st.same p _ d h1,c,h2.move hb st hn⟩
 |fT ks xs=>obtain⟨vs,h1,c,h2⟩:=h;exact⟨vs,h1.map λ_ e=>st.same p _ d e,c,h2.move hb st hn⟩
 |dK ks xs=>obtain⟨vs,h1,c,h2⟩:=h;exact⟨vs,st.same p _ d h1,c,h2.move hb st hn⟩
 |_=>exact h.elim
theorem Bo.move{s:S}{o:Option V}(hb:Bag Hs W.b W.a)(st:Step W.b W.a Hs H)(hn:∀p,Ac ρ' σ' p->Ac ρ σ p\/Hs p=none)(h:Bo W ρ σ Hs s o):Bo W ρ' σ' H s o:=by
 cases s with
 |emp=>trivial
 |sh x=>obtain⟨v,h1,h2⟩:=h;exact⟨v,h1,h2.move hb st hn⟩
 |fr x=>obtain⟨v,h1,h2⟩:=h;exact⟨v,h1,h2.move hb st hn⟩
 |own x=>obtain⟨p,h1,h2,f,c,e,d⟩:=h;exact⟨p,h1,h2,f,c,e,d.move hb st c hn⟩
theorem Ok.put{s:S}(ok:Ok W ρ σ Hs)(st:Step W.b W.a Hs H)(h:k<ρ.length)(hn:∀p,Ac (ρ.set k s) (σ.set k (some v)) p->Ac ρ σ p\/Hs p=none)
  (E:Bo W (ρ.set k s) (σ.set k (some v)) H s (some v)) (D:∀y,s=.own y->∃p,v=.ref p/\Hs p=none):Ok W (ρ.set k s) (σ.set k (some v)) H where
 bag:=st.bag
 fb:=ok.fb
 old:=λp o u e=>st.same p o u (ok.old p o u e)
 frm:=λp o e=>st.same p o (λz=>by rw[z,ok.fb]at e;cases e) (ok.frm p o e)
 oo:=(ok.step st).oo
 len:=by rw[length_set,length_set];exact ok.len
 slot:=λi s' e=>by
  by_cases hi:k=i
  ·subst hi
   rw[getElem?_set_self h]at e
   cases e
   exact⟨some v,getElem?_set_self (by rw[ok.len];exact h),E⟩
  ·rw[getElem?_set_ne hi]at e
   obtain⟨o,h1,h2⟩:=ok.slot i s' e
   exact⟨o,by rw[getElem?_set_ne hi];exact h1,h2.move ok.bag st hn⟩
 uniq:=λi j x y h1 h2 c=>by
  have old:∀i x,k≠i->(ρ.set k s)[i]?=some (.own x)->∃p o,σ[i]?=some (some (.ref p))/\Hs p=some o:=λi x hi e=>by
   rw[getElem?_set_ne hi]at e
   obtain⟨o,C,p,B,_,_,_,_,A⟩:=ok.slot i _ e
   obtain⟨o',w,_⟩:=A.cell
   exact⟨p,o',by rw[C,B],w⟩
  have new:∀i x,k=i->(ρ.set k s)[i]?=some (.own x)->∃p,v=.ref p/\Hs p=none:=λi x hi e=>by
   subst hi
   rw[getElem?_set_self h]at e
   cases e
   exact D x rfl
  have f:k<σ.length:=by rw[ok.len];exact h
  by_cases hi:k=i<;>by_cases d:k=j
  ·exact hi.symm.trans d
  ·exfalso
   obtain⟨p,r,n⟩:=new i x hi h1
   obtain⟨q,o,l,g⟩:=old j y d h2
   rw[<-hi,getElem?_set_self f,getElem?_set_ne d,l,r]at c
   cases c
   rw[n]at g;cases g
  ·exfalso
   obtain⟨p,r,n⟩:=new j y d h2
   obtain⟨q,o,l,g⟩:=old i x hi h1
   rw[<-d,getElem?_set_self f,getElem?_set_ne hi,l,r]at c
   cases c
   rw[n]at g;cases g
  ·rw[getElem?_set_ne hi]at h1 c
   rw[getElem?_set_ne d]at h2 c
   exact ok.uniq i j x y h1 h2 c
theorem FC{s:S}(a:∀x,s≠.own x):∀p,Ac (ρ.set k s) (σ.set k (some v)) p->Ac ρ σ p:=λp ⟨i,x,h1,h2⟩=>by
 by_cases hi:k=i
 ·subst hi
  rcases Nat.lt_or_ge k ρ.length with q|q
  ·rw[getElem?_set_self q]at h1
   exact absurd (oI h1) (a x)
  ·rw[getElem?_eq_none (by rw[length_set];exact q)]at h1
   cases h1
 ·rw[getElem?_set_ne hi]at h1 h2
  exact⟨i,x,h1,h2⟩
theorem Ok.set{K:List S->Prop}(ok:Ok W ρ σ Hs)(st:Step W.b W.a Hs H)(r:RF W ρ σ Hs f H x v)(h:BL k x f ρ K):∃ρ',K ρ'/\Ok W ρ' (σ.set k (some v)) H:=by
 by_cases d:ρ.length<=k
 ·have M:∀s,ρ.set k s=ρ:=λs=>set_eq_of_length_le d
  have L:σ.set k (some v)=σ:=set_eq_of_length_le (by rw[ok.len];exact d)
  rw[L]
  refine⟨ρ,?_,ok.step st⟩
  unfold BL at h
  simp only[M]at h
  split at h
  ·exact h
  ·cases f<;>first|exact h|exact h.elim
 have d:k<ρ.length:=Nat.lt_of_not_le d
 have c:=ok.step st
 have k1:∀(s:S),(∀x,s≠.own x)->Bo W (ρ.set k s) (σ.set k (some v)) H s (some v)->Ok W (ρ.set k s) (σ.set k (some v)) H:=λs D A =>
  ok.put st d (λp z=>.inl (FC D p z)) A λy e=>absurd e (D y)
 have k2:∀{s:S} {g:Fl},(∀x,s≠.own x)->Rp W.b (AC W ρ σ g) H x v->Rp W.b (AC W (ρ.set k s) (σ.set k (some v)) g) H x v:=λ{s g} D A =>
  Rp.move c.bag (Step.refl c.bag) (λp z=>.inl (FC D p z)) A
 unfold BL at h
 split at h
 ·rename_i hi
  exact⟨_,h,k1 _ (λ_ z=>nomatch z) ⟨v,rfl,(r.any c).imm hi⟩⟩
 ·cases f with
  |nw =>
   dsimp only at h
   by_cases hm:x.mut=true
   ·rw[if_pos hm]at h
    refine⟨_,h,?_⟩
    obtain⟨p,rfl,B⟩:=r.2 hm
    have hn:∀q,Ac (ρ.set k (.own x)) (σ.set k (some (.ref p))) q->Ac ρ σ q\/Hs q=none:=λq ⟨i,y,h1,h2⟩=>by
     by_cases hi:k=i
     ·subst hi
      rw[getElem?_set_self (by rw[ok.len];exact d)]at h2
      cases h2
      exact .inr B
     ·rw[getElem?_set_ne hi]at h1 h2
      exact .inl ⟨i,y,h1,h2⟩
    obtain⟨E,n⟩:=Rp.toRc (b:=W.b) (Z:=Zf W ρ σ) AC.b c.nt hm r.1
    have w:p≠W.b/\W.H₀ p=none:=by
     simp only[AC,not_or,Classical.not_not]at E
     exact⟨E.1,E.2.2⟩
    have J:W.F p=none:=by
     cases q:W.F p with
     |none=>rfl
     |some o=>rw[ok.frm p o q]at B;cases B
    have ha:p≠W.a:=ok.bag.na B
    have G:∀q,¬(Zf W ρ σ q\/q=p)->¬Zf W (ρ.set k (.own x)) (σ.set k (some (.ref p))) q:=λq A z=>A (by
     simp only[AC]at z ⊢
     rcases z with z|z|z
     ·exact .inl (.inl z)
     ·rcases z with z|z
      ·exact .inl (.inr (.inl (.inl z)))
      ·obtain⟨i,y,h1,h2⟩:=z
       by_cases hi:k=i
       ·subst hi
        rw[getElem?_set_self (by rw[ok.len];exact d)]at h2
        cases h2
        exact .inr rfl
       ·rw[getElem?_set_ne hi]at h1 h2
        exact .inl (.inr (.inl (.inr ⟨i,y,h1,h2⟩)))
     ·exact .inl (.inr (.inr z)))
    have C:∀{xs:List P} {vs:List V},AB W.b (λq=>Zf W ρ σ q\/q=p) H xs vs->AB W.b (Zf W (ρ.set k (.own x)) (σ.set k (some (.ref p)))) H xs vs:=λh=>h.keep (λq o I e=>⟨G q I,e⟩) λq us e=>e
    refine ok.put st d hn ⟨p,rfl,w.2,J,w.1,ha,?_⟩ λy e=>⟨p,rfl,B⟩
    cases x with
    |lst xs=>obtain⟨us,l,j⟩:=n;exact⟨us,l,C j⟩
    |dT ks xs=>obtain⟨us,l,u,j⟩:=n;exact⟨us,l,u,C j⟩
    |fT ks xs=>obtain⟨us,l,u,j⟩:=n;exact⟨us,l,u,C j⟩
    |dK ks xs=>obtain⟨us,l,u,j⟩:=n;exact⟨us,l,u,C j⟩
    |_=>exact n.elim
   ·rw[if_neg hm]at h
    exact⟨_,h,k1 _ (λ_ z=>nomatch z) ⟨v,rfl,k2 (g:=.fr) (λ_ z=>nomatch z) r.1⟩⟩
  |fr=>exact⟨_,h,k1 _ (λ_ z=>nomatch z) ⟨v,rfl,k2 (g:=.fr) (λ_ z=>nomatch z) r⟩⟩
  |cl=>exact⟨_,h,k1 _ (λ_ z=>nomatch z) ⟨v,rfl,k2 (g:=.cl) (λ_ z=>nomatch z) r⟩⟩
  |_=>exact h.elim
end
def ID(p:pE):pT:=λρ K=>p ρ λx _=>∃k,x=.bl k/\K k
def OB(p q:pT):pT:=λρ K=>p ρ λc=>if c=true then q ρ K else K false
def OC(p q:pT):pT:=λρ K=>p ρ λc=>if c=true then K true else q ρ K
def OD(p:pT):pT:=λρ K=>p ρ λc=>K (!c)
def OE(p q:pE):pE:=λρ K=>p ρ λx _=>∃c,x=.bl c/\if c=true then q ρ K else K (.bl false) .fr
def OF(p:pE):pE:=λρ K=>p ρ λx _=>∃c,x=.bl c/\K (.bl (!c)) .fr
def Ki(r r':p2)(pa pb pc:pE):pE:=λρ K=>pa ρ λx f=>pb ρ λy g=>r x f y g λz _=>∃k,z=.bl k/\if k=true then pc ρ λw h=>r' y g w h K else K (.bl false) .fr
section
variable{ι:Type}{Xs:ι->Cx}{a b:Expr}{qF:List Expr}{pa pb pc:pE}{p q:pT}
theorem IE{k:Bool}(ok:Ok W ρ σ H)(r:RF W ρ σ Hs f H (.bl k) v):v=.bl k:=r.any ok
theorem B3{k:Int}(ok:Ok W ρ σ H)(r:RF W ρ σ Hs f H (.int k) v):v=.int k:=r.any ok
theorem EU{k:Str}(ok:Ok W ρ σ H)(r:RF W ρ σ Hs f H (.str k) v):v=.str k:=r.any ok
theorem OG{t:TE}(h:A6 t pa):GK (M9 t) (ID pa):=λW ρ σ H Q K ok d q =>
 h W ρ σ H _ _ ok d λx f v H1 ⟨k,e,h1⟩ a c=>by
  subst e
  exact⟨k,IE (ok.step a) c,q k H1 h1 a⟩
theorem Bf{op:CmpOp}{r:R2}{pr:p2}(h:∀i,Av (Xs i) (compareOp op) r)(g:A9 r pr)(n:QE Xs a pa)(l:QE Xs b pb)(j:behindInMarks op b=false):QT Xs (.Compare a [op] [b] pos) (ID (FB pr pa pb)):=by
 obtain⟨ta,f,e⟩:=n
 obtain⟨tb,d,c⟩:=l
 exact⟨_,λi=>E2 (h i) (f i) (d i) j,OG (IC g e c)⟩
theorem DJ(h:QE Xs a pa)(f:∀i,∀c,isTrue a (Xs i).env c=(do let v <-c;standAt a.pos;holding [v] (truthy v)):=by intro _ _;rfl):QT Xs a (ID pa):=by
 obtain⟨ta,e,d⟩:=h
 exact⟨tB ta,λi=>SY (e i) (f i),OG d⟩
theorem DK(h:QT Xs a p):QT Xs (.UnaryOp .Not a pos) (OD p):=by
 obtain⟨ta,e,d⟩:=h
 exact⟨_,λi=>Se (e i),λW ρ σ H Q K ok g q=>d W ρ σ H _ _ ok g λc H1 h1 f=>q _ H1 h1 f⟩
theorem QW.pt(h:QW Xs a p):QT Xs a p:=let⟨t,h1,h2⟩:=h;⟨t,λi=>(h1 i).pt,h2⟩
theorem VF(h:QT Xs a p):QW Xs (.BoolOp .And [a] pos) p:=let⟨t,h1,h2⟩:=h;⟨t,λi=>Sc (h1 i),h2⟩
theorem GO(h:QT Xs a p):QW Xs (.BoolOp .Or [a] pos) p:=let⟨t,h1,h2⟩:=h;⟨t,λi=>Mp (h1 i),h2⟩
theorem VG(r:QT Xs a p)(o:QW Xs (.BoolOp .And (b::qF) pos) q):QW Xs (.BoolOp .And (a::b::qF) pos) (OB p q):=by
 obtain⟨ta,j,h⟩:=r
 obtain⟨tb,g,f⟩:=o
 refine⟨_,λi=>Sd (j i) (g i),λW ρ σ H Q K ok n q=>h W ρ σ H _ _ ok n λc H1 h1 e=>?_⟩
 cases c with
 |true=>exact f W ρ σ H1 _ _ (ok.step e) h1 λd H2 h2 l=>q d H2 h2 (e.trans l)
 |false=>exact q false H1 h1 e
theorem EV(r:QT Xs a p)(o:QW Xs (.BoolOp .Or (b::qF) pos) q):QW Xs (.BoolOp .Or (a::b::qF) pos) (OC p q):=by
 obtain⟨ta,j,h⟩:=r
 obtain⟨tb,g,f⟩:=o
 refine⟨_,λi=>Mq (j i) (g i),λW ρ σ H Q K ok n q=>h W ρ σ H _ _ ok n λc H1 h1 e=>?_⟩
 cases c with
 |false=>exact f W ρ σ H1 _ _ (ok.step e) h1 λd H2 h2 l=>q d H2 h2 (e.trans l)
 |true=>exact q true H1 h1 e
theorem OH{op}(h:QE Xs a pa):QE Xs (.BoolOp op [a] pos) pa:=let⟨t,h1,h2⟩:=h;⟨t,λi=>Si (h1 i),h2⟩
theorem Cz{k:Bool}:RF W ρ σ Hs .fr H (.bl k) (.bl k):=rfl
theorem FD{k:Int}:RF W ρ σ Hs .fr H (.int k) (.int k):=rfl
theorem OJ{k:Str}:RF W ρ σ Hs .fr H (.str k) (.str k):=rfl
theorem OK(w:QE Xs a pa)(u:QE Xs (.BoolOp .And (b::qF) pos) pb):QE Xs (.BoolOp .And (a::b::qF) pos) (OE pa pb):=by
 obtain⟨ta,n,l⟩:=w
 obtain⟨tb,j,h⟩:=u
 refine⟨_,λi=>Sj (n i) (j i),λW ρ σ H Q K ok s q=>l W ρ σ H _ _ ok s λx f v H1 ⟨c,e,h1⟩ g r=>?_⟩
 subst e
 refine⟨c,IE (ok.step g) r,?_⟩
 cases c with
 |true=>exact h W ρ σ H1 _ _ (ok.step g) h1 λd f v H2 h2 o p=>q d f v H2 h2 (g.trans o) (p.back g)
 |false=>exact q _ _ _ H1 h1 g Cz
theorem VH(n:QE Xs a pa):QE Xs (.UnaryOp .Not a pos) (OF pa):=by
 obtain⟨ta,g,d⟩:=n
 refine⟨_,λi=>Sk (g i),λW ρ σ H Q K ok l q=>d W ρ σ H _ _ ok l λx f v H1 ⟨c,e,h1⟩ h j=>?_⟩
 subst e
 exact⟨c,IE (ok.step h) j,q _ _ _ H1 h1 h Cz⟩
theorem VI{r r':R2}{pr i:p2}{tc:TE}(C:A9 r pr)(p:A9 r' i)(G:A6 ta pa)(E:A6 tb pb)(D:A6 tc pc):A6 (NA r r' ta tb tc) (Ki pr i pa pb pc):=λW ρ σ H Q K ok h q =>
 G W ρ σ H _ _ ok h λx f v H1 h1 c B=>E W ρ σ H1 _ _ (ok.step c) h1 λy g u H2 h2 d s =>
  C W ρ σ H H2 _ _ x y f g v u ((ok.step c).step d) (c.trans d) (B.step (ok.step c) d) (s.back c) h2 λz h v' w ⟨k,e,n⟩ l o=>by
   subst e
   have a:=(c.trans d).trans l
   refine⟨k,IE (ok.step a) o,?_⟩
   cases k with
   |false=>exact q _ _ _ w n a Cz
   |true=>exact D W ρ σ w _ _ (ok.step a) n λz J u' L I j A=>p W ρ σ H L Q K y z g J u u' (ok.step (a.trans j)) (a.trans j) ((s.back c).step (ok.step (c.trans d)) (l.trans j)) (A.back a) I λz h v' H' n l o=>q z h v' H' n ((a.trans j).trans l) o
theorem VJ{op d:CmpOp}{r r':R2}{pr e:p2}(s:∀i,Av (Xs i) (compareOp op) r)(q:A9 r pr)(g:∀i,Av (Xs i) (compareOp d) r')(f:A9 r' e)(x:QE Xs a pa)(w:QE Xs b pb)(v:QE Xs c pc)
  (u:lastMarks [op,d] [b,c]=false:=by with_unfolding_all rfl):QE Xs (.Compare a [op,d] [b,c] pos) (Ki pr e pa pb pc):=by
 obtain⟨ta,p,o⟩:=x
 obtain⟨tb,n,l⟩:=w
 obtain⟨tc,j,h⟩:=v
 exact⟨_,λi=>TK (s i) (g i) (p i) (n i) (j i) u,VI q f o l h⟩
end
inductive Xn where
 |nm (x:Str)|vl (x f:Str) (v:P)
instance:Coe Str Xn:=⟨Xn.nm⟩
instance:Coe String Xn:=⟨λx=>Xn.nm (Str.ofString x)⟩
structure PEnds where
 nx:List S->Prop
 rt:P->Prop
 bk:List S->Prop:=λ_=>False
 ct:List S->Prop:=λ_=>False
 ex:Xn->(Xn->Hp->Prop)->Prop:=λ_ _=>False
abbrev pS:=PEnds->List S->Prop
def OL(W:Wd)(H:Hp)(x:P)(v:V):Prop:=Bag H W.b W.a/\(∀p o,p≠W.b->W.H₀ p=some o->H p=some o)/\Rp W.b (λp=>W.H₀ p≠none) H x v
structure RelD(W:Wd)(E:PEnds)(D:Ends):Prop where
 nx:∀ρ σ H,E.nx ρ->Ok W ρ σ H->D.nx σ H
 rt:∀x v H,E.rt x->OL W H x v->D.rt v H
 bk:∀ρ σ H,E.bk ρ->Ok W ρ σ H->D.bk σ H
 ct:∀ρ σ H,E.ct ρ->Ok W ρ σ H->D.ct σ H
 noO:∀p,¬W.O p
 ex:∀n H EX,E.ex n EX->Bag H W.b W.a->(∀p o,p≠W.b->W.H₀ p=some o->H p=some o)->EX n H
def Dg(t:TS)(p:pS):Prop:=∀(W:Wd) (ρ:List S) (σ:St) (H:Hp) (D:Ends) (E:PEnds),Ok W ρ σ H->p E ρ->RelD W E D->t D σ H
def QS{ι:Type}(Xs:ι->Cx)(st:Stmt)(p:pS):Prop:=∃t,(∀i,PS (Xs i) st t)/\Dg t p
def Aw{ι:Type}(Xs:ι->Cx)(st:List Stmt)(p:pS):Prop:=∃t,(∀i,BY (Xs i) st t)/\Dg t p
def OM:pS:=λE ρ=>E.nx ρ
def ON(p q:pS):pS:=λE ρ=>p { E with nx:=q E } ρ
def OO:pS:=λ_ _=>False
def EW(x:P)(f:Fl):Bool:=x.imm||(match f with|.cl=>false|.an=>false|_=>true)
def AS(p:pE):pS:=λE ρ=>p ρ λx f=>EW x f=true/\E.rt x
def OP(c:pT)(p q:pS):pS:=λE ρ=>c ρ λb=>if b=true then p E ρ else q E ρ
def GP(p:pE)(k:Nat):pS:=λE ρ=>p ρ λx f=>BL k x f ρ E.nx
section
variable{ι:Type}{Xs:ι->Cx}{st:Stmt}{qF:List Stmt}{p q:pS}{a:Expr}{pa:pE}
theorem CC:Aw Xs [] OM:=⟨_,λ_=>Fv,λW ρ σ H D E ok h r=>r.nx ρ σ H h ok⟩
theorem Ad(h:QS Xs st p):Aw Xs [st] p:=let⟨t,h1,h2⟩:=h;⟨t,λi=>Cc (h1 i),h2⟩
theorem AU(h:QS Xs st p)(g:Aw Xs qF q):Aw Xs (st::qF) (ON p q):=by
 obtain⟨t,h1,h2⟩:=h
 obtain⟨u,d,c⟩:=g
 exact⟨_,λi=>Bi (h1 i) (d i),λW ρ σ H D E ok h r=>h2 W ρ σ H _ _ ok h ⟨λρ' σ' H' e a=>c W ρ' σ' H' D E a e r,r.rt,r.bk,r.ct,r.noO,r.ex⟩⟩
theorem Aw.weak{p m:pS}(h:Aw Xs qF p)(hw:∀E ρ,m E ρ->p E ρ):Aw Xs qF m:=let⟨t,h1,h2⟩:=h;⟨t,h1,λW ρ σ H D E ok h r=>h2 W ρ σ H D E ok (hw E ρ h) r⟩
theorem OQ:QS Xs st OO:=⟨_,λ_=>Su,λ_ _ _ _ _ _ _ h _=>h.elim⟩
theorem RF.ret{x:P}(ok:Ok W ρ σ H)(h:RF W ρ σ Hs f H x v)(l:EW x f=true):OL W H x v:=by
 refine⟨ok.bag,ok.old,?_⟩
 by_cases hi:x.imm=true
 ·exact(h.any ok).imm hi
 ·have k:∀{g:Fl},(∀p,W.H₀ p≠none->AC W ρ σ g p)->Rp W.b (AC W ρ σ g) H x v->Rp W.b (λp=>W.H₀ p≠none) H x v:=λ{g} n h=>h.keep (λp o j e=>⟨λz=>j (n p z),e⟩) λp vs e=>e
  cases f with
  |nw=>exact k (g:=.fr) (λp z=>.inr (.inr z)) h.1
  |fr=>exact k (g:=.fr) (λp z=>.inr (.inr z)) h
  |rf=>exact k (g:=.rf) (λp z=>.inr z) h
  |cl=>simp[EW,hi]at l
  |an=>simp[EW,hi]at l
  |bo =>
   obtain⟨p,h1,h2,d⟩:=h
   have nb:=(ok.ow (.inr h2)).1
   have k2:∀{xs:List P} {vs:List V},AB W.b (Zf W ρ σ) H xs vs->AB W.b (λp=>W.H₀ p≠none) H xs vs:=λh=>h.keep (λp o j e=>⟨λz=>j (.inr (.inr z)),e⟩) λp vs e=>e
   cases x with
   |lst xs=>obtain⟨vs,c,a⟩:=d;exact⟨p,vs,h1,λz=>z nb,c,k2 a⟩
   |dT ks xs=>obtain⟨vs,c,i,a⟩:=d;exact⟨p,vs,h1,λz=>z nb,c,i,k2 a⟩
   |fT ks xs=>obtain⟨vs,c,i,a⟩:=d;exact⟨p,vs,h1,λz=>z nb,c,i,k2 a⟩
   |dK ks xs=>obtain⟨vs,c,i,a⟩:=d;exact⟨p,vs,h1,λz=>z nb,c,i,k2 a⟩
   |_=>exact d.elim
theorem Ar(h:QE Xs a pa):QS Xs (.Return (some a) pos) (AS pa):=by
 obtain⟨t,h1,h2⟩:=h
 exact⟨_,λi=>Ev (h1 i),λW ρ σ H D E ok h r=>h2 W ρ σ H _ _ ok h λx f v H1 ⟨k0,k⟩ c d=>r.rt x v H1 k (d.ret (ok.step c) k0)⟩
theorem CD{pc:pT}{l j:List Stmt}(s:QT Xs c pc)(v:Aw Xs l p)(u:Aw Xs j q):QS Xs (.If c l j pos) (OP pc p q):=by
 obtain⟨tc,d,a⟩:=s
 obtain⟨ta,h,g⟩:=v
 obtain⟨tb,f,e⟩:=u
 refine⟨_,λi=>Fw (d i) (h i) (f i),λW ρ σ H D E ok o r=>a W ρ σ H _ _ ok o λc H1 h1 n=>?_⟩
 cases c with
 |true=>exact g W ρ σ H1 D E (ok.step n) h1 r
 |false=>exact e W ρ σ H1 D E (ok.step n) h1 r
theorem Kj{t:TE}{k:Nat}(h2:A6 t pa):Dg (Da t (Cd k)) (GP pa k):=λW ρ σ H D E ok h r =>
 h2 W ρ σ H _ _ ok h λx f v H1 g c d=>by
  obtain⟨ρ',e,a⟩:=Ok.set ok c d g
  exact r.nx ρ' _ H1 e a
theorem Ax{k:Nat}(f:∀i,(Xs i).N.Nodup)(h:QE Xs a pa)(hi:∀i,(Xs i).N[k]?=some x:=by intro _;rfl)(c:∀i,Bu (Xs i).env.scope x:=by intro _;trivial)
  (d:∀i,swapsWith a (some (.Name x pos')) pos.line (Xs i).env=pure false:=by intro _;rfl) (e:∀i,(Xs i).fn x=true\/(Xs i).env.scope.names.lookup x=some .local:=by intro _;trivial):QS Xs (.Assign [.Name x pos'] a pos) (GP pa k):=by
 obtain⟨t,h1,h2⟩:=h
 exact⟨_,λi=>B5 (f i) (hi i) (c i) (h1 i) (d i) (e i),Kj h2⟩
end
abbrev pG:=P->Fl->List S->(List S->Prop)->Prop
end L2
variable{pg:L2.pG}
namespace L2
open PySem PySem.Spec PyProof.Rows
def GQ(g:TG)(p:pG):Prop:=∀(W:Wd) (ρ:List S) (σ:St) (Hs H:Hp) (x:P) (f:Fl) (v:V) (Q:St->Hp->Prop) (K:List S->Prop),Ok W ρ σ Hs->Step W.b W.a Hs H->RF W ρ σ Hs f H x v->p x f ρ K->(∀ρ' σ',K ρ'->Ok W ρ' σ' H->Q σ' H)->g v σ H Q
def QG{ι:Type}(Xs:ι->Cx)(tg:Expr)(p:pG):Prop:=∃g,(∀i,PG (Xs i) tg g)/\GQ g p
def GR:List Nat->List P->Fl->List S->(List S->Prop)->Prop
 |[],[],_,ρ,K=>K ρ
 |k::ks,x::xs,f,ρ,K=>BL k x f ρ λρ'=>GR ks xs f ρ' K
 |_,_,_,_,_=>False
def EY(ks:List Nat):pG:=λx f ρ K=>∃xs,x=.tup xs/\xs.length=ks.length/\GR ks xs f.el ρ K
def C0:List Nat->Dt
 |[]=>Jx
 |k::ks=>HY (Cd k) (C0 ks)
section
variable{ι:Type}{Xs:ι->Cx}
theorem OR(k:Nat):GQ (Cd k) (λx f ρ K=>BL k x f ρ K):=λW ρ σ Hs H x f v Q K ok st r h q=>by
 obtain⟨ρ',e,a⟩:=Ok.set ok st r h
 exact q ρ' _ e a
theorem FE{k:Nat}(d:∀i,(Xs i).N.Nodup)(hi:∀i,(Xs i).N[k]?=some x:=by intro _;rfl)(a:∀i,Bu (Xs i).env.scope x:=by intro _;trivial)
  (c:∀i,(Xs i).fn x=true\/(Xs i).env.scope.names.lookup x=some .local:=by intro _;trivial):QG Xs (.Name x pos) (BL k):=⟨_,λi=>A1 (d i) (hi i) (a i) (c i),OR k⟩
theorem VL{x:P}{k:Nat}{K:List S->Prop}(ok:Ok W ρ σ H)(r:Rp W.b (AC W ρ σ f) H x v)(h:BL k x f.el ρ K) :
  ∃ρ',K ρ'/\Ok W ρ' (σ.set k (some v)) H/\∀p,Ac ρ' (σ.set k (some v)) p->Ac ρ σ p:=by
 unfold BL at h
 split at h
 ·rename_i hi
  obtain⟨ρ',e,a⟩:=Ok.set (K:=λρ'=>ρ'=ρ.set k (.sh x)) ok (Step.refl ok.bag) (RF.ofEl (Hs:=H) r) (by unfold BL;rw[if_pos hi])
  subst e
  exact⟨_,h,a,FC λ_ z=>nomatch z⟩
 ·rename_i hi
  have k1:∀(s:S),(∀x,s≠.own x)->K (ρ.set k s)->BL k x f.el ρ (λρ'=>ρ'=ρ.set k s)->∃ρ',K ρ'/\Ok W ρ' (σ.set k (some v)) H/\∀p,Ac ρ' (σ.set k (some v)) p->Ac ρ σ p:=λs c g d=>by
   obtain⟨ρ',e,a⟩:=Ok.set ok (Step.refl ok.bag) (RF.ofEl (Hs:=H) r) d
   subst e
   exact⟨_,g,a,FC c⟩
  cases f with
  |nw=>exact k1 (.fr x) (λ_ z=>nomatch z) h (by unfold BL;rw[if_neg hi];rfl)
  |fr=>exact k1 (.fr x) (λ_ z=>nomatch z) h (by unfold BL;rw[if_neg hi];rfl)
  |bo=>exact k1 (.fr x) (λ_ z=>nomatch z) h (by unfold BL;rw[if_neg hi];rfl)
  |cl=>exact k1 (.sh x) (λ_ z=>nomatch z) h (by unfold BL;rw[if_neg hi];rfl)
  |_=>exact h.elim
theorem OS{W:Wd}{H:Hp}{f:Fl}{Q:St->Hp->Prop}{K:List S->Prop}:∀{ks:List Nat} {xs:List P} {vs:List V} {ρ:List S} {σ:St},Ok W ρ σ H->AB W.b (AC W ρ σ f) H xs vs->GR ks xs f.el ρ K->(∀ρ' σ',K ρ'->Ok W ρ' σ' H->Q σ' H)->C0 ks vs σ H Q
 |[],[],vs,ρ,σ,ok,r,h,q=>⟨r,q ρ σ h ok⟩
 |[],_::_,_,_,_,_,_,h,_=>h.elim
 |_::_,[],_,_,_,_,_,h,_=>h.elim
 |k::ks,x::xs,vs,ρ,σ,ok,r,h,q=>by
  obtain⟨v,t,g,d,c⟩:=r
  subst g
  obtain⟨ρ',e,a,sub⟩:=VL ok d h
  exact⟨v,t,rfl,OS a (AB.move ok.bag (Step.refl ok.bag) (λp z=>.inl (sub p z)) c) e q⟩
theorem OT{K:Fg}{ks:List Nat}(d:ks.length=n):GQ (EL K n (C0 ks)) (EY ks):=λW ρ σ Hs H x f v Q K ok st r h q=>by
 obtain⟨xs,rfl,e,h⟩:=h
 obtain⟨p,vs,rfl,hc,a⟩:=r.items rfl
 have hc:H p=some (.tup vs):=by
  obtain⟨j,c,i,g,_⟩:=r.any (ok.step st)
  cases i
  rcases hc with hc|hc
  ·rw[g]at hc;cases hc
  ·exact hc
 exact⟨p,vs,rfl,.of hc,by rw[<-a.length,e,d],OS (ok.step st) a h q⟩
theorem IF{k1:Nat}{ks:List Nat}(e:∀i,(Xs i).calm=true)(f:∀i,(Xs i).K=Kf)(h:∀i,EK (Xs i) es (C0 ks))(d:ks.length=n)
  (c:∀i,(assignEach es (Xs i).env).length=n:=by intro _;rfl) (a:∀i,(assignEach es (Xs i).env).findIdx? (·.1)=none:=by intro _;rfl):QG Xs (.Tuple es k1 pos) (EY ks) :=
 ⟨EL Kf n (C0 ks),λi=>by have:=Jy (k:=k1) (pos:=pos) (e i) (h i) (c i) (a i);rw[f i]at this;exact this,OT d⟩
end
abbrev pF:=List P->(P->Prop)->Prop
def AQ(f:pF):Sp:=λvs H Q _=>∃(b a:Addr) (xs:List P) (K:P->Prop),Bag H b a/\AB b (λp=>p=b) H xs vs/\f xs K/\∀x v H',K x->Step b a H H'->Rp b (λp=>H p≠none) H' x v->Q v H'
def EZ(n:Nat)(xs:List P):List S:=xs.map S.sh++replicate (n - xs.length) S.emp
def Kk(f:pF)(pa:pA):pE:=λρ K=>pa ρ λxs=>f (xs.map (·.1)) λz=>K z .nw
theorem VM(h:vs[i]?=some v):(CL N vs)[i]?=some (some v):=by
 unfold CL
 have hi:i<vs.length:=by
  rcases Nat.lt_or_ge i vs.length with q|q
  ·exact q
  ·rw[getElem?_eq_none q]at h;cases h
 rw[getElem?_append_left (by rw[length_map];exact hi),getElem?_map,h]
 rfl
theorem OU{x:P}:(EZ n xs)[i]?≠some (.own x):=by
 intro h
 have a:=mem_of_getElem? h
 unfold EZ at a
 rcases mem_append.mp a with z|z
 ·obtain⟨y,_,e⟩:=mem_map.mp z
  cases e
 ·cases(mem_replicate.mp z).2
theorem VN{b:Addr}(g:Bag H b a)(r:AB b (λp=>p=b) H xs vs)(n:xs.length<=N.length) :
  Ok ⟨b,a,H,λ_=>none,λ_=>False⟩ (EZ N.length xs) (CL N vs) H where
 bag:=g
 fb:=rfl
 old:=λ_ _ _ e=>e
 frm:=λ_ _ e=>nomatch e
 oo:=λ_ z=>z.elim
 len:=by
  have:=r.length
  simp only[CL,EZ,length_append,length_map,length_replicate]
  lia
 slot:=λi s e=>by
  have c:=r.length
  unfold EZ at e
  rcases Nat.lt_or_ge i xs.length with q|q
  ·rw[getElem?_append_left (by rw[length_map];exact q),getElem?_map]at e
   obtain⟨v,h1,h2⟩:=r.get (i:=i) (x:=xs[i]) (by simp[q])
   simp only[getElem?_eq_getElem q,Option.map_some]at e
   cases e
   refine⟨some v,VM h1,v,rfl,h2.keep (λp o d e=>⟨λz=>d ?_,e⟩) λp vs e=>e⟩
   rcases z with z|z
   ·exact z
   ·rcases z with z|⟨j,y,h,_⟩
    ·exact z.elim
    ·exact absurd h OU
  ·rw[getElem?_append_right (by rw[length_map];exact q),length_map]at e
   have f:=mem_of_getElem? e
   have l:=(mem_replicate.mp f).2
   subst l
   have hi:i - xs.length<N.length - xs.length:=by
    rcases Nat.lt_or_ge (i - xs.length) (N.length - xs.length)with z|z
    ·exact z
    ·rw[getElem?_eq_none (by rw[length_replicate];exact z)]at e;cases e
   refine⟨none,?_,trivial⟩
   unfold CL
   rw[getElem?_append_right (by rw[length_map,<-c];exact q),length_map,<-c,getElem?_replicate,if_pos hi]
 uniq:=λi j x y h1=>absurd h1 OU
section
variable{K:Fg}
theorem BD{st:Stmt}{k:Nat}{f:pF}(D:Az K mg x st)(S:FnScope N ps (AT st))
  (B:∀(kV doc q:Value) (I:Option Addr) (c ct:Value) (us:List Value),us.length=ps.length->bindArgs (PySem.W.fnOf x x (Dd st) (Cr st) (AT st) .none kV doc q I c ct) ⟨us,[]⟩=pure (ps.zip us))
  (len:∀xs K,f xs K->xs.length=ps.length) (C:ps.length<=N.length)
  (d:∀(j:Addr) (c:Value) (A:Around) (outer:List Env) (s:Shared) (H:Hp) (E:XK),Room k (A.deeper (PyProof.Rows.envOfC x (AT st) s.heap.objs.size j c)) ->
   ∃p,Aw (λ_:Unit=>(Dv DF P' w K mg base N x (AT st) j c A outer s H E).nox) (Cr st) p/\∀xs K,f xs K->p { nx:=λ_=>K .non,rt:=K } (EZ N.length xs)):Fn P' w K mg base x (k+1) ps (AQ f):=by
 refine GI D S B (λvs H Q E h=>?_) (λj c A outer s H vs Q E u h=>?_)
 ·obtain⟨b,a,xs,K,_,r,i,_⟩:=h
  rw[<-r.length];exact len xs K i
 ·obtain⟨b,a,xs,o,g,r,i,n⟩:=h
  obtain⟨p,⟨t,h1,h2⟩,G⟩:=d j c A outer s H E u
  refine⟨t,h1 (),h2 _ _ _ H _ _ (VN g r (by rw[len xs o i];exact C)) (G xs o i) ⟨λρ σ H' e ok=>?_,λy v H' e l=>?_,λ_ _ _ e=>e.elim,λ_ _ _ e=>e.elim,λ_ z=>z,λ_ _ _ e=>e.elim⟩⟩
  ·exact n _ _ H' e ⟨ok.bag,ok.old⟩ rfl
  ·exact n y v H' e ⟨l.1,l.2.1⟩ l.2.2
theorem Fn.imp{k:Nat}{sp sp':Sp}(F:Fn P' w K mg base x k ps sp)(h:∀vs H Q E,sp' vs H Q E->sp vs H Q E):Fn P' w K mg base x k ps sp':=by
 obtain⟨f,fd,F,r⟩:=F
 exact⟨f,fd,F.imp h,r⟩
end
section
variable{ι:Type}{Xs:ι->Cx}
theorem VO{f:pF}{t:TA}{pa:pA}(h2:KW t pa):A6 (F4 (AQ f) [] E0 t) (Kk f pa):=λW ρ σ H Q K ok l q =>
 h2 W ρ σ H _ _ ok l λxs vs H1 h1 g i=>by
  have d:=ok.step g
  show AQ f (vs++[]) H1 Q E0
  rw[append_nil]
  refine⟨W.b,W.a,_,_,g.bag,(i.any d),h1,λx v H' k1 h c=>q x .nw v H' k1 (g.trans h) ⟨c.keep (λp o j e=>⟨λz=>j (d.dom z),e⟩) λp vs e=>e,λm=>?_⟩⟩
  have k2:∀p,¬H1 p≠none->H p=none:=λp z=>g.free (Classical.not_not.mp z)
  cases x with
  |lst xs=>obtain⟨p,us,e,z,_⟩:=c;exact⟨p,e,k2 p z⟩
  |dT ks xs=>obtain⟨p,us,e,z,_⟩:=c;exact⟨p,e,k2 p z⟩
  |fT ks xs=>obtain⟨p,us,e,z,_⟩:=c;exact⟨p,e,k2 p z⟩
  |dK ks xs=>obtain⟨p,us,e,z,_⟩:=c;exact⟨p,e,k2 p z⟩
  |_=>simp[P.mut]at m
theorem AZ{k:Nat}{f:pF}{p:Pos}{e:Expr}{pa:pA}(G:∀i,Fn (Xs i).prog (Xs i).w (Xs i).K (Xs i).mg (Xs i).base x k ps (AQ f))(d:∀i,Room k (Xs i).A)
  (j:QA Xs (e::es) pa) (g:∀i,Gl (Xs i) x:=by intro _;rfl) (c:(x==("__debug__":Str))=false:=by decide +kernel) (h:∀i,starEach (e::es) (Xs i).env=(false,eval e (Xs i).env)::starEach es (Xs i).env:=by intro _;rfl) (a:∀i,(backTo pos (starEach es (Xs i).env)).any (·.1)=false:=by intro _;rfl) :
  QE Xs (.Call (.Name x p) (e::es) [] pos) (Kk f pa):=by
 obtain⟨t,h1,h2⟩:=j
 exact⟨_,λi=>ET (G i) (d i) (g i) (h1 i) c (h i) (a i),VO h2⟩
end
open Classical in
def frz(W:Wd)(ρ:List S)(σ:St)(H:Hp):Hp:=λp=>if p=W.b\/Ow W ρ σ p then none else H p
abbrev Wd.frz(W:Wd)(ρ:List S)(σ:St)(H:Hp):Wd:={ W with F:=L2.frz W ρ σ H }
abbrev GS(W:Wd)(ρ:List S)(σ:St)(H1:Hp):(Addr->Prop)->List S->St->Hp->Prop:=λO' ρ' σ' H'=>O'=W.O/\Ok (W.frz ρ σ H1) ρ' σ' H'
abbrev GU(W:Wd)(ρ:List S)(σ:St)(H1:Hp):(Addr->Prop)->List S->St->Hp->Prop:=λO' ρ' σ' H'=>(∀p,O' p->W.O p\/H1 p=none)/\ρ'=ρ/\σ'=σ/\Ok W ρ σ H'/\Step W.b W.a H1 H'
def C1(W:Wd)(Lt:(Addr->Prop)->List S->St->Hp->Prop)(J:It)(xs:List P)(f:Fl):Prop:=∀O' ρ' σ' H',Lt O' ρ' σ' H'->∀i,(i<xs.length->J.go i H')/\(xs.length<=i->J.stop i H') /\
 ∀v H'',J.yld i H' v H''->∀x,xs[i]?=some x->Step W.b W.a H' H''/\RF { W with O:=O' } ρ' σ' H' f H'' x v
abbrev pI:=List S->(List P->Fl->Bool->Prop)->Prop
def Kl(wi:TI)(p:pI):Prop:=∀(W:Wd) (ρ:List S) (σ:St) (H:Hp) (R:It->Hp->Prop) (K:List P->Fl->Bool->Prop),Ok W ρ σ H->p ρ K ->
 (∀xs f st J H1,K xs f st->Step W.b W.a H H1->C1 W (GU W ρ σ H1) J xs f->(st=true->C1 W (GS W ρ σ H1) J xs f)->R J H1)->wi σ H R
def QI{ι:Type}(Xs:ι->Cx)(tg e:Expr)(p:pI):Prop:=∃wi,(∀i,PI (Xs i) tg e wi)/\Kl wi p
section
variable{x:P}{k:Nat}
theorem GV(hz:¬(p=W.b\/Ow W ρ σ p)):frz W ρ σ H p=H p:=by unfold frz;rw[if_neg hz]
theorem IG(hz:p=W.b\/Ow W ρ σ p):frz W ρ σ H p=none:=by unfold frz;rw[if_pos hz]
theorem VP(h:frz W ρ σ H p=some o):H p=some o/\p≠W.b/\¬Ow W ρ σ p:=by
 by_cases a:p=W.b\/Ow W ρ σ p
 ·rw[IG a]at h;cases h
 ·rw[GV a]at h;exact⟨h,λz=>a (.inl z),λz=>a (.inr z)⟩
theorem Ok.frz(ok:Ok W ρ σ H):Ok (W.frz ρ σ H) ρ σ H where
 bag:=ok.bag
 fb:=IG (.inl rfl)
 old:=ok.old
 frm:=λp o e=>(VP e).1
 oo:=λp h=>let⟨h1,h2,n,l,j⟩:=ok.oo p h;⟨h1,IG (.inr (.inl h)),n,l,j⟩
 len:=ok.len
 slot:=λi s e=>by
  obtain⟨o,h1,h2⟩:=ok.slot i s e
  refine⟨o,h1,?_⟩
  cases s with
  |emp=>trivial
  |sh x=>exact h2
  |fr x=>exact h2
  |own x =>
   obtain⟨p,a,g,q,f,d,c⟩:=h2
   exact⟨p,a,g,IG (.inr (.inr ⟨i,x,e,by rw[h1,a]⟩)),f,d,c⟩
 uniq:=ok.uniq
theorem Ok.thaw(a:Ok W ρ σ H)(ok:Ok (W.frz ρ σ H) ρ' σ' H'):Ok W ρ' σ' H' where
 bag:=ok.bag
 fb:=a.fb
 old:=ok.old
 frm:=λp o e=>by
  have hb:p≠W.b:=λz=>by rw[z,a.fb]at e;cases e
  have d:¬Ow W ρ σ p:=λz=>by rw[(a.ow z).2.1]at e;cases e
  exact ok.frm p o ((GV λz=>z.elim hb d).trans (a.frm p o e))
 oo:=λp h=>let⟨h1,h2,w,v,r⟩:=ok.oo p h;⟨h1,(a.oo p h).2.1,w,v,r⟩
 len:=ok.len
 slot:=λi s e=>by
  obtain⟨o,h1,h2⟩:=ok.slot i s e
  refine⟨o,h1,?_⟩
  cases s with
  |emp=>trivial
  |sh x=>exact h2
  |fr x=>exact h2
  |own x =>
   obtain⟨p,q,n,c,g,l,j⟩:=h2
   refine⟨p,q,n,?_,g,l,j⟩
   cases f:W.F p with
   |none=>rfl
   |some u =>
    have hb:p≠W.b:=g
    have d:¬Ow W ρ σ p:=λz=>by rw[(a.ow z).2.1]at f;cases f
    have c:L2.frz W ρ σ H p=none:=c
    rw[GV (λz=>z.elim hb d),a.frm p u f]at c
    cases c
 uniq:=ok.uniq
theorem GW(ok:Ok W ρ σ H)(c:Ok (W.frz ρ σ H) ρ' σ' H')(l:f=.nw\/f=.fr\/f=.cl):(∀p o,¬AC W ρ σ f p->H p=some o->¬AC W ρ' σ' f p/\H' p=some o)/\∀p vs,H p=some (.tup vs)->H' p=some (.tup vs):=by
 have c:Ok (W.frz ρ σ H) ρ' σ' H':=c
 have q:∀p,¬AC W ρ σ f p->p≠W.b:=λp z e=>z (e▸AC.b)
 have j:∀p,¬AC W ρ σ f p->¬Ow W ρ σ p:=λp z e=>z (by rcases l with rfl|rfl|rfl<;>simp[AC,e])
 refine⟨λp o a e=>?_,λp vs e=>?_⟩
 ·have d:L2.frz W ρ σ H p=some o:=(GV λz=>z.elim (q p a) (j p a)).trans e
  have g:¬Ac ρ' σ' p:=λz=>by
   have:=(c.ow (.inr z)).2.1
   have this:L2.frz W ρ σ H p=none:=this
   rw[d]at this;cases this
  refine⟨λz=>?_,c.frm p o d⟩
  have h:¬W.O p:=λz=>j p a (.inl z)
  rcases l with rfl|rfl|rfl<;>simp only[AC,not_or]at z a
  ·rcases z with z|(z|z)|z
   ·exact a.1 z
   ·exact h z
   ·exact g z
   ·exact a.2.2 z
  ·rcases z with z|(z|z)|z
   ·exact a.1 z
   ·exact h z
   ·exact g z
   ·exact a.2.2 z
  ·rcases z with z|(z|z)
   ·exact a.1 z
   ·exact h z
   ·exact g z
 ·refine c.frm p _ ((GV λz=>z.elim (ok.bag.neT e).1 λz=>?_).trans e)
  obtain⟨_,_,_,_,o,i,n⟩:=ok.ow z
  rw[e]at i;cases i
  exact n vs rfl
theorem OV{O':Addr->Prop}(st:Step W.b W.a H H')(c:∀p,O' p->W.O p\/H p=none)(p:Addr)(o:HO)(hz:¬AC W ρ σ f p)(e:H p=some o):¬AC { W with O:=O' } ρ σ f p/\H' p=some o:=by
 refine⟨λz=>hz ?_,st.same p o (λz=>hz (z▸AC.b)) e⟩
 have k:Ow { W with O:=O' } ρ σ p->Ow W ρ σ p:=λz=>z.elim (λz=>(c p z).elim .inl λz=>by rw[e]at z;cases z) .inr
 cases f<;>simp only[AC]at z ⊢
 ·exact z.elim .inl λz=>.inr (z.elim (λz=>.inl (k z)) .inr)
 ·exact z.elim .inl λz=>.inr (z.elim (λz=>.inl (k z)) .inr)
 ·exact z.elim .inl λz=>.inr (k z)
 ·exact z.elim .inl λz=>.inr (z.elim (λz=>.inl (k z)) .inr)
 ·exact z
 ·exact z
def CF(f:Fl):Bool:=match f with|.nw=>true|.fr=>true|.cl=>true|_=>false
theorem GX(h:CF f=true):f=.nw\/f=.fr\/f=.cl:=by cases f<;>simp_all [CF]
theorem VQ{K:Fg}(ok:Ok W ρ σ H)(r:RF W ρ σ Hs f H (.lst xs) (.ref p))(w:H p=some (.lst vs))(rv:AB W.b (AC W ρ σ f) H xs vs) :
  C1 W (GU W ρ σ H) (DB K p) xs f.el/\(CF f=true->C1 W (GS W ρ σ H) (DB K p) xs f.el):=by
 have l:p≠W.b:=by
  obtain⟨q,us,j,c,_⟩:=r.any ok
  cases j
  exact c
 have h:∀O' ρ' σ' H',H' p=some (.lst vs)->AB W.b (AC { W with O:=O' } ρ' σ' f) H' xs vs->Bag H' W.b W.a->∀i,(i<xs.length->(DB K p).go i H')/\(xs.length<=i->(DB K p).stop i H') /\
   ∀v d,(DB K p).yld i H' v d->∀x,xs[i]?=some x->Step W.b W.a H' d/\RF { W with O:=O' } ρ' σ' H' f.el d x v:=λO' ρ' σ' H' e o D i=>by
  have g:=o.length
  refine⟨λhi=>⟨vs,vs[i]'(by lia),.of e,by simp[<-g,hi]⟩,λhi=>⟨vs,.of e,by lia⟩,λv d y x C=>?_⟩
  obtain⟨c,y⟩:=y
  subst c
  obtain⟨u,I,G⟩:=o.get C
  have z:=y vs (.of e)
  rw[I]at z
  cases z
  exact⟨Step.refl D,RF.ofEl (W:={ W with O:=O' }) G⟩
 refine⟨λO' ρ' σ' H' g i=>?_,λs O' ρ' σ' H' g i=>?_⟩
 ·obtain⟨E,rfl,rfl,A,st⟩:=g
  exact h _ _ _ H' (st.same p _ l w) (rv.keep (OV st E) λq us e=>st.same q _ (ok.bag.neT e).1 e) st.bag i
 ·obtain⟨rfl,g⟩:=g
  have n:=GW ok g (GX s)
  have B:¬AC W ρ σ f p:=by
   cases f with
   |nw=>obtain⟨q,us,j,c,_⟩:=r.1;cases j;exact c
   |fr=>obtain⟨q,us,j,c,_⟩:=r;cases j;exact c
   |cl=>obtain⟨q,us,j,c,_⟩:=r;cases j;exact c
   |_=>simp[CF]at s
  exact h _ _ _ H' (n.1 p _ B w).2 (rv.keep n.1 n.2) g.bag i
theorem VR{K:Fg}(ok:Ok W ρ σ H)(j:H p=some (.tup vs))(rv:AB W.b (AC W ρ σ f) H xs vs) :
  C1 W (GU W ρ σ H) (EM K p) xs f.el/\(CF f=true->C1 W (GS W ρ σ H) (EM K p) xs f.el):=by
 have g:∀O' ρ' σ' H',H' p=some (.tup vs)->AB W.b (AC { W with O:=O' } ρ' σ' f) H' xs vs->Bag H' W.b W.a->∀i,(i<xs.length->(EM K p).go i H')/\(xs.length<=i->(EM K p).stop i H') /\
   ∀v c,(EM K p).yld i H' v c->∀x,xs[i]?=some x->Step W.b W.a H' c/\RF { W with O:=O' } ρ' σ' H' f.el c x v:=λO' ρ' σ' H' e l w i=>by
  have d:=l.length
  refine⟨λhi=>⟨vs,vs[i]'(by lia),.of e,by simp[<-d,hi]⟩,λhi=>⟨vs,.of e,by lia⟩,λv c y x r=>?_⟩
  obtain⟨C,y⟩:=y
  subst C
  obtain⟨u,B,A⟩:=l.get r
  have n:=y vs (.of e)
  rw[B]at n
  cases n
  exact⟨Step.refl w,RF.ofEl (W:={ W with O:=O' }) A⟩
 refine⟨λO' ρ' σ' H' d i=>?_,λs O' ρ' σ' H' d i=>?_⟩
 ·obtain⟨z,rfl,rfl,o,st⟩:=d
  exact g _ _ _ H' (st.same p _ (ok.bag.neT j).1 j) (rv.keep (OV st z) λq us e=>st.same q _ (ok.bag.neT e).1 e) st.bag i
 ·obtain⟨rfl,d⟩:=d
  have h:=GW ok d (GX s)
  exact g _ _ _ H' (h.2 p _ j) (rv.keep h.1 h.2) d.bag i
end
def OW(p:pE):pI:=λρ K=>p ρ λx f=>∃xs,x=.lst xs/\K xs f.el (CF f)
def OX(p:pE):pI:=λρ K=>p ρ λx f=>∃xs,x=.tup xs/\K xs f.el (CF f)
def Dh(lo:Int)(n:Nat):List P:=(List.range n).map λ(k:Nat)=>P.int (lo+k)
def OY(p:pA):pI:=λρ K=>p ρ λxs=>∃j f,xs=[(P.int j,f)]/\-(2 ^ 62)<=j/\j<2 ^ 62/\K (Dh 0 j.toNat) .fr true
theorem D1(lo:Int)(n:Nat):(Dh lo n).length=n:=by simp[Dh]
theorem GY{lo:Int}{x:P}(h:(Dh lo n)[i]?=some x):i<n/\x=.int (lo+i):=by
 unfold Dh at h
 rw[getElem?_map]at h
 rcases Nat.lt_or_ge i n with q|q
 ·rw[getElem?_range q]at h
  exact⟨q,(oI h).symm⟩
 ·rw[getElem?_eq_none (by rw[length_range];exact q)]at h
  cases h
section
variable{ι:Type}{Xs:ι->Cx}{a:Expr}{pa:pE}
theorem CG(s:∀i,(Xs i).K=Kf)(h:QE Xs a pa):QI Xs tg a (OW pa):=by
 obtain⟨t,h1,h2⟩:=h
 refine⟨Mx Kf t,λi=>by have:=M0 (tg:=tg) (h1 i);rw[s i]at this;exact this,λW ρ σ H R K ok r q=>h2 W ρ σ H _ _ ok r λx f v H1 ⟨xs,e,k1⟩ g d=>?_⟩
 subst e
 have c:=ok.step g
 obtain⟨p,vs,y,w,u⟩:=d.items rfl
 subst y
 have l:H1 p=some (.lst vs):=by
  obtain⟨q,us,o,A,n,_⟩:=d.any c
  cases o
  rcases w with z|z
  ·exact z
  ·rw[n]at z;cases z
 have j:=VQ (K:=Kf) c d l u
 exact⟨p,rfl,⟨vs,.of l⟩,q xs _ _ _ H1 k1 g j.1 j.2⟩
theorem DL(s:∀i,(Xs i).K=Kf)(h:QE Xs a pa):QI Xs tg a (OX pa):=by
 obtain⟨t,h1,h2⟩:=h
 refine⟨Mz Kf t,λi=>by have:=S2 (tg:=tg) (h1 i);rw[s i]at this;exact this,λW ρ σ H R K ok r q=>h2 W ρ σ H _ _ ok r λx f v H1 ⟨xs,e,k1⟩ d g=>?_⟩
 subst e
 have c:=ok.step d
 obtain⟨p,vs,y,w,u⟩:=g.items rfl
 subst y
 have l:H1 p=some (.tup vs):=by
  obtain⟨q,us,o,n,_⟩:=g.any c
  cases o
  rcases w with z|z
  ·rw[n]at z;cases z
  ·exact z
 have j:=VR (K:=Kf) c l u
 exact⟨p,rfl,⟨vs,.of l⟩,q xs _ _ _ H1 k1 d j.1 j.2⟩
theorem OZ{d:(Addr->Prop)->List S->St->Hp->Prop}{J:It}(c:∀O' ρ' σ' H',d O' ρ' σ' H'->Bag H' W.b W.a)(n:∀i H',i<xs.length->J.go i H')(h:∀i H',xs.length<=i->J.stop i H')
  (f:∀i H' v H'' x,J.yld i H' v H''->xs[i]?=some x->H''=H'/\x.imm=true/\∀(b:Addr) (Z:Addr->Prop),Rp b Z H' x v):C1 W d J xs .fr:=λO' ρ' σ' H' l i=>⟨n i H',h i H',λv H'' y x g=>by
 obtain⟨e,hi,j⟩:=f i H' v H'' x y g
 subst e
 exact⟨Step.refl (c _ _ _ _ l),j _ _⟩⟩
theorem Oa{lo:Int}:C1 W (GU W ρ σ H) (DC lo n) (Dh lo n) .fr/\(true=true->C1 W (GS W ρ σ H) (DC lo n) (Dh lo n) .fr):=by
 have d:∀i H' v a x,(DC lo n).yld i H' v a->(Dh lo n)[i]?=some x->a=H'/\x.imm=true/\∀(b:Addr) (Z:Addr->Prop),Rp b Z H' x v:=λi H' v a x y e=>by
  obtain⟨j,g⟩:=y
  obtain⟨_,f⟩:=GY e
  subst f
  exact⟨j,rfl,λ_ _=>g⟩
 exact⟨OZ (λ_ _ _ _ c=>c.2.2.2.1.bag) (λi H' h=>by rw[D1]at h;exact h) (λi H' h=>by rw[D1]at h;exact h) d,
  λ_=>OZ (λ_ _ _ _ c=>c.2.bag) (λi H' h=>by rw[D1]at h;exact h) (λi H' h=>by rw[D1]at h;exact h) d⟩
theorem FF{p:Pos}{pr:pA}(h:∀i,(Xs i).mg "range"=none)(o:QA Xs [a] pr)(n:∀i,Gl (Xs i) "range":=by intro _;rfl)(g:∀i,starEach [a] (Xs i).env=[(false,eval a (Xs i).env)]:=by intro _;rfl):QI Xs tg (.Call (.Name "range" p) [a] [] pos) (OY pr):=by
 obtain⟨t,h1,h2⟩:=o
 refine⟨_,λi=>Hc (n i) (h i) (h1 i) (g i),λW ρ σ H R K ok l q=>h2 W ρ σ H _ _ ok l λxs vs H1 ⟨j,f,e,x,w,k1⟩ c d=>?_⟩
 subst e
 obtain⟨v,t,u,s,r⟩:=d
 subst u
 cases(show t=[]from r)
 cases B3 (ok.step c) s
 exact⟨j,rfl,x,w,q _ _ _ _ H1 k1 c Oa.1 Oa.2⟩
end
def Ob(pi:pI)(pg:pG)(pb:pS):pS:=λE ρ=>pi ρ λxs f st=>st=true/\∃I:Nat->List S->Prop,I 0 ρ/\(∀i ρ' x,xs[i]?=some x->I i ρ'->pg x f ρ' λρ2=>pb { E with nx:=I (i+1),ct:=I (i+1),bk:=E.nx } ρ2)/\∀ρ',I xs.length ρ'->E.nx ρ'
def Oc(c:pT)(pb:pS):pS:=λE ρ=>∃I:Nat->List S->Prop,(∃m,I m ρ)/\∀m ρ',I m ρ'->c ρ' λb=>if b=true then∃N:List S->Prop,(∀ρ2,N ρ2->∃m',m'<m/\I m' ρ2)/\pb { E with nx:=N,ct:=N,bk:=E.nx } ρ' else E.nx ρ'
section
variable{ι:Type}{Xs:ι->Cx}{a:Expr}{pi:pI}{pb:pS}{pc:pT}{body:List Stmt}
theorem RelD.frz{E:PEnds}{D:Ends}(a:Ok W ρ σ H)(r:RelD W E D):RelD (W.frz ρ σ H) E D :=
 ⟨λρ' σ' H' e ok=>r.nx ρ' σ' H' e (a.thaw ok),r.rt,λρ' σ' H' e ok=>r.bk ρ' σ' H' e (a.thaw ok),λρ' σ' H' e ok=>r.ct ρ' σ' H' e (a.thaw ok),r.noO,r.ex⟩
theorem DM(hp:∀i,PassesOwn (model (Xs i).prog (Xs i).w) (Xs i).A (Xs i).env (Xs i).xe)(hc:∀i,(Xs i).calm=true)(hi:QI Xs tg a pi)(hg:QG Xs tg pg)(hb:Aw Xs body pb)
  (hs:∀i,∀x,foldedSetIterable a (Xs i).env x=pure x:=by intro _ _;rfl):QS Xs (.For tg a body [] pos) (Ob pi pg pb):=by
 obtain⟨wi,i1,i2⟩:=hi
 obtain⟨g,g1,g2⟩:=hg
 obtain⟨tb,b1,b2⟩:=hb
 refine⟨_,λi=>F1 (hp i) (hc i) (i1 i) (g1 i) (b1 i) (hs i),λW ρ σ H D E ok h r=>i2 W ρ σ H _ _ ok h λxs f st J H1 ⟨G,I,h0,p,u⟩ Y _ C=>?_⟩
 have C:=C G
 have s:=ok.step Y
 have z:=r.frz s
 refine⟨λi m σ' H'=>m=xs.length - i/\i<=xs.length/\∃ρ',I i ρ'/\Ok (W.frz ρ σ H1) ρ' σ' H',⟨xs.length,by simp,Nat.zero_le _,ρ,h0,s.frz⟩,?_⟩
 rintro i m σ' H' ⟨rfl,hi,ρ',Q,o⟩
 obtain⟨q1,q2,q3⟩:=C W.O ρ' σ' H' ⟨rfl,o⟩ i
 by_cases q:i<xs.length
 ·refine .inr ⟨q1 q,λl H2=>∃c,I (i+1) c/\Ok (W.frz ρ σ H1) c l H2,λl H2 ⟨c,e1,L⟩=>⟨xs.length - (i+1),by lia,rfl,q,c,e1,L⟩,λv H2 y=>?_⟩
  have N:xs[i]?=some xs[i]:=by simp[q]
  obtain⟨U,T⟩:=q3 v H2 y _ N
  refine g2 (W.frz ρ σ H1) ρ' σ' H' H2 _ f v _ _ o U T (p i ρ' _ N Q) λc l L B=>?_
  exact b2 (W.frz ρ σ H1) c l H2 _ _ B L ⟨λd n M e j=>⟨d,e,j⟩,z.rt,λd n M e j=>z.nx d n M e j,λd n M e j=>⟨d,e,j⟩,r.noO,r.ex⟩
 ·have e:i=xs.length:=by lia
  subst e
  exact .inl ⟨q2 (Nat.le_refl _),z.nx ρ' σ' H' (u ρ' Q) o⟩
theorem VT(x:∀i,PassesOwn (model (Xs i).prog (Xs i).w) (Xs i).A (Xs i).env (Xs i).xe)(y:QT Xs c pc)(n:Aw Xs body pb):QS Xs (.While c body [] pos) (Oc pc pb):=by
 obtain⟨tc,M,L⟩:=y
 obtain⟨tb,Q,O⟩:=n
 refine⟨_,λi=>Sy (x i) (M i) (Q i),λW ρ σ H D E ok h r=>?_⟩
 obtain⟨I,⟨u,C⟩,p⟩:=h
 refine⟨λm σ' H'=>∃ρ',I m ρ'/\Ok W ρ' σ' H',⟨u,ρ,C,ok⟩,?_⟩
 rintro m σ' H' ⟨ρ',B,j⟩
 refine L W ρ' σ' H' _ _ j (p m ρ' B) λb H1 n s=>?_
 cases b with
 |false=>exact r.nx ρ' σ' H1 n (j.step s)
 |true =>
  obtain⟨N,z,n⟩:=n
  refine⟨λo H2=>∃d,N d/\Ok W d o H2,λo H2 ⟨d,J,G⟩=>let⟨v,l,h⟩:=z d J;⟨v,l,d,h,G⟩,?_⟩
  exact O W ρ' σ' H1 _ _ (j.step s) n ⟨λa g q e f=>⟨a,e,f⟩,r.rt,λa g q e f=>r.nx a g q e f,λa g q e f=>⟨a,e,f⟩,r.noO,r.ex⟩
end
def C2(ρ:List S)(qD:List (Option Nat)):List S:=qD.map λo=>match o with|none=>.emp|some j=>(ρ[j]?).getD .emp
abbrev FH(qD:List (Option Nat)):Prop:=qD.Pairwise λa b=>a=none\/a≠b
def A7(xs:List P)(step:P->(Option (P×Fl)->Prop)->Prop)(K:P->Fl->Prop):Prop:=∃(g:Fl) (I:Nat->List P->Prop),(g=.nw\/g=.cl)/\I 0 [] /\
 (∀i x ys,xs[i]?=some x->I i ys->step x λo=>match o with|some (y,h)=>(A2 y h).join g=g/\I (i+1) (ys++[y])|none=>I (i+1) ys)/\∀ys,I xs.length ys->K (.lst ys) g
def GZ(pi:pI)(qD:List (Option Nat))(pg:pG)(pt:pT)(pe:pE):pE:=λρ K=>pi ρ λxs f _=>f≠.bo/\xs.length<=16777216 /\
 A7 xs (λx M=>pg x f (C2 ρ qD) λρ'=>pt ρ' λc=>if c=true then pe ρ' λy h=>M (some (y,h))else M none) K
section
variable{Wb:Wd}{ρb:List S}{σb:St}{x:P}{D:Addr}{k:Nat}
theorem Bo.mv{s:S}{o:Option V}(hb:Wb.b=W.b)(ha:Wb.a=W.a)(y:Wb.H₀=W.H₀)(r:Wb.F=W.F)(i:∀f p o,¬AC W ρ σ f p->H1 p=some o->¬AC Wb ρb σb f p/\H2 p=some o)(g:∀p vs,H1 p=some (.tup vs)->H2 p=some (.tup vs))
  (q:∀p o,p≠W.b->H1 p=some o->H2 p=some o) (h:Bo W ρ σ H1 s o):Bo Wb ρb σb H2 s o:=by
 cases s with
 |emp=>trivial
 |sh x=>obtain⟨v,h1,h2⟩:=h;exact⟨v,h1,by rw[hb];exact h2.keep (i .cl) g⟩
 |fr x=>obtain⟨v,h1,h2⟩:=h;exact⟨v,h1,by rw[hb];exact h2.keep (i .fr) g⟩
 |own x =>
  obtain⟨p,h1,h2,w,n,u,l⟩:=h
  refine⟨p,h1,by rw[y];exact h2,by rw[r];exact w,by rw[hb];exact n,by rw[ha];exact u,?_⟩
  rw[hb]
  cases x with
  |lst xs=>obtain⟨vs,d,c⟩:=l;exact⟨vs,q p _ n d,c.keep (i .fr) g⟩
  |dT ks xs=>obtain⟨vs,d,j,c⟩:=l;exact⟨vs,q p _ n d,j,c.keep (i .fr) g⟩
  |fT ks xs=>obtain⟨vs,d,j,c⟩:=l;exact⟨vs,d.map λ_ e=>q p _ n e,j,c.keep (i .fr) g⟩
  |dK ks xs=>obtain⟨vs,d,j,c⟩:=l;exact⟨vs,q p _ n d,j,c.keep (i .fr) g⟩
  |_=>exact l.elim
theorem IH{s:S}(h:(C2 ρ qD)[i]?=some s):∃o,qD[i]?=some o/\s=(match o with|none=>.emp|some j=>(ρ[j]?).getD .emp):=by
 unfold C2 at h
 rw[getElem?_map]at h
 cases e:qD[i]? with
 |none=>rw[e]at h;cases h
 |some o=>rw[e]at h;exact⟨o,rfl,(oI h).symm⟩
theorem VU(d:FH qD){i':Nat}(h:qD[i]?=some (some j))(h':qD[i']?=some (some j)):i=i':=by
 have hi:i<qD.length:=by
  rcases Nat.lt_or_ge i qD.length with q|q
  ·exact q
  ·rw[getElem?_eq_none q]at h;cases h
 have a:i'<qD.length:=by
  rcases Nat.lt_or_ge i' qD.length with q|q
  ·exact q
  ·rw[getElem?_eq_none q]at h';cases h'
 rw[getElem?_eq_getElem hi]at h
 rw[getElem?_eq_getElem a]at h'
 have c:=pairwise_iff_getElem.mp d
 rcases Nat.lt_trichotomy i i' with q|q|q
 ·rcases c i i' hi a q with z|z
  ·rw[oI h]at z;cases z
  ·exact absurd ((oI h).trans (oI h').symm) z
 ·exact q
 ·rcases c i' i a hi q with z|z
  ·rw[oI h']at z;cases z
  ·exact absurd ((oI h').trans (oI h).symm) z
theorem II(h:qD[i]?=some (some j)):(L2.picked σ qD)[i]?=some ((σ[j]?).join):=by
 unfold L2.picked
 rw[getElem?_map,h]
 rfl
theorem Od(ok:Ok W ρ σ H)(h:Ac (C2 ρ qD) (L2.picked σ qD) p):Ac ρ σ p:=by
 obtain⟨i,x,h1,h2⟩:=h
 obtain⟨o,e,a⟩:=IH h1
 cases o with
 |none=>cases a
 |some j =>
  rw[II e]at h2
  dsimp only at a
  cases c:ρ[j]? with
  |none=>rw[c]at a;cases a
  |some s =>
   rw[c]at a
   cases a
   obtain⟨o,d,f⟩:=ok.slot j _ c
   rw[d]at h2
   exact⟨j,x,c,by rw[d];exact congrArg some (oI h2)⟩
abbrev Wd.blk(W:Wd)(ρ:List S)(σ:St)(D:Addr):Wd:={ W with O:=λp=>W.O p\/Ac ρ σ p\/p=D }
theorem VV(a:Ac ρb σb p->Ac ρ σ p\/H1 p=none)(c:H1 D=none)(h:AC (W.blk ρ σ D) ρb σb f p):AC W ρ σ f p\/H1 p=none:=by
 have k:Ow (W.blk ρ σ D) ρb σb p->Ow W ρ σ p\/H1 p=none:=λz=>by
  rcases z with(z|z|z)|z
  ·exact .inl (.inl z)
  ·exact .inl (.inr z)
  ·subst z;exact .inr c
  ·exact(a z).elim (λz=>.inl (.inr z)) .inr
 cases f<;>simp only[AC]at h ⊢
 ·rcases h with h|h|h
  ·exact .inl (.inl h)
  ·exact(k h).elim (λz=>.inl (.inr (.inl z))) .inr
  ·exact .inl (.inr (.inr h))
 ·rcases h with h|h|h
  ·exact .inl (.inl h)
  ·exact(k h).elim (λz=>.inl (.inr (.inl z))) .inr
  ·exact .inl (.inr (.inr h))
 ·rcases h with h|h
  ·exact .inl (.inl h)
  ·exact(k h).elim (λz=>.inl (.inr z)) .inr
 ·rcases h with h|h|h
  ·exact .inl (.inl h)
  ·exact(k h).elim (λz=>.inl (.inr (.inl z))) .inr
  ·exact .inl (.inr (.inr h))
 ·exact .inl h
 ·exact .inl h
theorem VW{l:List V}(ok:Ok W ρ σ H1)(w:FH qD)(r:H1 D=none)(st:Step W.b W.a H1 H2)(e:H2 D=some (.lst l)):Ok (W.blk ρ σ D) (C2 ρ qD) (L2.picked σ qD) H2 where
 bag:=st.bag
 fb:=ok.fb
 old:=λp o w e=>st.same p o w (ok.old p o w e)
 frm:=λp o e=>st.same p o (λz=>by rw[z,ok.fb]at e;cases e) (ok.frm p o e)
 oo:=λp h=>by
  have k:Ow W ρ σ p->W.H₀ p=none/\W.F p=none/\p≠W.b/\p≠W.a/\∃o,H2 p=some o/\∀ys,o≠.tup ys:=λz=>by
   obtain⟨v,E,I,Q,o,O,N⟩:=ok.ow z
   exact⟨v,E,I,Q,o,st.same p o I O,N⟩
  rcases h with h|h|h
  ·exact k (.inl h)
  ·exact k (.inr h)
  ·subst h
   have nb:=ok.bag.nb r
   refine⟨?_,?_,nb,ok.bag.na r,_,e,λ_ z=>nomatch z⟩
   ·cases q:W.H₀ p with
    |none=>rfl
    |some o=>rw[ok.old p o nb q]at r;cases r
   ·cases q:W.F p with
    |none=>rfl
    |some o=>rw[ok.frm p o q]at r;cases r
 len:=by simp[L2.picked,C2]
 slot:=λi s h=>by
  obtain⟨o,C,c⟩:=IH h
  cases o with
  |none =>
   dsimp only at c
   subst c
   refine⟨none,?_,trivial⟩
   unfold L2.picked
   rw[getElem?_map,C]
   rfl
  |some j =>
   dsimp only at c
   refine⟨_,II C,?_⟩
   cases n:ρ[j]? with
   |none=>rw[n]at c;subst c;trivial
   |some s' =>
    rw[n]at c
    have c:s=s':=c
    subst c
    obtain⟨o,v,E⟩:=ok.slot j _ n
    rw[v]
    show Bo _ _ _ _ s o
    refine Bo.mv (W:=W) (Wb:=W.blk ρ σ D) (ρ:=ρ) (σ:=σ) rfl rfl rfl rfl (λf p u J M=>⟨λz=>?_,st.same p u (λz=>J (z▸AC.b)) M⟩) (λp us e=>st.same p _ (ok.bag.neT e).1 e) (λp o w e=>st.same p o w e) E
    rcases VV (H1:=H1) (λz=>.inl (Od ok z)) r z with z|z
    ·exact J z
    ·rw[M]at z;cases z
 uniq:=λi Y x y h1 h2 L=>by
  obtain⟨o,C,c⟩:=IH h1
  obtain⟨o',B,d⟩:=IH h2
  cases o with
  |none=>cases c
  |some j =>
   cases o' with
   |none=>cases d
   |some G =>
    dsimp only at c d
    cases n:ρ[j]? with
    |none=>rw[n]at c;cases c
    |some s =>
     cases g:ρ[G]? with
     |none=>rw[g]at d;cases d
     |some s' =>
      rw[n]at c;rw[g]at d
      cases c;cases d
      obtain⟨o,v,E⟩:=ok.slot j _ n
      obtain⟨o',A,T⟩:=ok.slot G _ g
      rw[II C,II B,v,A]at L
      have U:o=o':=oI L
      subst U
      have:=ok.uniq j G x y n g (by rw[v,A])
      subst this
      exact VU w C B
theorem VX{h g:Fl}{i:Hp}(ok:Ok (W.blk ρ σ D) ρ' σ' H2)(c:g=.nw\/g=.cl)(r:RF (W.blk ρ σ D) ρ' σ' i h H2 y v)(n:(A2 y h).join g=g):Rp W.b (λq=>AC W ρ σ g q\/q=D) H2 y v:=by
 obtain⟨l,j,d⟩:=Ka ok r
 have hi:A2 y h=.nw\/A2 y h=.cl:=by
  rcases c with rfl|rfl<;>cases e:A2 y h<;>simp_all [Fl.join]
 refine d.keep (λq o f e=>⟨λz=>f ?_,e⟩) λq us e=>e
 have ow:(Ow W ρ σ q\/q=D)->Ow (W.blk ρ σ D) ρ' σ' q:=λz=>.inl (z.elim (λz=>z.elim .inl λz=>.inr (.inl z)) λz=>.inr (.inr z))
 rcases c with rfl|rfl
 ·have a:A2 y h=.nw:=by rcases hi with z|z<;>simp_all [Fl.join]
  rw[a]
  simp only[AC]at z ⊢
  rcases z with(z|z|z)|z
  ·exact .inl z
  ·exact .inr (.inl (ow (.inl z)))
  ·exact .inr (.inr z)
  ·exact .inr (.inl (ow (.inr z)))
 ·rcases hi with z'|z'<;>rw[z']<;>simp only[AC]at z ⊢
  ·rcases z with(z|z)|z
   ·exact .inl z
   ·exact .inr (.inl (ow (.inl z)))
   ·exact .inr (.inl (ow (.inr z)))
  ·rcases z with(z|z)|z
   ·exact .inl z
   ·exact .inr (ow (.inl z))
   ·exact .inr (ow (.inr z))
theorem Km{pi:pI}{pt:pT}(hp:FH qD)(hi:Kl wi pi)(hg:GQ g pg)(ht:GK tt pt)(he:A6 te pe):A6 (E6 wi qD g tt te) (GZ pi qD pg pt pe):=by
 intro W ρ σ H Q K ok hk q
 refine hi W ρ σ H _ _ ok hk λxs f _ J H1 ⟨a5,a7,G,I,a1,h0,U,a2⟩ s1 jC _=>?_
 have d:=ok.step s1
 have a0:∀{D H2},H1 D=none->Step W.b W.a H1 H2->∀{o},Step W.b W.a H1 (AD H2 D o):=λ{D H2} r s {o}=>⟨s.bag.put (d.bag.nb r) (d.bag.na r),λp u hp e=>by rw[AL (A3 e r)];exact s.same p u hp e⟩
 intro D r
 refine⟨λi m ys H2=>m=xs.length - i/\i<=xs.length/\∃ps,I i ps/\H2 D=some (.lst ys)/\AB W.b (λq=>AC W ρ σ G q\/q=D) H2 ps ys/\Step W.b W.a H1 H2/\ps.length<=i,⟨xs.length,by simp,Nat.zero_le _,[],h0,Af,rfl,a0 r (Step.refl d.bag),Nat.le_refl _⟩,?_⟩
 rintro i m ys H2 ⟨rfl,hi,ps,hI,L,B,s2,a9⟩
 refine⟨L,?_⟩
 have N:=d.step s2
 have a4:=d.bag.nb r
 have a8:=d.bag.na r
 obtain⟨j1,j2,j3⟩:=jC (λp=>W.O p\/p=D) ρ σ H2 ⟨λp z=>z.elim .inl λz=>.inr (z▸r),rfl,rfl,N,s2⟩ i
 by_cases Y:i<xs.length
 ·refine .inr ⟨j1 Y,λzs H'=>∃ps,I (i+1) ps/\H' D=some (.lst zs)/\AB W.b (λq=>AC W ρ σ G q\/q=D) H' ps zs/\Step W.b W.a H1 H'/\ps.length<=i+1,λzs H' ⟨ps,z⟩=>⟨xs.length - (i+1),by lia,rfl,Y,ps,z⟩,λv H3 y=>?_⟩
  have hx:xs[i]?=some xs[i]:=by simp[Y]
  obtain⟨y1,y2⟩:=j3 v H3 y _ hx
  have a3:=VW d hp r s2 L
  have y3:RF (W.blk ρ σ D) (C2 ρ qD) (L2.picked σ qD) H2 f H3 xs[i] v:=by
   have sub:∀{f:Fl} {q:Addr},AC (W.blk ρ σ D) (C2 ρ qD) (L2.picked σ qD) f q->AC { W with O:=λp=>W.O p\/p=D } ρ σ f q:=λ{f q} z=>by
    have k:Ow (W.blk ρ σ D) (C2 ρ qD) (L2.picked σ qD) q->Ow { W with O:=λp=>W.O p\/p=D } ρ σ q:=λz=>by
     rcases z with(z|z|z)|z
     ·exact .inl (.inl z)
     ·exact .inr z
     ·exact .inl (.inr z)
     ·exact .inr (Od d z)
    cases f<;>simp only[AC]at z ⊢
    ·exact z.elim .inl λz=>.inr (z.elim (λz=>.inl (k z)) .inr)
    ·exact z.elim .inl λz=>.inr (z.elim (λz=>.inl (k z)) .inr)
    ·exact z.elim .inl λz=>.inr (k z)
    ·exact z.elim .inl λz=>.inr (z.elim (λz=>.inl (k z)) .inr)
    ·exact z
    ·exact z
   have kp:∀{f:Fl},Rp W.b (AC { W with O:=λp=>W.O p\/p=D } ρ σ f) H3 xs[i] v->Rp W.b (AC (W.blk ρ σ D) (C2 ρ qD) (L2.picked σ qD) f) H3 xs[i] v:=λ{f} h=>h.keep (λq o l e=>⟨λz=>l (sub z),e⟩) λq us e=>e
   cases f with
   |bo=>exact absurd rfl a5
   |nw=>exact⟨kp (f:=.fr) y2.1,y2.2⟩
   |fr=>exact kp (f:=.fr) y2
   |cl=>exact kp (f:=.cl) y2
   |rf=>exact kp (f:=.rf) y2
   |an=>exact kp (f:=.an) y2
  have j:∀{n w:Hp},Step W.b W.a n w->n D=some (.lst ys)->w D=some (.lst ys):=λs e=>s.same D _ a4 e
  have T:∀{n w:Hp} {o:HO},Bag n W.b W.a->n D=some (.lst ys)->Step W.b W.a n w->AB W.b (λq=>AC W ρ σ G q\/q=D) n ps ys->AB W.b (λq=>AC W ρ σ G q\/q=D) (AD w D o) ps ys:=λ{n w o} hb a6 s h =>
   h.keep (λq u l e=>⟨l,by rw[AL (λz=>l (.inr z))];exact s.same q u (λz=>l (.inl (z▸AC.b))) e⟩) λq us e=>by
    rw[AL (λz=>by rw[z,a6]at e;cases e)]
    exact s.same q _ (hb.neT e).1 e
  have C:∀{n w:Hp},Bag n W.b W.a->Step W.b W.a n w->AB W.b (λq=>AC W ρ σ G q\/q=D) n ps ys->AB W.b (λq=>AC W ρ σ G q\/q=D) w ps ys:=λ{n w} hb s h =>
   h.keep (λq u l e=>⟨l,s.same q u (λz=>l (.inl (z▸AC.b))) e⟩) λq us e=>s.same q _ (hb.neT e).1 e
  refine hg (W.blk ρ σ D) _ _ H2 H3 _ f v _ _ a3 y1 y3 (U i _ ps hx hI) λρ4 σ4 k4 M=>?_
  refine ht (W.blk ρ σ D) ρ4 σ4 H3 _ _ M k4 λc H5 k5 s5=>?_
  have A:=y1.trans s5
  cases c with
  |false=>exact⟨ps,k5,j A L,C N.bag A B,s2.trans A,by lia⟩
  |true =>
   refine he (W.blk ρ σ D) ρ4 σ4 H5 _ _ (M.step s5) k5 λy h u H6 ⟨k6,k7⟩ s6 r6=>?_
   have x:=A.trans s6
   refine⟨j x L,?_,ps++[y],k7,Af,?_,a0 r (s2.trans x),by rw[length_append];simp;lia⟩
   ·have:=B.length
    have aa:sizeLine=16777216:=rfl
    lia
   ·refine(T N.bag L x B).snoc ?_
    have r7:=VX (D:=D) (M.step (s5.trans s6)) a1 r6 k6
    refine r7.keep (λq u l e=>⟨l,by rw[AL (λz=>l (.inr z))];exact e⟩) λq us e=>by
     rw[AL (λz=>by rw[z,j x L]at e;cases e)]
     exact e
 ·have e:i=xs.length:=by lia
  subst e
  refine .inl ⟨j2 (Nat.le_refl _),q _ G _ H2 (a2 ps hI) (s1.trans s2) ?_⟩
  have nz:∀g,¬AC W ρ σ g D:=λg z=>d.dom z r
  have E:AB W.b (AC W ρ σ G) H2 ps ys:=B.keep (λq o l e=>⟨λz=>l (.inl z),e⟩) λq us e=>e
  rcases a1 with rfl|rfl
  ·exact⟨⟨D,ys,rfl,nz .fr,L,E⟩,λ_=>⟨D,rfl,s1.free r⟩⟩
  ·exact⟨D,ys,rfl,nz .cl,L,E⟩
end
section
variable{ι:Type}{Xs:ι->Cx}{pi:pI}{pt:pT}
abbrev FI(Xs:ι->Cx)(N':List Str)(scope:Scope):ι×CompP->Cx:=λq=>(Xs q.1).comp N' scope q.2
def Ga(Xs:ι->Cx)(qD:List (Option Nat))(tg:Expr)(p:pG):Prop:=∃g,(∀i,PG (Xs i) tg g)/\GQ g p/\Dz qD g
def Gb(Xs:ι->Cx)(ifs:List Expr)(p:pT):Prop:=∃t,(∀i,Dy (Xs i) ifs t)/\GK t p
def Oe:pT:=λ_ K=>K true
theorem CH:Gb Xs [] Oe:=⟨_,λ_=>Nl,λW ρ σ H Q K ok h q=>q true H h (Step.refl ok.bag)⟩
theorem Ea(h:QT Xs c pt):Gb Xs [c] pt:=let⟨t,h1,h2⟩:=h;⟨t,λi=>UY (h1 i),h2⟩
theorem CN{k:Nat}(c:qD[k]?=some none)(e:∀i,(Xs i).N.Nodup)(hi:∀i,(Xs i).N[k]?=some x:=by intro _;rfl)(a:∀i,Bu (Xs i).env.scope x:=by intro _;trivial)
  (d:∀i,(Xs i).fn x=true\/(Xs i).env.scope.names.lookup x=some .local:=by intro _;trivial):Ga Xs qD (.Name x pos) (BL k):=⟨_,λi=>A1 (e i) (hi i) (a i) (d i),OR k,Nm c⟩
theorem D2{k1:Nat}(d:qD[i]?=some none)(c:qD[j]?=some none)(f:∀i,(Xs i).calm=true)(g:∀i,(Xs i).K=Kf)(h:∀q,EK (Xs q) es (C0 [i,j]))
  (e:∀i,(assignEach es (Xs i).env).length=2:=by intro _;rfl) (a:∀i,(assignEach es (Xs i).env).findIdx? (·.1)=none:=by intro _;rfl):Ga Xs qD (.Tuple es k1 pos) (EY [i,j]) :=
 ⟨EL Kf 2 (C0 [i,j]),λi=>by have:=Jy (k:=k1) (pos:=pos) (f i) (h i) (e i) (a i);rw[g i]at this;exact this,OT rfl,Ua d c⟩
theorem Bw(S:CompScope N sc N' qD scope)(l:FH qD)(q:∀i,(Xs i).calm=true)(hi:QI Xs tg iter pi)(n:Ga (FI Xs N' scope) qD tg pg)(h:Gb (FI Xs N' scope) ifs pt)(o:QE (FI Xs N' scope) elt pe)
  (r:∀i,(Xs i).N=N:=by intro _;rfl) (a:∀i,(Xs i).env.scope=sc:=by intro _;rfl) (j:∀i,∀x,foldedSetIterable iter (Xs i).env x=pure x:=by intro _ _;rfl) :
  QE Xs (.ListComp elt [⟨tg,iter,ifs,0⟩] scope pos) (GZ pi qD pg pt pe):=by
 obtain⟨wi,f,e⟩:=hi
 obtain⟨g,v,u,s⟩:=n
 obtain⟨tt,d,c⟩:=h
 obtain⟨te,y,w⟩:=o
 exact⟨_,λi=>Nr S (q i) (f i) s (λp=>v (i,p)) (λp=>d (i,p)) (λp=>y (i,p)) (r i) (a i) (j i),Km l e u c w⟩
theorem IJ{k:Nat}{f:Pos}(d:∀i,(Xs i).N.Nodup)(S:CompScope N sc N' qD scope)(s:FH qD)(y:∀i,(Xs i).calm=true)(hi:QI Xs tg iter pi)(u:Ga (FI Xs N' scope) qD tg pg)(q:Gb (FI Xs N' scope) ifs pt)(w:QE (FI Xs N' scope) elt pe)
  (e:∀i,(Xs i).N[k]?=some x:=by intro _;rfl) (o:∀i,Bu (Xs i).env.scope x:=by intro _;trivial)
  (z:∀i,(Xs i).N=N:=by intro _;rfl) (c:∀i,(Xs i).env.scope=sc:=by intro _;rfl)
  (a:∀i,swapsWith (.ListComp elt [⟨tg,iter,ifs,0⟩] scope pos) (some (.Name x pos')) f.line (Xs i).env=pure true:=by intro _;rfl) (r:∀i,∀x,foldedSetIterable iter (Xs i).env x=pure x:=by intro _ _;rfl)
  (v:∀i,(Xs i).fn x=true\/(Xs i).env.scope.names.lookup x=some .local:=by intro _;trivial) :
  QS Xs (.Assign [.Name x pos'] (.ListComp elt [⟨tg,iter,ifs,0⟩] scope pos) f) (GP (GZ pi qD pg pt pe) k):=by
 obtain⟨wi,n,l⟩:=hi
 obtain⟨g,C,B,A⟩:=u
 obtain⟨tt,j,h⟩:=q
 obtain⟨te,E,D⟩:=w
 exact⟨_,λi=>Ue S (d i) (e i) (o i) (y i) (n i) A (λp=>C (i,p)) (λp=>j (i,p)) (λp=>E (i,p)) (z i) (c i) (a i) (r i) (v i),Kj (Km s l B h D)⟩
end
theorem Og{h:Fl}(hi:y.imm=true):A2 y h=.nw:=by cases h<;>simp[A2,hi]
section
variable{α:Type}{as:List α}{enc:α->P}{step:P->(Option (P×Fl)->Prop)->Prop}{K:P->Fl->Prop}
theorem Oh{x:P}(h:(as.map enc)[i]?=some x):∃a,as[i]?=some a/\a∈as/\x=enc a/\as.take (i+1)=as.take i++[a]:=by
 rw[getElem?_map]at h
 cases c:as[i]? with
 |none=>rw[c]at h;cases h
 |some a =>
  rw[c]at h
  exact⟨a,rfl,mem_of_getElem? c,(oI h).symm,by rw[take_add_one,c];rfl⟩
theorem A7.filter(t:α->Bool)(g:α->P)(hi:∀a∈as,t a=true->(g a).imm=true)(j:∀a∈as,∀M:Option (P×Fl)->Prop,(∀h,M (if t a=true then some (g a,h)else none))->step (enc a) M)(l:K (.lst ((as.filter t).map g)) .nw):A7 (as.map enc) step K:=by
 refine⟨.nw,λi ys=>ys=((as.take i).filter t).map g,.inl rfl,rfl,λi x ys d c=>?_,λys c=>?_⟩
 ·obtain⟨a,_,hm,rfl,f⟩:=Oh d
  subst c
  refine j a hm _ λh=>?_
  have key:((as.take (i+1)).filter t).map g=((as.take i).filter t).map g++if t a=true then [g a]else []:=by
   rw[f,filter_append,map_append]
   cases e:t a<;>simp[e]
  cases e:t a
  ·show((as.take i).filter t).map g=((as.take (i+1)).filter t).map g
   rw[key,e];simp
  ·refine⟨by rw[Og (hi a hm e)];rfl,?_⟩
   show((as.take i).filter t).map g++[g a]=((as.take (i+1)).filter t).map g
   rw[key,e];simp
 ·rw[length_map,take_length]at c
  subst c
  exact l
theorem A7.map(g:α->P)(hi:∀a∈as,(g a).imm=true)(c:∀a∈as,∀M:Option (P×Fl)->Prop,(∀h,M (some (g a,h)))->step (enc a) M)(d:K (.lst (as.map g)) .nw):A7 (as.map enc) step K :=
 A7.filter (λ_=>true) g (λa m _=>hi a m) (λa m M h=>c a m M h) (by rw[filter_eq_self.mpr λ_ _=>rfl];exact d)
inductive Each{α β:Type}(R:α->β->Prop):List α->List β->Prop where
 |nil:Each R [] []
 |cons {a b as bs}:R a b->Each R as bs->Each R (a::as) (b::bs)
theorem Each.snoc{β:Type}{R:α->β->Prop}{a:α}{b:β}(h:R a b):∀{as:List α} {bs:List β},Each R as bs->Each R (as++[a]) (bs++[b])
 |_,_,.nil=>.cons h .nil
 |_,_,.cons r t=>.cons r (Each.snoc h t)
theorem Each.length{β:Type}{R:α->β->Prop}:∀{as:List α} {bs:List β},Each R as bs->as.length=bs.length
 |_,_,.nil=>rfl
 |_,_,.cons _ t=>by rw[length_cons,length_cons,Each.length t]
theorem Each.mem{β:Type}{R:α->β->Prop}:∀{as:List α} {bs:List β},Each R as bs->∀b∈bs,∃a∈as,R a b
 |_,_,.nil,b,h=>by cases h
 |_,_,.cons r t,b,h=>by
  rcases mem_cons.mp h with rfl|h
  ·exact⟨_,mem_cons_self,r⟩
  ·obtain⟨a,h1,h2⟩:=Each.mem t b h
   exact⟨a,mem_cons_of_mem _ h1,h2⟩
theorem A7.rel{β:Type}(g:β->P)(R:α->β->Prop)(j:∀a∈as,∀M:Option (P×Fl)->Prop,(∀b h,R a b->M (some (g b,h)))->step (enc a) M)(n:∀b,(g b).imm=true)(o:∀bs,Each R as bs->K (.lst (bs.map g)) .nw):A7 (as.map enc) step K:=by
 refine⟨.nw,λi ys=>∃bs,ys=bs.map g/\Each R (as.take i) bs,.inl rfl,⟨[],rfl,.nil⟩,λi x ys e c=>?_,λys c=>?_⟩
 ·obtain⟨a,_,hm,rfl,f⟩:=Oh e
  obtain⟨bs,rfl,d⟩:=c
  refine j a hm _ λb h l=>⟨by rw[Og (n b)];rfl,bs++[b],by simp,?_⟩
  rw[f]
  exact d.snoc l
 ·obtain⟨bs,rfl,d⟩:=c
  rw[length_map,take_length]at d
  exact o bs d
end
def CO(C:Int->Int->Prop)(g:Int->Int->P):p2:=λx _ y _ K=>match x,y with
 |.int i,.int j=>C i j/\K (g i j) .fr
 |_,_=>False
abbrev CT:Int->Int->Prop:=λ_ _=>True
def As:P->Option V
 |.non=>some .non|.bl k=>some (.bl k)|.int i=>some (.int i)|.str x=>some (.str x)|_=>none
theorem Oi{x:P}(h:As x=some v):RF W ρ σ Hs .fr H x v:=by
 cases x<;>simp only[As]at h<;>first|(cases h;rfl)|cases h
section
variable{C:Int->Int->Prop}{g:Int->Int->V}{gp:Int->Int->P}
theorem IK(e:∀i j,As (gp i j)=some (g i j)):A9 (rI C g) (CO C gp):=λW ρ σ Hs H Q K x y f h v u ok st d c a q=>by
 unfold CO at a
 split at a
 ·cases B3 ok d
  cases B3 ok c
  exact⟨_,_,rfl,rfl,a.1,q _ _ _ H a.2 (Step.refl ok.bag) (Oi (e _ _))⟩
 ·exact a.elim
theorem Gc(e:∀i j,As (gp i j)=some (g i j)):A9 (B6 g) (CO CT gp):=λW ρ σ Hs H Q K x y f h v u ok st d c a q=>by
 unfold CO at a
 split at a
 ·cases B3 ok d
  cases B3 ok c
  exact⟨_,_,rfl,rfl,q _ _ _ H a.2 (Step.refl ok.bag) (Oi (e _ _))⟩
 ·exact a.elim
end
abbrev VY:p2:=CO CT λi j=>.int (i+j)
abbrev VZ:p2:=CO Du λi j=>.int (i * j)
abbrev Va:p2:=CO (λ_ j=>0<j) λi j=>.int (i % j)
abbrev Vb:p2:=CO Hg λi j=>.int (i ^ j.toNat)
abbrev Vc:p2:=CO (λ_ j=>0<=j) λi j=>.int (i / 2 ^ j.toNat)
abbrev Vd:p2:=CO CT λi j=>.bl (decide (i<j))
abbrev Ve:p2:=CO CT λi j=>.bl (decide (i<=j))
abbrev Vf:p2:=CO CT λi j=>.bl (decide (j<i))
abbrev Vg:p2:=CO CT λi j=>.bl (decide (j<=i))
theorem Eb:A9 (B6 λi j=>.int (i+j)) VY:=Gc λ_ _=>rfl
theorem Vh:A9 (rI Du λi j=>.int (i * j)) VZ:=IK λ_ _=>rfl
theorem Vi:A9 (rI (λ_ j=>0<j) λi j=>.int (i % j)) Va:=IK λ_ _=>rfl
theorem Vj:A9 (rI Hg λi j=>.int (i ^ j.toNat)) Vb:=IK λ_ _=>rfl
theorem Vk:A9 (rI (λ_ j=>0<=j) λi j=>.int (i / 2 ^ j.toNat)) Vc:=IK λ_ _=>rfl
theorem Oj:A9 (B6 λi j=>.bl (decide (i<j))) Vd:=Gc λ_ _=>rfl
theorem Ol:A9 (B6 λi j=>.bl (decide (i<=j))) Ve:=Gc λ_ _=>rfl
theorem Vl:A9 (B6 λi j=>.bl (decide (j<i))) Vf:=Gc λ_ _=>rfl
theorem Om:A9 (B6 λi j=>.bl (decide (j<=i))) Vg:=Gc λ_ _=>rfl
section
variable{ι:Type}{Xs:ι->Cx}{a b:Expr}{pa pb:pE}
end
abbrev ST:Str->Str->Prop:=λ_ _=>True
def P.isNon:P->Bool
 |.non=>true|_=>false
def Oo:p2:=λx _ y _ K=>y=.non/\K (.bl (!x.isNon)) .fr
theorem Vm{b:Addr}{x:P}(h:Rp b Z H x v):decide (v=.non)=x.isNon:=by
 cases x with
 |non=>rw[show v=_ from h];rfl
 |bl k=>rw[show v=_ from h];rfl
 |int k=>rw[show v=_ from h];rfl
 |str k=>rw[show v=_ from h];rfl
 |bag=>rw[show v=_ from h];rfl
 |tup xs=>obtain⟨p,vs,e,_⟩:=h;rw[e];rfl
 |lst xs=>obtain⟨p,vs,e,_⟩:=h;rw[e];rfl
 |dT ks xs=>obtain⟨p,vs,e,_⟩:=h;rw[e];rfl
 |fT ks xs=>obtain⟨p,vs,e,_⟩:=h;rw[e];rfl
 |dK ks xs=>obtain⟨p,vs,e,_⟩:=h;rw[e];rfl
theorem Vn:A9 (λx y H Q=>y=.non/\Q (.bl (!decide (x=.non))) H) Oo:=λW ρ σ Hs H Q K x y f h v u ok st d c a q=>by
 obtain⟨rfl,a⟩:=a
 refine⟨c.any ok,?_⟩
 rw[Vm (d.any ok)]
 exact q _ _ _ H a (Step.refl ok.bag) Cz
def Kn:p2:=λx f y _ K=>match x,y with
 |.lst xs,.int i=>∃z,atI xs i=some z/\K z f.el
 |.tup xs,.int i=>∃z,atI xs i=some z/\K z f.el
 |.str z,.int i=>z.length<=16777216/\∃c,atI z.cps.toList i=some c/\K (.str ⟨#[c]⟩) .fr
 |_,_=>False
theorem AB.atI{b:Addr}{i:Int}{z:P}(h:AB b Z H xs vs)(e:L2.atI xs i=some z):∃v,L2.atI vs i=some v/\Rp b Z H z v:=by
 unfold L2.atI at e ⊢
 rw[h.length]at e
 cases a:Cf vs.length i with
 |none=>rw[a]at e;cases e
 |some j =>
  rw[a]at e
  exact h.get (i:=j) e
def Op:R2:=λx y H Q=>(∃p i xs,x=.ref p/\y=.int i/\(H p=some (.lst xs)\/H p=some (.tup xs))/\∃v,atI xs i=some v/\Q v H)\/NP x y H Q
theorem BE:ES X Op:=λvalue a qA s σ H x y v u Q I d c h e=>by
 rcases h with⟨p,i,xs,j,g,h,w,f,q⟩|h
 ·rcases h with h|h
  ·exact NQ value a qA s σ H x y v u Q I d c ⟨p,xs,i,w,j,g,.of h,f,q⟩ e
  ·exact T0 value a qA s σ H x y v u Q I d c ⟨p,xs,i,w,j,g,.of h,f,q⟩ e
 ·exact J9 value a qA s σ H x y v u Q I d c h e
theorem BF:A9 Op Kn:=λW ρ σ Hs H Q K x y f h v u ok st i g a q=>by
 unfold Kn at a
 split at a
 ·obtain⟨z,e,d⟩:=a
  cases B3 ok g
  obtain⟨p,vs,rfl,l,r⟩:=i.items rfl
  obtain⟨w,n,j⟩:=r.atI e
  exact .inl ⟨p,_,vs,rfl,rfl,l,w,n,q _ _ _ H d (Step.refl ok.bag) (RF.ofEl j)⟩
 ·obtain⟨z,e,d⟩:=a
  cases B3 ok g
  obtain⟨p,vs,rfl,l,r⟩:=i.items rfl
  obtain⟨w,n,j⟩:=r.atI e
  exact .inl ⟨p,_,vs,rfl,rfl,l,w,n,q _ _ _ H d (Step.refl ok.bag) (RF.ofEl j)⟩
 ·obtain⟨o,c,e,d⟩:=a
  cases B3 ok g
  cases EU ok i
  exact .inr ⟨_,_,c,rfl,rfl,o,e,q _ _ _ H d (Step.refl ok.bag) OJ⟩
 ·exact a.elim
def Ko:p2:=λx f y g K=>match x,y with
 |.lst xs,.lst ys=>xs.length+ys.length<=16777216/\K (.lst (xs++ys)) ((Bk f xs).join (Bk g ys))
 |.tup xs,.tup ys=>(P.imms xs=true/\P.imms ys=true)/\xs.length+ys.length<=16777216/\K (.tup (xs++ys)) .fr
 |_,_=>False
def Oq:R2:=λx y H Q=>(∃p q xs ys,x=.ref p/\y=.ref q/\H p=some (.lst xs)/\H q=some (.lst ys)/\xs.length+ys.length<=sizeLine/\∀l,H l=none->Q (.ref l) (AD H l (.lst (xs++ys)))) \/
 (∃p q xs ys,x=.ref p/\y=.ref q/\H p=some (.tup xs)/\H q=some (.tup ys)/\xs.length+ys.length<=sizeLine/\(xs=[]->Q (.ref q) H)/\(xs≠[]->ys=[]->Q (.ref p) H)/\(xs≠[]->ys≠[]->∀l,H l=none->Q (.ref l) (AD H l (.tup (xs++ys)))))
theorem Gd:Av X (binaryOp .Add) Oq:=by
 intro qA s σ H x y v u Q I l j h
 rcases h with⟨p,q,xs,ys,g,f,h1,h2,o,k⟩|⟨p,q,xs,ys,g,f,h1,h2,o,k0,k1,k2⟩
 ·exact UC qA s σ H x y v u Q I l j ⟨p,q,xs,ys,g,f,h1,h2,o,k⟩
 ·by_cases e:xs=[]
  ·subst g;subst f;subst e
   cases l;cases j
   obtain⟨qH,E,p1,_⟩:=I.tuple (.of h1)
   obtain⟨a,L,p2,_⟩:=I.tuple (.of h2)
   cases E
   obtain⟨⟨J,dd,B,D⟩,w,A,n,z⟩:=id p1
   obtain⟨⟨C,r,data2,i⟩,c,d,G,B4⟩:=id p2
   simp only at A z d B4
   subst A z d B4
   exact concat_meets ⟨_,w,rfl⟩ ⟨_,c,rfl⟩ noFill_tuple_add seq_tuple_add PySem.F.slot_tuple_add PySem.F.entry_tuple_add (PySem.F.args_tuple_add_2 _ _)
    (tuple_addW0 p q #[] a.toArray n G dd r D i rfl) ⟨w,c,.ref q,H,I,rfl,k0 rfl⟩
  ·exact Tw qA s σ H x y v u Q I l j ⟨p,q,xs,ys,g,f,.of h1,.of h2,e,o,k1 e,k2 e⟩
theorem Os(h:AB W.b (AC W ρ σ f) H xs vs):Bk f xs≠.bo/\Bk f xs≠.fr/\AB W.b (AC W ρ σ (Bk f xs)) H xs vs:=by
 unfold Bk
 split
 ·exact⟨by simp,by simp,h.imm ‹_›⟩
 ·cases f<;>exact⟨by simp[Fl.top],by simp[Fl.top],h⟩
theorem CI(ok:Ok W ρ σ H)(r:RF W ρ σ Hs f H (.lst xs) v):∃p vs,v=.ref p/\H p=some (.lst vs)/\AB W.b (AC W ρ σ f) H xs vs:=by
 obtain⟨p,vs,rfl,hc,a⟩:=r.items rfl
 obtain⟨q,us,d,_,c,_⟩:=r.any ok
 cases d
 rcases hc with hc|hc
 ·exact⟨p,vs,rfl,hc,a⟩
 ·rw[c]at hc;cases hc
theorem DN(ok:Ok W ρ σ H)(r:RF W ρ σ Hs f H (.tup xs) v):∃p vs,v=.ref p/\H p=some (.tup vs)/\AB W.b (AC W ρ σ f) H xs vs:=by
 obtain⟨p,vs,rfl,hc,a⟩:=r.items rfl
 obtain⟨q,us,d,c,_⟩:=r.any ok
 cases d
 rcases hc with hc|hc
 ·rw[c]at hc;cases hc
 ·exact⟨p,vs,rfl,hc,a⟩
theorem Ec{g:Fl}(ok:Ok W ρ σ H)(st:Step W.b W.a Hs H)(f:g≠.bo)(d:g≠.fr)(h:AB W.b (AC W ρ σ g) H xs vs)(i:H p=none):RF W ρ σ Hs g (AD H p (.lst vs)) (.lst xs) (.ref p):=by
 have:=RF.newL ok st h i
 unfold Bk at this
 split at this
 ·rename_i hi
  cases g with
  |bo=>exact absurd rfl f
  |fr=>exact absurd rfl d
  |nw=>exact this
  |cl=>exact this.1.keep (λq o c e=>⟨λz=>c (z.elim .inl λz=>.inr (.inl z)),e⟩) λq us e=>e
  |rf=>exact this.1.keep (λq o c e=>⟨λz=>c (z.elim .inl λz=>.inr (.inr z)),e⟩) λq us e=>e
  |an=>exact this.1.keep (λq o c e=>⟨λz=>c (.inl z),e⟩) λq us e=>e
 ·rw[RF.topped f d]at this;exact this
theorem Gf:A9 Oq Ko:=λW ρ σ Hs H Q K x y f h v u ok st w s g q=>by
 unfold Ko at g
 split at g
 ·obtain⟨d,j⟩:=g
  obtain⟨p,vs,rfl,r,c⟩:=CI ok w
  obtain⟨p2,vs2,rfl,n,a⟩:=CI ok s
  obtain⟨G,E,c⟩:=Os c
  obtain⟨D,C,a⟩:=Os a
  have B:=N8 (W:=W) (ρ:=ρ) (σ:=σ) G E D C
  have A:=Kb G E D C
  refine .inl ⟨p,p2,vs,vs2,rfl,rfl,r,n,by rw[<-c.length,<-a.length];exact d,λl i=>q _ _ _ _ j (Step.new ok.bag i) ?_⟩
  exact Ec ok st A.1 A.2 ((c.keep (λq o d e=>⟨λz=>d (B q z).1,e⟩) λq us e=>e).app (a.keep (λq o d e=>⟨λz=>d (B q z).2,e⟩) λq us e=>e)) i
 ·obtain⟨⟨J,I⟩,d,j⟩:=g
  obtain⟨p,vs,rfl,r,c⟩:=DN ok w
  obtain⟨p2,vs2,rfl,n,a⟩:=DN ok s
  have l1:=c.length
  have l2:=a.length
  have c:AB W.b (Zf W ρ σ) H _ vs:=c.imm J
  have a:AB W.b (Zf W ρ σ) H _ vs2:=a.imm I
  refine .inr ⟨p,p2,vs,vs2,rfl,rfl,r,n,by rw[<-l1,<-l2];exact d,λe=>?_,λe L=>?_,λ_ _ l i=>?_⟩
  ·subst e
   refine q _ _ _ _ j (Step.refl ok.bag) ?_
   rw[length_eq_zero_iff.mp l1,nil_append]
   exact⟨p2,vs2,rfl,n,a⟩
  ·subst L
   refine q _ _ _ _ j (Step.refl ok.bag) ?_
   rw[length_eq_zero_iff.mp l2,append_nil]
   exact⟨p,vs,rfl,r,c⟩
  ·refine q _ _ _ _ j (Step.new ok.bag i) ?_
   exact⟨l,vs++vs2,rfl,Af,(c.app a).step (f:=.fr) (Step.new ok.bag i) ok.bag⟩
 ·exact g.elim
theorem BZ.one{x:P}(h:BZ W ρ σ Hs H [(x,f)] vs):∃v,vs=[v]/\RF W ρ σ Hs f H x v:=by
 obtain⟨v,t,rfl,h2,a⟩:=h
 cases(show t=[]from a)
 exact⟨v,rfl,h2⟩
theorem BZ.two{x:P}{g:Fl}(h:BZ W ρ σ Hs H [(x,f),(y,g)] vs):∃v u,vs=[v,u]/\RF W ρ σ Hs f H x v/\RF W ρ σ Hs g H y u:=by
 obtain⟨v,t,rfl,h2,c⟩:=h
 obtain⟨u,rfl,a⟩:=BZ.one c
 exact⟨v,u,rfl,h2,a⟩
def p1(g:P->Fl->(P->Fl->Prop)->Prop):pC:=λxs K=>match xs with|[(x,f)]=>g x f K|_=>False
def Kp:pC:=p1 λx _ K=>match x with
 |.lst xs=>K (.int xs.length) .fr
 |.tup xs=>K (.int xs.length) .fr
 |.str z=>z.length<=16777216/\K (.int z.length) .fr
 |_=>False
def Ot:List V->Hp->VK->Prop:=λxs H Q=>(∃p ys,xs=[.ref p]/\(H p=some (.lst ys)\/H p=some (.tup ys))/\Q (.int ys.length) H)\/∃z,xs=[.str z]/\z.length<=sizeLine/\Q (.int z.length) H
theorem Cg:BP X (.builtin "len") Ot:=by
 intro qA s σ H xs us Q I r h
 rcases h with⟨p,ys,rfl,a,q⟩|h
 ·exact NT qA s σ H _ us Q I r ⟨p,ys,rfl,a.elim (λz=>.inl (.of z)) (λz=>.inr (.of z)),q⟩
 ·exact NU qA s σ H _ us Q I r h
theorem Ch:CB Ot Kp:=λW ρ σ Hs H Q K xs vs ok st r a q=>by
 unfold Kp p1 at a
 split at a
 ·obtain⟨v,rfl,rv⟩:=r.one
  split at a
  ·obtain⟨p,us,rfl,c,d⟩:=CI ok rv
   exact .inl ⟨p,us,rfl,.inl c,by rw[<-d.length];exact q _ _ _ H a (Step.refl ok.bag) FD⟩
  ·obtain⟨p,us,rfl,c,d⟩:=DN ok rv
   exact .inl ⟨p,us,rfl,.inr c,by rw[<-d.length];exact q _ _ _ H a (Step.refl ok.bag) FD⟩
  ·cases EU ok rv
   exact .inr ⟨_,rfl,a.1,q _ _ _ H a.2 (Step.refl ok.bag) FD⟩
  ·exact a.elim
 ·exact a.elim
def Kq:pC:=p1 λx f K=>match x with
 |.lst xs=>K (.lst xs) (Bk f xs)
 |.tup xs=>K (.lst xs) (Bk f xs)
 |_=>False
theorem Gg:CB (λxs H Q=>∃p ys,xs=[.ref p]/\(H p=some (.lst ys)\/H p=some (.tup ys))/\∀l,H l=none->Q (.ref l) (AD H l (.lst ys))) Kq:=λW ρ σ Hs H Q K xs vs ok st r a q=>by
 unfold Kq p1 at a
 split at a
 ·obtain⟨v,rfl,rv⟩:=r.one
  split at a
  ·obtain⟨p,us,rfl,c,e⟩:=CI ok rv
   exact⟨p,us,rfl,.inl c,λl d=>q _ _ _ _ a (Step.new ok.bag d) (RF.newL ok st e d)⟩
  ·obtain⟨p,us,rfl,c,e⟩:=DN ok rv
   exact⟨p,us,rfl,.inr c,λl d=>q _ _ _ _ a (Step.new ok.bag d) (RF.newL ok st e d)⟩
  ·exact a.elim
 ·exact a.elim
def Kr:pC:=p1 λx f K=>match x with
 |.lst xs=>K (.tup xs) (Bk f xs)
 |_=>False
theorem C3:CB (λxs H Q=>∃p ys,xs=[.ref p]/\H p=some (.lst ys)/\∀l,H l=none->Q (.ref l) (AD H l (.tup ys))) Kr:=λW ρ σ Hs H Q K xs vs ok st r a q=>by
 unfold Kr p1 at a
 split at a
 ·obtain⟨v,rfl,rv⟩:=r.one
  split at a
  ·obtain⟨p,us,rfl,c,e⟩:=CI ok rv
   exact⟨p,us,rfl,c,λl d=>q _ _ _ _ a (Step.new ok.bag d) (RF.newT ok e d)⟩
  ·exact a.elim
 ·exact a.elim
def Ks:pC:=p1 λx f K=>∃bs:List Bool,x=.lst (bs.map P.bl)/\K (.bl (bs.all id)) .fr
theorem Gh:CB (λxs H Q=>∃(p:Addr) (bs:List Bool),xs=[.ref p]/\Au Kf H p (bs.map V.bl)/\Q (.bl (bs.all id)) H) Ks:=λW ρ σ Hs H Q K xs vs ok st r a q=>by
 unfold Ks p1 at a
 split at a
 ·obtain⟨v,rfl,rv⟩:=r.one
  obtain⟨bs,rfl,e⟩:=a
  obtain⟨p,us,rfl,c,d⟩:=CI ok rv
  rw[AB.bls.mp d]at c
  exact⟨p,bs,rfl,.of c,q _ _ _ H e (Step.refl ok.bag) Cz⟩
 ·exact a.elim
def Kt:pC:=p1 λx f K=>∃ss:List Str,x=.lst (ss.map P.str)/\ss.length<64/\∀ss':List Str,ss'.Perm ss->sortedS ss'=true->K (.lst (ss'.map P.str)) .nw
theorem Vo:CB (λxs H Q=>∃(p:Addr) (ss:List Str),xs=[.ref p]/\H p=some (.lst (ss.map V.str))/\ss.length<64/\∀(l:Addr) (a:List Str),H l=none->a.Perm ss->sortedS a=true->Q (.ref l) (AD H l (.lst (a.map V.str)))) Kt:=λW ρ σ Hs H Q K xs vs ok st r d q=>by
 unfold Kt p1 at d
 split at d
 ·obtain⟨v,rfl,rv⟩:=r.one
  obtain⟨ss,rfl,e,i⟩:=d
  obtain⟨p,us,rfl,c,h⟩:=CI ok rv
  rw[AB.strs.mp h]at c
  exact⟨p,ss,rfl,c,e,λl a f h1 h2=>q _ _ _ _ (i a h1 h2) (Step.new ok.bag f) (Ec (g:=.nw) ok st (by simp) (by simp) (AB.strs.mpr rfl) f)⟩
 ·exact d.elim
def FJ:P->String
 |.non=>"NoneType" | .bl _=>"bool" | .int _=>"int" | .str _=>"str" | .tup _=>"tuple" | .lst _=>"list" | .dT _ _=>"dict" | .dK _ _=>"dict" | .fT _ _=>"dict" | .bag=>"list"
def Ku(n:String)(x:P):Bool:=decide (FJ x=n)||(decide (n="int")&&decide (FJ x="bool"))
def Ou(n:String)(p:pE):pE:=λρ K=>p ρ λx _=>K (.bl (Ku n x)) .fr
theorem Vp(K:Fg){n:String}(a:n="bool"\/n="int"\/n="tuple"\/n="list"\/n="str")(x:P):PySem.W.kitOne K (.type (FJ x)) (.type n)=some (Ku n x):=by
 rcases a with rfl|rfl|rfl|rfl|rfl<;>cases x<;>rfl
theorem Vq{K:Fg}{b:Addr}{x:P}(d:Bag H b a)(h:Rp b Z H x v):TyOf K H v (.type (FJ x)):=by
 cases x with
 |non=>rw[show v=_ from h];exact .non
 |bl k=>rw[show v=_ from h];exact .bl k
 |int k=>rw[show v=_ from h];exact .int k
 |str k=>rw[show v=_ from h];exact .str k
 |bag=>rw[show v=_ from h];obtain⟨l,e⟩:=d.atb;exact .lst e
 |tup xs=>obtain⟨p,vs,e,c,_⟩:=h;rw[e];exact .tup c
 |lst xs=>obtain⟨p,vs,e,_,c,_⟩:=h;rw[e];exact .lst c
 |dT ks xs=>obtain⟨p,vs,e,_,c,_⟩:=h;rw[e];exact .dT c
 |fT ks xs=>obtain⟨p,vs,e,_,⟨o,c⟩,_⟩:=h;rw[e];exact .fT c
 |dK ks xs=>obtain⟨p,vs,e,_,c,_⟩:=h;rw[e];exact .dK c
section
variable{ι:Type}{Xs:ι->Cx}{a:Expr}{pa:pE}
theorem FK{n:String}{p1 p2:Pos}(r:n="bool"\/n="int"\/n="tuple"\/n="list"\/n="str")(z:∀i,(Xs i).K=Kf)(s:∀i,(Xs i).mg "isinstance"=none)(e:∀i,(Xs i).mg x=none)(d:bootBuiltins x=some (.type n))(h:QE Xs a pa)
  (w:∀i,Gl (Xs i) "isinstance":=by intro _;rfl) (g:∀i,Gl (Xs i) x:=by intro _;rfl) (p:x≠"__name__":=by decide +kernel) (j:(x==("__debug__":Str))=false:=by decide +kernel)
  (l:∀i,starEach [a,.Name x p2] (Xs i).env=[(false,eval a (Xs i).env),(false,eval (.Name x p2) (Xs i).env)]:=by intro _;rfl) :
  QE Xs (.Call (.Name "isinstance" p1) [a,.Name x p2] [] pos) (Ou n pa):=by
 obtain⟨t,h1,h2⟩:=h
 refine⟨EQ (λxs H Q=>∃x t n b,xs=[x,.ty n]/\TyOf Kf H x t/\PySem.W.kitOne Kf t (.type n)=some b/\Q (.bl b) H) (B8 t (B8 (tC (.ty n)) B7)),λi=>?_,λW ρ σ H Q K ok u q=>h2 W ρ σ H _ _ ok u λx f v H1 k1 c o=>?_⟩
 ·have y:BP (Xs i) (.builtin "isinstance") (λxs H Q=>∃x t n b,xs=[x,.ty n]/\TyOf Kf H x t/\PySem.W.kitOne Kf t (.type n)=some b/\Q (.bl b) H):=by
   rw[<-z i];exact Uj
  refine ER y (w i) (s i) nofun (Ap (h1 i) (Ap (SX (v:=.ty n) (g i) (e i) d rfl p j) BA (by rfl)) ?_) nofun nofun ?_ ?_
  ·exact l i
  ·exact l i
  ·rfl
 ·exact⟨v,.type (FJ x),n,_,rfl,Vq c.bag (o.any (ok.step c)),Vp Kf r x,q _ _ _ H1 k1 c Cz⟩
end
end L2
variable{pi:L2.pI}
namespace L2
open PySem PySem.Spec PyProof.Rows PySem.SeqAt
mutual
def AI:P->P->Bool
 |.non,.non=>true
 |.bl a,.bl b=>a==b
 |.int a,.int b=>a==b
 |.str a,.str b=>a==b
 |.bl a,.int b=>(if a then 1 else 0)==b
 |.int a,.bl b=>a==(if b then 1 else 0)
 |.tup xs,.tup ys=>BJ xs ys
 |.lst xs,.lst ys=>BJ xs ys
 |_,_=>false
def BJ:List P->List P->Bool
 |[],[]=>true
 |x::xs,y::ys=>AI x y&&BJ xs ys
 |_,_=>false
end
def P.pl:Nat->P->Bool
 |_,.non=>true|_,.bl _=>true|_,.int _=>true|_,.str _=>true
 |n+1,.tup xs=>xs.all (P.pl n)
 |n+1,.lst xs=>xs.all (P.pl n)
 |_,_=>false
theorem Ov:∀{xs ys:List P} {e:Nat->Bool},(∀j x y,xs[j]?=some x->ys[j]?=some y->e j=AI x y)->((List.range (min xs.length ys.length)).all e&&xs.length==ys.length)=BJ xs ys
 |[],[],e,_=>rfl
 |[],_::_,e,_=>by simp[BJ]
 |_::_,[],e,_=>by simp[BJ]
 |x::xs,y::ys,e,h=>by
  have c:=Ov (xs:=xs) (ys:=ys) (e:=λj=>e (j+1)) λj a b h1 h2=>h (j+1) a b (by simpa using h1) (by simpa using h2)
  have d:=h 0 x y rfl rfl
  rw[BJ,<-c,<-d]
  have g:min (x::xs).length (y::ys).length=min xs.length ys.length+1:=by simp
  rw[g,range_succ_eq_map,all_cons,all_map]
  have f:((x::xs).length==(y::ys).length)=(xs.length==ys.length):=by
   rw[Bool.eq_iff_iff];simp
  rw[f,Bool.and_assoc]
  rfl
theorem CJ{x:P}(a:As x=some v)(q:AG v v'):(x=.non/\v'=.none)\/(∃b,x=.bl b/\v'=.bool b)\/(∃i t,x=.int i/\v'=.int i t)\/∃z t,x=.str z/\v'=.str z t:=by
 cases x with
 |non=>cases(oI (show some _=some v from a));exact .inl ⟨rfl,q⟩
 |bl b=>cases(oI (show some _=some v from a));exact .inr (.inl ⟨b,rfl,q⟩)
 |int i=>cases(oI (show some _=some v from a));obtain⟨t,e⟩:=(show∃t,_=Value.int _ t from q);exact .inr (.inr (.inl ⟨i,t,rfl,e⟩))
 |str i=>cases(oI (show some _=some v from a));obtain⟨t,e⟩:=(show∃t,_=Value.str _ t from q);exact .inr (.inr (.inr ⟨i,t,rfl,e⟩))
 |_=>cases a
theorem Ox{x:P}{u:V}(d:As x=some v)(a:As y=some u)(qv:AG v v')(c:AG u u'):EqAt A s v' u' (AI x y):=by
 rcases CJ d qv with⟨rfl,rfl⟩|⟨_,rfl,rfl⟩|⟨_,_,rfl,rfl⟩|⟨_,_,rfl,rfl⟩
 ·rcases CJ a c with⟨rfl,rfl⟩|⟨_,rfl,rfl⟩|⟨_,_,rfl,rfl⟩|⟨_,_,rfl,rfl⟩<;>simp only[AI,Bool.not_false,Bool.not_true]
  ·exact EqAt.same _
  ·exact EqAt.none_bool _
  ·exact EqAt.none_int _ _
  ·exact EqAt.none_str _ _
 ·rcases CJ a c with⟨rfl,rfl⟩|⟨_,rfl,rfl⟩|⟨_,_,rfl,rfl⟩|⟨_,_,rfl,rfl⟩<;>simp only[AI,Bool.not_false,Bool.not_true]
  ·exact EqAt.bool_none _
  ·exact EqAt.bool_bool _ _
  ·exact EqAt.bool_int _ _ _
  ·exact EqAt.bool_str _ _ _
 ·rcases CJ a c with⟨rfl,rfl⟩|⟨_,rfl,rfl⟩|⟨_,_,rfl,rfl⟩|⟨_,_,rfl,rfl⟩<;>simp only[AI,Bool.not_false,Bool.not_true]
  ·exact EqAt.int_none _ _
  ·exact EqAt.int_bool _ _ _
  ·exact EqAt.int_int _ _ _ _
  ·exact EqAt.int_str _ _ _ _
 ·rcases CJ a c with⟨rfl,rfl⟩|⟨_,rfl,rfl⟩|⟨_,_,rfl,rfl⟩|⟨_,_,rfl,rfl⟩<;>simp only[AI,Bool.not_false,Bool.not_true]
  ·exact EqAt.str_none _ _
  ·exact EqAt.str_bool _ _ _
  ·exact EqAt.str_int _ _ _ _
  ·exact EqAt.str_str _ _ _ _
theorem Vr{x:P}{u:V}(d:As x=some v)(a:As y=some u)(qv:AG v v')(c:AG u u'):RcNeAt A s v' u' (!AI x y):=by
 rcases CJ d qv with⟨rfl,rfl⟩|⟨_,rfl,rfl⟩|⟨_,_,rfl,rfl⟩|⟨_,_,rfl,rfl⟩
 ·rcases CJ a c with⟨rfl,rfl⟩|⟨_,rfl,rfl⟩|⟨_,_,rfl,rfl⟩|⟨_,_,rfl,rfl⟩<;>simp only[AI,Bool.not_false,Bool.not_true]
  ·exact RcNeAt.none_none
  ·exact RcNeAt.none_bool _
  ·exact RcNeAt.none_int _ _
  ·exact RcNeAt.none_str _ _
 ·rcases CJ a c with⟨rfl,rfl⟩|⟨_,rfl,rfl⟩|⟨_,_,rfl,rfl⟩|⟨_,_,rfl,rfl⟩<;>simp only[AI,Bool.not_false,Bool.not_true]
  ·exact RcNeAt.bool_none _
  ·exact RcNeAt.bool_bool _ _
  ·exact RcNeAt.bool_int _ _ _
  ·exact RcNeAt.bool_str _ _ _
 ·rcases CJ a c with⟨rfl,rfl⟩|⟨_,rfl,rfl⟩|⟨_,_,rfl,rfl⟩|⟨_,_,rfl,rfl⟩<;>simp only[AI,Bool.not_false,Bool.not_true]
  ·exact RcNeAt.int_none _ _
  ·exact RcNeAt.int_bool _ _ _
  ·exact RcNeAt.int_int _ _ _ _
  ·exact RcNeAt.int_str _ _ _ _
 ·rcases CJ a c with⟨rfl,rfl⟩|⟨_,rfl,rfl⟩|⟨_,_,rfl,rfl⟩|⟨_,_,rfl,rfl⟩<;>simp only[AI,Bool.not_false,Bool.not_true]
  ·exact RcNeAt.str_none _ _
  ·exact RcNeAt.str_bool _ _ _
  ·exact RcNeAt.str_int _ _ _ _
  ·exact RcNeAt.str_str _ _ _ _
theorem Vs{x:P}{u:V}(d:As x=some v)(a:As y=some u)(qv:AG v v')(c:AG u u'):RcAt A s v' u' (AI x y):=by
 rcases CJ d qv with⟨rfl,rfl⟩|⟨_,rfl,rfl⟩|⟨_,_,rfl,rfl⟩|⟨_,_,rfl,rfl⟩
 ·rcases CJ a c with⟨rfl,rfl⟩|⟨_,rfl,rfl⟩|⟨_,_,rfl,rfl⟩|⟨_,_,rfl,rfl⟩<;>simp only[AI,Bool.not_false,Bool.not_true]
  ·exact RcAt.none_none
  ·exact RcAt.none_bool _
  ·exact RcAt.none_int _ _
  ·exact RcAt.none_str _ _
 ·rcases CJ a c with⟨rfl,rfl⟩|⟨_,rfl,rfl⟩|⟨_,_,rfl,rfl⟩|⟨_,_,rfl,rfl⟩<;>simp only[AI,Bool.not_false,Bool.not_true]
  ·exact RcAt.bool_none _
  ·exact RcAt.bool_bool _ _
  ·exact RcAt.bool_int _ _ _
  ·exact RcAt.bool_str _ _ _
 ·rcases CJ a c with⟨rfl,rfl⟩|⟨_,rfl,rfl⟩|⟨_,_,rfl,rfl⟩|⟨_,_,rfl,rfl⟩<;>simp only[AI,Bool.not_false,Bool.not_true]
  ·exact RcAt.int_none _ _
  ·exact RcAt.int_bool _ _ _
  ·exact RcAt.int_int _ _ _ _
  ·exact RcAt.int_str _ _ _ _
 ·rcases CJ a c with⟨rfl,rfl⟩|⟨_,rfl,rfl⟩|⟨_,_,rfl,rfl⟩|⟨_,_,rfl,rfl⟩<;>simp only[AI,Bool.not_false,Bool.not_true]
  ·exact RcAt.str_none _ _
  ·exact RcAt.str_bool _ _ _
  ·exact RcAt.str_int _ _ _ _
  ·exact RcAt.str_str _ _ _ _
theorem Vt{u:V}{l:Addr}(f:s.heap.IsList l qH)(e:A.units<cLine)(c:As y=some u)(d:AG u u'):EqAt A s (.ref l) u' false:=by
 cases y with
 |non=>cases(oI (show some _=some u from c));cases(show _=Value.none from d);exact EqAt.list_none f e
 |bl _=>cases(oI (show some _=some u from c));cases(show _=Value.bool _ from d);exact EqAt.list_bool _ f e
 |int _=>cases(oI (show some _=some u from c));obtain⟨_,a⟩:=(show∃t,_=Value.int _ t from d);subst a;exact EqAt.list_int _ _ f e
 |str _=>cases(oI (show some _=some u from c));obtain⟨_,a⟩:=(show∃t,_=Value.str _ t from d);subst a;exact EqAt.list_str _ _ f e
 |_=>cases c
theorem Vu{u:V}{l:Addr}(f:s.heap.IsList l qH)(e:A.units<cLine)(c:As y=some u)(d:AG u u'):EqAt A s u' (.ref l) false:=by
 cases y with
 |non=>cases(oI (show some _=some u from c));cases(show _=Value.none from d);exact EqAt.none_list f e
 |bl _=>cases(oI (show some _=some u from c));cases(show _=Value.bool _ from d);exact EqAt.bool_list _ f e
 |int _=>cases(oI (show some _=some u from c));obtain⟨_,a⟩:=(show∃t,_=Value.int _ t from d);subst a;exact EqAt.int_list _ _ f e
 |str _=>cases(oI (show some _=some u from c));obtain⟨_,a⟩:=(show∃t,_=Value.str _ t from d);subst a;exact EqAt.str_list _ _ f e
 |_=>cases c
theorem Vv{u:V}{l:Addr}(f:s.heap.IsTuple l qH)(e:A.units<cLine)(c:As y=some u)(d:AG u u'):EqAt A s (.ref l) u' false:=by
 cases y with
 |non=>cases(oI (show some _=some u from c));cases(show _=Value.none from d);exact EqAt.tuple_none f e
 |bl _=>cases(oI (show some _=some u from c));cases(show _=Value.bool _ from d);exact EqAt.tuple_bool _ f e
 |int _=>cases(oI (show some _=some u from c));obtain⟨_,a⟩:=(show∃t,_=Value.int _ t from d);subst a;exact EqAt.tuple_int _ _ f e
 |str _=>cases(oI (show some _=some u from c));obtain⟨_,a⟩:=(show∃t,_=Value.str _ t from d);subst a;exact EqAt.tuple_str _ _ f e
 |_=>cases c
theorem Vw{u:V}{l:Addr}(f:s.heap.IsTuple l qH)(e:A.units<cLine)(c:As y=some u)(d:AG u u'):EqAt A s u' (.ref l) false:=by
 cases y with
 |non=>cases(oI (show some _=some u from c));cases(show _=Value.none from d);exact EqAt.none_tuple f e
 |bl _=>cases(oI (show some _=some u from c));cases(show _=Value.bool _ from d);exact EqAt.bool_tuple _ f e
 |int _=>cases(oI (show some _=some u from c));obtain⟨_,a⟩:=(show∃t,_=Value.int _ t from d);subst a;exact EqAt.int_tuple _ _ f e
 |str _=>cases(oI (show some _=some u from c));obtain⟨_,a⟩:=(show∃t,_=Value.str _ t from d);subst a;exact EqAt.str_tuple _ _ f e
 |_=>cases c
theorem Vx{u:V}{l:Addr}(f:s.heap.IsList l qH)(e:A.units<cLine)(c:As y=some u)(d:AG u u'):RcNeAt A s (.ref l) u' true:=by
 cases y with
 |non=>cases(oI (show some _=some u from c));cases(show _=Value.none from d);exact RcNeAt.list_none f e
 |bl _=>cases(oI (show some _=some u from c));cases(show _=Value.bool _ from d);exact RcNeAt.list_bool _ f e
 |int _=>cases(oI (show some _=some u from c));obtain⟨_,a⟩:=(show∃t,_=Value.int _ t from d);subst a;exact RcNeAt.list_int _ _ f e
 |str _=>cases(oI (show some _=some u from c));obtain⟨_,a⟩:=(show∃t,_=Value.str _ t from d);subst a;exact RcNeAt.list_str _ _ f e
 |_=>cases c
theorem Vy{u:V}{l:Addr}(f:s.heap.IsList l qH)(e:A.units<cLine)(c:As y=some u)(d:AG u u'):RcNeAt A s u' (.ref l) true:=by
 cases y with
 |non=>cases(oI (show some _=some u from c));cases(show _=Value.none from d);exact RcNeAt.none_list f e
 |bl _=>cases(oI (show some _=some u from c));cases(show _=Value.bool _ from d);exact RcNeAt.bool_list _ f e
 |int _=>cases(oI (show some _=some u from c));obtain⟨_,a⟩:=(show∃t,_=Value.int _ t from d);subst a;exact RcNeAt.int_list _ _ f e
 |str _=>cases(oI (show some _=some u from c));obtain⟨_,a⟩:=(show∃t,_=Value.str _ t from d);subst a;exact RcNeAt.str_list _ _ f e
 |_=>cases c
theorem Vz{u:V}{l:Addr}(f:s.heap.IsTuple l qH)(e:A.units<cLine)(c:As y=some u)(d:AG u u'):RcNeAt A s (.ref l) u' true:=by
 cases y with
 |non=>cases(oI (show some _=some u from c));cases(show _=Value.none from d);exact RcNeAt.tuple_none f e
 |bl _=>cases(oI (show some _=some u from c));cases(show _=Value.bool _ from d);exact RcNeAt.tuple_bool _ f e
 |int _=>cases(oI (show some _=some u from c));obtain⟨_,a⟩:=(show∃t,_=Value.int _ t from d);subst a;exact RcNeAt.tuple_int _ _ f e
 |str _=>cases(oI (show some _=some u from c));obtain⟨_,a⟩:=(show∃t,_=Value.str _ t from d);subst a;exact RcNeAt.tuple_str _ _ f e
 |_=>cases c
theorem V0{u:V}{l:Addr}(f:s.heap.IsTuple l qH)(e:A.units<cLine)(c:As y=some u)(d:AG u u'):RcNeAt A s u' (.ref l) true:=by
 cases y with
 |non=>cases(oI (show some _=some u from c));cases(show _=Value.none from d);exact RcNeAt.none_tuple f e
 |bl _=>cases(oI (show some _=some u from c));cases(show _=Value.bool _ from d);exact RcNeAt.bool_tuple _ f e
 |int _=>cases(oI (show some _=some u from c));obtain⟨_,a⟩:=(show∃t,_=Value.int _ t from d);subst a;exact RcNeAt.int_tuple _ _ f e
 |str _=>cases(oI (show some _=some u from c));obtain⟨_,a⟩:=(show∃t,_=Value.str _ t from d);subst a;exact RcNeAt.str_tuple _ _ f e
 |_=>cases c
theorem V1{u:V}{l:Addr}(f:s.heap.IsList l qH)(e:A.units<cLine)(c:As y=some u)(d:AG u u'):RcAt A s (.ref l) u' false:=by
 cases y with
 |non=>cases(oI (show some _=some u from c));cases(show _=Value.none from d);exact RcAt.list_none f e
 |bl _=>cases(oI (show some _=some u from c));cases(show _=Value.bool _ from d);exact RcAt.list_bool _ f e
 |int _=>cases(oI (show some _=some u from c));obtain⟨_,a⟩:=(show∃t,_=Value.int _ t from d);subst a;exact RcAt.list_int _ _ f e
 |str _=>cases(oI (show some _=some u from c));obtain⟨_,a⟩:=(show∃t,_=Value.str _ t from d);subst a;exact RcAt.list_str _ _ f e
 |_=>cases c
theorem V2{u:V}{l:Addr}(f:s.heap.IsList l qH)(e:A.units<cLine)(c:As y=some u)(d:AG u u'):RcAt A s u' (.ref l) false:=by
 cases y with
 |non=>cases(oI (show some _=some u from c));cases(show _=Value.none from d);exact RcAt.none_list f e
 |bl _=>cases(oI (show some _=some u from c));cases(show _=Value.bool _ from d);exact RcAt.bool_list _ f e
 |int _=>cases(oI (show some _=some u from c));obtain⟨_,a⟩:=(show∃t,_=Value.int _ t from d);subst a;exact RcAt.int_list _ _ f e
 |str _=>cases(oI (show some _=some u from c));obtain⟨_,a⟩:=(show∃t,_=Value.str _ t from d);subst a;exact RcAt.str_list _ _ f e
 |_=>cases c
theorem V3{u:V}{l:Addr}(f:s.heap.IsTuple l qH)(e:A.units<cLine)(c:As y=some u)(d:AG u u'):RcAt A s (.ref l) u' false:=by
 cases y with
 |non=>cases(oI (show some _=some u from c));cases(show _=Value.none from d);exact RcAt.tuple_none f e
 |bl _=>cases(oI (show some _=some u from c));cases(show _=Value.bool _ from d);exact RcAt.tuple_bool _ f e
 |int _=>cases(oI (show some _=some u from c));obtain⟨_,a⟩:=(show∃t,_=Value.int _ t from d);subst a;exact RcAt.tuple_int _ _ f e
 |str _=>cases(oI (show some _=some u from c));obtain⟨_,a⟩:=(show∃t,_=Value.str _ t from d);subst a;exact RcAt.tuple_str _ _ f e
 |_=>cases c
theorem V4{u:V}{l:Addr}(f:s.heap.IsTuple l qH)(e:A.units<cLine)(c:As y=some u)(d:AG u u'):RcAt A s u' (.ref l) false:=by
 cases y with
 |non=>cases(oI (show some _=some u from c));cases(show _=Value.none from d);exact RcAt.none_tuple f e
 |bl _=>cases(oI (show some _=some u from c));cases(show _=Value.bool _ from d);exact RcAt.bool_tuple _ f e
 |int _=>cases(oI (show some _=some u from c));obtain⟨_,a⟩:=(show∃t,_=Value.int _ t from d);subst a;exact RcAt.int_tuple _ _ f e
 |str _=>cases(oI (show some _=some u from c));obtain⟨_,a⟩:=(show∃t,_=Value.str _ t from d);subst a;exact RcAt.str_tuple _ _ f e
 |_=>cases c
theorem CP{b:Addr}{x:P}(a:x.pl n=true)(r:Rp b Z H x v):As x=some v\/(∃m xs,n=m+1/\x=.tup xs/\xs.all (P.pl m)=true)\/∃m xs,n=m+1/\x=.lst xs/\xs.all (P.pl m)=true:=by
 cases x with
 |non=>exact .inl (by rw[show v=_ from r];rfl)
 |bl k=>exact .inl (by rw[show v=_ from r];rfl)
 |int k=>exact .inl (by rw[show v=_ from r];rfl)
 |str k=>exact .inl (by rw[show v=_ from r];rfl)
 |tup xs=>cases n with
  |zero=>simp[P.pl]at a
  |succ m=>exact .inr (.inl ⟨m,xs,rfl,rfl,by simpa[P.pl]using a⟩)
 |lst xs=>cases n with
  |zero=>simp[P.pl]at a
  |succ m=>exact .inr (.inr ⟨m,xs,rfl,rfl,by simpa[P.pl]using a⟩)
 |_=>cases n<;>simp[P.pl]at a
theorem V5:∀(n:Nat) {x:P},x.pl n=true->AI x x=true:=by
 intro n
 induction n with
 |zero=>intro x a;cases x<;>simp[P.pl]at a<;>simp[AI]
 |succ n e =>
  have d:∀{xs:List P},xs.all (P.pl n)=true->BJ xs xs=true:=by
   intro xs
   induction xs with
   |nil=>intro _;rfl
   |cons x r c =>
    intro h
    rw[all_cons,Bool.and_eq_true]at h
    rw[BJ,e h.1,c h.2];rfl
  intro x a
  cases x<;>simp only[P.pl]at a<;>simp only[AI,beq_self_eq_true]
  ·cases a
  ·exact d a
  ·exact d a
  ·cases a
  ·cases a
  ·cases a
theorem Oy(n:Nat)(xs:List P)(h:xs.all (P.pl n)=true):BJ xs xs=true:=by
 induction xs with
 |nil=>rfl
 |cons x r a =>
  rw[all_cons,Bool.and_eq_true]at h
  rw[BJ,V5 n h.1,a h.2];rfl
theorem Oz{b:Addr}:∀(n:Nat) {x y:P} {v:V},x.pl n=true->y.pl n=true->Rp b Z H x v->Rp b Z H y v->x=y:=by
 intro n
 induction n with
 |zero =>
  intro x y v u l j a
  cases x<;>simp[P.pl]at u<;>cases y<;>simp[P.pl]at l<;>(rw[show v=_ from j]at a)<;>first|rfl|(cases a;rfl)|cases a
 |succ n D =>
  have w:∀{xs ys:List P} {vs:List V},xs.all (P.pl n)=true->ys.all (P.pl n)=true->AB b Z H xs vs->AB b Z H ys vs->xs=ys:=by
   intro xs
   induction xs with
   |nil =>
    intro ys vs _ _ f c
    rw[show vs=[]from f]at c
    cases ys with
    |nil=>rfl
    |cons y r=>obtain⟨_,_,e,_⟩:=c;cases e
   |cons x r s =>
    intro ys vs h1 h2 f c
    obtain⟨v,t,rfl,C,B⟩:=f
    cases ys with
    |nil=>cases(show v::t=[]from c)
    |cons y ys =>
     obtain⟨_,_,e,A,z⟩:=c
     cases e
     rw[all_cons,Bool.and_eq_true]at h1 h2
     rw[D h1.1 h2.1 C A,s h1.2 h2.2 B z]
  intro x y v u l j a
  rcases CP u j with q|⟨m,xs,e,rfl,px⟩|⟨m,xs,e,rfl,px⟩
  ·rcases CP l a with i|⟨m,ys,e,rfl,g⟩|⟨m,ys,e,rfl,g⟩
   ·cases x<;>simp only[As]at q<;>cases q<;>cases y<;>simp only[As]at i<;>cases i<;>rfl
   ·obtain⟨p,us,rfl,_⟩:=a
    cases x<;>simp[As]at q
   ·obtain⟨p,us,rfl,_⟩:=a
    cases x<;>simp[As]at q
  ·cases e
   obtain⟨p,vs,rfl,o,f⟩:=j
   rcases CP l a with i|⟨m,ys,e,rfl,g⟩|⟨m,ys,e,rfl,g⟩
   ·cases y<;>simp[As]at i
   ·cases e
    obtain⟨p2,us,h,d,c⟩:=a
    cases h
    rw[o]at d;cases d
    rw[w px g f c]
   ·obtain⟨p2,us,h,_,d,c⟩:=a
    cases h
    rw[o]at d;cases d
  ·cases e
   obtain⟨p,vs,rfl,_,o,f⟩:=j
   rcases CP l a with i|⟨m,ys,e,rfl,g⟩|⟨m,ys,e,rfl,g⟩
   ·cases y<;>simp[As]at i
   ·obtain⟨p2,us,h,d,c⟩:=a
    cases h
    rw[o]at d;cases d
   ·cases e
    obtain⟨p2,us,h,_,d,c⟩:=a
    cases h
    rw[o]at d;cases d
    rw[w px g f c]
theorem Kv{b:Addr}{Z:Addr->Prop}{H:Hp}{n:Nat}:∀{xs ys:List P} {vs:List V},xs.all (P.pl n)=true->ys.all (P.pl n)=true->AB b Z H xs vs->AB b Z H ys vs->xs=ys
 |[],ys,vs,_,_,c,a=>by
  rw[show vs=[]from c]at a
  cases ys with
  |nil=>rfl
  |cons y r=>obtain⟨_,_,e,_⟩:=a;cases e
 |x::xs,ys,vs,h1,h2,c,a=>by
  obtain⟨v,t,rfl,h,g⟩:=c
  cases ys with
  |nil=>cases(show v::t=[]from a)
  |cons y ys =>
   obtain⟨_,_,e,f,d⟩:=a
   cases e
   rw[all_cons,Bool.and_eq_true]at h1 h2
   rw[Oz n h1.1 h2.1 h f,Kv h1.2 h2.2 g d]
theorem Di(I:Inv X qA σ H s)(e:H p=some (.tup vs)):∃qH:List Value,AR vs qH/\s.heap.IsTuple p qH.toArray:=by
 obtain⟨qH,r,t,_⟩:=I.tuple (.of e)
 exact⟨qH,r,t⟩
theorem Dj(I:Inv X qA σ H s)(e:H p=some (.lst vs)):∃qH:List Value,AR vs qH/\s.heap.IsList p qH.toArray:=by
 obtain⟨qH,r,t,_⟩:=I.list (.of e)
 exact⟨qH,r,t.isList⟩
theorem FL(A:Around):A.in1.units=A.units+1:=rfl
def D3(xs ys:List P)(j:Nat):Bool:=match xs[j]?,ys[j]? with|some x,some y=>AI x y|_,_=>true
theorem FM:((List.range (min xs.length ys.length)).all (D3 xs ys)&&xs.length==ys.length)=BJ xs ys:=Ov λj x y h1 h2=>by unfold D3;rw[h1,h2]
theorem IL{m:Nat}{x:P}(h:xs.all (P.pl m)=true)(e:xs[i]?=some x):x.pl m=true:=all_eq_true.mp h x (mem_of_getElem? e)
theorem O0(I:Inv X qA σ H s){b:Addr}:∀(n:Nat) {A:Around} {x y:P} {v u:V} {v' u':Value},A.units+n<cLine->x.pl n=true->y.pl n=true->Rp b Z H x v->Rp b Z H y u->AG v v'->AG u u'->EqAt A s v' u' (AI x y):=by
 intro n
 induction n with
 |zero =>
  intro A x y v u v' u' hu M J G q qv w
  rcases CP M G with D|⟨m,xs,e,_⟩|⟨m,xs,e,_⟩
  ·rcases CP J q with C|⟨m,ys,e,_⟩|⟨m,ys,e,_⟩
   ·exact Ox D C qv w
   ·cases e
   ·cases e
  ·cases e
  ·cases e
 |succ n ih =>
  intro A x y v u v' u' hu M J G q qv w
  have c:A.units<cLine:=by lia
  have N:A.in1.units+n<cLine:=by rw[FL];lia
  have pc:∀{xs ys:List P} {vs us:List V} {qH a:List Value},xs.all (P.pl n)=true->ys.all (P.pl n)=true->AB b Z H xs vs->AB b Z H ys us->AR vs qH->AR us a->∀j (h1:j<qH.toArray.size) (h2:j<a.toArray.size),EqAt A.in1 s qH.toArray[j] a.toArray[j] (D3 xs ys j):=by
   intro xs ys vs us qH a px h r g B z j h1 h2
   have l1:=r.length
   have l2:=g.length
   have l3:=B.length
   have L:=z.length
   rw[size_toArray]at h1 h2
   obtain⟨v1,E,q1⟩:=r.get (i:=j) (x:=xs[j]'(by lia)) (by simp[l1,l3,h1])
   obtain⟨v2,f,q2⟩:=g.get (i:=j) (x:=ys[j]'(by lia)) (by simp[l2,L,h2])
   obtain⟨u1,Y,k1⟩:=B.get E
   obtain⟨u2,U,k2⟩:=z.get f
   have ex:xs[j]?=some (xs[j]'(by lia)):=by simp[l1,l3,h1]
   have ey:ys[j]?=some (ys[j]'(by lia)):=by simp[l2,L,h2]
   have z1:qH.toArray[j]=u1:=by
    have:qH[j]?=some qH[j]:=by simp[h1]
    rw[this]at Y
    simpa using oI Y
   have z2:a.toArray[j]=u2:=by
    have:a[j]?=some a[j]:=by simp[h2]
    rw[this]at U
    simpa using oI U
   rw[z1,z2]
   have:D3 xs ys j=AI (xs[j]'(by lia)) (ys[j]'(by lia)):=by unfold D3;rw[ex,ey]
   rw[this]
   exact ih N (IL px ex) (IL h ey) q1 q2 k1 k2
  rcases CP M G with D|⟨m,xs,e,rfl,px⟩|⟨m,xs,e,rfl,px⟩
  ·rcases CP J q with C|⟨m,ys,e,rfl,h⟩|⟨m,ys,e,rfl,h⟩
   ·exact Ox D C qv w
   ·obtain⟨p,us,rfl,f,g⟩:=q
    cases(show u'=Value.ref p from w)
    obtain⟨qH,_,o⟩:=Di I f
    have:AI x (.tup ys)=false:=by cases x<;>simp[As]at D<;>simp only[AI]
    rw[this]
    exact Vw o c D qv
   ·obtain⟨p,us,rfl,_,f,g⟩:=q
    cases(show u'=Value.ref p from w)
    obtain⟨qH,_,o⟩:=Dj I f
    have:AI x (.lst ys)=false:=by cases x<;>simp[As]at D<;>simp only[AI]
    rw[this]
    exact Vu o c D qv
  ·cases e
   obtain⟨p,vs,rfl,E,r⟩:=id G
   cases(show v'=Value.ref p from qv)
   obtain⟨qH,B,o⟩:=Di I E
   rcases CP J q with C|⟨m,ys,e,rfl,h⟩|⟨m,ys,e,rfl,h⟩
   ·have:AI (.tup xs) y=false:=by cases y<;>simp[As]at C<;>simp only[AI]
    rw[this]
    exact Vv o c C w
   ·cases e
    obtain⟨p2,us,rfl,f,g⟩:=id q
    cases(show u'=Value.ref p2 from w)
    obtain⟨a,z,d⟩:=Di I f
    have key:=RcAt.tuples (A:=A) o d c (pc px h r g B z)
    rw[size_toArray,size_toArray,<-B.length,<-z.length,<-r.length,<-g.length,FM]at key
    rw[show AI (.tup xs) (.tup ys)=BJ xs ys by simp only[AI]]
    by_cases l:p=p2
    ·subst l
     rw[E]at f
     cases f
     have:BJ xs ys=true:=by
      have O:∀zs:List P,zs.all (P.pl n)=true->BJ zs zs=true:=Oy n
      rw[Kv (b:=b) (H:=H) (n:=n) px h r g]
      exact O ys h
     rw[this]
     exact EqAt.same _
    ·exact EqAt.of_refs l key
   ·obtain⟨p2,us,rfl,_,f,g⟩:=q
    cases(show u'=Value.ref p2 from w)
    obtain⟨a,_,d⟩:=Dj I f
    rw[show AI (.tup xs) (.lst ys)=false by simp only[AI]]
    exact EqAt.tuple_list o d c
  ·cases e
   obtain⟨p,vs,rfl,_,E,r⟩:=id G
   cases(show v'=Value.ref p from qv)
   obtain⟨qH,B,o⟩:=Dj I E
   rcases CP J q with C|⟨m,ys,e,rfl,h⟩|⟨m,ys,e,rfl,h⟩
   ·have:AI (.lst xs) y=false:=by cases y<;>simp[As]at C<;>simp only[AI]
    rw[this]
    exact Vt o c C w
   ·obtain⟨p2,us,rfl,f,g⟩:=q
    cases(show u'=Value.ref p2 from w)
    obtain⟨a,_,d⟩:=Di I f
    rw[show AI (.lst xs) (.tup ys)=false by simp only[AI]]
    exact EqAt.list_tuple o d c
   ·cases e
    obtain⟨p2,us,rfl,_,f,g⟩:=id q
    cases(show u'=Value.ref p2 from w)
    obtain⟨a,z,d⟩:=Dj I f
    rw[show AI (.lst xs) (.lst ys)=BJ xs ys by simp only[AI]]
    by_cases l:p=p2
    ·subst l
     rw[E]at f
     cases f
     have:BJ xs ys=true:=by
      have O:∀zs:List P,zs.all (P.pl n)=true->BJ zs zs=true:=Oy n
      rw[Kv (b:=b) (H:=H) (n:=n) px h r g]
      exact O ys h
     rw[this]
     exact EqAt.same _
    ·by_cases T:qH.length=a.length
     ·have key:=RcAt.lists (A:=A) o d (by simpa using T) c (pc px h r g B z)
      rw[<-FM]
      have l1:=r.length
      have l2:=g.length
      have l3:=B.length
      have L:=z.length
      have e5:min xs.length ys.length=qH.toArray.size:=by rw[size_toArray];lia
      have Q:(xs.length==ys.length)=true:=by rw[beq_iff_eq];lia
      rw[e5,Q,Bool.and_true]
      exact EqAt.of_refs l key
     ·have l1:=r.length
      have l2:=g.length
      have l3:=B.length
      have L:=z.length
      have Q:(xs.length==ys.length)=false:=by rw[beq_eq_false_iff_ne];lia
      rw[<-FM,Q,Bool.and_false]
      exact EqAt.of_refs l (RcAt.lists_lengths o d (by simpa using T) c)
theorem O1(I:Inv X qA σ H s){b:Addr}(c:A.in1.units+n<cLine){us:List V}{qH a:List Value}(px:xs.all (P.pl n)=true)(w:ys.all (P.pl n)=true)
  (g:AB b Z H xs vs) (f:AB b Z H ys us) (e:AR vs qH) (d:AR us a):∀j (h1:j<qH.toArray.size) (h2:j<a.toArray.size),EqAt A.in1 s qH.toArray[j] a.toArray[j] (D3 xs ys j):=by
 intro j h1 h2
 have l1:=g.length
 have l2:=f.length
 have l3:=e.length
 have h:=d.length
 rw[size_toArray]at h1 h2
 obtain⟨C,z,v⟩:=g.get (i:=j) (x:=xs[j]'(by lia)) (by simp[l1,l3,h1])
 obtain⟨B,y,u⟩:=f.get (i:=j) (x:=ys[j]'(by lia)) (by simp[l2,h,h2])
 obtain⟨u1,o,k1⟩:=e.get z
 obtain⟨u2,l,k2⟩:=d.get y
 have ex:xs[j]?=some (xs[j]'(by lia)):=by simp[l1,l3,h1]
 have p:ys[j]?=some (ys[j]'(by lia)):=by simp[l2,h,h2]
 have r:qH.toArray[j]=u1:=by
  have:qH[j]?=some qH[j]:=by simp[h1]
  rw[this]at o
  simpa using oI o
 have q:a.toArray[j]=u2:=by
  have:a[j]?=some a[j]:=by simp[h2]
  rw[this]at l
  simpa using oI l
 rw[r,q]
 have:D3 xs ys j=AI (xs[j]'(by lia)) (ys[j]'(by lia)):=by unfold D3;rw[ex,p]
 rw[this]
 exact O0 I n c (IL px ex) (IL w p) v u k1 k2
theorem O2(I:Inv X qA σ H s){b:Addr}{x:P}{u:V}(T:A.units+n+1<cLine)(N:x.pl n=true)(J:y.pl n=true)(E:Rp b Z H x v)(l:Rp b Z H y u)(qv:AG v v')(h:AG u u') :
  RcAt A s v' u' (AI x y)/\RcNeAt A s v' u' (!AI x y):=by
 have a:A.units<cLine:=by lia
 rcases CP N E with q|⟨m,xs,e,rfl,px⟩|⟨m,xs,e,rfl,px⟩
 ·rcases CP J l with j|⟨m,ys,e,rfl,r⟩|⟨m,ys,e,rfl,r⟩
  ·exact⟨Vs q j qv h,Vr q j qv h⟩
  ·obtain⟨p,us,rfl,i,o⟩:=l
   cases(show u'=Value.ref p from h)
   obtain⟨qH,_,d⟩:=Di I i
   have:AI x (.tup ys)=false:=by cases x<;>simp[As]at q<;>simp only[AI]
   rw[this]
   exact⟨V4 d a q qv,V0 d a q qv⟩
  ·obtain⟨p,us,rfl,_,i,o⟩:=l
   cases(show u'=Value.ref p from h)
   obtain⟨qH,_,d⟩:=Dj I i
   have:AI x (.lst ys)=false:=by cases x<;>simp[As]at q<;>simp only[AI]
   rw[this]
   exact⟨V2 d a q qv,Vy d a q qv⟩
 ·subst e
  obtain⟨p,vs,rfl,M,B⟩:=id E
  cases(show v'=Value.ref p from qv)
  obtain⟨qH,z,d⟩:=Di I M
  rcases CP J l with j|⟨G,ys,e,rfl,r⟩|⟨G,ys,e,rfl,r⟩
  ·have:AI (.tup xs) y=false:=by cases y<;>simp[As]at j<;>simp only[AI]
   rw[this]
   exact⟨V3 d a j h,Vz d a j h⟩
  ·cases e
   obtain⟨p2,us,rfl,i,o⟩:=id l
   cases(show u'=Value.ref p2 from h)
   obtain⟨g,w,c⟩:=Di I i
   have C:=O1 I (A:=A) (n:=m) (by rw[FL];lia) px r B o z w
   have key:=RcAt.tuples (A:=A) d c a C
   have f:=RcNeAt.tuples (A:=A) d c a C
   rw[size_toArray,size_toArray,<-z.length,<-w.length,<-B.length,<-o.length,FM]at key f
   rw[show AI (.tup xs) (.tup ys)=BJ xs ys by simp only[AI]]
   exact⟨key,f⟩
  ·obtain⟨p2,us,rfl,_,i,o⟩:=l
   cases(show u'=Value.ref p2 from h)
   obtain⟨g,_,c⟩:=Dj I i
   rw[show AI (.tup xs) (.lst ys)=false by simp only[AI]]
   exact⟨RcAt.tuple_list d c a,RcNeAt.tuple_list d c a⟩
 ·subst e
  obtain⟨p,vs,rfl,_,M,B⟩:=id E
  cases(show v'=Value.ref p from qv)
  obtain⟨qH,z,d⟩:=Dj I M
  rcases CP J l with j|⟨G,ys,e,rfl,r⟩|⟨G,ys,e,rfl,r⟩
  ·have:AI (.lst xs) y=false:=by cases y<;>simp[As]at j<;>simp only[AI]
   rw[this]
   exact⟨V1 d a j h,Vx d a j h⟩
  ·obtain⟨p2,us,rfl,i,o⟩:=l
   cases(show u'=Value.ref p2 from h)
   obtain⟨g,_,c⟩:=Di I i
   rw[show AI (.lst xs) (.tup ys)=false by simp only[AI]]
   exact⟨RcAt.list_tuple d c a,RcNeAt.list_tuple d c a⟩
  ·cases e
   obtain⟨p2,us,rfl,_,i,o⟩:=id l
   cases(show u'=Value.ref p2 from h)
   obtain⟨g,w,c⟩:=Dj I i
   rw[show AI (.lst xs) (.lst ys)=BJ xs ys by simp only[AI]]
   have l1:=B.length
   have l2:=o.length
   have l3:=z.length
   have Q:=w.length
   by_cases D:qH.length=g.length
   ·have C:=O1 I (A:=A) (n:=m) (by rw[FL];lia) px r B o z w
    have key:=RcAt.lists (A:=A) d c (by simpa using D) a C
    have f:=RcNeAt.lists (A:=A) d c (by simpa using D) a C
    rw[<-FM]
    have O:min xs.length ys.length=qH.toArray.size:=by rw[size_toArray];lia
    have L:(xs.length==ys.length)=true:=by rw[beq_iff_eq];lia
    rw[O,L,Bool.and_true]
    exact⟨key,f⟩
   ·have L:(xs.length==ys.length)=false:=by rw[beq_eq_false_iff_ne];lia
    rw[<-FM,L,Bool.and_false]
    exact⟨RcAt.lists_lengths d c (by simpa using D) a,RcNeAt.lists_lengths d c (by simpa using D) a⟩
def O3:R2:=λv u H Q=>∃(b:Addr) (Z:Addr->Prop) (x y:P),x.pl 9=true/\y.pl 9=true/\Rp b Z H x v/\Rp b Z H y u/\Q (.bl (AI x y)) H
def O4:R2:=λv u H Q=>∃(b:Addr) (Z:Addr->Prop) (x y:P),x.pl 9=true/\y.pl 9=true/\Rp b Z H x v/\Rp b Z H y u/\Q (.bl (!AI x y)) H
theorem IM{k:Nat}(f:Room k X.A):Av X (compareOp .Eq) O3:=by
 intro qA s σ H x y v u Q I c a h
 obtain⟨b,Z,px,g,h1,h2,e,d,q⟩:=h
 exact(O2 I (A:=X.A) (by have:=f.units;lia) h1 h2 e d c a).1 _ _ _ _ ⟨.bl _,H,I,rfl,q⟩
theorem D4{k:Nat}(f:Room k X.A):Av X (compareOp .NotEq) O4:=by
 intro qA s σ H x y v u Q I c a h
 obtain⟨b,Z,px,g,h1,h2,e,d,q⟩:=h
 exact(O2 I (A:=X.A) (by have:=f.units;lia) h1 h2 e d c a).2 _ _ _ _ ⟨.bl _,H,I,rfl,q⟩
def O5:p2:=λx _ y _ K=>(x.pl 9=true/\y.pl 9=true)/\K (.bl (AI x y)) .fr
def O6:p2:=λx _ y _ K=>(x.pl 9=true/\y.pl 9=true)/\K (.bl (!AI x y)) .fr
theorem IN:A9 O3 O5:=λW ρ σ Hs H Q K x y f h v u ok st d c a q =>
 ⟨W.b,_,x,y,a.1.1,a.1.2,d.any ok,c.any ok,q _ _ _ H a.2 (Step.refl ok.bag) Cz⟩
theorem D5:A9 O4 O6:=λW ρ σ Hs H Q K x y f h v u ok st d c a q =>
 ⟨W.b,_,x,y,a.1.1,a.1.2,d.any ok,c.any ok,q _ _ _ H a.2 (Step.refl ok.bag) Cz⟩
@[simp] theorem O7(n:Nat)(i:Int):(P.int i).pl n=true:=by cases n<;>rfl
@[simp] theorem O8(n:Nat)(i:Str):(P.str i).pl n=true:=by cases n<;>rfl
@[simp] theorem V6(n:Nat)(i:Bool):(P.bl i).pl n=true:=by cases n<;>rfl
@[simp] theorem V7(n:Nat):P.non.pl n=true:=by cases n<;>rfl
@[simp] theorem V8(n:Nat)(xs:List P):(P.tup xs).pl (n+1)=xs.all (P.pl n):=rfl
@[simp] theorem V9(n:Nat)(xs:List P):(P.lst xs).pl (n+1)=xs.all (P.pl n):=rfl
theorem Kw{α:Type}{f:α->P}(h:∀a,(f a).pl n=true)(xs:List α):(xs.map f).all (P.pl n)=true:=by
 rw[all_map,all_eq_true];intro a _;exact h a
@[simp] theorem WA(n:Nat)(xs:List Int):(xs.map P.int).all (P.pl n)=true:=Kw (λa=>O7 n a) xs
@[simp] theorem WC(n:Nat)(xs:List Str):(xs.map P.str).all (P.pl n)=true:=Kw (λa=>O8 n a) xs
mutual
def P.nb:P->Bool
 |.non=>true|.int _=>true|.str _=>true|.tup xs=>P.nbs xs|.lst xs=>P.nbs xs|_=>false
def P.nbs:List P->Bool
 |[]=>true
 |x::r=>x.nb&&P.nbs r
end
mutual
theorem Gi:∀{x y:P},x.nb=true->y.nb=true->(AI x y=true↔x=y)
 |.non,y,_,c=>by cases y<;>simp_all [AI,P.nb]
 |.bl _,y,a,_=>by simp[P.nb]at a
 |.int _,y,_,c=>by cases y<;>simp_all [AI,P.nb]
 |.str _,y,_,c=>by cases y<;>simp_all [AI,P.nb]
 |.bag,y,a,_=>by simp[P.nb]at a
 |.tup xs,y,a,c=>by
  cases y with
  |tup ys =>
   rw[P.nb]at a c
   rw[show AI (.tup xs) (.tup ys)=BJ xs ys by simp only[AI],Ky a c]
   simp
  |_=>simp[AI]
 |.lst xs,y,a,c=>by
  cases y with
  |lst ys =>
   rw[P.nb]at a c
   rw[show AI (.lst xs) (.lst ys)=BJ xs ys by simp only[AI],Ky a c]
   simp
  |_=>simp[AI]
 |.dT _ _,y,a,_=>by simp[P.nb]at a
 |.fT _ _,y,a,_=>by simp[P.nb]at a
 |.dK _ _,y,a,_=>by simp[P.nb]at a
theorem Ky:∀{xs ys:List P},P.nbs xs=true->P.nbs ys=true->(BJ xs ys=true↔xs=ys)
 |[],[],_,_=>by simp[BJ]
 |[],_::_,_,_=>by simp[BJ]
 |_::_,[],_,_=>by simp[BJ]
 |x::xs,y::ys,c,a=>by
  rw[P.nbs,Bool.and_eq_true]at c a
  rw[BJ,Bool.and_eq_true,Gi c.1 a.1,Ky c.2 a.2]
  simp
end
theorem IP{α:Type}{f:α->P}(h:∀a,(f a).nb=true):∀xs:List α,P.nbs (xs.map f)=true
 |[]=>by simp[P.nbs]
 |x::r=>by rw[map_cons,P.nbs,h x,IP h r];rfl
def Kz(neg:Bool):R2:=λv u H Q=>∃(b p:Addr) (Z:Addr->Prop) (x:P) (ys:List P) (us:List V),u=.ref p/\(H p=some (.lst us)\/H p=some (.tup us))/\x.pl 8=true/\ys.all (P.pl 8)=true/\Rp b Z H x v/\AB b Z H ys us/\Q (.bl (if neg=true then !(ys.any λy=>AI y x)else ys.any λy=>AI y x)) H
section
variable{k:Nat}
open Classical in
theorem O9(Q:Room k X.A){b:Addr}{x:P}{us:List V}{qH:List Value}(I:Inv X qA σ H s)(M:AG v v')(w:AR us qH)
  (h1:x.pl 8=true) (h2:ys.all (P.pl 8)=true) (N:Rp b Z H x v) (h:AB b Z H ys us) :
  ∃e:Value->Bool,(∀y,y∈qH.toArray->EqAt X.A.in1 s y v' (e y))/\qH.toArray.any e=ys.any λy=>AI y x:=by
 have J:∀j y,qH[j]?=some y->∃z u,ys[j]?=some z/\z∈ys/\Rp b Z H z u/\AG u y:=λj y c=>by
  have l1:=h.length
  have l2:=w.length
  have r:j<qH.length:=by
   rcases Nat.lt_or_ge j qH.length with q|q
   ·exact q
   ·rw[getElem?_eq_none q]at c;cases c
  have B:ys[j]?=some (ys[j]'(by lia)):=by simp[l1,l2,r]
  obtain⟨u,G,E⟩:=h.get B
  obtain⟨T,d,D⟩:=w.get G
  rw[c]at d
  cases d
  exact⟨_,u,B,mem_of_getElem? B,E,D⟩
 refine⟨λy=>decide (∃z u,z∈ys/\Rp b Z H z u/\AG u y/\AI z x=true),λy p=>?_,?_⟩
 ·have p:y∈qH:=by simpa using p
  obtain⟨j,c,e⟩:=getElem_of_mem p
  obtain⟨z,u,U,o,g,n⟩:=J j y (by rw[<-e];simp[c])
  have C:=O0 I 8 (A:=X.A.in1) (by rw[FL];have:=Q.units;lia) (all_eq_true.mp h2 z o) h1 g N n M
  have:decide (∃z u,z∈ys/\Rp b Z H z u/\AG u y/\AI z x=true)=AI z x:=by
   rw[Bool.eq_iff_iff,decide_eq_true_iff]
   constructor
   ·rintro⟨L,u',O,f,l,a⟩
    cases n.inj l
    rw[Oz 8 (all_eq_true.mp h2 z o) (all_eq_true.mp h2 L O) g f]
    exact a
   ·exactλa=>⟨z,u,o,g,n,a⟩
  show EqAt X.A.in1 s y v' (decide _)
  rw[this]
  exact C
 ·rw[Bool.eq_iff_iff,any_toArray,any_eq_true,any_eq_true]
  constructor
  ·rintro⟨y,_,a⟩
   obtain⟨z,u,m,_,_,a⟩:=of_decide_eq_true a
   exact⟨z,m,a⟩
  ·rintro⟨z,m,a⟩
   obtain⟨j,c,e⟩:=getElem_of_mem m
   obtain⟨u,G,E⟩:=h.get (i:=j) (x:=z) (by rw[<-e];simp[c])
   obtain⟨y,d,D⟩:=w.get G
   exact⟨y,mem_of_getElem? d,decide_eq_true ⟨z,u,m,E,D,a⟩⟩
theorem IQ(j:Room k X.A):Av X (compareOp .In) (Kz false):=by
 intro qA s σ H x y v u Q I f l h
 obtain⟨b,p,Z,px,ys,us,rfl,hp,h1,h2,i,g,q⟩:=h
 cases l
 rcases hp with hp|hp
 ·obtain⟨qH,w,a⟩:=Dj I hp
  obtain⟨e,c,d⟩:=O9 j I f w h1 h2 i g
  exact in_listAt e a c (by rw[d];exact⟨.bl _,H,I,rfl,q⟩)
 ·obtain⟨qH,w,a⟩:=Di I hp
  obtain⟨e,c,d⟩:=O9 j I f w h1 h2 i g
  exact in_tupleAt e a c (by rw[d];exact⟨.bl _,H,I,rfl,q⟩)
end
def K0(neg:Bool):p2:=λx _ y _ K=>∃ys,y.items=some ys/\(x.pl 8=true/\ys.all (P.pl 8)=true)/\K (.bl (if neg=true then !(ys.any λy=>AI y x)else ys.any λy=>AI y x)) .fr
abbrev WD:p2:=K0 false
theorem WE(a:Bool):A9 (Kz a) (K0 a):=λW ρ σ Hs H Q K x y f h v u ok st d c j q=>by
 obtain⟨ys,e,⟨h1,h2⟩,l⟩:=j
 have g:=RF.items (f:=.an) (W:=W) (ρ:=ρ) (σ:=σ) (Hs:=Hs) (c.any ok) e
 obtain⟨p,vs,rfl,n,i⟩:=g
 exact⟨W.b,p,_,x,ys,vs,rfl,n,h1,h2,d.any ok,i,q _ _ _ H l (Step.refl ok.bag) Cz⟩
theorem IR:A9 (Kz false) WD:=WE false
theorem K1(z:Str)(xs:List Str):((xs.map P.str).any λy=>AI y (.str z))=decide (z∈xs):=by
 induction xs with
 |nil=>rfl
 |cons x r a =>
  rw[map_cons,any_cons,a,show AI (.str x) (.str z)=(x==z) by simp only[AI]]
  by_cases e:x=z
  ·subst e;simp
  ·have c:¬z=x:=λh=>e h.symm
   simp[e,c]
end L2
namespace L2
open PySem PySem.Spec PyProof.Rows
def cut{α:Type}(xs:List α)(lo hi:Option Int):List α:=(xs.drop (HT.sIx xs.length 0 lo)).take (HT.sIx xs.length xs.length hi - HT.sIx xs.length 0 lo)
abbrev pO:=List S->(Option Int->Prop)->Prop
def WF(t:TO)(p:pO):Prop:=∀(W:Wd) (ρ:List S) (σ:St) (H:Hp) (Q:Option Int->Hp->Prop) (K:Option Int->Prop),Ok W ρ σ H->p ρ K->(∀o H',K o->Step W.b W.a H H'->Q o H')->t σ H Q
def QO{ι:Type}(Xs:ι->Cx)(e:Option Expr)(p:pO):Prop:=∃t,(∀i,PO (Xs i) e t)/\WF t p
def PB:pO:=λ_ K=>K none
def PC(p:pE):pO:=λρ K=>p ρ λx _=>match x with|.int i=>K (some i)|_=>False
def PD(pe:pE)(pl ph:pO):pE:=λρ K=>pe ρ λx f=>pl ρ λlo=>ph ρ λhi=>match x with
 |.lst xs=>K (.lst (cut xs lo hi)) (Bk f (cut xs lo hi))
 |.tup xs=>K (.tup (cut xs lo hi)) f.el
 |.str z=>z.length<=16777216/\K (.str (Txt.slice z lo hi)) .fr
 |_=>False
section
variable{ι:Type}{Xs:ι->Cx}{e:Expr}{lo hi:Option Expr}{pl ph:pO}{p2:Pos}
theorem WG:QO Xs none PB:=⟨_,λ_=>F5,λW ρ σ H Q K ok h q=>q none H h (Step.refl ok.bag)⟩
theorem WH(h:QE Xs e pe):QO Xs (some e) (PC pe):=by
 obtain⟨t,h1,h2⟩:=h
 refine⟨_,λi=>F6 (h1 i),λW ρ σ H Q K ok d q=>h2 W ρ σ H _ _ ok d λx f v H1 k1 a c=>?_⟩
 split at k1
 ·exact⟨_,B3 (ok.step a) c,q _ H1 k1 a⟩
 ·exact k1.elim
def PF(K:Fg):V->Option Int->Option Int->Hp->VK->Prop:=λx lo hi H Q=>(NR K x lo hi H Q\/N1 x lo hi H Q)\/Nt x lo hi H Q
theorem WI:Cp X (PF X.K):=Cp.or (Cp.or Hm Ur) Nv
theorem AB.cut{b:Addr}{lo hi:Option Int}(h:AB b Z H xs vs):AB b Z H (L2.cut xs lo hi) (Cq vs lo hi):=by
 unfold L2.cut Cq
 rw[h.length]
 exact(h.drop _).take _
theorem WJ(A:∀i,(Xs i).K=Kf)(z:QE Xs e pe)(g:QO Xs lo pl)(y:QO Xs hi ph):QE Xs (.Subscript e (.Slice lo hi none p2) pos) (PD pe pl ph):=by
 obtain⟨te,C,B⟩:=z
 obtain⟨tl,l1,l2⟩:=g
 obtain⟨th,h1,h2⟩:=y
 refine⟨NL (PF Kf) te tl th,λi=>F7 (by rw[<-A i];exact WI) (C i) (l1 i) (h1 i),λW ρ σ H Q K ok w q=>B W ρ σ H _ _ ok w λx f v H1 k1 h u=>l2 W ρ σ H1 _ _ (ok.step h) k1 λo H2 k2 j=>h2 W ρ σ H2 _ _ ((ok.step h).step j) k2 λo' D k3 s=>?_⟩
 have a:=(h.trans j).trans s
 have d:=ok.step a
 have n:=u.step (ok.step h) (j.trans s)
 split at k3
 ·obtain⟨p,us,rfl,c,rv⟩:=CI d n
  exact .inl (.inl ⟨p,us,rfl,.of c,λl g=>q _ _ _ _ k3 (a.trans (Step.new a.bag g)) (RF.newL d a rv.cut g)⟩)
 ·obtain⟨p,us,rfl,c,rv⟩:=DN d n
  refine .inl (.inr ⟨p,us,rfl,c,λr=>q _ _ _ _ k3 a ?_,λr l g=>q _ _ _ _ k3 (a.trans (Step.new a.bag g)) ?_⟩)
  ·rename_i xs0
   have e:L2.cut xs0 o o'=xs0:=by
    unfold L2.cut
    rw[rv.length,r.1,r.2,drop_zero,Nat.sub_zero,<-rv.length,take_length]
   rw[e]
   exact RF.ofEl (f:=f) ⟨p,us,rfl,c,rv⟩
  ·exact RF.ofEl (f:=f) ⟨l,_,rfl,Af,(rv.cut).step (Step.new a.bag g) a.bag⟩
 ·cases EU d n
  exact .inr ⟨_,rfl,k3.1,q _ _ _ _ k3.2 a OJ⟩
 ·exact k3.elim
end
section
variable{x x':P}{k:Nat}
theorem D6(ok:Ok W ρ σ H)(h:Ac ρ σ p)(g:f=.cl\/f=.fr):(∀q u,¬AC W ρ σ f q->H q=some u->¬AC W ρ σ f q/\AD H p o q=some u)/\∀q us,H q=some (.tup us)->AD H p o q=some (.tup us):=by
 obtain⟨_,_,_,_,o',a,d⟩:=ok.ow (.inr h)
 refine⟨λq u c e=>⟨c,?_⟩,λq us e=>?_⟩
 ·rw[AL (λz=>c (by subst z;rcases g with rfl|rfl<;>simp[AC,Ow,h]))]
  exact e
 ·rw[AL (λz=>by subst z;rw[e]at a;cases a;exact d us rfl)]
  exact e
theorem Ok.mut(ok:Ok W ρ σ H)(B:ρ[k]?=some (.own x))(G:σ[k]?=some (some (.ref p)))(no:∀ys,o≠.tup ys)(I:Rc W.b (Zf W ρ σ) (AD H p o) x' p):Ok W (ρ.set k (.own x')) σ (AD H p o):=by
 have d:Ac ρ σ p:=⟨k,x,B,G⟩
 obtain⟨T,Q,N,O,o',q1,q2⟩:=ok.ow (.inr d)
 have M:k<ρ.length:=by
  rcases Nat.lt_or_ge k ρ.length with q|q
  ·exact q
  ·rw[getElem?_eq_none q]at B;cases B
 have get:∀(i:Nat) (y:P),(ρ.set k (S.own x'))[i]?=some (S.own y)->∃z,ρ[i]?=some (S.own z):=λi y e=>by
  by_cases hi:k=i
  ·subst hi;exact⟨x,B⟩
  ·rw[getElem?_set_ne hi]at e;exact⟨y,e⟩
 have E:∀q,Ac (ρ.set k (.own x')) σ q↔Ac ρ σ q:=λq=>by
  constructor
  ·rintro⟨i,y,h1,h2⟩
   obtain⟨z,e⟩:=get i y h1
   exact⟨i,z,e,h2⟩
  ·rintro⟨i,y,h1,h2⟩
   by_cases hi:k=i
   ·subst hi;exact⟨k,x',getElem?_set_self M,h2⟩
   ·exact⟨i,y,by rw[getElem?_set_ne hi];exact h1,h2⟩
 have U:∀f q,AC W (ρ.set k (.own x')) σ f q↔AC W ρ σ f q:=λf q=>by
  have:Ow W (ρ.set k (.own x')) σ q↔Ow W ρ σ q:=or_congr Iff.rfl (E q)
  cases f<;>simp only[AC,this]
 have D:∀f,AC W (ρ.set k (.own x')) σ f=AC W ρ σ f:=λf=>funext λq=>propext (U f q)
 refine⟨ok.bag.put N O,ok.fb,λq u J e=>?_,λq u e=>?_,λq J=>?_,by rw[length_set];exact ok.len,λi s e=>?_,λi j y z h1 h2 L=>?_⟩
 ·rw[AL (λz=>by subst z;rw[T]at e;cases e)]
  exact ok.old q u J e
 ·rw[AL (λz=>by subst z;rw[Q]at e;cases e)]
  exact ok.frm q u e
 ·obtain⟨h1,h2,L,h4,u,h5,h6⟩:=ok.oo q J
  refine⟨h1,h2,L,h4,?_⟩
  by_cases A:q=p
  ·subst A;exact⟨o,Af,no⟩
  ·exact⟨u,by rw[AL A];exact h5,h6⟩
 ·by_cases hi:k=i
  ·subst hi
   rw[getElem?_set_self M]at e
   cases e
   exact⟨_,G,p,rfl,T,Q,N,O,by rw[show Zf W (ρ.set k (.own x')) σ=Zf W ρ σ from D .fr];exact I⟩
  ·rw[getElem?_set_ne hi]at e
   obtain⟨u,h1,h2⟩:=ok.slot i s e
   refine⟨u,h1,?_⟩
   cases s with
   |emp=>trivial
   |sh y =>
    obtain⟨v,g,n⟩:=h2
    have a:=D6 (o:=o) ok d (.inl rfl)
    exact⟨v,g,by rw[show Zc W (ρ.set k (.own x')) σ=Zc W ρ σ from D .cl];exact n.keep a.1 a.2⟩
   |fr y =>
    obtain⟨v,g,n⟩:=h2
    have a:=D6 (o:=o) ok d (.inr rfl)
    exact⟨v,g,by rw[show Zf W (ρ.set k (.own x')) σ=Zf W ρ σ from D .fr];exact n.keep a.1 a.2⟩
   |own y =>
    obtain⟨r,g,n,e3,e4,e5,C⟩:=h2
    have a:=D6 (o:=o) ok d (f:=.fr) (.inr rfl)
    have c:r≠p:=λz=>by
     subst z
     exact hi (ok.uniq k i x y B e (by rw[G,h1,g]))
    refine⟨r,g,n,e3,e4,e5,?_⟩
    rw[show Zf W (ρ.set k (.own x')) σ=Zf W ρ σ from D .fr]
    cases y with
    |lst xs=>obtain⟨vs,l,h⟩:=C;exact⟨vs,by rw[AL c];exact l,h.keep a.1 a.2⟩
    |dT ks xs=>obtain⟨vs,l,w,h⟩:=C;exact⟨vs,by rw[AL c];exact l,w,h.keep a.1 a.2⟩
    |fT ks xs=>obtain⟨vs,l,w,h⟩:=C;exact⟨vs,l.map λ_ e=>by rw[AL c];exact e,w,h.keep a.1 a.2⟩
    |dK ks xs=>obtain⟨vs,l,w,h⟩:=C;exact⟨vs,by rw[AL c];exact l,w,h.keep a.1 a.2⟩
    |_=>exact C.elim
 ·obtain⟨y',g⟩:=get i y h1
  obtain⟨Y,n⟩:=get j z h2
  exact ok.uniq i j y' Y g n L
theorem Ok.ownL(ok:Ok W ρ σ H)(a:ρ[k]?=some (.own (.lst xs))):∃p vs,σ[k]?=some (some (.ref p))/\H p=some (.lst vs)/\AB W.b (Zf W ρ σ) H xs vs/\Ac ρ σ p:=by
 obtain⟨o,h1,p,h2,_,_,_,_,vs,d,c⟩:=ok.slot k _ a
 subst h2
 exact⟨p,vs,h1,d,c,k,_,a,h1⟩
theorem Ok.mutL{vs us:List V}(ok:Ok W ρ σ H)(d:ρ[k]?=some (.own (.lst xs)))(c:σ[k]?=some (some (.ref p)))(e:AB W.b (Zf W ρ σ) H ys us):Ok W (ρ.set k (.own (.lst ys))) σ (AD H p (.lst us)):=by
 have a:=D6 (o:=HO.lst us) ok ⟨k,_,d,c⟩ (f:=.fr) (.inr rfl)
 exact ok.mut d c (λ_ z=>nomatch z) ⟨us,Af,e.keep a.1 a.2⟩
end
def IS(k:Nat)(pe:pE):pS:=λE ρ=>match ρ[k]? with
 |some (.own (.lst xs))=>pe ρ λy f=>A2 y f=.nw/\xs.length<16777216/\E.nx (ρ.set k (.own (.lst (xs++[y]))))
 |_=>False
def IT(k:Nat)(pi pe:pE):pS:=λE ρ=>match ρ[k]? with
 |some (.own (.lst xs))=>pe ρ λy f=>pi ρ λi _=>∃n j,i=.int n/\Cf xs.length n=some j/\A2 y f=.nw/\E.nx (ρ.set k (.own (.lst (xs.set j y))))
 |_=>False
def IU(g:Int->Int->Int)(k:Nat)(pi pe:pE):pS:=λE ρ=>match ρ[k]? with
 |some (.own (.lst xs))=>pi ρ λi _=>∃n j o,i=.int n/\Cf xs.length n=some j/\xs[j]?=some (.int o)/\pe ρ λy _=>∃d,y=.int d/\E.nx (ρ.set k (.own (.lst (xs.set j (.int (g o d))))))
 |_=>False
def frzS(k:Nat)(ρ:List S):List S:=match ρ[k]? with
 |some (.own x)=>ρ.set k (.fr x)
 |_=>ρ
def PH(k:Nat)(p:pS):pS:=λE ρ=>p E (frzS k ρ)
theorem IV(ok:Ok W ρ σ H)(r:RF W ρ σ Hs f H y v)(h:A2 y f=.nw):Rp W.b (Zf W ρ σ) H y v:=by
 have:=(Ka ok r).2.2
 rw[h]at this
 exact this
section
variable{ι:Type}{Xs:ι->Cx}{a b:Expr}{pa pb:pE}{p1:Pos}{k:Nat}{t u:TE}
theorem Ok.stepL{k:Nat}(ok:Ok W ρ σ H)(st:Step W.b W.a H H')(g:σ[k]?=some (some (.ref p)))(e:H p=some (.lst vs))(c:AB W.b (Zf W ρ σ) H xs vs)(d:Ac ρ σ p):H' p=some (.lst vs)/\AB W.b (Zf W ρ σ) H' xs vs :=
 ⟨st.same p _ (ok.ow (.inr d)).2.2.1 e,c.step (f:=.fr) st ok.bag⟩
theorem WK(h2:A6 t pa):Dg (Ju (Ho Kf "list" Ht (Cb k) (B8 t B7))) (IS k pa):=λW ρ σ H D E ok c r=>by
 unfold IS at c
 split at c
 ·rename_i xs e
  obtain⟨p,vs,d,l,j,o⟩:=ok.ownL e
  refine⟨.ref p,d,.inl ⟨rfl,vs,.of l⟩,h2 W ρ σ H _ _ ok c λy f v H1 ⟨k1,k2,k3⟩ i n=>?_⟩
  have a:=ok.step i
  obtain⟨h,g⟩:=ok.stepL i d l j o
  refine⟨p,vs,v,rfl,rfl,h,by rw[<-j.length];exact k2,r.nx _ _ _ k3 (a.mutL (vs:=vs) e d (g.snoc (IV a n k1)))⟩
 ·exact c.elim
theorem PJ(o:∀i,(Xs i).K=Kf)(l:QE Xs a pa)(n:∀i,(Xs i).N[k]?=some x:=by intro _;rfl)(e:∀i,Cv (Xs i).env.scope x:=by intro _;trivial)(h:(x==("__debug__":Str))=false:=by decide)(d:(x==("__classdict__":Str))=false:=by decide)
  (g:(qM.endLine==qL.line)=true:=by rfl) (f:∀i,swapsWith (.Call (.Attribute (.Name x p1) "append" qM) [a] [] qL) none pos.line (Xs i).env=pure false:=by intro _;rfl)
  (j:∀i,attributeBase (.Name x p1) "append" (Xs i).env (eval (.Name x p1) (Xs i).env)=eval (.Name x p1) (Xs i).env:=by intro _;rfl)
  (c:∀i,starEach [a] (Xs i).env=[(false,eval a (Xs i).env)]:=by intro _;rfl):QS Xs (.Expr (.Call (.Attribute (.Name x p1) "append" qM) [a] [] qL) pos) (IS k pa):=by
 obtain⟨t,h1,h2⟩:=l
 refine⟨_,λi=>?_,WK (Kf:=Kf) h2⟩
 rw[<-o i]
 exact Jv (Hr PySem.F.plainAttrs_list PySem.F.slot_list_append PySem.F.type_list_append Hu (Ds (n i) (e i) h d) (Ap (h1 i) BA (c i)) (j i) (by rw[c i];rfl) g (c i) rfl) (f i)
theorem WL(h1:A6 t pa)(h2:A6 u pb):Dg (Da u (Mr (Cb k) t KA)) (IT k pa pb):=λW ρ σ H D E ok d r=>by
 unfold IT at d
 split at d
 ·rename_i xs e
  obtain⟨p,vs,h,z,q,x⟩:=ok.ownL e
  refine h2 W ρ σ H _ _ ok d λy f v H1 ky g s=>⟨.ref p,h,h1 W ρ σ H1 _ _ (ok.step g) ky λB C A H2 ⟨n,j,k0,k1,k2,k3⟩ o w=>?_⟩
  have c:=g.trans o
  have a:=ok.step c
  obtain⟨l,i⟩:=ok.stepL c h z q x
  subst k0
  cases B3 a w
  exact⟨p,vs,n,j,rfl,rfl,l,by rw[<-q.length];exact k1,r.nx _ _ _ k3 (a.mutL (vs:=vs) e h (i.set (IV a (s.step (ok.step g) o) k2) j))⟩
 ·exact d.elim
theorem WM{c:Pos}(o:QE Xs a pa)(g:QE Xs b pb)(p:∀i,(Xs i).N[k]?=some x:=by intro _;rfl)(h:∀i,Cv (Xs i).env.scope x:=by intro _;trivial)(n:(x==("__debug__":Str))=false:=by decide)(f:(x==("__classdict__":Str))=false:=by decide)
  (l:∀i,∀v,assign (.Subscript (.Name x p1) a c) (Xs i).env v=(do
   let d <-holding [v] (eval (.Name x p1) (Xs i).env)
   let e <-holding [v,d] (eval a (Xs i).env)
   standAt c
   holding [v,d,e] (setItem d e v)
   release [v,d,e] []):=by intro _ _;rfl)
  (j:∀i,swapsWithSole [.Subscript (.Name x p1) a c] b pos.line (Xs i).env=pure false:=by intro _;rfl) (hw:∀i,swappedStores [.Subscript (.Name x p1) a c] b (Xs i).env=pure none:=by intro _;rfl)
  (h1:∀i,(assignEach [.Subscript (.Name x p1) a c] (Xs i).env).map (·.2)=[assign (.Subscript (.Name x p1) a c) (Xs i).env]:=by intro _;rfl):QS Xs (.Assign [.Subscript (.Name x p1) a c] b pos) (IT k pa pb):=by
 obtain⟨t,w,s⟩:=o
 obtain⟨u,r,q⟩:=g
 exact⟨_,λi=>J0 (r i) (Jz (Ds (p i) (h i) n f) (w i) F8 (l i)) (j i) (hw i) (h1 i),WL s q⟩
theorem Ok.frzS(D:∀p,¬W.O p)(ok:Ok W ρ σ H):Ok W (frzS k ρ) σ H:=by
 unfold L2.frzS
 split
 ·rename_i x e
  obtain⟨o,h1,p,h2,G,J,E,I,g⟩:=ok.slot k _ e
  subst h2
  have w:k<ρ.length:=by
   rcases Nat.lt_or_ge k ρ.length with q|q
   ·exact q
   ·rw[getElem?_eq_none q]at e;cases e
  have A:k<σ.length:=by rw[ok.len];exact w
  have h:σ.set k (some (.ref p))=σ:=by
   apply ext_getElem?
   intro i
   by_cases hi:k=i
   ·subst hi;rw[getElem?_set_self A,h1]
   ·rw[getElem?_set_ne hi]
  have hn:=FC (ρ:=ρ) (σ:=σ) (k:=k) (v:=.ref p) (s:=.fr x) (λ_ z=>nomatch z)
  have key:=ok.put (v:=.ref p) (s:=.fr x) (Step.refl ok.bag) w (λq z=>.inl (hn q z)) ?_ (λy z=>nomatch z)
  ·rw[h]at key;exact key
  ·refine⟨.ref p,rfl,?_⟩
   rw[h]at hn ⊢
   have n:∀q o,¬Zf W ρ σ q->H q=some o->¬Zf W (ρ.set k (.fr x)) σ q/\H q=some o:=Kh (f:=.fr) (Step.refl ok.bag) (λq z=>.inl (hn q z))
   have l:¬Zf W (ρ.set k (.fr x)) σ p:=by
    intro z
    simp only[AC]at z
    rcases z with z|(z|z)|z
    ·exact E z
    ·-- u r: B same cell
     exact D p z
    ·obtain⟨i,y,j,C⟩:=z
     by_cases hi:k=i
     ·subst hi;rw[getElem?_set_self w]at j;cases j
     ·rw[getElem?_set_ne hi]at j
      exact hi (ok.uniq k i x y e j (by rw[h1,C]))
    ·exact z G
   cases x with
   |lst xs=>obtain⟨vs,c,a⟩:=g;exact⟨p,vs,rfl,l,c,a.keep n λq us e=>e⟩
   |dT ks xs=>obtain⟨vs,c,d,a⟩:=g;exact⟨p,vs,rfl,l,c,d,a.keep n λq us e=>e⟩
   |fT ks xs=>obtain⟨vs,c,d,a⟩:=g;exact⟨p,vs,rfl,l,c,d,a.keep n λq us e=>e⟩
   |dK ks xs=>obtain⟨vs,c,d,a⟩:=g;exact⟨p,vs,rfl,l,c,d,a.keep n λq us e=>e⟩
   |_=>exact g.elim
 ·exact ok
theorem Ed{st:Stmt}{p:pS}(k:Nat)(h:QS Xs st p):QS Xs st (PH k p):=by
 obtain⟨t,h1,h2⟩:=h
 exact⟨t,h1,λW ρ σ H D E ok a r=>h2 W _ σ H D E (ok.frzS r.noO) a r⟩
theorem WN{g:Int->Int->Int}(h1:A6 t pa)(h2:A6 u pb):Dg (Ms (Cb k) t u KO (Fy g) KA) (IU g k pa pb):=λW ρ σ H D E ok l r=>by
 unfold IU at l
 split at l
 ·rename_i xs e
  obtain⟨p,vs,j,G,i,C⟩:=ok.ownL e
  refine⟨.ref p,j,h1 W ρ σ H _ _ ok l λY fi U H1 ⟨n,B,o,k0,k1,k2,k3⟩ q L=>?_⟩
  have h:=ok.step q
  obtain⟨A,O⟩:=ok.stepL q j G i C
  subst k0
  cases B3 h L
  obtain⟨I,T,Q⟩:=i.get k2
  cases(show I=.int o from Q)
  have w:atI vs n=some (.int o):=by
   unfold atI
   rw[<-i.length,k1]
   exact T
  refine⟨p,n,vs,rfl,rfl,A,.int o,w,h2 W ρ σ H1 _ _ h k3 λy f v H2 ⟨d,N,k5⟩ J M=>?_⟩
  subst N
  have a:=q.trans J
  have c:=ok.step a
  cases B3 c M
  obtain⟨z,s⟩:=ok.stepL a j G i C
  exact⟨o,d,rfl,rfl,p,vs,n,B,rfl,rfl,z,by rw[<-i.length];exact k1,r.nx _ _ _ k5 (c.mutL (vs:=vs) e j (s.set (x:=.int (g o d)) rfl B))⟩
 ·exact l.elim
theorem PL{l:Pos}{op:Operator}{g:Int->Int->Int}(f:∀i,Ey (Xs i) op (Fy g))(p:QE Xs a pa)(j:QE Xs b pb)(q:∀i,(Xs i).N[k]?=some x:=by intro _;rfl)(n:∀i,Cv (Xs i).env.scope x:=by intro _;trivial)(o:(x==("__debug__":Str))=false:=by decide)(h:(x==("__classdict__":Str))=false:=by decide)
  (e:∀c d new,augStore a c d new=(do holding [new,c,d] (setItem c d new);release [new,c,d] [];pure .next):=by intros;rfl):QS Xs (.AugAssign (.Subscript (.Name x p1) a l) op b pos) (IU g k pa pb):=by
 obtain⟨t,w,v⟩:=p
 obtain⟨u,s,r⟩:=j
 exact⟨_,λi=>Mu (Ds (q i) (n i) o h) (w i) Ny (s i) (f i) F8 e,WN v r⟩
def K2(g:Int->Int->Int)(k:Nat)(pe:pE):pS:=λE ρ=>match ρ[k]? with
 |some (.sh (.int o))=>pe ρ λy _=>∃d,y=.int d/\E.nx (ρ.set k (.sh (.int (g o d))))
 |_=>False
theorem PM{op:Operator}{g:Int->Int->Int}{s:Pos}(j:∀i,Ey (Xs i) op (Fy g))(l:∀i,(Xs i).N.Nodup)(A:QE Xs a pa)(hi:∀i,(Xs i).N[k]?=some x:=by intro _;rfl)(u:∀i,Bu (Xs i).env.scope x:=by intro _;trivial)
  (z:∀i,(Xs i).fn x=true\/(Xs i).env.scope.names.lookup x=some .local:=by intro _;trivial):QS Xs (.AugAssign (.Name x s) op a pos) (K2 g k pa):=by
 obtain⟨t,h1,h2⟩:=A
 refine⟨_,λi=>Sw (l i) (hi i) (u i) (h1 i) (j i) (z i),λW ρ σ H D E ok c r=>?_⟩
 unfold K2 at c
 split at c
 ·rename_i o e
  obtain⟨w,I,p,G,C⟩:=ok.slot k _ e
  subst G
  cases(show p=.int o from C)
  refine⟨.int o,I,h2 W ρ σ H _ _ ok c λy f v H1 ⟨d,k1,k2⟩ n q=>?_⟩
  subst k1
  cases B3 (ok.step n) q
  obtain⟨ρ',B,h⟩:=Ok.set (K:=λρ'=>ρ'=ρ.set k (.sh (.int (g o d)))) (k:=k) ok n (FD (k:=g o d)) (by simp[BL])
  subst B
  exact⟨o,d,rfl,rfl,r.nx _ _ _ k2 h⟩
 ·exact c.elim
end
end L2
namespace L2
open PySem PySem.Spec PyProof.Rows PySem.W
theorem Inv.laidF{D:Addr}{m:Str->Option Value}(I:Inv X qA σ H s)(hm:s.heap.Ns X.env.locals m)(a:h'.Ns X.env.locals m)(k:∀b u,b≠X.env.locals->s.heap.get? b=some u->h'.get? b=some u)(d:H D=none)(h:∀u,s.heap.get? D≠some u)
  (new:A0 X.prog X.w (AD H D o) h' D o):Inv X qA σ (AD H D o) { s with heap:=h',toks:=t' }:=by
 refine I.step (g':=s.gens) (d':=s.drawn) (ch:=[]) (λb hb=>nomatch hb) (λb u f _ _ e _=>k b u f e) (λb u f _ _ e _=>⟨u.slots,k b u f e⟩) (λb u _ e n=>?_) (λb u _ e=>?_) (λb xs e=>?_) (λb u v e=>?_) (λb ps e=>⟨#[],?_⟩) (λl h2=>?_) ?_ I.bare
 ·rw[AL (λz=>by subst z;exact h u e)];exact n
 ·by_cases hb:b=X.env.locals
  ·subst hb;obtain⟨o',_,_,j,_⟩:=a;exact⟨o',j⟩
  ·exact⟨u,k b u hb e⟩
 ·rw[AL (A3 e d)];exact e
 ·rw[AL (A3 e d)];exact e
 ·rw[AL (A3 e d)];simpa using e
 ·rw[h2.eq_nsMap,<-hm.eq_nsMap];exact a
 ·intro b u e
  by_cases hb:b=D
  ·subst hb;rw[Af]at e;cases e;exact new
  ·rw[AL hb]at e
   have g:∀c v,H c=some v->c≠X.env.locals:=λc v q z=>by subst z;rw[I.free]at q;cases q
   refine(I.hok b u e).stay (λc v i q=>k c v ?_ q) (λc q=>?_) λc xs q=>?_
   ·rcases i with z|z
    ·rw[z];exact g b u e
    ·exact g c _ z
   ·rw[AL (A3 q d)];exact q
   ·rw[AL (A3 q d)];exact q
theorem PN{F:PySem.Fin->Shared->Prop}(f:s.heap.get? a=some (seqObj "list" us.toArray n))(h2:us.length<2)(h:F (.done (.ret .none)) { s with heap:=sortedHeap s.heap a us us.toArray }) :
  wpAny (model prog w) A (Builtin.«list.sort» ⟨[.ref a],[]⟩) F E s:=by
 have i:=Heap.lt_size f
 rw[list_sort_plain]
 refine wB (listItems_at f rfl (wB (listUpdate_at f rfl ?_)))
 have d:=get?_update_seq f (λ_=>#[])
 refine wB (seqEpoch_at d rfl (wB (wpAny_newTuple (wB (wpAny_newList (wpAny_holding ?_))))))
 have c:(((s.heap.update a (Obj.mapSeq λ_=>#[])).push (seqObj "tuple" us.toArray 0)).push (seqObj "list" #[] 0)).get? a=_ :=
  (Heap.get?_push_ne _ a _ (by rw[size_push',Heap.size_update];exact Nat.ne_of_lt (Nat.lt_succ_of_lt i))).trans ((Heap.get?_push_ne _ a _ (by rw[Heap.size_update];exact Nat.ne_of_lt i)).trans d)
 have g:us.toArray.size<2:=by rw[size_toArray];exact h2
 dsimp only
 rw[if_pos g,if_pos g]
 refine wB (wP ?_)
 rw[StateT.run_pure]
 refine wB (wP (wB (seqEpoch_at c rfl (wB (listUpdate_at c rfl ?_ (hsz2:=?_))))))
 ·simp only[bne_self_eq_false,Bool.false_eq_true,if_false]
  have e:(arrOf (SortSt.mk' general' (us.toArray.zip us.toArray) #[] 7 none)).map (·.2)=us.toArray:=by
   show((us.toArray.zip us.toArray).map (·.2))=us.toArray
   apply Array.ext'
   simp[map_snd_zip]
  rw[<-e]at h
  exact wP h
 ·rw[Array.size_map]
  show(us.toArray.zip us.toArray).size<=_
  rw[Array.size_zip,sizeLine_eq]
  lia
theorem PP{l:Addr}(d:s.heap.IsList l us.toArray)(h2:us.length<2)(q:Q (.ref (s.heap.objs.size+1)) { s with heap:=sortedAll s.heap us us.toArray }) :
  wpAny (model prog w) A (call (.builtin "sorted") [.ref l]) Q E s:=by
 refine Calls.call_function_entry kind_sorted plain_sorted entry_sorted (args_sorted1 _) ?_
 unfold Builtin.«sorted»
 refine wB (m:=checkCount "sorted" 1 1 _) (wP (wB (collect_list d (wB (wpAny_newList ?_ (by rw[sizeLine_eq];lia))) (by rw[sizeLine_eq];lia))))
 have c:((s.heap.push (seqObj "list" #[] 0)).update s.heap.objs.size (Obj.mapSeq (·++us.toArray))).objs.size=s.heap.objs.size+1:=by
  rw[Heap.size_update,size_push']
 have a:=Heap.get?_push_size ((s.heap.push (seqObj "list" #[] 0)).update s.heap.objs.size (Obj.mapSeq (·++us.toArray))) (o:=seqObj "list" us.toArray 0) rfl
 rw[c]at a
 show wpAny _ _ _ _ _ { s with heap:=((s.heap.push (seqObj "list" #[] 0)).update s.heap.objs.size (Obj.mapSeq (·++us.toArray))).push (seqObj "list" us.toArray 0) }
 rw[c]
 exact wB (wpAny_holding (wpAny_call_entry slot_list_sort ⟨_,a,rfl⟩ entry_list_sort (PN a h2 ⟨_,rfl,wP ⟨_,rfl,q⟩⟩) (args_list_sort _)))
abbrev Bx(ps:List (Addr×List Int)):List V:=ps.map λq=>V.ref q.1
def Bb(rs:List (List Int)):Prop:=rs.Pairwise λa b=>HT.lexLt b a=false
theorem K3:∀{ps:List (Addr×List Int)} {us:List Value},AR (Bx ps) us->us=ps.map λq=>Value.ref q.1
 |[],_,.nil=>rfl
 |q::r,_,.cons e t=>by rw[K3 t,show _=Value.ref q.1 from e];rfl
theorem IW:∀(ps:List (Addr×List Int)),AR (Bx ps) (ps.map λq=>Value.ref q.1)
 |[]=>.nil
 |q::r=>.cons rfl (IW r)
theorem WO(M:Model)(h:Heap)(i:Int)(t:Tok):Looks M h (typeOf (.int i t)) (.type "int"):=λA Q E s _ q=>wP q
theorem A0.there(x:A0 P' w H h a o):∃u,h.get? a=some u:=by
 cases o with
 |lst xs=>obtain⟨_,_,_,_,e⟩:=x;exact⟨_,e⟩
 |tup xs=>obtain⟨_,_,_,u,e,_⟩:=x;exact⟨u,e⟩
 |dK qI=>obtain⟨_,_,_,_,u,_,_,e,_⟩:=x;exact⟨u,e⟩
 |dT qI=>obtain⟨_,_,_,_,u,_,_,e,_⟩:=x;exact⟨u,e⟩
 |set S n=>obtain⟨u,_,_,_,e,_⟩:=x;exact⟨u,e⟩
 |ins C dx fs=>obtain⟨_,_,_,e,_⟩:=x;exact⟨_,e⟩
 |own y=>exact x
 |xd fs=>obtain⟨_,⟨u,_,_,e,_⟩,_⟩:=x;exact⟨u,e⟩
 |met f y=>exact⟨_,x⟩
 |rng lo hi=>obtain⟨_,_,_,e⟩:=x;exact⟨_,e⟩
 |frz u v=>exact⟨_,x.1⟩
 |tbl ps=>exact⟨_,x⟩
 |ext φ=>exact x.2.1
theorem PQ{h:Heap}:∀{ps:List (Addr×List Int)},(∀q∈ps,∃us,IntsAre us q.2/\∃o n,h.get? q.1=some o/\o.cls=.type "tuple"/\o.data=.seq us.toArray n)->(∀q∈ps,0<q.2.length) ->
  ∃fs,KatTups h (ps.map λq=>Value.ref q.1) fs/\fs.length=ps.length/\∀v∈fs,∃i t,v=Value.int i t
 |[],_,_=>⟨[],.nil,rfl,λv g=>nomatch g⟩
 |q::r,h1,h2=>by
  obtain⟨fs,a,b,c⟩:=PQ (ps:=r) (λq f=>h1 q (mem_cons_of_mem _ f)) λq f=>h2 q (mem_cons_of_mem _ f)
  obtain⟨us,d,o,n,u,s,e⟩:=h1 q mem_cons_self
  have l:=h2 q mem_cons_self
  generalize q.2=w at d l
  have j:=d.length
  match us,d,e with
  |v::us,d,e =>
   obtain⟨i,t,p⟩:∃i t,v=Value.int i t:=by cases d with|cons i t _=>exact⟨i,t,rfl⟩
   refine⟨v::fs,.cons u s e (by simp) a,by simp[b],λx hx=>?_⟩
   rcases mem_cons.mp hx with rfl|hx
   ·exact⟨i,t,p⟩
   ·exact c x hx
  |[],d,e=>exfalso;simp at j;lia
end L2
namespace L2
open PySem PySem.Spec PyProof.Rows
section
variable{κ κ':Type}[DecidableEq κ][DecidableEq κ']
def BV:List κ->List P->κ->Option P
 |k0::ks,v::vs,k=>if k0=k then some v else BV ks vs k
 |_,_,_=>none
def Aq(ks:List κ)(k:κ):List κ:=if k∈ks then ks else ks++[k]
def Dk(ks:List κ)(vs:List P)(k:κ)(x:P):List P:=if k∈ks then zipWith (λk0 v=>if k0=k then x else v) ks vs else vs++[x]
theorem Ee{b:Addr}{Z:Addr->Prop}{H:Hp}{g:κ->κ'}(d:∀a c,g a=g c->a=c):∀{ks:List κ} {xs:List P} {vs:List V} {k:κ},AB b Z H xs vs->ks.length=xs.length ->
  (∀z,BV ks xs k=some z->∃v,BB ((ks.map g).zip vs) (g k)=some v/\Rp b Z H z v)/\(BV ks xs k=none->BB ((ks.map g).zip vs) (g k)=none)
 |[],[],vs,k,_,_=>⟨(λz h=>(nomatch h)),(λ_=>rfl)⟩
 |k0::ks,x::xs,vs,k,r,n=>by
  obtain⟨v,t,rfl,i,f⟩:=r
  have l:=Ee (k:=k) d f (by simpa using n)
  simp only[BV,map_cons,zip_cons_cons]
  by_cases e:k0=k
  ·subst e
   rw[if_pos rfl,F9 rfl]
   exact⟨(λz h=>⟨v,rfl,by cases h;exact i⟩),(λh=>(nomatch h))⟩
  ·rw[if_neg e]
   have j:¬g k0=g k:=λz=>e (d _ _ z)
   have:BB ((g k0,v)::(ks.map g).zip t) (g k)=BB ((ks.map g).zip t) (g k):=by unfold BB;rw[find?_cons];simp[j]
   rw[this]
   exact l
theorem PR{g:κ->κ'}(f:∀a c,g a=g c->a=c){k:κ}{v:V}:∀(ks:List κ) (vs:List V),((ks.map g).zip vs).map (λd=>if d.1=g k then(d.1,v)else d)=(ks.map g).zip (zipWith (λk0 u=>if k0=k then v else u) ks vs)
 |[],_=>by simp
 |_::_,[]=>by simp
 |k0::ks,u::vs=>by
  simp only[map_cons,zip_cons_cons,zipWith_cons_cons,PR f ks vs]
  by_cases e:k0=k
  ·subst e;simp
  ·have h:¬g k0=g k:=λz=>e (f _ _ z)
   simp[e,h]
theorem K4{g:κ->κ'}(d:∀a c,g a=g c->a=c){k:κ}:∀{ks:List κ} {vs:List V},ks.length=vs.length->((((ks.map g).zip vs).any λe=>decide (e.1=g k))=true↔k∈ks)
 |[],_,_=>by simp
 |k0::ks,[],h=>by simp at h
 |k0::ks,u::vs,h=>by
  simp only[map_cons,zip_cons_cons,any_cons,Bool.or_eq_true,decide_eq_true_iff,K4 (k:=k) d (show ks.length=vs.length by simpa using h),mem_cons]
  constructor
  ·rintro(z|z)
   ·exact .inl (d _ _ z).symm
   ·exact .inr z
  ·rintro(z|z)
   ·exact .inl (by rw[z])
   ·exact .inr z
theorem PU{g:κ->κ'}(f:∀a c,g a=g c->a=c){ks:List κ}{k:κ}(e:ks.length=vs.length):BK ((ks.map g).zip vs) (g k) v=((Aq ks k).map g).zip (if k∈ks then zipWith (λk0 u=>if k0=k then v else u) ks vs else vs++[v]):=by
 unfold BK Aq
 by_cases d:k∈ks
 ·rw[if_pos ((K4 f e).mpr d),if_pos d,if_pos d,PR f]
 ·rw[if_neg (λz=>d ((K4 f e).mp z)),if_neg d,if_neg d,map_append,zip_append (by simpa using e)]
  rfl
theorem PV{b:Addr}{Z:Addr->Prop}{H:Hp}{x:P}{v:V}(a:Rp b Z H x v){k:κ}:∀{ks:List κ} {xs:List P} {vs:List V},AB b Z H xs vs->ks.length=xs.length ->
  AB b Z H (zipWith (λk0 y=>if k0=k then x else y) ks xs) (zipWith (λk0 u=>if k0=k then v else u) ks vs)
 |[],[],vs,r,_=>by simp[AB]
 |k0::ks,y::xs,vs,r,f=>by
  obtain⟨u,t,rfl,d,c⟩:=r
  refine⟨_,_,rfl,?_,PV a c (by simpa using f)⟩
  by_cases e:k0=k
  ·dsimp only;rw[if_pos e,if_pos e];exact a
  ·dsimp only;rw[if_neg e,if_neg e];exact d
theorem K5{b:Addr}{g:κ->κ'}(f:∀a c,g a=g c->a=c){ks:List κ}{k:κ}{x:P}(r:AB b Z H xs vs)(e:ks.length=xs.length)(d:Rp b Z H x v) :
  ∃vs',BK ((ks.map g).zip vs) (g k) v=((Aq ks k).map g).zip vs'/\AB b Z H (Dk ks xs k x) vs':=by
 refine⟨_,PU f (e.trans r.length),?_⟩
 unfold Dk
 split
 ·exact PV d r e
 ·exact r.snoc d
theorem K6{ks:List κ}{k:κ}{x:P}(a:ks.length=xs.length):(Aq ks k).length=(Dk ks xs k x).length:=by
 unfold Aq Dk
 split
 ·rw[length_zipWith];lia
 ·simp[a]
end
theorem DO(a c:List Int)(h:AV a=AV c):a=c:=by rw[<-Ke a,h,Ke]
theorem K7(a c:Str)(h:Df a=Df c):a=c:=Sum.inr.inj h
def CK:P->Option (List Int)
 |.tup xs=>xs.mapM λx=>match x with|.int i=>some i|_=>none
 |_=>none
@[simp] theorem Gj(r:List Int):CK (.tup (r.map P.int))=some r:=by
 simp only[CK]
 induction r with
 |nil=>rfl
 |cons x r a=>rw[map_cons,mapM_cons,a];rfl
theorem PX{x:P}(h:CK x=some r):x=.tup (r.map P.int):=by
 cases x with
 |tup xs =>
  simp only[CK]at h
  congr 1
  induction xs generalizing r with
  |nil=>cases h;rfl
  |cons y xs a =>
   rw[mapM_cons]at h
   cases y with
   |int i =>
    cases e:(xs.mapM λx=>match x with|.int i=>some i|_=>none)with
    |none=>rw[e]at h;cases h
    |some c=>rw[e]at h;cases h;rw[a e];rfl
   |_=>cases h
 |_=>cases h
def PY(pd pk:pE):pE:=λρ K=>pd ρ λx f=>pk ρ λy _=>match x with
 |.dT ks vs=>∃r z,CK y=some r/\BV ks vs r=some z/\K z f.el
 |.dK ks vs=>match y with|.str k=>∃z,BV ks vs k=some z/\K z f.el|_=>False
 |.fT ks vs=>∃r z,CK y=some r/\BV ks vs r=some z/\K z f.el
 |_=>False
def PZ(pd pk px:pE):pE:=λρ K=>pd ρ λx f=>(x.mut=true/\∀xs,x≠.lst xs)/\pk ρ λy _=>px ρ λz _=>match x with
 |.dT ks vs=>∃r,CK y=some r/\P.imms vs=true/\z.imm=true/\K ((BV ks vs r).getD z) .fr
 |.dK ks vs=>match y with|.str k=>P.imms vs=true/\z.imm=true/\K ((BV ks vs k).getD z) .fr|_=>False
 |_=>False
theorem Ef(ok:Ok W ρ σ H)(r:RF W ρ σ Hs f H (.dT ks xs) v):∃p vs,v=.ref p/\p≠W.b/\H p=some (.dT ((ks.map AV).zip vs))/\ks.length=xs.length/\AB W.b (AC W ρ σ f) H xs vs:=by
 cases f with
 |bo=>obtain⟨p,e,o,us,h1,h2,a⟩:=r;exact⟨p,us,e,(ok.ow (.inr o)).2.2.1,h1,h2,a⟩
 |nw=>obtain⟨p,us,e,z,h1,h2,a⟩:=r.1;exact⟨p,us,e,λq=>z (q▸AC.b),h1,h2,a⟩
 |fr=>obtain⟨p,us,e,z,h1,h2,a⟩:=r;exact⟨p,us,e,λq=>z (q▸AC.b (f:=.fr)),h1,h2,a⟩
 |cl=>obtain⟨p,us,e,z,h1,h2,a⟩:=r;exact⟨p,us,e,λq=>z (q▸AC.b (f:=.cl)),h1,h2,a⟩
 |rf=>obtain⟨p,us,e,z,h1,h2,a⟩:=r;exact⟨p,us,e,λq=>z (q▸AC.b (f:=.rf)),h1,h2,a⟩
 |an=>obtain⟨p,us,e,z,h1,h2,a⟩:=r;exact⟨p,us,e,λq=>z (q▸AC.b (f:=.an)),h1,h2,a⟩
theorem K8{ks:List Str}(ok:Ok W ρ σ H)(r:RF W ρ σ Hs f H (.dK ks xs) v):∃p vs,v=.ref p/\p≠W.b/\H p=some (.dK ((ks.map Df).zip vs))/\ks.length=xs.length/\AB W.b (AC W ρ σ f) H xs vs:=by
 cases f with
 |bo=>obtain⟨p,e,o,us,h1,h2,a⟩:=r;exact⟨p,us,e,(ok.ow (.inr o)).2.2.1,h1,h2,a⟩
 |nw=>obtain⟨p,us,e,z,h1,h2,a⟩:=r.1;exact⟨p,us,e,λq=>z (q▸AC.b),h1,h2,a⟩
 |fr=>obtain⟨p,us,e,z,h1,h2,a⟩:=r;exact⟨p,us,e,λq=>z (q▸AC.b (f:=.fr)),h1,h2,a⟩
 |cl=>obtain⟨p,us,e,z,h1,h2,a⟩:=r;exact⟨p,us,e,λq=>z (q▸AC.b (f:=.cl)),h1,h2,a⟩
 |rf=>obtain⟨p,us,e,z,h1,h2,a⟩:=r;exact⟨p,us,e,λq=>z (q▸AC.b (f:=.rf)),h1,h2,a⟩
 |an=>obtain⟨p,us,e,z,h1,h2,a⟩:=r;exact⟨p,us,e,λq=>z (q▸AC.b (f:=.an)),h1,h2,a⟩
theorem K9(ok:Ok W ρ σ H)(r:RF W ρ σ Hs f H (.fT ks xs) v):∃p vs,v=.ref p/\p≠W.b/\Fz H p ((ks.map AV).zip vs)/\ks.length=xs.length/\AB W.b (AC W ρ σ f) H xs vs:=by
 cases f with
 |bo=>obtain⟨p,e,o,us,h1,h2,a⟩:=r;exact⟨p,us,e,(ok.ow (.inr o)).2.2.1,h1,h2,a⟩
 |nw=>obtain⟨p,us,e,z,h1,h2,a⟩:=r.1;exact⟨p,us,e,λq=>z (q▸AC.b),h1,h2,a⟩
 |fr=>obtain⟨p,us,e,z,h1,h2,a⟩:=r;exact⟨p,us,e,λq=>z (q▸AC.b (f:=.fr)),h1,h2,a⟩
 |cl=>obtain⟨p,us,e,z,h1,h2,a⟩:=r;exact⟨p,us,e,λq=>z (q▸AC.b (f:=.cl)),h1,h2,a⟩
 |rf=>obtain⟨p,us,e,z,h1,h2,a⟩:=r;exact⟨p,us,e,λq=>z (q▸AC.b (f:=.rf)),h1,h2,a⟩
 |an=>obtain⟨p,us,e,z,h1,h2,a⟩:=r;exact⟨p,us,e,λq=>z (q▸AC.b (f:=.an)),h1,h2,a⟩
theorem Eg{x:P}(ok:Ok W ρ σ H)(g:CK x=some r)(a:RF W ρ σ Hs f H x v):∃q,v=.ref q/\H q=some (.tup ((AV r).map kV)):=by
 rw[PX g]at a
 obtain⟨q,us,e,c,d⟩:=DN ok a
 rw[AB.ints.mp d]at c
 exact⟨q,e,by rw[c];simp[AV,map_map,Function.comp_def,kV]⟩
section
variable{ι:Type}{Xs:ι->Cx}{o i e:Expr}{pd pk px:pE}
theorem Eh(N:∀j,(Xs j).A.units+1<cLine)(T:QE Xs o pd)(hi:QE Xs i pk)(O:KG i):QE Xs (.Subscript o i pos) (PY pd pk):=by
 obtain⟨td,d1,Y⟩:=T
 obtain⟨tk,k1,k2⟩:=hi
 refine⟨_,λj=>UI (N j) (d1 j) (k1 j) O,λW ρ σ H Q K ok U q=>Y W ρ σ H _ _ ok U λx f v H1 h1 D L=>k2 W ρ σ H1 _ _ (ok.step D) h1 λy g u H2 h2 J E=>?_⟩
 have c:=D.trans J
 have a:=ok.step c
 have d:=L.step (ok.step D) J
 split at h2
 ·obtain⟨r,z,G,h,e⟩:=h2
  obtain⟨p,us,rfl,_,s,n,l⟩:=Ef a d
  obtain⟨M,rfl,I⟩:=Eg a G E
  obtain⟨w,C,B⟩:=(Ee DO (k:=r) l n).1 z h
  exact⟨p,w,rfl,by rw[<-C];exact B9.t s I,q z _ w H2 e c (RF.ofEl B)⟩
 ·split at h2
  ·obtain⟨z,h,e⟩:=h2
   rename_i ks vs _ k
   obtain⟨p,us,rfl,_,s,n,l⟩:=K8 a d
   cases EU a E
   obtain⟨w,C,B⟩:=(Ee K7 (k:=k) l n).1 z h
   exact⟨p,w,rfl,by rw[<-C];exact B9.k (k:=Sum.inr k) s,q z _ w H2 e c (RF.ofEl B)⟩
  ·exact h2.elim
 ·obtain⟨r,z,G,h,e⟩:=h2
  obtain⟨p,us,rfl,_,⟨o,s⟩,n,l⟩:=K9 a d
  obtain⟨M,rfl,I⟩:=Eg a G E
  obtain⟨w,C,B⟩:=(Ee DO (k:=r) l n).1 z h
  exact⟨p,w,rfl,by rw[<-C];exact .inr ⟨_,_,_,.inr ⟨o,s⟩,rfl,I,rfl⟩,q z _ w H2 e c (RF.ofEl B)⟩
 ·exact h2.elim
theorem Pa{κ κ':Type}[DecidableEq κ][DecidableEq κ']{b:Addr}{g:κ->κ'}(i:∀a c,g a=g c->a=c){ks:List κ}{k:κ}{z:P}{u:V}(r:AB b Z H xs vs)(f:ks.length=xs.length)(hi:P.imms xs=true)(hz:z.imm=true)(j:Rp b Z H z u) :
  Rp b Z H ((BV ks xs k).getD z) ((BB ((ks.map g).zip vs) (g k)).getD u)/\((BV ks xs k).getD z).imm=true:=by
 cases e:BV ks xs k with
 |none=>rw[(Ee i (k:=k) r f).2 e];exact⟨j,hz⟩
 |some w =>
  obtain⟨v,o,n⟩:=(Ee i (k:=k) r f).1 w e
  rw[o]
  refine⟨n,?_⟩
  have:∀{ks:List κ} {xs:List P},P.imms xs=true->BV ks xs k=some w->w.imm=true:=by
   intro ks
   induction ks with
   |nil=>intro xs _ h;cases h
   |cons k0 ks l =>
    intro xs d h
    cases xs with
    |nil=>cases h
    |cons x xs =>
     rw[Hz,Bool.and_eq_true]at d
     simp only[BV]at h
     split at h
     ·cases h;exact d.1
     ·exact l d.2 h
  exact this hi e
theorem Gk(hu:∀j,(Xs j).A.units+1<cLine)(ho:QE Xs o pd)(hi:QE Xs e pk)(hx:QE Xs c px)
  (m:∀j,M2 (Xs j) o "get" qM e c qL:=by intro _;exact⟨rfl,rfl,rfl,rfl⟩):QE Xs (.Call (.Attribute o "get" qM) [e,c] [] qL) (PZ pd pk px):=by
 obtain⟨td,d1,d2⟩:=ho
 obtain⟨tk,k1,k2⟩:=hi
 obtain⟨tx,x1,Y⟩:=hx
 refine⟨_,λj=>UP (hu j) (d1 j) (k1 j) (x1 j) (m j),λW ρ σ H Q K ok hk q=>d2 W ρ σ H _ _ ok hk λx f v H1 ⟨⟨M,L⟩,h1⟩ T G=>?_⟩
 have a:=ok.step T
 obtain⟨p,rfl,hd⟩:∃p,v=.ref p/\Hw H1 p:=by
  cases x with
  |dT ks xs=>obtain⟨p,us,e,_,h,_⟩:=Ef a G;exact⟨p,e,.inr ⟨_,.of h⟩⟩
  |dK ks xs=>obtain⟨p,us,e,_,h,_⟩:=K8 a G;exact⟨p,e,.inl ⟨_,.of h⟩⟩
  |fT ks xs=>obtain⟨p,us,e,_,⟨o,h⟩,_⟩:=K9 a G;exact⟨p,e,.inr ⟨_,.inr ⟨o,h⟩⟩⟩
  |lst xs=>exact absurd rfl (L xs)
  |_=>simp[P.mut]at M
 refine⟨p,rfl,hd,k2 W ρ σ H1 _ _ a h1 λy g u H2 h2 E r2=>Y W ρ σ H2 _ _ (a.step E) h2 λz gz uz s n I U=>?_⟩
 have i:=(T.trans E).trans I
 have d:=ok.step i
 have B:=G.step a (E.trans I)
 have w:=r2.step (a.step E) I
 split at n
 ·obtain⟨r,e1,D,C,N⟩:=n
  obtain⟨p',us,e,_,h,O,l⟩:=Ef d B
  cases e
  obtain⟨q2,rfl,c4⟩:=Eg d e1 w
  have l:AB W.b (Zf W ρ σ) s _ us:=l.imm D
  have J:Rp W.b (Zf W ρ σ) s z uz:=(U.any d).imm C
  exact⟨_,B9.t h c4,q _ _ _ s N i (Pa DO (k:=r) l O D C J).1⟩
 ·split at n
  ·obtain⟨D,C,N⟩:=n
   rename_i ks vs _ k
   obtain⟨p',us,e,_,h,O,l⟩:=K8 d B
   cases e
   cases EU d w
   have l:AB W.b (Zf W ρ σ) s _ us:=l.imm D
   have J:Rp W.b (Zf W ρ σ) s z uz:=(U.any d).imm C
   exact⟨_,B9.k (k:=Sum.inr k) h,q _ _ _ s N i (Pa K7 (k:=k) l O D C J).1⟩
  ·exact n.elim
 ·exact n.elim
def Pb:pE:=λ_ K=>K (.dT [] []) .nw
theorem Gm:QE Xs (.Dict [] [] pos) Pb:=⟨_,λ_=>UM,λW ρ σ H Q K ok c q=>λp a=>q _ _ _ _ c (Step.new ok.bag a) ⟨⟨p,[],rfl,λz=>ok.dom (f:=.fr) z a,Af,rfl,rfl⟩,λ_=>⟨p,rfl,a⟩⟩⟩
end
def IX(k:Nat)(pk pe:pE):pS:=λE ρ=>match ρ[k]? with
 |some (.own (.dT ks vs))=>pe ρ λy f=>pk ρ λz _=>∃r,CK z=some r/\A2 y f=.nw/\ks.length<16777216/\E.nx (ρ.set k (.own (.dT (Aq ks r) (Dk ks vs r y))))
 |some (.own (.dK ks vs))=>pe ρ λy f=>pk ρ λz _=>∃r,z=.str r/\A2 y f=.nw/\ks.length<16777216/\E.nx (ρ.set k (.own (.dK (Aq ks r) (Dk ks vs r y))))
 |_=>False
section
variable{ι:Type}{Xs:ι->Cx}{a b:Expr}{pa pb:pE}{p1:Pos}{k:Nat}{t u:TE}
theorem WQ(h1:A6 t pa)(h2:A6 u pb):Dg (Nb (Cb k) t u) (IX k pa pb):=λW ρ σ H D E ok A r=>by
 unfold IX at A
 split at A
 ·rename_i ks xs e
  obtain⟨w,j,p,N,_,_,J,_,vs,Q,B,O⟩:=ok.slot k _ e
  subst N
  have I:Ac ρ σ p:=⟨k,_,e,j⟩
  refine h2 W ρ σ H _ _ ok A λy f v H1 ky h G=>⟨.ref p,j,h1 W ρ σ H1 _ _ (ok.step h) ky λz U T H2 ⟨g,k0,k1,k2,k3⟩ s C=>?_⟩
  have c:=h.trans s
  have a:=ok.step c
  obtain⟨q,rfl,Y⟩:=Eg a k0 C
  have n:=c.same p _ J Q
  have l:AB W.b (Zf W ρ σ) H2 xs vs:=O.step (f:=.fr) c ok.bag
  have i:=IV a (G.step (ok.step h) s) k1
  refine⟨p,_,rfl,DE.t n Y (by rw[length_zip,length_map];exact Nat.lt_of_le_of_lt (Nat.min_le_left _ _) k2),r.nx _ _ _ k3 ?_⟩
  obtain⟨d,M,L⟩:=K5 DO (k:=g) l B i
  rw[M]
  have x:=D6 (o:=HO.dT (((Aq ks g).map AV).zip d)) a I (f:=.fr) (.inr rfl)
  exact a.mut e j (λ_ z=>nomatch z) ⟨d,Af,K6 B,L.keep x.1 x.2⟩
 ·rename_i ks xs e
  obtain⟨w,j,p,N,_,_,J,_,vs,Q,B,O⟩:=ok.slot k _ e
  subst N
  have I:Ac ρ σ p:=⟨k,_,e,j⟩
  refine h2 W ρ σ H _ _ ok A λy f v H1 ky h G=>⟨.ref p,j,h1 W ρ σ H1 _ _ (ok.step h) ky λz U T H2 ⟨g,k0,k1,k2,k3⟩ s C=>?_⟩
  have c:=h.trans s
  have a:=ok.step c
  subst k0
  cases EU a C
  have n:=c.same p _ J Q
  have l:AB W.b (Zf W ρ σ) H2 xs vs:=O.step (f:=.fr) c ok.bag
  have i:=IV a (G.step (ok.step h) s) k1
  refine⟨p,_,rfl,DE.k (k:=Sum.inr g) n (by rw[length_zip,length_map];exact Nat.lt_of_le_of_lt (Nat.min_le_left _ _) k2),r.nx _ _ _ k3 ?_⟩
  obtain⟨d,M,L⟩:=K5 K7 (k:=g) l B i
  rw[show(Sum.inr g:AN)=Df g from rfl,M]
  have x:=D6 (o:=HO.dK (((Aq ks g).map Df).zip d)) a I (f:=.fr) (.inr rfl)
  exact a.mut e j (λ_ z=>nomatch z) ⟨d,Af,K6 B,L.keep x.1 x.2⟩
 ·exact A.elim
theorem IY(e:∀i,(Xs i).A.units+1<cLine)(j:QE Xs a pa)(h:QE Xs b pb)(l:∀i,(Xs i).N[k]?=some x:=by intro _;rfl)(d:∀i,Cv (Xs i).env.scope x:=by intro _;trivial)(g:(x==("__debug__":Str))=false:=by decide)(c:(x==("__classdict__":Str))=false:=by decide)
  (f:∀i,swapsWith b (some (.Subscript (.Name x p1) a pos')) pos.line (Xs i).env=pure false:=by intro _;rfl):QS Xs (.Assign [.Subscript (.Name x p1) a pos'] b pos) (IX k pa pb):=by
 obtain⟨t,q,p⟩:=j
 obtain⟨u,o,n⟩:=h
 exact⟨_,λi=>UJ (e i) (Ds (l i) (d i) g c) (q i) (o i) (f i),WQ p n⟩
end
end L2
namespace L2
open PySem PySem.Spec PyProof.Rows PySem.W
def Bp(h:Heap)(d:Addr)(es:Array DictEntry)(ep:Nat):Prop:=∃o,h.get? d=some o/\o.ExactDict/\o.data=.dict es ep
theorem Bp.typeIs{es:Array DictEntry}(x:Bp s.heap d es ep):s.TypeIs (.ref d) "dict":=let⟨o,e,c,_⟩:=x;⟨o,e,c.1⟩
theorem Bp.keep{es:Array DictEntry}(x:Bp h d es ep)(k:∀o,h.get? d=some o->h'.get? d=some o):Bp h' d es ep:=let⟨o,e,r⟩:=x;⟨o,k o e,r⟩
theorem Bp.lt{es:Array DictEntry}(x:Bp h d es ep):d<h.objs.size:=let⟨_,e,_⟩:=x;Heap.lt_size e
section
variable{es:Array DictEntry}
theorem Pc(f:(d==sysModules)=false)(c:Bp s.heap d es ep)
  (g:Q (.ref s.heap.objs.size) { s with heap:=s.heap.push { cls:=.type "dict_keyiterator",data:=.fields #[.ref d,.int 0 0,.int es.size 0,.int ep 0] } }):wpAny (model prog w) A (pyIter (.ref d)) Q E s:=by
 obtain⟨o,e,h,a⟩:=id c
 refine wpAny_pyIter_slot c.typeIs F.slot_dict_iter (wpAny_call_entry F.slot_dict_iter c.typeIs F.entry_dict_iter ?body (F.args_dict_iter_1 _))
 unfold Builtin.«dict.__iter__» Builtin.Dict.dictSlotNone
 refine wB (wB (wpAny_notOrdered_dict c.typeIs ?_))
 show wpAny _ _ (pure (Value.ref d)) _ _ s
 refine wP ?_
 show wpAny _ _ (Builtin.Dict.showsAll d >>= _) _ _ s
 unfold Builtin.Dict.showsAll
 rw[if_neg (show¬_ by rw[f];simp)]
 refine wB (wP (wB (wpAny_dictEntries e a (wB (wpAny_dictEpoch e a (wB (wpAny_newObj_type (wP ⟨_,rfl,"dict_keyiterator",_,⟨_,Heap.get?_push_size _ rfl,rfl⟩,F.slot_dict_keyiterator_next.lookup,?_⟩))))))))
 simpa[rawInt]using g
theorem Pd{Q:Option Value->Shared->Prop}(a:s.heap.IsKeyIter it d i es.size ep)(l:Bp s.heap d es ep)(hi:i<es.size)
  (q:∀h',h'.IsKeyIter it d (i+1) es.size ep->Heap.SameBut it s.heap h'->Q (some es[i].key) { s with heap:=h' }):wpAny (model prog w) A (pyNext (.ref it)) Q E s:=by
 obtain⟨o,j,p,h⟩:=id a
 obtain⟨r,f,n,g⟩:=id l
 have e:Builtin.Dict_items.ownsTuple "dict_keyiterator"=false:=by decide
 unfold pyNext
 refine wB (wpAny_attempt (wpAny_callSpecial?_slot (name:=Str.ofString "__next__") a.typeIs F.slot_dict_keyiterator_next (wpAny_call_entry F.slot_dict_keyiterator_next a.typeIs F.entry_dict_keyiterator_next ?body (F.args_dict_keyiterator_next_1 _))))
 refine wB (wP (wB (wB ?_)))
 first
  |refine wB (wpAny_typeNameOfWhole_keyiter a.typeIs (wP (wB (wpAny_fieldsOf j h ?_))))
  |refine wB (wpAny_typeNameOf_keyiter a.typeIs (wP (wB (wpAny_fieldsOf j h ?_))))
 simp only[e,Bool.false_eq_true,if_false]
 show wpAny _ _ (if(Value.ref d==Value.none)=true then _ else _) _ _ s
 rw[if_neg (show¬(Value.ref d==Value.none)=true from Bool.false_ne_true)]
 refine wB (wP (wB (wpAny_dictEntries f g ?_)))
 rw[if_neg (by simp)]
 refine wB (wP (wB (wpAny_dictEpoch f g ?_)))
 rw[if_neg (by simp)]
 refine wP ?_
 simp only[show¬((i:Int)<0) by lia,if_false,Int.toNat_natCast,Array.getElem?_eq_getElem hi]
 refine wB ?_
 first
  |refine wB (wpAny_typeNameOfWhole_keyiter a.typeIs (wP (wB (wpAny_isOneOf_keyiter a.typeIs ?_))))
  |refine wB (wpAny_typeNameOf_keyiter a.typeIs (wP (wB (wpAny_isOneOf_keyiter a.typeIs ?_))))
 show wpAny _ _ (setField (.ref it) 1 (rawInt ((i:Int)+1)) >>= _) _ _ s
 refine wB (wpAny_setField j h (by simp) ?_)
 have c:(s.heap.update it (Obj.mapFields (·.setIfInBounds 1 (rawInt ((i:Int)+1))))).IsKeyIter it d (i+1) es.size ep :=
  ⟨_,Heap.get?_update_self _ j (Obj.isFreed_of_fields (Obj.data_mapFields h _)),(Obj.cls_mapFields ..).trans p,by rw[Obj.data_mapFields h]<;>simp[rawInt]⟩
 refine wB (wpAny_holding (wB (wpAny_isOneOf_keyiter (s:={ s with heap:=s.heap.update it (Obj.mapFields (·.setIfInBounds 1 (rawInt ((i:Int)+1)))) }) c.typeIs ?_)))
 show wpAny _ _ (pure es[i].key) _ _ _
 exact wP (wP ⟨_,rfl,wP (q _ c (Heap.SameBut.update ..))⟩)
theorem Pe{Q:Option Value->Shared->Prop}(l:A.handled=none)(c:s.heap.IsKeyIter it d es.size es.size ep)(j:Bp s.heap d es ep)(p:∀h',Heap.ExtBut it s.heap h'->Q none { s with heap:=h' }):wpAny (model prog w) A (pyNext (.ref it)) Q E s:=by
 obtain⟨o,h,x,i⟩:=id c
 obtain⟨r,f,n,g⟩:=id j
 have e:Builtin.Dict_items.ownsTuple "dict_keyiterator"=false:=by decide
 unfold pyNext
 refine wB (wpAny_attempt (wpAny_callSpecial?_slot (name:=Str.ofString "__next__") c.typeIs F.slot_dict_keyiterator_next (wpAny_call_entry F.slot_dict_keyiterator_next c.typeIs F.entry_dict_keyiterator_next ?body (F.args_dict_keyiterator_next_1 _))))
 refine wB (wP (wB (wB ?_)))
 first
  |refine wB (wpAny_typeNameOfWhole_keyiter c.typeIs (wP (wB (wpAny_fieldsOf h i ?_))))
  |refine wB (wpAny_typeNameOf_keyiter c.typeIs (wP (wB (wpAny_fieldsOf h i ?_))))
 simp only[e,Bool.false_eq_true,if_false]
 show wpAny _ _ (if(Value.ref d==Value.none)=true then _ else _) _ _ s
 rw[if_neg (show¬(Value.ref d==Value.none)=true from Bool.false_ne_true)]
 refine wB (wP (wB (wpAny_dictEntries f g ?_)))
 rw[if_neg (by simp)]
 refine wB (wP (wB (wpAny_dictEpoch f g ?_)))
 rw[if_neg (by simp)]
 refine wP ?_
 simp only[show¬((es.size:Int)<0) by lia,if_false,Int.toNat_natCast,Array.getElem?_eq_none (Nat.le_refl es.size)]
 refine wB ?_
 first
  |refine wB (wpAny_typeNameOfWhole_keyiter c.typeIs (wP ?_))
  |refine wB (wpAny_typeNameOf_keyiter c.typeIs (wP ?_))
 show wpAny _ _ (setField (.ref it) 0 .none >>= _) _ _ s
 refine wB (wpAny_setField h i (by simp) ?_)
 show wpAny _ _ (newExc (.type "StopIteration") [] >>= _) _ _ _
 refine wB ?_
 simp only[newExc,newTuple]
 refine wB (wpAny_newObj_type ?v (by size_fits))
 refine wB (m:=firstArgMember _ _) (wpAny_of_eq (a:=Value.none) (by first|rfl|(simp only[firstArgMember];rfl)) (wpAny_newObj_type ?u (by size_fits)))
 simp only[raiseNew]
 refine wB (wpAny_handled ?_)
 rw[show A.in1.handled=none from l]
 refine wB (wP (wpAny_throw ?_))
 refine wB (wpAny_isInstance (T:="StopIteration") (b:=true) ⟨_,Heap.get?_push_size _ rfl,rfl⟩ isSubtype_stop ?q)
 exact wP (p _ (((Heap.SameBut.update ..).extBut.push _).push _))
theorem WR(p:A.handled=none)(I d:Addr)(j:d≠I)(es:Array DictEntry)(ep:Nat) :
  Walks prog w A I [I,d] [I] es.size (λi v=>∃h:i<es.size,v=es[i].key) (λi h=>h.IsKeyIter I d i es.size ep/\Bp h d es ep) where
 sub:=λb a=>by simp at a;simp[a]
 frame:=λ_ _ _ st n=>⟨st.1.at λo e=>n I (by simp) o e,st.2.keep λo e=>n d (by simp) o e⟩
 item:=λi s Q E hi st g=>Pd st.1 st.2 hi λh' f c =>
  g _ h' s.toks ⟨hi,rfl⟩ ⟨f,st.2.keep λo e=>c.extBut d o j e⟩ λb o a e=>c.extBut b o (λh=>a (by simp[h])) e
 done:=λs Q E st g=>Pe p st.1 st.2 λh' l=>g h' s.toks λb o a e=>l b o (λh=>a (by simp[h])) e
 self:=λ_ _ _ _ st g=>wpAny_pyIter_keyiter st.1 g
theorem Pf(lo:(d==sysModules)=false):KdlSrc prog w "dict" d d es.size (λi v=>∃h:i<es.size,v=es[i].key) (λh=>Bp h d es ep) where
 type:=λ_ a=>a.typeIs
 there:=λ_ a=>⟨a.lt,a.lt⟩
 keep:=λ_ _ a f=>a.keep λo e=>f d (.inl rfl) o e
 notList:=by decide
 notTuple:=by decide
 hint:=λ_ _ _ _ a c=>kdl_hint_dict a.typeIs c
 iter:=λ_ _ g a=>⟨_,_,(λ_ _ c=>Pc lo a c),WR g _ d (Nat.ne_of_lt a.lt) es ep,⟨⟨_,Heap.get?_push_size _ rfl,rfl,rfl⟩,a.keep λo e=>Heap.get?_push_of_some _ e⟩⟩
end
abbrev AJ(r:List Int):P:=.tup (r.map P.int)
def Pg:List V->Hp->VK->Prop:=λxs H Q=>∃(p:Addr) (qI:List (List AN×V)),xs=[.ref p]/\H p=some (.dT qI) /\
 ∀(l:Addr) (ps:List (Addr×List AN)),H l=none->ps.map (·.2)=qI.map (·.1)->(∀q∈ps,H q.1=some (.tup (q.2.map kV)))->Q (.ref l) (AD H l (.lst (ps.map λq=>V.ref q.1)))
theorem Gn:∀{qI:List (List AN×V)} {xs:List (List AN×Addr×Value)},Paired (λ(p:List AN×V) (q:List AN×Addr×Value)=>p.1=q.1/\H q.2.1=some (.tup (p.1.map kV))/\AG p.2 q.2.2) qI xs ->
  (xs.map λx=>(x.2.1,x.1)).map (·.2)=qI.map (·.1)/\∀q∈(xs.map λx=>(x.2.1,x.1)),H q.1=some (.tup (q.2.map kV))
 |_,_,.nil=>⟨rfl,λq hq=>nomatch hq⟩
 |_,_,.cons r t=>by
  obtain⟨a,b⟩:=Gn t
  refine⟨by simp only[map_cons];rw[a,r.1],λq hq=>?_⟩
  rw[map_cons]at hq
  rcases mem_cons.mp hq with rfl|hq
  ·have:=r.2.1;rw[r.1]at this;exact this
  ·exact b q hq
theorem IZ{qI:List (List AN×V)}(a:A4 P' w H h)(e:H p=some (.dT qI)) :
  ∃(es:Array DictEntry) (ep:Nat) (ps:List (Addr×List AN)),Bp h p es ep/\(p==sysModules)=false/\qI.length<=sizeLine/\ps.map (·.2)=qI.map (·.1)/\(∀q∈ps,H q.1=some (.tup (q.2.map kV)))/\es.toList.map (·.key)=ps.map λq=>Value.ref q.1:=by
 obtain⟨z,c,xs,rel,o,es,ep,h1,h2,f,d,_⟩:=a p _ e
 exact⟨es,ep,xs.map λx=>(x.2.1,x.1),⟨o,h1,h2,f⟩,c,z,(Gn rel).1,(Gn rel).2,by rw[d,map_map,map_map];rfl⟩
theorem WS{es:Array DictEntry}{a:Array Value}(h:ItemsOf (λi v=>∃h:i<es.size,v=es[i].key) a n)(c:n=es.size):a.toList=es.toList.map (·.key):=by
 apply ext_getElem?
 intro i
 have d:a.size=es.size:=by rw[<-c];exact h.1
 by_cases hi:i<a.size
 ·obtain⟨h',e⟩:=h.2 i a[i] (by simp[hi])
  rw[getElem?_map]
  simp[hi,h',e]
 ·rw[getElem?_eq_none (by simpa using hi),getElem?_eq_none (by simp;lia)]
theorem WT(ps:List (Addr×List AN)):AR (ps.map λq=>V.ref q.1) (ps.map λq=>Value.ref q.1):=by
 induction ps with
 |nil=>exact .nil
 |cons q r a=>exact .cons rfl a
theorem Ia(v:X.calm=true):BP X (.type "list") Pg:=by
 intro qA s σ H xs us Q I r h
 obtain⟨p,qI,rfl,j,k⟩:=h
 obtain⟨u,rfl,g⟩:=r.one
 cases g
 obtain⟨es,ep,ps,i,n,A,f,y,e⟩:=IZ I.hok j
 have b:=congrArg length f
 simp at b
 have B:es.size=qI.length:=by
  have a:=congrArg length e
  simp at a
  lia
 refine kdl_call (Pf n) (I.ok.hd v) i (by lia) λh' tk d z l w c=>?_
 have x:=WS c rfl
 refine⟨.ref s.heap.objs.size,_,I.laid (t':=tk) (o:=.lst (ps.map λq=>V.ref q.1)) l (Nat.le_refl _) ⟨?_,d.toList,z,?_,?_⟩,rfl,k _ ps (I.hok.fresh (Nat.le_refl _)) f y⟩
 ·rw[length_map];lia
 ·rw[x,e];exact WT ps
 ·simpa using w
def LA:pC:=p1 λx f K=>match x with
 |.dT ks vs=>K (.lst (ks.map AJ)) .nw
 |_=>False
theorem WU(ks:List (List Int)):P.imms (ks.map AJ)=true:=FA (λr=>by simp) ks
theorem Ib{b:Addr}{Z:Addr->Prop}{H:Hp}:∀{ps:List (Addr×List Int)},(∀q∈ps,H q.1=some (.tup (q.2.map V.int)))->AB b Z H (ps.map λq=>AJ q.2) (ps.map λq=>V.ref q.1)
 |[],_=>rfl
 |q::r,h=>⟨_,_,rfl,⟨q.1,_,rfl,h q mem_cons_self,AB.ints.mpr rfl⟩,Ib λp a=>h p (mem_cons_of_mem _ a)⟩
theorem LB(r:List Int):(AV r).map kV=r.map V.int:=by simp[AV,map_map,Function.comp_def,kV]
theorem Ph{ps:List (Addr×List AN)}(h:ps.map (·.2)=ks.map AV):∃d:List (Addr×List Int),d.map (·.1)=ps.map (·.1)/\d.map (·.2)=ks/\∀q'∈d,(q'.1,AV q'.2)∈ps:=by
 induction ps generalizing ks with
 |nil =>
  cases ks with
  |nil=>exact⟨[],rfl,rfl,λ_ h=>nomatch h⟩
  |cons k ks=>simp at h
 |cons q r e =>
  cases ks with
  |nil=>simp at h
  |cons k ks =>
   simp only[map_cons,List.cons.injEq]at h
   obtain⟨d,a,b,c⟩:=e h.2
   refine⟨(q.1,k)::d,by simp[a],by simp[b],λq' hq=>?_⟩
   rcases mem_cons.mp hq with rfl|hq
   ·simp[<-h.1]
   ·exact mem_cons_of_mem _ (c q' hq)
theorem Ic:CB Pg LA:=λW ρ σ Hs H Q K xs vs ok st r e q=>by
 unfold LA p1 at e
 split at e
 ·obtain⟨v,rfl,rv⟩:=r.one
  split at e
  ·rename_i ks h
   obtain⟨p,us,rfl,_,x,w,u⟩:=Ef ok rv
   refine⟨p,_,rfl,x,λl ps f g s=>q _ _ _ _ e (Step.new ok.bag f) ?_⟩
   rw[map_fst_zip (by rw[length_map,w,u.length];exact Nat.le_refl _)]at g
   obtain⟨d,a,b,c⟩:=Ph g
   have i:AB W.b (AC W ρ σ .nw) H (ks.map AJ) (ps.map λq=>V.ref q.1):=by
    have:=Ib (b:=W.b) (Z:=AC W ρ σ .nw) (H:=H) (ps:=d) λq' j=>by
     have:=s _ (c q' j)
     rw[LB]at this
     exact this
    have o:(d.map λq=>V.ref q.1)=ps.map λq=>V.ref q.1:=by
     have:=congrArg (map V.ref) a
     simpa[map_map,Function.comp_def]using this
    have n:(d.map λq=>AJ q.2)=ks.map AJ:=by
     rw[<-b,map_map];rfl
    rw[o,n]at this
    exact this
   exact Ec ok st (by simp) (by simp) i f
  ·exact e.elim
 ·exact e.elim
theorem LC{b:Addr}{Z:Addr->Prop}{H:Hp}:∀{rs:List (List Int)} {vs:List V},AB b Z H (rs.map AJ) vs->∃ps:List (Addr×List Int),vs=Bx ps/\ps.map (·.2)=rs/\∀q∈ps,H q.1=some (.tup (q.2.map V.int))
 |[],vs,h=>⟨[],h,rfl,λ_ h=>nomatch h⟩
 |r::rs,vs,h=>by
  obtain⟨v,t,rfl,⟨p,us,rfl,e,d⟩,h2⟩:=h
  obtain⟨ps,a,b,c⟩:=LC h2
  rw[AB.ints.mp d]at e
  refine⟨(p,r)::ps,by rw[a];rfl,by rw[map_cons,b],λq hq=>?_⟩
  rcases mem_cons.mp hq with rfl|hq
  ·exact e
  ·exact c q hq
end L2
namespace HT
open PySem PyProof.Rows
section
open PySem.SeqAt
open PySem.AutoSeq1 (wpAny_loadPart')
open PySem.MeetsSeq PySem.MeetsSeq2 PySem.MeetsSeq3
end
end HT
namespace L2
open PySem PySem.Spec PyProof.Rows
def Gp(K : Fg)(l1 l2 : Addr) : It :=
  ⟨λi H => ∃xs ys, Au K H l1 xs /\ Au K H l2 ys /\ i < xs.length /\ i < ys.length,
   λi H v H' => ∃T x y, H T = none /\ v = .ref T /\ H' = AD H T (.tup [x, y]) /\ ∀xs ys, Au K H l1 xs -> Au K H l2 ys -> xs[i]? = some x /\ ys[i]? = some y,
   λi H => ∃xs ys, Au K H l1 xs /\ Au K H l2 ys /\ (xs.length <= i \/ ys.length <= i)⟩
theorem WV{P:Program}{K:Fg}{elts:List Expr}{x1}{z TI TO r n l1 l2:Addr}(D:ZipApart z TI TO r n l1 l2) :
  Turn P w K (.Tuple elts x1 pos) (Gp K l1 l2) [z,TI,TO,r,n] z (λi h=>IsZip h z TI TO .none/\IsPair h TI (.ref r) (.ref n)/\(∃a b,IsPair h TO a b)/\h.IsListIter r l1 i/\h.IsListIter n l2 i) where
 mem:=by simp
 obj:=λi h st b d=>by
  obtain⟨A,j,⟨a,c,l⟩,⟨O,L,_,d1⟩,⟨N,G,_,d2⟩⟩:=st
  simp only[mem_cons,not_mem_nil,or_false]at d
  rcases d with rfl|rfl|rfl|rfl|rfl
  ·exact⟨_,A,λv q=>nomatch q⟩
  ·exact⟨_,j,λv q=>nomatch q⟩
  ·exact⟨_,l,λv q=>nomatch q⟩
  ·exact⟨_,L,λv q=>by rw[d1]at q;cases q⟩
  ·exact⟨_,G,λv q=>by rw[d2]at q;cases q⟩
 keep:=λi h h' st k=>by
  obtain⟨A,j,⟨a,c,l⟩,⟨O,L,r1⟩,⟨N,G,r2⟩⟩:=st
  exact⟨k z (by simp) _ A,k TI (by simp) _ j,⟨a,c,k TO (by simp) _ l⟩,⟨O,k r (by simp) _ L,r1⟩,⟨N,k n (by simp) _ G,r2⟩⟩
 item:=by
  intro X hP hw hK hc i qA s σ H E I hf st hg
  subst hP hw hK
  obtain⟨A,j,⟨a,c,l⟩,h1,h2⟩:=st
  obtain⟨xs,ys,q1,q2,g1,g2⟩:=hg
  obtain⟨qH,rv,pq,a8⟩:=I.list q1
  have p:=pq.isList
  obtain⟨Q,B,C,T⟩:=I.list q2
  have p2:=C.isList
  have hx:xs[i]?=some xs[i]:=by simp[g1]
  have hy:ys[i]?=some ys[i]:=by simp[g2]
  obtain⟨u,hu,ru⟩:=rv.get hx
  obtain⟨M,a9,a7⟩:=B.get hy
  refine wpAny_pyNext_zip_item D A j l h1 h2 p p2 (x:=u) (y:=M) (by simpa using hu) (by simpa using a9) λh' a1 a2 a3 a4 a5 a6 hk=>⟨_,rfl,wpAny_letOwnedTupleGo_zip a1 λa0 U f=>?_⟩
  have aa:H s.heap.objs.size=none:=I.fresh
  have J:Inv X qA σ (AD H s.heap.objs.size (.tup [xs[i],ys[i]])) { s with heap:=s.heap.push { cls:=.type "tuple",data:=.seq #[u,M] } } :=
   I.laid (t':=s.toks) (λb o q=>Heap.get?_push_of_some _ q) (Nat.le_refl _) ⟨by show 2<=sizeLine;decide,[u,M],.cons ru (.cons a7 .nil),DA.new _ _⟩
  have Y:∀b∈[z,TI,TO,r,n],b≠s.heap.objs.size:=λb d e=>by
   have o:∃o,s.heap.get? b=some o:=by
    simp only[mem_cons,not_mem_nil,or_false]at d
    obtain⟨O,L,_⟩:=h1
    obtain⟨N,G,_⟩:=h2
    rcases d with rfl|rfl|rfl|rfl|rfl
    ·exact⟨_,A⟩
    ·exact⟨_,j⟩
    ·exact⟨_,l⟩
    ·exact⟨_,L⟩
    ·exact⟨_,G⟩
   obtain⟨o,q⟩:=o
   exact absurd (Heap.lt_size q) (by rw[e];exact Nat.lt_irrefl _)
  have hn:∀b∈[z,TI,TO,r,n],AD H s.heap.objs.size (.tup [xs[i],ys[i]]) b=none:=λb d=>by rw[AL (Y b d)];exact(hf b d).1
  have nz:s.heap.objs.size≠z:=(Y z (by simp)).symm
  have J2:Inv X qA σ (AD H s.heap.objs.size (.tup [xs[i],ys[i]])) { s with heap:=a0 }:=by
   refine Inv.turnedL (s:={ s with heap:=s.heap.push { cls:=.type "tuple",data:=.seq #[u,M] } }) (h':=a0) (t':=s.toks) (ch:=[z,TO,r,n]) J (λb o d q=>?_) (λb d=>⟨hn b ?_,(hf b ?_).2⟩)
   ·simp only[mem_cons,not_mem_nil,or_false,not_or]at d
    by_cases e:b=s.heap.objs.size
    ·subst e
     have q':=q
     rw[show(s.heap.push { cls:=.type "tuple",data:=.seq #[u,M] }).get? s.heap.objs.size=some _ from Heap.get?_push_size _ rfl]at q'
     cases q'
     exact f.extBut _ _ nz a5
    ·have q0:s.heap.get? b=some o:=by rw[<-Heap.get?_push_ne _ _ _ e];exact q
     exact f.extBut _ _ d.1 (hk b o d.1 d.2.1 d.2.2.1 d.2.2.2 q0)
   ·simp only[mem_cons,not_mem_nil,or_false]at d ⊢;rcases d with h|h|h|h<;>simp[h]
   ·simp only[mem_cons,not_mem_nil,or_false]at d ⊢;rcases d with h|h|h|h<;>simp[h]
  refine⟨.ref s.heap.objs.size,_,J2,rfl,⟨_,_,_,aa,rfl,rfl,λac ab z1 z2=>?_⟩,?_,hn⟩
  ·rw[I.list_inj z1 q1,I.list_inj z2 q2];exact⟨hx,hy⟩
  ·obtain⟨O,L,r1⟩:=a3
   obtain⟨N,G,r2⟩:=a4
   exact⟨U,f.extBut _ _ D.TIz (hk _ _ D.TIz D.TITO D.TIi1 D.TIi2 j),⟨_,_,f.extBut _ _ D.TOz a2⟩,⟨O,f.extBut _ _ D.i1z L,r1⟩,⟨N,f.extBut _ _ D.i2z G,r2⟩⟩
 done:=by
  intro X hP hw hK hc i qA s σ H E I hf st hg
  subst hP hw hK
  obtain⟨A,j,⟨a,c,l⟩,h1,h2⟩:=st
  obtain⟨xs,ys,q1,q2,g⟩:=hg
  obtain⟨qH,rv,pq,a8⟩:=I.list q1
  have p:=pq.isList
  obtain⟨Q,B,C,T⟩:=I.list q2
  have p2:=C.isList
  have l1:=rv.length
  have l2:=B.length
  refine wpAny_pyNext_zip_end (I.ok.hd hc) D A j l h1 h2 p p2 (by simp;lia) λh' hk=>⟨rfl,I.turnedL (t':=s.toks) (ch:=[z,TO,r,n]) (λb o d q=>?_) λb d=>hf b ?_⟩
  ·simp only[mem_cons,not_mem_nil,or_false,not_or]at d
   exact hk b o d.1 d.2.1 d.2.2.1 d.2.2.2 q
  ·simp only[mem_cons,not_mem_nil,or_false]at d ⊢;rcases d with h|h|h|h<;>simp[h]
 self:=λ_ _ _ _ _ st h=>wpAny_pyIter_zip st.1 h
def Pj(K:Fg)(ta:TA):TI:=λσ H R=>ta σ H λvs H1=>∃l1 l2 xs ys,vs=[.ref l1,.ref l2]/\Au K H1 l1 xs/\Au K H1 l2 ys/\R (Gp K l1 l2) H1
theorem WW{a b:Expr}{ta:TA}{p:Pos}{elts:List Expr}{x1}{tp:Pos}(N:Gl X "zip")(L:X.mg "zip"=none)(O:PA X [a,b] ta)(J:starEach [a,b] X.env=[(false,eval a X.env),(false,eval b X.env)]:=by rfl)(d:starEach [b] X.env=[(false,eval b X.env)]:=by rfl) :
  PI X (.Tuple elts x1 tp) (.Call (.Name "zip" p) [a,b] [] pos) (Pj X.K ta):=by
 intro qA s σ H R I h
 refine Call_ (Eu I N L Uq (PyProof.Rows.callWith_type1 (AH (O pos qA s σ H _ I h) λus c ⟨vs,H1,g,w,D⟩=>?_) (by rw[J,d]) (by rw[d];rfl)))
 obtain⟨l1,l2,xs,ys,rfl,C,B,q⟩:=D
 obtain⟨u,v,rfl,A,rv⟩:=w.two
 cases(show u=Value.ref l1 from A)
 cases(show v=Value.ref l2 from rv)
 obtain⟨qH,w,j,_⟩:=g.list C
 have p1:=j.isList
 obtain⟨x,T,i,_⟩:=g.list B
 have p2:=i.isList
 refine call_zip_2 p1 p2 λh' y r o G E _ M=>?_
 have Q:Inv X qA σ H1 { c with heap:=h' }:=g.kept (t':=c.toks) M
 have n:l1<c.heap.objs.size:=by obtain⟨_,e,_⟩:=p1;exact Heap.lt_size e
 have l:l2<c.heap.objs.size:=by obtain⟨_,e,_⟩:=p2;exact Heap.lt_size e
 refine wpAny_pyIter_zip y ⟨_,[c.heap.objs.size+4,c.heap.objs.size+2,c.heap.objs.size+3,c.heap.objs.size,c.heap.objs.size+1],_,_,H1,rfl,Q,WV (zipApart_new n l),⟨y,r,⟨_,_,o⟩,G,E⟩,λb z=>?_,q⟩
 have f:c.heap.objs.size<=b:=by
  simp only[mem_cons,not_mem_nil,or_false]at z
  rcases z with h|h|h|h|h<;>rw[h]<;>first|exact Nat.le_add_right _ _|exact Nat.le_refl _
 exact g.fpOk f (g.hok.fresh f)
def Pk:R2:=λx y H Q=>∃a b ns ms,x=.ref a/\y=.ref b/\H a=some (.tup (ns.map V.int))/\H b=some (.tup (ms.map V.int))/\Q (.bl (HT.lexLt ns ms)) H
theorem WX{k:Nat}(f:Room k X.A):Av X (compareOp .Lt) Pk:=by
 intro qA s σ H x y v u Q I d c h
 obtain⟨a,b,ns,e,i,g,h1,h2,q⟩:=h
 exact Tu f.units0 qA s σ H x y v u Q I d c ⟨a,b,ns,e,i,g,.of h1,.of h2,q⟩
def Pl(g:List Int->List Int->Bool):p2:=λx _ y _ K=>∃ns ms,CK x=some ns/\CK y=some ms/\K (.bl (g ns ms)) .fr
abbrev WY:p2:=Pl HT.lexLt
theorem Pm{x:P}(ok:Ok W ρ σ H)(g:CK x=some ns)(r:RF W ρ σ Hs f H x v):∃a,v=.ref a/\H a=some (.tup (ns.map V.int)):=by
 rw[PX g]at r
 obtain⟨p,us,e,c,d⟩:=DN ok r
 rw[AB.ints.mp d]at c
 exact⟨p,e,c⟩
theorem WZ:A9 Pk WY:=λW ρ σ Hs H Q K x y f h v u ok st d c g q=>by
 obtain⟨ns,e,l,j,i⟩:=g
 obtain⟨a,rfl,o⟩:=Pm ok l d
 obtain⟨b,rfl,n⟩:=Pm ok j c
 exact⟨a,b,ns,e,rfl,rfl,o,n,q _ _ _ H i (Step.refl ok.bag) Cz⟩
def D7(x y:P):P:=.tup [x,y]
def Pn(pa pb:pE):pI:=λρ K=>pa ρ λx f=>pb ρ λy g=>∃xs ys,x=.lst xs/\y=.lst ys/\(P.imms xs=true/\P.imms ys=true)/\K (zipWith D7 xs ys) .fr (CF f&&CF g)
section
variable{ι:Type}{Xs:ι->Cx}{a b:Expr}{pa pb:pE}{p1 tp:Pos}{elts:List Expr}{x1:Nat}
theorem Wa(hK:∀i,(Xs i).K=Kf)(hm:∀i,(Xs i).mg "zip"=none)(ha:QE Xs a pa)(hb:QE Xs b pb)(hg:∀i,Gl (Xs i) "zip":=by intro _;rfl)(hs:∀i,starEach [a,b] (Xs i).env=[(false,eval a (Xs i).env),(false,eval b (Xs i).env)]:=by intro _;rfl)(A:∀i,starEach [b] (Xs i).env=[(false,eval b (Xs i).env)]:=by intro _;rfl) :
  QI Xs (.Tuple elts x1 tp) (.Call (.Name "zip" p1) [a,b] [] pos) (Pn pa pb):=by
 obtain⟨ta,M,a2⟩:=ha
 obtain⟨tb,L,b2⟩:=hb
 refine⟨Pj Kf (B8 ta (B8 tb B7)),λi=>?_,λW ρ σ H R K ok hk q=>a2 W ρ σ H _ _ ok hk λx f v H1 h1 N r1=>b2 W ρ σ H1 _ _ (ok.step N) h1 λy g u H2 ⟨xs,ys,j,h,⟨i1,i2⟩,a0⟩ s2 Q=>?_⟩
 ·have:=WW (elts:=elts) (x1:=x1) (tp:=tp) (p:=p1) (pos:=pos) (hg i) (hm i) (Ap (M i) (Ap (L i) BA (by rw[A i];rfl)) (by rw[hs i,A i])) (hs i) (A i)
  rw[hK i]at this
  exact this
 ·subst j;subst h
  have D:=N.trans s2
  have c:=ok.step D
  have z:=r1.step (ok.step N) s2
  obtain⟨l1,vs,rfl,c1,G⟩:=CI c z
  obtain⟨l2,us,rfl,c2,E⟩:=CI c Q
  have nb:∀{f:Fl} {xs:List P} {l:Addr} {Hs:Hp},RF W ρ σ Hs f H2 (.lst xs) (.ref l)->l≠W.b:=λr=>by
   obtain⟨p',a5,j,h,_⟩:=r.any c;cases j;exact h
  have Y:=nb z
  have U:=nb Q
  have a4:=G.length
  have a3:=E.length
  have w:∀O' ρ' σ' H',H' l1=some (.lst vs)->H' l2=some (.lst us)->(∀p vs,H2 p=some (.tup vs)->H' p=some (.tup vs))->Bag H' W.b W.a->∀i,(i<(zipWith D7 xs ys).length->(Gp Kf l1 l2).go i H')/\((zipWith D7 xs ys).length<=i->(Gp Kf l1 l2).stop i H') /\
    ∀v s,(Gp Kf l1 l2).yld i H' v s->∀x,(zipWith D7 xs ys)[i]?=some x->Step W.b W.a H' s/\RF { W with O:=O' } ρ' σ' H' .fr s x v:=λO' ρ' σ' H' g1 g2 gt hb i=>by
   refine⟨λhi=>?_,λhi=>?_,λv s yl x n=>?_⟩
   ·rw[length_zipWith]at hi
    exact⟨vs,us,.of g1,.of g2,by lia,by lia⟩
   ·rw[length_zipWith]at hi
    exact⟨vs,us,.of g1,.of g2,by lia⟩
   ·obtain⟨T,x',y',hT,rfl,rfl,e⟩:=yl
    obtain⟨j,h⟩:=e vs us (.of g1) (.of g2)
    rw[getElem?_zipWith]at n
    cases ex:xs[i]? with
    |none=>rw[ex]at n;simp at n
    |some px =>
     cases J:ys[i]? with
     |none=>rw[ex,J]at n;simp at n
     |some I =>
      rw[ex,J]at n
      have n:D7 px I=x:=by simpa using n
      subst n
      obtain⟨v1,M,a2⟩:=G.get ex
      obtain⟨v2,L,b2⟩:=E.get J
      rw[j]at M;cases M
      rw[h]at L;cases L
      have m1:px.imm=true:=H0.mp i1 px (mem_of_getElem? ex)
      have m2:I.imm=true:=H0.mp i2 I (mem_of_getElem? J)
      refine⟨Step.new hb hT,?_⟩
      have k1:Rp W.b (AC { W with O:=O' } ρ' σ' .fr) (AD H' T (.tup [x',y'])) px x':=(((a2.imm m1:Rp W.b (λ_=>True) H2 px x').keep (Z':=λ_=>True) (H':=AD H' T (.tup [x',y'])) (λp o hz=>absurd trivial hz) (λp C e=>by rw[AL (A3 (gt p C e) hT)];exact gt p C e)).imm m1)
      have k2:Rp W.b (AC { W with O:=O' } ρ' σ' .fr) (AD H' T (.tup [x',y'])) I y':=(((b2.imm m2:Rp W.b (λ_=>True) H2 I y').keep (Z':=λ_=>True) (H':=AD H' T (.tup [x',y'])) (λp o hz=>absurd trivial hz) (λp C e=>by rw[AL (A3 (gt p C e) hT)];exact gt p C e)).imm m2)
      exact⟨T,[x',y'],rfl,Af,x',[y'],rfl,k1,y',[],rfl,k2,rfl⟩
  refine⟨l1,l2,vs,us,rfl,.of c1,.of c2,q _ _ _ _ H2 a0 D (λO' ρ' σ' H' B i=>?_) (λd O' ρ' σ' H' B i=>?_)⟩
  ·obtain⟨_,rfl,rfl,a6,st⟩:=B
   exact w O' _ _ H' (st.same l1 _ Y c1) (st.same l2 _ U c2) (λp C e=>st.same p _ (c.bag.neT e).1 e) st.bag i
  ·obtain⟨rfl,B⟩:=B
   rw[Bool.and_eq_true]at d
   have k1:=GW c B (GX d.1)
   have k2:=GW c B (GX d.2)
   have nz:∀{f:Fl} {xs:List P} {l:Addr} {Hs:Hp},CF f=true->RF W ρ σ Hs f H2 (.lst xs) (.ref l)->¬AC W ρ σ f l:=λ{f xs l Hs} hf r=>by
    cases f with
    |nw=>obtain⟨q,us,j,h,_⟩:=r.1;cases j;exact h
    |fr=>obtain⟨q,us,j,h,_⟩:=r;cases j;exact h
    |cl=>obtain⟨q,us,j,h,_⟩:=r;cases j;exact h
    |_=>simp[CF]at hf
   exact w _ _ _ H' (k1.1 l1 _ (nz d.1 z) c1).2 (k2.1 l2 _ (nz d.2 Q) c2).2 k1.2 B.bag i
end
end L2
namespace L2
open PySem
abbrev AK(ns:List Str):P:=.tup (ns.map P.str)
abbrev Ay(q:List Int×Int):P:=.tup [AJ q.1,.int q.2]
abbrev AO(t:List (List Int×Int)):P:=.lst (t.map Ay)
abbrev Bz(t:List (List Int×Int)):P:=.dT (t.map (·.1)) (t.map λq=>.int q.2)
@[simp] theorem C4(r:List Int):(AJ r).imm=true:=by simp
@[simp] theorem Ie(q:List Int×Int):(Ay q).imm=true:=by simp
@[simp] theorem Wc(t:List (List Int×Int)):P.imms (t.map Ay)=true:=FA Ie t
@[simp] theorem Po(t:List (List Int)):P.imms (t.map AJ)=true:=FA C4 t
@[simp] theorem Wf(n:Nat)(r:List Int):(AJ r).pl (n+1)=true:=by simp
@[simp] theorem Pp(n:Nat)(q:List Int×Int):(Ay q).pl (n+2)=true:=by simp
@[simp] theorem Wg(n:Nat)(t:List (List Int×Int)):(t.map Ay).all (P.pl (n+2))=true:=Kw (Pp n) t
theorem Ig(a b:Int):AI (.int a) (.int b)=decide (a=b):=by simp only[AI];rw[Bool.eq_iff_iff];simp
theorem LD(a b:Str):AI (.str a) (.str b)=decide (a=b):=by simp only[AI];rw[Bool.eq_iff_iff];simp
theorem Wh(a b:Bool):AI (.bl a) (.bl b)=decide (a=b):=by simp only[AI];rw[Bool.eq_iff_iff];simp
theorem LF(r:List Int):(AJ r).nb=true:=by rw[P.nb];exact IP (λ_=>rfl) r
theorem LG(q:List Int×Int):(Ay q).nb=true:=by rw[P.nb,P.nbs,P.nbs,P.nbs,LF];rfl
theorem Pq(t:List (List Int×Int)):(AO t).nb=true:=by rw[P.nb];exact IP LG t
theorem Pr(r:List Str):(AK r).nb=true:=by rw[P.nb];exact IP (λ_=>rfl) r
theorem Pt{a b:List Int}(h:a.map P.int=b.map P.int):a=b:=by
 have:=congrArg (map λp=>match p with|P.int i=>i|_=>0) h
 simpa[map_map,Function.comp_def]using this
theorem Pu{a b:List Str}(h:a.map P.str=b.map P.str):a=b:=by
 have:=congrArg (map λp=>match p with|P.str i=>i|_=>⟨#[]⟩) h
 simpa[map_map,Function.comp_def]using this
theorem LH{a b:List Int}(h:AJ a=AJ b):a=b:=Pt (P.tup.inj h)
theorem Pw{a b:List Int×Int}(h:Ay a=Ay b):a=b:=by
 have h:=P.tup.inj h
 simp only[List.cons.injEq]at h
 exact Prod.ext (LH h.1) (P.int.inj h.2.1)
theorem Ih{α:Type}{f:α->P}(c:∀a b,f a=f b->a=b):∀{a b:List α},a.map f=b.map f->a=b
 |[],[],_=>rfl
 |[],_::_,h=>by simp at h
 |_::_,[],h=>by simp at h
 |x::a,y::b,h=>by
  simp only[map_cons,List.cons.injEq]at h
  rw[c x y h.1,Ih c h.2]
theorem Wi{a b:List (List Int×Int)}(h:AO a=AO b):a=b:=Ih (λ_ _=>Pw) (P.lst.inj h)
theorem Wj(a b:List Int):AI (AJ a) (AJ b)=decide (a=b):=by
 rw[Bool.eq_iff_iff,Gi (LF a) (LF b),decide_eq_true_iff];exact⟨LH,λh=>by rw[h]⟩
theorem Wk(a b:List (List Int×Int)):AI (AO a) (AO b)=decide (a=b):=by
 rw[Bool.eq_iff_iff,Gi (Pq a) (Pq b),decide_eq_true_iff];exact⟨Wi,λh=>by rw[h]⟩
theorem Wl(a b:List Str):AI (AK a) (AK b)=decide (a=b):=by
 rw[Bool.eq_iff_iff,Gi (Pr a) (Pr b),decide_eq_true_iff];exact⟨λh=>Pu (P.tup.inj h),λh=>by rw[h]⟩
def BG(t:List (List Int×Int))(r:List Int)(c:Int):List (List Int×Int):=if r∈t.map (·.1)then t.map (λq=>if q.1=r then(q.1,c)else q)else t++[(r,c)]
def AW(t:List (List Int×Int))(r:List Int):Option Int:=(t.find? λq=>decide (q.1=r)).map (·.2)
theorem FN(r:List Int):∀t:List (List Int×Int),BV (t.map (·.1)) (t.map λq=>P.int q.2) r=(AW t r).map P.int
 |[]=>rfl
 |q::t=>by
  simp only[map_cons,BV]
  unfold AW
  rw[find?_cons]
  by_cases e:q.1=r
  ·rw[if_pos e];simp[e]
  ·rw[if_neg e,FN r t];simp[e,AW]
theorem Px(r:List Int)(c:Int):∀t:List (List Int×Int),zipWith (λk0 v=>if k0=r then P.int c else v) (t.map (·.1)) (t.map λq=>P.int q.2)=(t.map (λq=>if q.1=r then(q.1,c)else q)).map λq=>P.int q.2
 |[]=>rfl
 |q::t=>by
  simp only[map_cons,zipWith_cons_cons,Px r c t]
  by_cases e:q.1=r<;>simp[e]
theorem Ii(t:List (List Int×Int))(r:List Int)(c:Int):P.dT (Aq (t.map (·.1)) r) (Dk (t.map (·.1)) (t.map λq=>P.int q.2) r (.int c))=Bz (BG t r c):=by
 unfold Aq Dk BG Bz
 by_cases h:r∈t.map (·.1)
 ·rw[if_pos h,if_pos h,if_pos h,Px]
  congr 1
  rw[map_map]
  refine map_congr_left λq _=>?_
  by_cases e:q.1=r<;>simp[e]
 ·rw[if_neg h,if_neg h,if_neg h];simp
theorem Gr(t:List (List Int×Int))(r:List Int)(c:Int):(BG t r c).length<=t.length+1:=by
 unfold BG;split<;>simp
theorem Gs{t:List (List Int×Int)}{c:Int}(h:∀q∈t,q.1.length=n)(e:r.length=n):∀q∈BG t r c,q.1.length=n:=by
 unfold BG
 split
 ·intro q a
  obtain⟨p,d,rfl⟩:=mem_map.mp a
  split
  ·exact h p d
  ·exact h p d
 ·intro q a
  rcases mem_append.mp a with z|z
  ·exact h q z
  ·rw[mem_singleton.mp z];exact e
theorem Py(t:List (List Int×Int))(r:List Int)(c:Int):(BG t r c).map (·.1)=if r∈t.map (·.1)then t.map (·.1)else t.map (·.1)++[r]:=by
 unfold BG
 split
 ·rw[map_map]
  refine map_congr_left λq _=>?_
  by_cases e:q.1=r<;>simp[e]
 ·simp
theorem LI{t:List (List Int×Int)}{c:Int}(h:(t.map (·.1)).Nodup):((BG t r c).map (·.1)).Nodup:=by
 rw[Py]
 split
 ·exact h
 ·rename_i d
  rw[nodup_append]
  exact⟨h,by simp,λa g b f=>by rw[mem_singleton.mp f];exactλe=>d (e▸g)⟩
theorem LJ:∀{a b:List (List Int)},a.Perm b->Bb a->Bb b->a=b
 |[],b,h,_,_=>(nil_perm.mp h).symm
 |x::xs,[],h,_,_=>absurd h.length_eq (by simp)
 |x::xs,y::ys,h,h1,h2=>by
  have e:x=y:=by
   have hx:x∈y::ys:=h.mem_iff.mp mem_cons_self
   have hy:y∈x::xs:=h.mem_iff.mpr mem_cons_self
   rcases mem_cons.mp hx with e|hx
   ·exact e
   ·rcases mem_cons.mp hy with e|hy
    ·exact e.symm
    ·exact E9 x y ((pairwise_cons.mp h2).1 x hx) ((pairwise_cons.mp h1).1 y hy)
  subst e
  rw[LJ ((perm_cons x).mp h) (pairwise_cons.mp h1).2 (pairwise_cons.mp h2).2]
def FO(x:List Int):List (List Int)->List (List Int)
 |[]=>[x]
 |y::r=>if HT.lexLt y x=true then y::FO x r else x::y::r
def CQ:List (List Int)->List (List Int)
 |[]=>[]
 |x::r=>FO x (CQ r)
theorem LK(x:List Int):∀r,(FO x r).Perm (x::r)
 |[]=>List.Perm.refl _
 |y::r=>by
  unfold FO
  split
  ·exact((LK x r).cons y).trans (List.Perm.swap x y r)
  ·exact List.Perm.refl _
theorem C5:∀r,(CQ r).Perm r
 |[]=>List.Perm.refl _
 |x::r=>(LK x (CQ r)).trans ((C5 r).cons x)
theorem Pz(x:List Int):∀{r},Bb r->Bb (FO x r)
 |[],_=>pairwise_singleton _ _
 |y::r,h=>by
  unfold FO
  have h1:=pairwise_cons.mp h
  split
  ·rename_i a
   refine pairwise_cons.mpr ⟨λz hz=>?_,Pz x h1.2⟩
   rcases mem_cons.mp ((LK x r).mem_iff.mp hz)with e|hz
   ·rw[e]
    cases c:HT.lexLt x y
    ·rfl
    ·have:=GJ _ _ _ a c;rw[E8]at this;cases this
   ·exact h1.1 z hz
  ·rename_i a
   have a:HT.lexLt y x=false:=by simpa using a
   refine pairwise_cons.mpr ⟨λz hz=>?_,h⟩
   rcases mem_cons.mp hz with e|hz
   ·rw[e];exact a
   ·cases c:HT.lexLt z x
    ·rfl
    ·rcases KS z y x c with q|q
     ·rw[h1.1 z hz]at q;cases q
     ·rw[a]at q;cases q
theorem Gu:∀r,Bb (CQ r)
 |[]=>List.Pairwise.nil
 |x::r=>Pz x (Gu r)
theorem P0{rs a:List (List Int)}(h:a.Perm rs)(c:Bb a):a=CQ rs:=LJ (h.trans (C5 rs).symm) c (Gu rs)
def Ak(t:List (List Int×Int)):List (List Int×Int):=((CQ (t.map (·.1))).filter λr=>decide ((AW t r).getD 0≠0)).map λr=>(r,(AW t r).getD 0)
theorem P1{t:List (List Int×Int)}(h:r∈t.map (·.1)):∃c,AW t r=some c:=by
 obtain⟨q,a,e⟩:=mem_map.mp h
 unfold AW
 cases d:t.find? λq=>decide (q.1=r)with
 |some p=>exact⟨p.2,rfl⟩
 |none=>exact absurd (decide_eq_true e) (by simpa using find?_eq_none.mp d q a)
def P2:pF:=λxs K=>∃n b:Int,xs=[.bag,.int n,.int b]/\0<=n/\n<=100/\0<b/\b<2 ^ 64/\∀r:List Int,(r.length:Int)=n->(∀x∈r,0<=x/\x<b)->K (AJ r)
def P3:pF:=λxs K=>xs=[.bag]/\∀c:Int,1<=c->c<=1000000000000->K (.int c)
def Rows(t:List (List Int×Int)):Prop:=t.length<2\/∃n,0<n/\∀q∈t,q.1.length=n
theorem QS.weak{ι:Type}{Xs:ι->Cx}{st:Stmt}{p m:pS}(h:QS Xs st p)(hw:∀E ρ,m E ρ->p E ρ):QS Xs st m:=let⟨t,h1,h2⟩:=h;⟨t,h1,λW ρ σ H D E ok h r=>h2 W ρ σ H D E ok (hw E ρ h) r⟩
structure Drawn(n:Nat)(t:List (List Int×Int)):Prop where
 len:t.length<=40
 rows:∀q∈t,q.1.length=n
 nd:(t.map (·.1)).Nodup
 row:∀q∈t,∀x∈q.1,0<=x/\x<=9
 cnt:∀q∈t,1<=q.2/\q.2<=1000000000000
theorem P4{t:List (List Int×Int)}{c:Int}(h:q∈BG t r c):q∈t\/q=(r,c):=by
 unfold BG at h
 split at h
 ·obtain⟨p,a,e⟩:=mem_map.mp h
  by_cases z:p.1=r
  ·rw[if_pos z,z]at e;exact .inr e.symm
  ·rw[if_neg z]at e;exact .inl (e▸a)
 ·rcases mem_append.mp h with z|z
  ·exact .inl z
  ·exact .inr (mem_singleton.mp z)
structure DrawnI(n i:Nat)(t:List (List Int×Int)):Prop where
 len:t.length<=i
 rows:∀q∈t,q.1.length=n
 nd:(t.map (·.1)).Nodup
 row:∀q∈t,∀x∈q.1,0<=x/\x<=9
 cnt:∀q∈t,1<=q.2/\q.2<=1000000000000
theorem DrawnI.nil:DrawnI n 0 []:=⟨by simp,by simp,by simp,by simp,by simp⟩
theorem DrawnI.put{t:List (List Int×Int)}(h:DrawnI n i t){c:Int}(f:r.length=n)(d:∀x∈r,0<=x/\x<=9)(h1:1<=c)(h2:c<=1000000000000):DrawnI n (i+1) (BG t r c) where
 len:=Nat.le_trans (Gr t r c) (Nat.add_le_add_right h.len 1)
 rows:=Gs h.rows f
 nd:=LI h.nd
 row:=λq a=>(P4 a).elim (h.row q) λe=>by rw[e];exact d
 cnt:=λq a=>(P4 a).elim (h.cnt q) λe=>by rw[e];exact⟨h1,h2⟩
theorem DrawnI.out{t:List (List Int×Int)}(h:DrawnI n i t)(hi:i<=40):Drawn n t:=⟨Nat.le_trans h.len hi,h.rows,h.nd,h.row,h.cnt⟩
def LL:pF:=λxs K=>∃qK,xs=[.bag,AK qK]/\qK.length<=9/\∀t,Drawn qK.length t->K (AO (Ak t))
def DP(n:Nat)(r:List Int):Bool:=decide (r.length=n)&&r.all λx=>decide (0<=x/\x<=9)
def DQ:List (List Int)->Bool
 |a::b::r=>HT.lexLt a b&&DQ (b::r)
 |_=>true
def Ij(n:Nat)(t:List (List Int×Int)):Bool:=(t.all λq=>DP n q.1&&decide (1<=q.2))&&DQ (t.map (·.1))
def P5:pF:=λxs K=>∃qK r,xs=[AK qK,AJ r]/\r.length<=1000/\K (.bl (DP qK.length r))
def P6:pF:=λxs K=>∃rs:List (List Int),xs=[.lst (rs.map AJ)]/\rs.length<=1000/\K (.bl (DQ rs))
def LM:pF:=λxs K=>∃qK t,xs=[AK qK,AO t]/\t.length<=1000/\(∀q∈t,q.1.length<=1000)/\K (.bl (Ij qK.length t))
end L2
namespace L2
open PySem PySem.Spec PyProof.Rows
theorem Wm{a b:List Str}:(a.map P.str=b.map P.str)=(a=b):=propext ⟨Pu,λh=>by rw[h]⟩
theorem Wn{a b:List Int}:(a.map P.int=b.map P.int)=(a=b):=propext ⟨Pt,λh=>by rw[h]⟩
theorem Wo{a b:List (List Int×Int)}:(a.map Ay=b.map Ay)=(a=b):=propext ⟨λh=>Ih (λ_ _=>Pw) h,λh=>by rw[h]⟩
theorem Wp{a b:List (List Int)}:(a.map AJ=b.map AJ)=(a=b):=propext ⟨λh=>Ih (λ_ _=>LH) h,λh=>by rw[h]⟩
theorem FP(t:List (List Int×Int)):(Ak t).length<=t.length:=by
 unfold Ak
 rw[length_map]
 refine Nat.le_trans (length_filter_le _ _) ?_
 rw[(C5 _).length_eq,length_map];exact Nat.le_refl _
theorem Ik{t:List (List Int×Int)}(h:q∈Ak t):q.1∈t.map (·.1):=by
 unfold Ak at h
 obtain⟨r,a,rfl⟩:=mem_map.mp h
 exact(C5 _).mem_iff.mp (mem_filter.mp a).1
theorem P7:∀(t:List (List Int)),DQ t=true↔∀k a b,t[k]?=some a->t[k+1]?=some b->HT.lexLt a b=true
 |[]=>by simp[DQ]
 |[x]=>by simp[DQ]
 |x::y::r=>by
  have e:=P7 (y::r)
  unfold DQ
  rw[Bool.and_eq_true,e]
  constructor
  ·rintro⟨h1,h2⟩ k a b d c
   cases k with
   |zero=>simp at d c;rw[<-d,<-c];exact h1
   |succ k=>exact h2 k a b (by simpa using d) (by simpa using c)
  ·intro h
   exact⟨h 0 x y rfl rfl,λk a b d c=>h (k+1) a b (by simpa using d) (by simpa using c)⟩
end L2
namespace L2
open PySem PySem.Spec PyProof.Rows PySem.W PySem.SeqAt
theorem Wq{M:Model}{a:Type}(f:Nat->a->Sem (ForInStep a))(I:List Nat->a->Shared->Prop)(Q:a->Shared->Prop)
  (turn:∀y l c u,I (y::l) c u->wpAny M A (f y c) (λz u'=>match z with|.yield c'=>I l c' u'|.done c'=>Q c' u') E u)
  (fin:∀b s,I [] b s->Q b s) (m:Nat) (b:a) (h:I (range' 0 m) b s):wpAny M A (forIn [0:m] b f) Q E s:=by
 rw[Std.Legacy.Range.forIn_eq_forIn_range']
 simp only[Std.Legacy.Range.size,Nat.sub_zero,Nat.add_sub_cancel,Nat.div_one]
 exact wpAny_forIn_list f I Q turn fin _ b h
theorem Wr(l:Addr)(items:Array Value)(n:Nat)(dd:Option Addr)(r:Array (Option Value))(x:Value)(e:Value->Bool)(j:Nat)(E:j<items.size)
  (q:e items[j]=true) (p:∀m (D:m<items.size),m<j->e items[m]=false):Meets (Builtin.«tuple.index» ⟨[.ref l,x],[]⟩)
   (λA R s=>s.heap.get? l=some { cls:=.type "tuple",dict:=dd,data:=.seq items n,slots:=r }/\(∀y,y∈items->EqAt A.in1 s y x (e y))/\R (.ok (.ret (.int j s.toks))) { s with toks:=s.toks+1 }) :=
 .of_wp λprog w A R s h=>by
  obtain⟨u,g,d,tk,os⟩:=s;obtain⟨v,B,h⟩:=h
  wp_walk using wpAny_loadPart' v,Wq _ (λqF b s'=>b.1=none/\s'=⟨u,g,d,tk,os⟩/\∃i,i<=j/\qF=range' i (items.size - i)) _
  case turn =>
   rintro i qF b s' ⟨C,rfl,f,hi,o⟩
   obtain⟨rfl,a⟩:i=f/\qF=range' (f+1) (items.size - (f+1)):=by
    have e:items.size - f=(items.size - (f+1))+1:=by lia
    rw[e,range'_succ]at o
    injection o with h1 h2
    exact⟨h1,h2⟩
   have c:i<items.size:=by lia
   rw[Array.getElem?_eq_getElem c]
   refine wB (B _ (Array.getElem_mem c) prog w _ _ ?_)
   by_cases z:i=j
   ·subst z
    rw[q]
    wp_walk
    exact⟨_,rfl,h⟩
   ·rw[p i c (by lia)]
    wp_walk
    exact⟨rfl,rfl,i+1,by lia,a⟩
  case fin =>
   rintro⟨H,G⟩ s' ⟨C,rfl,i,hi,o⟩
   exfalso
   have:=congrArg length o
   simp at this
   lia
  case h =>
   exact⟨rfl,rfl,0,Nat.zero_le _,by simp⟩
def P8:V->List V->Hp->VK->Prop:=λx vs H Q=>∃(p:Addr) (ss:List Str) (z:Str) (j:Nat),x=.ref p/\vs=[.str z]/\H p=some (.tup (ss.map V.str))/\ss[j]?=some z/\(∀m,m<j->ss[m]?≠some z)/\Q (.int j) H
def P9(r:V->List V->Hp->VK->Prop)(to:TE)(t:TA):TE:=λσ H Q=>to σ H λx H1=>(∃p vs,x=.ref p/\H1 p=some (.tup vs))/\t σ H1 λxs H2=>r x xs H2 Q
section
variable{o e:Expr}{to:TE}{t:TA}{name:Str}{id:String}{r:V->List V->Hp->VK->Prop}
theorem Ws(slot:Slot "tuple" name id)(j:typeOf (.builtin id)=pure (.type "method_descriptor"))(L:Hl X id r)(J:PE X o to)(M:PA X (e::es) t)
  (f:attributeBase o name X.env (eval o X.env)=eval o X.env:=by rfl)
  (g:((backTo qL (starEach (e::es) X.env)).all (λx=>!x.1)&&(backToKw qL (keywordEach [] X.env)).all (λx=>x.1.isSome)
   && decide ((e::es).length+([]:List Keyword).length+(if([]:List Keyword).isEmpty then 0 else 1)<30))=true:=by rfl)
  (d:(qM.endLine==qL.line)=true:=by rfl) (E:starEach (e::es) X.env=(false,eval e X.env)::starEach es X.env:=by rfl) (c:(backTo qL (starEach es X.env)).any (·.1)=false:=by rfl) :
  PE X (.Call (.Attribute o name qM) (e::es) [] qL) (P9 r to t):=by
 intro qA s σ H Q I h
 refine wpAny_Call_method_late f g d rfl (AH (J qA s σ H _ I h) λv i ⟨x,H1,w,A,⟨p,U,ex,G⟩,C⟩=>?_)
 subst ex
 cases A
 obtain⟨_,qH,_,D⟩:=w.hok p _ G
 have l:i.TypeIs (.ref p) "tuple"/\∀a,Value.ref p=.ref a->∃n,i.heap.get? a=some n/\n.dict=none:=by
  obtain⟨o',u,O,_,N⟩:=D
  exact⟨⟨_,u,O⟩,λa e=>by cases e;exact⟨_,u,N⟩⟩
 obtain⟨h1,h2⟩:=l
 refine⟨"tuple",id,PySem.F.plainAttrs_tuple,slot,j,h1,h2,?_⟩
 have q:=M qL qA i σ H1 _ w C
 rw[E]at q ⊢
 refine Calls.callWith_builtin (by show(false||(backTo qL (starEach es X.env)).any (·.1))=false;rw[c]<;>rfl) (Calls.evalArgs_plain ?_)
 exact AH q λus y ⟨vs,H2,T,z,B⟩=>L qA y σ H2 (.ref p) vs (.ref p) us Q T rfl z B
theorem Wt:Hl X "tuple.index" P8:=by
 intro qA s σ H x vs v us Q I O rv h
 obtain⟨p,o,z,j,rfl,rfl,hp,L,D,q⟩:=h
 cases O
 obtain⟨u,rfl,T⟩:=rv.one
 obtain⟨t,rfl⟩:=T
 obtain⟨_,qH,w,Y⟩:=I.hok p _ hp
 have G:=w.length
 rw[length_map]at G
 have l:∀(m:Nat) (g:m<qH.toArray.size),∃x t',o[m]?=some x/\qH.toArray[m]=.str x t':=λm g=>by
  have r:m<o.length:=by simpa[G]using g
  obtain⟨y,f,t',d⟩:=w.get (i:=m) (x:=V.str o[m]) (by simp[r])
  refine⟨o[m],t',by simp[r],?_⟩
  have B:qH[m]?=some (qH.toArray[m]):=by simp[show m<qH.length by simpa using g]
  rw[f]at B
  exact(oI B).symm.trans d
 have J:j<o.length:=(List.getElem?_eq_some_iff.mp L).1
 have A:j<qH.toArray.size:=by simpa[<-G]using J
 obtain⟨n,C,N⟩:∃(n:Nat) (C:Array (Option Value)),s.heap.get? p=some { cls:=.type "tuple",dict:=none,data:=.seq qH.toArray n,slots:=C }:=by
  obtain⟨⟨c,dd,da,C⟩,f,d,⟨n,B⟩,M⟩:=Y
  simp only at d B M
  subst d B M
  exact⟨n,C,f⟩
 refine call_meets PySem.F.slot_tuple_index ⟨_,N,rfl⟩ PySem.F.entry_tuple_index (PySem.F.args_tuple_index_2 _ _)
  (Wr p qH.toArray _ none _ (.str z t) (λy=>match y with|.str a _=>a==z|_=>false) j A ?_ ?_) ⟨N,λy U=>?_,⟨.int j,H,I.tok _,⟨_,rfl⟩,q⟩⟩
 ·obtain⟨x,t',f,d⟩:=l j A
  rw[L]at f
  cases f
  rw[d];simp
 ·intro m g E
  obtain⟨x,t',f,d⟩:=l m g
  rw[d]
  have:x≠z:=λe=>D m E (by rw[f,e])
  simp[this]
 ·obtain⟨m,g,rfl⟩:=Array.getElem_of_mem U
  obtain⟨x,t',f,d⟩:=l m g
  rw[d]
  exact EqAt.str_str x t' z t
end
end L2
namespace L2
open PySem PySem.Spec PyProof.Rows PySem.W
def QB(po pe:pE):pE:=λρ K=>po ρ λx _=>(∃xs,x=.tup xs)/\pe ρ λy _=>∃(ss:List Str) (z:Str) (j:Nat),x=AK ss/\y=.str z/\ss[j]?=some z/\(∀m,m<j->ss[m]?≠some z)/\K (.int j) .fr
section
variable{ι:Type}{Xs:ι->Cx}{o e:Expr}{po:pE}
theorem QC(G:QE Xs o po)(L:QE Xs e pe)(M:∀i,attributeBase o "index" (Xs i).env (eval o (Xs i).env)=eval o (Xs i).env:=by intro _;rfl)
  (I:(qM.endLine==qL.line)=true:=by rfl) (d:∀i,starEach [e] (Xs i).env=[(false,eval e (Xs i).env)]:=by intro _;rfl):QE Xs (.Call (.Attribute o "index" qM) [e] [] qL) (QB po pe):=by
 obtain⟨to,E,D⟩:=G
 obtain⟨te,e1,e2⟩:=L
 refine⟨P9 P8 to (B8 te B7),λi=>Ws PySem.F.slot_tuple_index PySem.F.type_tuple_index Wt (E i) (Ap (e1 i) BA (d i)) (M i) (by rw[d i];rfl) I (d i) rfl,λW ρ σ H Q K ok J q=>D W ρ σ H _ _ ok J λx f v H1 ⟨⟨xs,ex⟩,h1⟩ r s=>?_⟩
 have a:=ok.step r
 subst ex
 obtain⟨p,us,rfl,c,rv⟩:=DN a s
 refine⟨⟨p,us,rfl,c⟩,e2 W ρ σ H1 _ _ a h1 λy g u H2 ⟨B,z,j,Y,U,T,O,k2⟩ l C=>?_⟩
 have h:=a.step l
 obtain⟨p',A,N,w,n⟩:=DN h (s.step a l)
 cases N
 cases Y
 subst U
 cases EU h C
 rw[AB.strs.mp n]at w
 exact⟨p,B,z,j,rfl,rfl,w,T,O,q _ _ _ _ k2 (r.trans l) FD⟩
end
def LN:pC:=λxs K=>match xs with
 |[(.int i,_),(.int j,_)]=>K (.int (if j<i then j else i)) .fr
 |_=>False
theorem Wu:CB (λxs H Q=>∃i j,xs=[.int i,.int j]/\Q (.int (if j<i then j else i)) H) LN:=λW ρ σ Hs H Q K xs vs ok st r a q=>by
 unfold LN at a
 split at a
 ·obtain⟨v,u,rfl,d,c⟩:=r.two
  cases B3 ok d
  cases B3 ok c
  exact⟨_,_,rfl,q _ _ _ H a (Step.refl ok.bag) FD⟩
 ·exact a.elim
def LO(g:Int->Int->Int):V->V->Hp->VK->Prop:=λx y H Q=>∃i j,x=.int i/\y=.int j/\Q (.int (g i j)) H
theorem Wv:Hj X .Sub (LO (· - ·)):=TR
def Il(g:Int->Int->Int)(k:Nat)(pk pe:pE):pS:=λE ρ=>match ρ[k]? with
 |some (.own (.dT ks vs))=>pk ρ λz _=>∃r o,CK z=some r/\BV ks vs r=some (.int o)/\pe ρ λy _=>∃d,y=.int d/\ks.length<16777216/\E.nx (ρ.set k (.own (.dT (Aq ks r) (Dk ks vs r (.int (g o d))))))
 |_=>False
section
variable{ι:Type}{Xs:ι->Cx}{a b:Expr}{pa pb:pE}{p1:Pos}{k:Nat}{t u:TE}{g:Int->Int->Int}
theorem Ww(h1:A6 t pa)(h2:A6 u pb):Dg (Nc (Cb k) t u (LO g)) (Il g k pa pb):=λW ρ σ H D E ok s r=>by
 unfold Il at s
 split at s
 ·rename_i ks xs e
  obtain⟨w,A,p,e2,_,_,O,_,vs,T,I,Q⟩:=ok.slot k _ e
  subst e2
  have ho:Ac ρ σ p:=⟨k,_,e,A⟩
  refine⟨.ref p,A,h1 W ρ σ H _ _ ok s λz fz vz H1 ⟨x,o,k0,k1,k2⟩ n M=>?_⟩
  have h:=ok.step n
  obtain⟨q,rfl,c4⟩:=Eg h k0 M
  have J:=n.same p _ O T
  have G:AB W.b (Zf W ρ σ) H1 xs vs:=Q.step (f:=.fr) n ok.bag
  obtain⟨U,a1,a2⟩:=(Ee DO (k:=x) G I).1 _ k1
  cases(show U=.int o from a2)
  refine⟨p,.int o,rfl,by rw[<-a1];exact B9.t J c4,h2 W ρ σ H1 _ _ h k2 λy f v H2 ⟨d,k3,k4,k5⟩ L Y=>?_⟩
  subst k3
  have c:=n.trans L
  have a:=ok.step c
  cases B3 a Y
  have l:=c.same p _ O T
  have j:AB W.b (Zf W ρ σ) H2 xs vs:=Q.step (f:=.fr) c ok.bag
  have C:=(Eg a k0 (M.step h L))
  obtain⟨q',B,c5⟩:=C
  cases B
  refine⟨o,d,rfl,rfl,_,DE.t l c5 (by rw[length_zip,length_map];exact Nat.lt_of_le_of_lt (Nat.min_le_left _ _) k4),r.nx _ _ _ k5 ?_⟩
  obtain⟨i,f1,f2⟩:=K5 DO (k:=x) j I (show Rp W.b (Zf W ρ σ) H2 (.int (g o d)) (.int (g o d))from rfl)
  rw[f1]
  have N:=D6 (o:=HO.dT (((Aq ks x).map AV).zip i)) a ho (f:=.fr) (.inr rfl)
  exact a.mut e A (λ_ z=>nomatch z) ⟨i,Af,K6 I,f2.keep N.1 N.2⟩
 ·exact s.elim
theorem Wx{op:Operator}(l:∀i,(Xs i).A.units+1<cLine)(f:∀i,Hj (Xs i) op (LO g))(p:QE Xs a pa)(o:QE Xs b pb)(q:∀i,(Xs i).N[k]?=some x:=by intro _;rfl)(j:∀i,Cv (Xs i).env.scope x:=by intro _;trivial)(n:(x==("__debug__":Str))=false:=by decide)(h:(x==("__classdict__":Str))=false:=by decide)
  (e:∀c d new,augStore a c d new=(do holding [new,c,d] (setItem c d new);release [new,c,d] [];pure .next):=by intros;rfl):QS Xs (.AugAssign (.Subscript (.Name x p1) a pos') op b pos) (Il g k pa pb):=by
 obtain⟨t,w,v⟩:=p
 obtain⟨u,s,r⟩:=o
 exact⟨_,λi=>UK (l i) (Ds (q i) (j i) n h) (w i) (s i) (f i) e,Ww v r⟩
end
end L2
namespace PySem
open PySem.Sem (wp)
theorem Wy:typeLookup (.type "list") (Str.ofString "keys")=pure none:=am_miss_of_fast nofun
theorem Wz{o:Obj}{xs:Array Value}{k:Nat}{Q:Option Value->Shared->Prop}
  (n:s.heap.get? a=some o) (q:o.cls=.type "list") (f:o.data=.seq xs k) (p:o.dict=none) (B:A.handled=none)
  (h:∀h' tk e,Heap.NewExcOf s.heap h' e "AttributeError"->Q none { s with heap:=h',toks:=tk }) :
  wpAny (model prog w) A (getAttr? (.ref a) (Str.ofString "keys")) Q E s:=by
 obtain⟨c,x,y,u⟩:=o
 simp only at q f p
 subst q f p
 obtain⟨v,g,d,tk,os⟩:=s
 have r:∀j,(⟨v,g,d,j,os⟩:Shared).TypeIs (.ref a) "list":=λ_=>⟨_,n,rfl⟩
 have H:=sub_AttributeError
 have G:=F.slot_list_getattribute.lookup
 have D:=F.slot_list_getattribute.bind (.ref a)
 have C:=am_list_getattr_none
 have i:=Wy
 unfold getAttr? getAttrBy? getAttrBy
 repeat (any_goals (first|assumption|exact r _|((with_reducible show wpAny _ _ (call (Value.builtin "list.__getattribute__") _ _) _ _ _);refine call_meets F.slot_list_getattribute (r _) am_entry_list_getattribute (F.args_list_getattribute_2 _ _) (meets_getattribute_miss_list a xs k u (Str.ofString "keys") _ i nofun) ⟨n,by assumption,λh' j e l=>?_⟩)|wp_step))
 obtain⟨t',u',z⟩:=l.there
 show wpAny _ _ (getattributeRaised _ _ _ _ _ _ _) _ _ _
 unfold getattributeRaised
 repeat (any_goals (first|assumption|wp_step))
 all_goals first|exact h _ _ _ l.of|trace_state
end PySem
namespace L2
open PySem PySem.Spec PyProof.Rows PySem.W
theorem Im:plainId "dict.update.loop"=true:=by decide +kernel
theorem QD:entryFor table "dict.update.loop"=some Builtin.«dict.update.loop»:=entryFor_of_fast (by kernel_rfl)
theorem W0(e:H a=some o):AD H a o=H:=by
 funext b
 by_cases c:b=a
 ·subst c;rw[Af,e]
 ·rw[AL c]
theorem W1{qI:List (List AN×V)}{k:List AN}{b:Addr}{r:Value}{B:Around}{Q:Unit->Shared->Prop}(n:(tupleKind (Bn X.prog X.w)).room B)(I:Inv X qA σ H s)(e:H a=some (.dT qI))(i:H b=some (.tup (k.map kV)))(l:qI.length<sizeLine)(rv:AG v r)
  (h:∀s',Inv X qA σ (AD H a (.dT (BK qI k v))) s'->Heap.SameBut a s.heap s'.heap->Q () s'):wpAny (model X.prog X.w) B (dictSet a (.ref b) r) Q E s:=by
 obtain⟨z,p,xs,rel,dd⟩:=KF I.hok e
 have j:xs.length<=sizeLine:=by rw[<-Paired.length rel];exact z
 have o:(BK qI k v).length<=sizeLine:=by have:=GA qI k v;lia
 refine wpAny_dictSet_heap (hsz:=j) n (E5 I.hok i) dd λh' dd' d=>h _ ?_ d
 obtain⟨q,es,ep,f,h2,y,x,_,u⟩:=dd'
 refine GD I (by rw[e];exact True.intro) d ⟨q,f⟩ ⟨o,p,_,(rel.put k i rv).keeps λc ys g=>?_,q,es,ep,f,h2,y,x,u⟩
 rw[AL (Dr g e (λz=>nomatch z))]
 exact g
def FQ(qI:List (List AN×V)):List (Addr×List AN×Addr×V)->List (List AN×V)
 |[]=>qI
 |p::r=>FQ (BK qI p.2.1 p.2.2.2) r
theorem W2(hh:A.handled=none)(hr:(tupleKind (Bn X.prog X.w)).room A.in1){R:Result->Shared->Prop}{l:Addr}{ps:List (Addr×List AN×Addr×V)}:∀(n i:Nat) (s:Shared) (H:Hp) (qI:List (List AN×V)),ps.length - i=n->i<=ps.length->Inv X qA σ H s->H d=some (.dT qI) ->
  H l=some (.lst (ps.map λp=>V.ref p.1))->(∀p∈ps,H p.1=some (.tup [.ref p.2.2.1,p.2.2.2])/\H p.2.2.1=some (.tup (p.2.1.map kV)))->s.heap.IsListIter it l i->B1 X qA H it->qI.length+n<sizeLine ->
  (∀s',Inv X qA σ (AD H d (.dT (FQ qI (ps.drop i)))) s'->R (.ok (.ret .none)) s') ->
  wpAny (model X.prog X.w) A.in1 (Builtin.«dict.update.loop» ⟨[.ref d,.ref it,rawInt i,.none],[]⟩) (λfin s'=>match fin with|.done f=>R (.ok f) s'|.again c'=>c'.quiet=true/\codeAny (model X.prog X.w) A c' R s') (λe s'=>R (.error e) s') s:=by
 intro n
 induction n with
 |zero =>
  intro i s H qI hn hi I h el c st L G k
  have J:i=ps.length:=by lia
  obtain⟨qH,rv,pl,hz⟩:=I.list (.of el)
  have hl:=rv.length
  rw[length_map]at hl
  obtain⟨g,B,Q,y,v,q⟩:=L
  unfold Builtin.«dict.update.loop»
  refine wB (wpAny_pyNext_list_end (A:=A.in1) hh st pl.isList (by simp;lia) λh' eb=>?_)
  have C:Inv X qA σ H { s with heap:=h' }:=I.turned (t':=s.toks) (λb o M e=>eb b o M e) g B y v q
  have:=k _ (by rw[J,drop_length];unfold FQ;rw[W0 h];exact C)
  show wpAny _ _ (Builtin.Dict.addKeywords d [] >>= _) _ _ _
  exact wB (wP (wP this))
 |succ n ih =>
  intro i s H qI hn hi I h el c st L G k
  have a:i<ps.length:=by lia
  obtain⟨qH,rv,pl,hz⟩:=I.list (.of el)
  obtain⟨h1,h2⟩:=c ps[i] (getElem_mem a)
  obtain⟨u,hu,ru⟩:=rv.get (i:=i) (x:=V.ref ps[i].1) (by simp[a])
  cases ru
  obtain⟨g,B,Q,y,v,q⟩:=id L
  unfold Builtin.«dict.update.loop»
  refine wB (wpAny_pyNext_list_item st pl.isList (x:=.ref ps[i].1) (by simpa using hu) λh' D sb=>?_)
  have C:Inv X qA σ H { s with heap:=h' }:=I.turned (t':=s.toks) (λb o M e=>(sb.2 b M).trans e) g B y v q
  obtain⟨_,ts,w1,o1,O,g2,⟨n1,g3⟩,_⟩:=C.hok _ _ h1
  obtain⟨u1,N,rfl,r1,r2⟩:=NC w1
  cases r1
  have hT:(⟨h',s.gens,s.drawn,s.toks,s.os⟩:Shared).TypeIs (.ref ps[i].1) "tuple":=⟨o1,O,g2⟩
  have j:it≠d:=λz=>by rw[z,h]at g;cases g
  dsimp only
  refine wB (wpAny_holding ?_)
  refine wB (wpAny_tryCatch ?_)
  unfold Builtin.Dict.pairItems
  refine wB (wpAny_typeOf hT ?_)
  rw[if_pos (by decide)]
  refine wB (wpAny_seqItems O g3 ?_)
  refine wP ?_
  show wpAny _ _ (holding [Value.ref ps[i].2.2.1,N] (dictSet d (.ref ps[i].2.2.1) N)) _ _ _
  refine wpAny_holding (W1 hr C h h2 (by lia) r2 λs2 I2 E=>?_)
  refine wP ⟨plainId_quiet Im _,codeAny_builtin QD ?_⟩
  rw[Around.under_plainId Im _]
  have hc:((i:Int)+1)=((i+1:Nat):Int):=by push_cast;rfl
  rw[hc]
  have nt:∀b ys,H b=some (HO.tup ys)->b≠d:=λb ys e=>Dr e h (λz=>nomatch z)
  have a0:=GA qI ps[i].2.1 ps[i].2.2.2
  refine ih (i+1) s2 _ _ (by lia) a I2 Af (by rw[AL (Dr el h (λz=>nomatch z))];exact el) (λp hp=>?_) ?_ ⟨by rw[AL j];exact g,B,Q,y,v,q⟩ (by lia) λs' Y=>k s' ?_
  ·obtain⟨U,T⟩:=c p hp
   exact⟨by rw[AL (nt _ _ U)];exact U,by rw[AL (nt _ _ T)];exact T⟩
  ·obtain⟨o,e,r⟩:=D
   exact⟨o,(E.2 it j).trans e,r⟩
  ·rw[HV]at Y
   rw[drop_eq_getElem_cons a]
   exact Y
def QF:List V->Hp->VK->Prop:=λxs H Q=>∃(l:Addr) (ps:List (Addr×List AN×Addr×V)),xs=[.ref l]/\H l=some (.lst (ps.map λp=>V.ref p.1))/\(∀p∈ps,H p.1=some (.tup [.ref p.2.2.1,p.2.2.2])/\H p.2.2.1=some (.tup (p.2.1.map kV)))/\ps.length<16777216 /\
 ∀d,H d=none->Q (.ref d) (AD H d (.dT (FQ [] ps)))
theorem Ip{k:Nat}(n:X.calm=true)(G:Room k X.A):BP X (.type "dict") QF:=by
 intro qA s σ H xs us Q I r h
 obtain⟨l,ps,rfl,j,g,hz,q⟩:=h
 obtain⟨u,rfl,C⟩:=r.one
 cases C
 have EF:H s.heap.objs.size=none:=I.hok.fresh (Nat.le_refl _)
 have y:Inv X qA σ (AD H s.heap.objs.size (.dT [])) { s with heap:=s.heap.push { cls:=.type "dict",data:=.dict #[] } } :=
  I.laid (t':=s.toks) (λb o e=>Heap.get?_push_of_some _ e) (Nat.le_refl _) (Nd s.heap (modules_low I.nolimit))
 refine callType_codes (Q₁:=λc a=>c=.ref s.heap.objs.size/\a={ s with heap:=s.heap.push { cls:=.type "dict",data:=.dict #[] } }) F.kt_called_dict (F.kt_typeCall_dict_1 _) F.entry_dict_init (kt_code_dict_new _ ⟨rfl,rfl⟩) ?_
 rintro c a ⟨rfl,rfl⟩
 have v:(⟨s.heap.push { cls:=.type "dict",data:=.dict #[] },s.gens,s.drawn,s.toks,s.os⟩:Shared).TypeIs (.ref s.heap.objs.size) "dict":=⟨_,Heap.get?_push_size _ rfl,rfl⟩
 have el:(AD H s.heap.objs.size (.dT [])) l=some (.lst (ps.map λp=>V.ref p.1)):=by rw[AL (A3 j EF)];exact j
 refine⟨v,F.args_dict_init_2 _ _,?_⟩
 unfold Builtin.«dict.__init__»
 refine wB ?_
 unfold Builtin.Dict.selfAndRest
 refine wB (wpAny_notOrdered_dict v ?_)
 show wpAny _ _ (pure (s.heap.objs.size,[Value.ref l])) _ _ _
 refine wP ?_
 show wpAny _ _ (Builtin.Dict.updateFrom "dict.__init__" s.heap.objs.size (.ref l) [] .none) _ _ _
 unfold Builtin.Dict.updateFrom
 obtain⟨qH,rv,pl,D⟩:=y.list (.of el)
 obtain⟨U,Y,O,N,M,L⟩:=id pl
 refine wB (wpAny_typeOf pl.isList.typeIs ?_)
 rw[if_pos (by decide)]
 refine wB (Wz O N L M (I.ok.hd n) λh' tk e E=>?_)
 have d:=y.kept (t':=tk) (h':=h') E.keeps
 simp only[Option.isNone_none,if_true]
 refine wB (wpAny_rule ?_)
 obtain⟨i,B,f,_⟩:=d.list (.of el)
 refine wB (wpAny_pyIter_list f.isList ?_)
 have T:=d.kept (t':=tk) (h':=h'.push { cls:=.type "list_iterator",data:=.fields #[.ref l,.int 0 0] }) λb o e=>Heap.get?_push_of_some _ e
 refine wP ⟨plainId_quiet Im _,codeAny_builtin QD ?_⟩
 rw[Around.under_plainId Im _]
 refine W2 (A:=X.A.in1) (l:=l) (ps:=ps) (I.ok.hd n) (tupleKind_room_in1 (by rw[FL];have:=G.un;lia)) _ 0 _ _ [] rfl (Nat.zero_le _) T Af el (λp J=>?_) ⟨_,Heap.get?_push_size _ rfl,rfl,rfl⟩ (d.fpOk (Nat.le_refl _) (d.hok.fresh (Nat.le_refl _))) ?_ λs' z=>⟨rfl,.ref s.heap.objs.size,_,?_,rfl,q _ EF⟩
 ·obtain⟨x,w⟩:=g p J
  exact⟨by rw[AL (A3 x EF)];exact x,by rw[AL (A3 w EF)];exact w⟩
 ·show 0+(ps.length - 0)<16777216
  lia
 ·rw[HV,drop_zero]at z
  exact z
def Gv(t:List (List Int×Int)):List (List Int×Int):=t.foldl (λa q=>BG a q.1 q.2) []
def LP:pC:=p1 λx _ K=>∃t,x=AO t/\t.length<16777216/\K (Bz (Gv t)) .nw
theorem QH{b:Addr}{Z:Addr->Prop}{H:Hp}:∀{t:List (List Int×Int)} {us:List V},AB b Z H (t.map Ay) us->∃ps:List (Addr×List AN×Addr×V),us=(ps.map λp=>V.ref p.1)/\ps.map (λp=>(p.2.1,p.2.2.2))=t.map (λq=>(AV q.1,V.int q.2)) /\
  ∀p∈ps,H p.1=some (.tup [.ref p.2.2.1,p.2.2.2])/\H p.2.2.1=some (.tup (p.2.1.map kV))
 |[],us,h=>⟨[],h,rfl,λ_ h=>nomatch h⟩
 |q::t,us,h=>by
  obtain⟨v,r,rfl,⟨a,s,rfl,c,u,w,rfl,⟨g,ks,rfl,d,k2⟩,e,f,rfl,o,n⟩,h2⟩:=h
  obtain⟨ps,l,j,i⟩:=QH h2
  cases(show e=.int q.2 from o)
  cases(show f=[]from n)
  rw[AB.ints.mp k2]at d
  refine⟨(a,AV q.1,g,.int q.2)::ps,by rw[l];rfl,by rw[map_cons,map_cons,j],λp hp=>?_⟩
  rcases mem_cons.mp hp with rfl|hp
  ·exact⟨c,by rw[LB];exact d⟩
  ·exact i p hp
theorem W3(a:List (List Int×Int))(r:List Int)(c:Int):BK (a.map λq=>(AV q.1,V.int q.2)) (AV r) (.int c)=(BG a r c).map λq=>(AV q.1,V.int q.2):=by
 unfold BK BG
 have e:(a.map λq=>(AV q.1,V.int q.2)).any (λg=>decide (g.1=AV r))=decide (r∈a.map (·.1)):=by
  rw[Bool.eq_iff_iff,any_eq_true,decide_eq_true_iff]
  constructor
  ·rintro⟨x,i,j⟩
   obtain⟨q,d,rfl⟩:=mem_map.mp i
   have:=DO _ _ (of_decide_eq_true j)
   exact mem_map.mpr ⟨q,d,this⟩
  ·intro h
   obtain⟨q,d,rfl⟩:=mem_map.mp h
   exact⟨_,mem_map_of_mem d,decide_eq_true rfl⟩
 rw[e]
 by_cases h:r∈a.map (·.1)
 ·rw[if_pos (decide_eq_true h),if_pos h,map_map,map_map]
  refine map_congr_left λq _=>?_
  by_cases z:q.1=r
  ·simp[z]
  ·have f:¬AV q.1=AV r:=λh=>z (DO _ _ h)
   simp[z,f]
 ·rw[if_neg (by simpa using h),if_neg h]
  simp
theorem QJ:∀(ps:List (Addr×List AN×Addr×V)) (t a:List (List Int×Int)),ps.map (λp=>(p.2.1,p.2.2.2))=t.map (λq=>(AV q.1,V.int q.2))->FQ (a.map λq=>(AV q.1,V.int q.2)) ps=(t.foldl (λa q=>BG a q.1 q.2) a).map λq=>(AV q.1,V.int q.2)
 |[],[],a,_=>rfl
 |[],_::_,_,h=>by simp at h
 |_::_,[],_,h=>by simp at h
 |p::ps,q::t,a,h=>by
  simp only[map_cons,List.cons.injEq,Prod.mk.injEq]at h
  unfold FQ
  rw[h.1.1,h.1.2,W3,foldl_cons]
  exact QJ ps t _ h.2
theorem W4(t:List (List Int×Int)):((t.map (·.1)).map AV).zip (t.map λq=>V.int q.2)=t.map λq=>(AV q.1,V.int q.2):=by
 induction t with
 |nil=>rfl
 |cons q t a=>simp only[map_cons,zip_cons_cons,a]
theorem W5{b:Addr}(t:List (List Int×Int)):AB b Z H (t.map λq=>P.int q.2) (t.map λq=>V.int q.2):=by
 have:=(AB.ints (b:=b) (Z:=Z) (H:=H) (ns:=t.map (·.2)) (vs:=(t.map (·.2)).map V.int)).mpr rfl
 simpa[map_map,Function.comp_def]using this
theorem Iq:CB QF LP:=λW ρ σ Hs H Q K xs vs ok st r g q=>by
 unfold LP p1 at g
 split at g
 ·obtain⟨v,rfl,rv⟩:=r.one
  obtain⟨t,rfl,u,n⟩:=g
  obtain⟨p,us,rfl,c,l⟩:=CI ok rv
  obtain⟨ps,s,j,o⟩:=QH l
  have i:ps.length=t.length:=by have:=congrArg length j;simpa using this
  refine⟨p,ps,rfl,by rw[c,s],o,by lia,λd h=>q _ _ _ _ n (Step.new ok.bag h) ?_⟩
  have e:=QJ ps t [] j
  rw[map_nil]at e
  rw[e,show t.foldl (λa q=>BG a q.1 q.2) []=Gv t from rfl,<-W4]
  refine⟨⟨d,_,rfl,λz=>ok.dom (f:=.fr) z h,Af,by simp,W5 _⟩,λ_=>⟨d,rfl,st.free h⟩⟩
 ·exact g.elim
def CS(b:Addr×List Int):List (Addr×List Int)->Addr×List Int
 |[]=>b
 |p::r=>if HT.lexLt p.2 b.2=true then CS p r else CS b r
theorem Inv.off{S:Addr}(I:Inv X qA σ H s)(a:B1 X qA H S)(k:∀b o,b≠S->s.heap.get? b=some o->h'.get? b=some o):Inv X qA σ H { s with heap:=h' }:=by
 obtain⟨g,f,h,e,d,c⟩:=a
 exact I.turned (t':=s.toks) k g f e d c
theorem W6(hh:A.handled=none)(hu:A.in1.units<cLine){R:Result->Shared->Prop}{l S:Addr}{ps:List (Addr×List Int)}{dv:Value}(q:S≠it):∀(n i:Nat) (s:Shared) (H:Hp) (a:Addr×List Int) (c:Nat),ps.length - i=n->i<=ps.length->Inv X qA σ H s ->
  H l=some (.lst (Bx ps))->(∀p∈ps,H p.1=some (.tup (p.2.map V.int)))->H a.1=some (.tup (a.2.map V.int))->s.heap.IsListIter it l i->s.heap.get? S=some { cls:=.type "list",dict:=none,data:=.seq #[.ref a.1,.ref a.1] c,slots:=#[] } ->
  B1 X qA H it->B1 X qA H S->(∀s',Inv X qA σ H s'->R (.ok (.ret (.ref (CS a (ps.drop i)).1))) s') ->
  codeAny (model X.prog X.w) A (.builtin "min.loop" ⟨[.ref it,.none,.ref S],[(Str.ofString "default",dv)]⟩) R s:=by
 have d:(toString "min"++toString ".loop":String)="min.loop":=by decide
 intro n
 induction n with
 |zero =>
  intro i s H a c hn hi I el D h st z B C k
  have G:i=ps.length:=by lia
  obtain⟨qH,rv,pl,hz⟩:=I.list (.of el)
  have hl:=rv.length
  rw[length_map]at hl
  refine codeAny_builtin F.entry_min_loop ?_
  rw[Around.under_plainId F.plain_min_loop _]
  show wpAny _ A.in1 (seqItems? (.ref S) >>= _) _ _ s
  refine wB (wpAny_seqItems z rfl ?_)
  show wpAny _ A.in1 (tryCatch (pyNext (.ref it)) _ >>= _) _ _ s
  refine wB (wpAny_tryCatch (wpAny_pyNext_list_end (A:=A.in1) hh st pl.isList (by simp;lia) λh' N=>?_))
  have v:=I.off (h':=h') B (λb o h e=>N b o h e)
  have j:=N S _ q z
  show wpAny _ A.in1 (updateSeq S (λ_=>#[]) >>= _) _ _ _
  refine wB ?_
  refine wpAny_updateSeq j rfl (wB (wpAny_letGo (wP ?_)))
  rw[G,drop_length]at k
  exact k _ (v.off C (λb o h e=>(Heap.get?_update_other _ _ (Ne.symm h)).trans e))
 |succ n L =>
  intro i s H a c hn hi I el D h st z B C k
  have g:i<ps.length:=by lia
  obtain⟨qH,rv,pl,hz⟩:=I.list (.of el)
  have h1:=D ps[i] (getElem_mem g)
  obtain⟨u,E,Y⟩:=rv.get (i:=i) (x:=V.ref ps[i].1) (by simp[g])
  cases Y
  refine codeAny_builtin F.entry_min_loop ?_
  rw[Around.under_plainId F.plain_min_loop _]
  show wpAny _ A.in1 (seqItems? (.ref S) >>= _) _ _ s
  refine wB (wpAny_seqItems z rfl ?_)
  show wpAny _ A.in1 (tryCatch (pyNext (.ref it)) _ >>= _) _ _ s
  refine wB (wpAny_tryCatch (wpAny_pyNext_list_item st pl.isList (x:=.ref ps[i].1) (by simpa using E) λh' y J=>?_))
  have v:=I.off (h':=h') B (λb o h e=>(J.2 b h).trans e)
  have j:=(J.2 S q).trans z
  obtain⟨U,Q,p1,_⟩:=v.tuple (.of h1)
  obtain⟨T,O,p2,_⟩:=v.tuple (.of h)
  have i1:IntsAre U.toArray.toList ps[i].2:=E4 Q
  have i2:IntsAre T.toArray.toList a.2:=E4 O
  show wpAny _ A.in1 (tryCatch (holding [Value.ref ps[i].1,Value.ref ps[i].1] (compareOp .Lt (.ref ps[i].1) (.ref a.1) >>= _)) _ >>= _) _ _ _
  refine wB (wpAny_tryCatch (wpAny_holding (wB (HT.lt_tupInts p1 p2 i1 i2 hu ?_))))
  refine wB (wpAny_holding (wpAny_truthy_bool ?_))
  refine wB (wpAny_letGo (wP ?_))
  rw[drop_eq_getElem_cons g]at k
  cases M:HT.lexLt ps[i].2 a.2 with
  |true =>
   simp only[CS,M,if_true]at k
   simp only[if_true]
   refine wB ?_
   refine wpAny_updateSeq j rfl (wB (wpAny_letGo ?_))
   rw[d]
   have I2:=λf=>v.off C (h':=h'.update S f) (λb o h e=>(Heap.get?_update_other _ _ (Ne.symm h)).trans e)
   refine wP ⟨plainId_quiet F.plain_min_loop _,L (i+1) _ H ps[i] _ (by lia) g (I2 _) el D h1 ?_ (Heap.get?_update_self _ j rfl) B C k⟩
   obtain⟨o,e,r⟩:=y
   exact⟨o,(Heap.get?_update_other _ _ q).trans e,r⟩
  |false =>
   simp only[CS,M,Bool.false_eq_true,if_false]at k
   simp only[Bool.false_eq_true,if_false]
   refine wB (wpAny_letGo ?_)
   rw[d]
   exact wP ⟨plainId_quiet F.plain_min_loop _,L (i+1) _ H a c (by lia) g v el D h y j B C k⟩
theorem W7(a d:Value):argsOk "min" ⟨[a],[(Str.ofString "default",d)]⟩:=by unfold argsOk;kernel_rfl
theorem W8{id:String}{b:Builtin}{args:List Value}{e:List (Str×Value)}(j:builtinKind id=none)(i:plainId id=true)
  (l:entryFor table id=some b) (a:argsOk id ⟨args,e⟩) (h:wpAny (model prog w) A.in1 (b ⟨args,e⟩) (λz g=>match z with|.done f=>wants Q E (.ok f) g|.again c=>c.quiet=true/\codeAny (model prog w) A c (wants Q E) g) E s) :
  wpAny (model prog w) A (call (.builtin id) args e) Q E s:=wpAny_call (codeAny_call_builtin i l (by
 unfold checkBuiltinCall
 rw[j]
 cases es:Manifest.signature? id with
 |none=>exact wP h
 |some d =>
  simp only[argsOk,es]at a
  have h2:Bind.checkArgs id d ⟨args,e⟩=pure ():=a
  show wpAny _ A.in1 (Bind.checkArgs id d ⟨args,e⟩) _ _ s
  rw[h2];exact wP h))
theorem W9{k:Nat}(T:X.calm=true)(hr:Room k X.A){l:Addr}{ps:List (Addr×List Int)}{y:Value}{Q:VK}(I:Inv X qA σ H s)(el:H l=some (.lst (Bx ps)))(j:∀p∈ps,H p.1=some (.tup (p.2.map V.int)))(rd:AG v y)
  (B:ps=[]->Q v H) (z:∀b r,ps=b::r->Q (.ref (CS b r).1) H):wpAny (model X.prog X.w) X.A (call (.builtin "min") [.ref l] [(Str.ofString "default",y)]) (EP X qA σ Q) X.xe s:=by
 have c:(toString "min"++toString ".loop":String)="min.loop":=by decide
 refine W8 F.kind_min F.plain_min F.entry_min (W7 _ _) ?_
 show wpAny _ X.A.in1 (Builtin.Builtins.bindParams "min" ["key","default"] 0 ⟨[],[(Str.ofString "default",y)]⟩ >>= _) _ _ s
 refine wB (wpAny_of_eq (show Builtin.Builtins.bindParams "min" ["key","default"] 0 ⟨[],[(Str.ofString "default",y)]⟩=pure [none,some y]from rfl) ?_)
 refine wB (wP ?_)
 obtain⟨qH,rv,pl,hz⟩:=I.list (.of el)
 refine wB (wpAny_pyIter_list pl.isList ?_)
 have M:=I.kept (t':=s.toks) (h':=s.heap.push { cls:=.type "list_iterator",data:=.fields #[.ref l,.int 0 0] }) λb o e=>Heap.get?_push_of_some _ e
 refine wB (wpAny_newObj_type ?_)
 rw[c]
 have L:=M.kept (t':=s.toks) (h':=(s.heap.push { cls:=.type "list_iterator",data:=.fields #[.ref l,.int 0 0] }).push { cls:=.type "list",data:=.seq #[] }) λb o e=>Heap.get?_push_of_some _ e
 have E:(s.heap.push { cls:=.type "list_iterator",data:=.fields #[.ref l,.int 0 0] }).objs.size=s.heap.objs.size+1:=size_push' _ _
 have G:B1 X qA H s.heap.objs.size:=I.fpOk (Nat.le_refl _) (I.hok.fresh (Nat.le_refl _))
 have Y:B1 X qA H (s.heap.push { cls:=.type "list_iterator",data:=.fields #[.ref l,.int 0 0] }).objs.size:=M.fpOk (Nat.le_refl _) (M.hok.fresh (Nat.le_refl _))
 have g:(s.heap.push { cls:=.type "list_iterator",data:=.fields #[.ref l,.int 0 0] }).objs.size≠s.heap.objs.size:=by rw[E];lia
 have st:((s.heap.push { cls:=.type "list_iterator",data:=.fields #[.ref l,.int 0 0] }).push { cls:=.type "list",data:=.seq #[] }).IsListIter s.heap.objs.size l 0:=⟨_,Heap.get?_push_of_some _ (Heap.get?_push_size _ rfl),rfl,rfl⟩
 have U:((s.heap.push { cls:=.type "list_iterator",data:=.fields #[.ref l,.int 0 0] }).push { cls:=.type "list",data:=.seq #[] }).get? (s.heap.push { cls:=.type "list_iterator",data:=.fields #[.ref l,.int 0 0] }).objs.size=some { cls:=.type "list",dict:=none,data:=.seq #[] 0,slots:=#[] }:=Heap.get?_push_size _ rfl
 generalize (s.heap.push { cls:=.type "list_iterator",data:=.fields #[.ref l,.int 0 0] }).objs.size=S at *
 generalize s.heap.objs.size=it at *
 generalize ((s.heap.push { cls:=.type "list_iterator",data:=.fields #[.ref l,.int 0 0] }).push { cls:=.type "list",data:=.seq #[] })=h2 at *
 refine wP ⟨plainId_quiet F.plain_min_loop _,codeAny_builtin F.entry_min_loop ?_⟩
 rw[Around.under_plainId F.plain_min_loop _]
 show wpAny _ X.A.in1 (seqItems? (.ref S) >>= _) _ _ _
 refine wB (wpAny_seqItems U rfl ?_)
 show wpAny _ X.A.in1 (tryCatch (pyNext (.ref it)) _ >>= _) _ _ _
 obtain⟨O,a,h,a0⟩:=L.list (.of el)
 have d:=a.length
 rw[length_map]at d
 match ps,el,j,B,z,a,d with
 |[],el,j,B,z,a,d =>
  refine wB (wpAny_tryCatch (wpAny_pyNext_list_end (A:=X.A.in1) (I.ok.hd T) st h.isList (by simp;exact eq_nil_of_length_eq_zero (by simpa using d.symm)) λh' eb=>?_))
  have J:=L.off (h':=h') G (λb o n e=>eb b o n e)
  show wpAny _ X.A.in1 (rule _ >>= _) _ _ _
  exact wB (wpAny_rule (wP ⟨v,H,J,rd,B rfl⟩))
 |b::r,el,j,B,z,a,d =>
  obtain⟨u,D,ru⟩:=a.get (i:=0) (x:=V.ref b.1) rfl
  cases ru
  refine wB (wpAny_tryCatch (wpAny_pyNext_list_item st h.isList (x:=.ref b.1) (by simpa using D) λh' C N=>?_))
  have J:=L.off (h':=h') G (λb o n e=>(N.2 b n).trans e)
  have q:=(N.2 S g).trans U
  show wpAny _ X.A.in1 (updateSeq S (λ_=>#[Value.ref b.1,Value.ref b.1]) >>= _) _ _ _
  refine wB ?_
  refine wpAny_updateSeq q rfl ?_
  rw[c]
  have I4:=λf=>J.off Y (h':=h'.update S f) (λb o n e=>(Heap.get?_update_other _ _ (Ne.symm n)).trans e)
  refine wP ⟨plainId_quiet F.plain_min_loop _,W6 (ps:=b::r) (I.ok.hd T) (by rw[FL];have:=hr.un;lia) g _ 1 _ H b _ rfl (by simp) (I4 _) el j (j b mem_cons_self) ?_ (Heap.get?_update_self _ q rfl) G Y λs' I'=>⟨.ref (CS b r).1,H,I',rfl,z b r rfl⟩⟩
  obtain⟨o,e,rr⟩:=C
  exact⟨o,(Heap.get?_update_other _ _ g).trans e,rr⟩
def XA(te td:TE):TE:=λσ H Q=>B8 te B7 σ H λvs H1=>B8 td B7 σ H1 λzs H2=>∃(l:Addr) (ps:List (Addr×List Int)) (v:V),vs=[.ref l]/\zs=[v]/\H2 l=some (.lst (Bx ps))/\(∀p∈ps,H2 p.1=some (.tup (p.2.map V.int)))/\(ps=[]->Q v H2)/\∀b r,ps=b::r->Q (.ref (CS b r).1) H2
theorem XB{k:Nat}{e d:Expr}{td:TE}{p kpos:Pos}(C:X.calm=true)(w:Room k X.A)(z:PE X e te)(B:PE X d td)(y:Gl X "min")(x:X.mg "min"=none)
  (a:starEach [e] X.env=[(false,eval e X.env)]:=by rfl):PE X (.Call (.Name "min" p) [e] [⟨some (Str.ofString "default"),d,kpos⟩] pos) (XA te td):=by
 intro qA s σ H Q I h
 refine wpAny_Call_Name_kw (Eu I y x (show bootBuiltins "min"=some (.builtin "min") by decide +kernel) ?_ nofun nofun)
 refine callWith_kw (AH (Ap z BA a pos qA s σ H _ I h) λus c ⟨vs,H1,J,j,o⟩=>AH (Ta B TZ pos qA c σ H1 _ J o) λL M ⟨zs,H2,G,i,l,ps,v,E,D,el,r,q,n⟩=>?_) (by rw[a];rfl) (by rw[a];rfl) rfl rfl
 subst E D
 obtain⟨u,rfl,f⟩:=j.one
 cases f
 obtain⟨N,rfl,g⟩:=i.one
 exact W9 C w G el r g q n
def QK(pe pd:pE):pE:=λρ K=>pe ρ λx f=>pd ρ λy g=>∃rs:List (List Int),x=.lst (rs.map AJ)/\y.imm=true/\(rs=[]->K y .fr)/\∀b r,rs=b::r->K (AJ (r.foldl (λm x=>if HT.lexLt x m=true then x else m) b)) .fr
theorem LQ:∀(r:List (Addr×List Int)) (b:Addr×List Int),(CS b r).2=(r.map (·.2)).foldl (λm x=>if HT.lexLt x m=true then x else m) b.2
 |[],b=>rfl
 |p::r,b=>by
  simp only[CS,map_cons,foldl_cons]
  by_cases h:HT.lexLt p.2 b.2=true
  ·rw[if_pos h,if_pos h];exact LQ r p
  ·rw[if_neg h,if_neg h];exact LQ r b
theorem LR:∀(r:List (Addr×List Int)) (b:Addr×List Int),CS b r∈b::r
 |[],b=>mem_singleton.mpr rfl
 |p::r,b=>by
  simp only[CS]
  split
  ·exact mem_cons_of_mem _ (LR r p)
  ·rcases mem_cons.mp (LR r b)with h|h
   ·rw[h];exact mem_cons_self
   ·exact mem_cons_of_mem _ (mem_cons_of_mem _ h)
section
variable{ι:Type}{Xs:ι->Cx}{e d:Expr}{pd:pE}{p kpos:Pos}
theorem XC{k:Nat}(U:∀i,(Xs i).calm=true)(L:∀i,Room k (Xs i).A)(s:∀i,(Xs i).mg "min"=none)(O:QE Xs e pe)(T:QE Xs d pd)(N:∀i,Gl (Xs i) "min":=by intro _;rfl)(o:∀i,starEach [e] (Xs i).env=[(false,eval e (Xs i).env)]:=by intro _;rfl) :
  QE Xs (.Call (.Name "min" p) [e] [⟨some (Str.ofString "default"),d,kpos⟩] pos) (QK pe pd):=by
 obtain⟨te,e1,Y⟩:=O
 obtain⟨td,d1,d2⟩:=T
 refine⟨_,λi=>XB (U i) (L i) (e1 i) (d1 i) (N i) (s i) (o i),λW ρ σ H Q K ok M q=>Y W ρ σ H _ _ ok M λx f v H1 h1 n E=>d2 W ρ σ H1 _ _ (ok.step n) h1 λy g u H2 ⟨rs,ex,J,I,G⟩ z D=>?_⟩
 have a:=n.trans z
 have j:=ok.step a
 subst ex
 obtain⟨l,us,rfl,c,rv⟩:=CI j (E.step (ok.step n) z)
 obtain⟨ps,rfl,C,B⟩:=LC rv
 refine⟨l,ps,u,rfl,rfl,c,B,λh=>q _ _ _ _ (I (by rw[<-C,h];rfl)) a ?_,λb r h=>q _ _ _ _ (G b.2 (r.map (·.2)) (by rw[<-C,h];rfl)) a ?_⟩
 ·exact(D.back n).immAny J j (by simp)
 ·have s:CS b r∈ps:=by rw[h];exact LR r b
  have w:=B _ s
  rw[<-LQ r b]
  exact RF.ofImm (g:=λp=>p=W.b) (C4 _) ⟨(CS b r).1,_,rfl,w,AB.ints.mpr rfl⟩
end
end L2
namespace L2
open PySem PySem.Spec PyProof.Rows
def LS:Bool->Keyed->Array Keyed->Nat->Nat->Nat->StateT SortSt Sem (Option Nat):=sortPriv% PySem.Builtin.gallop
def XD:Array Keyed->Array Keyed->StateT SortSt Sem (Array Keyed):=sortPriv% PySem.Builtin.mergeLo
def XE:Array Keyed->Array Keyed->StateT SortSt Sem (Array Keyed):=sortPriv% PySem.Builtin.mergeHi
structure Cmp(M:Model)(A:Around)(E:VS)(s:Shared)(κ:SortKind)(O:KeyOrd)(ky:Keyed->O.α)(mem:Keyed->Prop):Prop where
 ask:∀x y,mem x->mem y->∀(R:Option Bool->SortSt->Prop) (st:SortSt),kindOf st=κ->R (some (O.blt (ky x) (ky y))) st->wpS M A E s (lt' x y) R st
section
variable{M:Model}{κ:SortKind}{ky:Keyed->O.α}{mem:Keyed->Prop}
theorem Ba{x:Keyed}{R:Keyed->SortSt->Prop}(e:qG[i]?=some x)(h:R x st):wpS M A E s (elem' qG i) R st:=by
 rw[elem'_eq,e]
 exact wpS_pure h
def C6(ky:Keyed->O.α)(left:Bool)(key x:Keyed):Bool:=if left=true then O.blt (ky x) (ky key)else !O.blt (ky key) (ky x)
theorem QL(C:Cmp M A E s κ O ky mem){left:Bool}{key:Keyed}{base hint:Nat}{R:Option Nat->SortSt->Prop}(hk:kindOf st=κ)(B:mem key)(p:Nat->Bool)
  (J:∀i,i<n->∃x,qG[base+i]?=some x/\mem x/\p i=C6 ky left key x) (hh:hint<n) (mono:∀i j,i<=j->j<n->p j=true->p i=true)
  (h:∀k,k<=n->(∀i,i<k->p i=true)->(∀i,k<=i->i<n->p i=false)->R (some k) st):wpS M A E s (LS left key qG base n hint) R st:=by
 have H:∀i,i<n->∀{R:Option Bool->SortSt->Prop},R (some (p i)) st->wpS M A E s (do let x <-elem' qG (base+i);if left=true then lt' x key else do let z <-lt' key x;pure (z.map λq=>!q)) R st:=by
  intro i hi R f
  obtain⟨x,e,G,hp⟩:=J i hi
  refine wpS_bind (Ba e ?_)
  cases left with
  |true =>
   rw[if_pos rfl]
   refine C.ask _ _ G B _ _ hk ?_
   rw[hp]at f;exact f
  |false =>
   rw[if_neg (by simp)]
   refine wpS_bind (C.ask _ _ B G _ _ hk (wpS_pure ?_))
   rw[hp]at f;exact f
 have u:∀i j,i<=j->j<n->p i=false->p j=false:=λi j U hj hi=>by
  cases e:p j with
  |false=>rfl
  |true=>rw[mono i j U hj e]at hi;cases hi
 have D:∀lo hi,lo<=hi->hi<=n->(∀i,i<lo->p i=true)->(∀i,hi<=i->i<n->p i=false)->∀(F:Nat->Option (Option Nat)×Nat×Nat->StateT SortSt Sem (ForInStep (Option (Option Nat)×Nat×Nat))),
   (∀x lo hi,¬lo≥hi->lo+(hi - lo) / 2<n->∀(v:ForInStep (Option (Option Nat)×Nat×Nat)->SortSt->Prop),v (.yield (if p (lo+(hi - lo) / 2)=true then(none,lo+(hi - lo) / 2+1,hi)else(none,lo,lo+(hi - lo) / 2))) st->wpS M A E s (F x (none,lo,hi)) v st) ->
   (∀x lo hi,lo≥hi->∀(v:ForInStep (Option (Option Nat)×Nat×Nat)->SortSt->Prop),v (.done (none,lo,hi)) st->wpS M A E s (F x (none,lo,hi)) v st) ->
   ∀(v:Option (Option Nat)×Nat×Nat->SortSt->Prop),(∀k,k<=n->(∀i,i<k->p i=true)->(∀i,k<=i->i<n->p i=false)->v (none,k,k) st)->wpS M A E s (forIn [0:n] (none,lo,hi) F) v st:=by
  intro lo hi h1 h2 l g F hF Y v f
  refine wpS_forRange (I:=λx c a=>a=st/\∃lo hi,c=(none,lo,hi)/\lo<=hi/\hi<=n/\(∀i,i<lo->p i=true)/\(∀i,hi<=i->i<n->p i=false)/\hi - lo<=n - x) ?_ ?_ ⟨rfl,lo,hi,rfl,h1,h2,l,g,by lia⟩
  ·rintro x c a _ hx ⟨rfl,lo,hi,rfl,h1,h2,l,g,y⟩
   by_cases r:lo≥hi
   ·refine Y x lo hi r _ ?_
    have e:lo=hi:=by lia
    subst e
    exact f lo h2 l g
   ·refine hF x lo hi r (by lia) _ ?_
    cases e:p (lo+(hi - lo) / 2)with
    |true =>
     rw[if_pos rfl]
     exact⟨rfl,_,_,rfl,by lia,h2,λi a0=>mono i _ (by lia) (by lia) e,g,by lia⟩
    |false =>
     rw[if_neg (by simp)]
     exact⟨rfl,_,_,rfl,by lia,by lia,l,λi L h7=>u _ i L h7 e,by lia⟩
  ·rintro c a ⟨rfl,lo,hi,rfl,h1,h2,l,g,y⟩
   have e:lo=hi:=by lia
   subst e
   exact f lo h2 l g
 refine wpS_bind (H hint hh ?_)
 cases e0:p hint with
 |true =>
  dsimp only
  rw[if_pos rfl]
  refine wpS_bind (wpS_mono (wpS_forRange (I:=λx c a=>a=st/\∃d o,c=(none,d,o)/\d<o/\x+1<=o/\hint+d<n/\p (hint+d)=true)
   (Q:=λc a=>a=st/\∃d o,c=(none,d,o)/\d<o/\hint+d<n/\p (hint+d)=true/\(n - hint<=o\/(hint+o<n/\p (hint+o)=false))) ?N ?f1 ⟨rfl,0,1,rfl,by lia,by lia,by lia,e0⟩) ?g1)
  case N =>
   rintro x c a _ hx ⟨rfl,d,o,rfl,h1,h2,l,g⟩
   dsimp only
   by_cases r:o≥n - hint
   ·rw[if_pos r]
    exact wpS_pure ⟨rfl,d,o,rfl,h1,l,g,.inl r⟩
   ·rw[if_neg r]
    refine wpS_bind (H (hint+o) (by lia) ?_)
    cases w:p (hint+o)with
    |true=>exact wpS_pure ⟨rfl,o,2 * o+1,rfl,by lia,by lia,by lia,w⟩
    |false=>exact wpS_pure ⟨rfl,d,o,rfl,h1,l,g,.inr ⟨by lia,w⟩⟩
  case f1 =>
   rintro c a ⟨rfl,d,o,rfl,h1,h2,l,g⟩
   exact⟨rfl,d,o,rfl,h1,l,g,.inl (by lia)⟩
  case g1 =>
   rintro c a ⟨rfl,d,o,rfl,h1,l,g,y⟩
   dsimp only
   refine wpS_bind (D (hint+d+1) (hint+min o (n - hint)) (by lia) (by lia) (λi hi=>mono i (hint+d) (by lia) l g) (λi hi T=>?_) _ ?_ ?_ _ λk k1 k2 k3=>wpS_pure (h k k1 k2 k3))
   ·rcases y with y|⟨y,L⟩
    ·lia
    ·exact u (hint+o) i (by lia) T L
   ·intro x lo hi r G v f
    dsimp only
    rw[if_neg r]
    refine wpS_bind (H _ G ?_)
    cases w:p (lo+(hi - lo) / 2)with
    |true=>rw[w,if_pos rfl]at f;exact wpS_pure f
    |false=>rw[w,if_neg (by simp)]at f;exact wpS_pure f
   ·intro x lo hi r v f
    dsimp only
    rw[if_pos r]
    exact wpS_pure f
 |false =>
  dsimp only
  rw[if_neg (by simp)]
  refine wpS_bind (wpS_mono (wpS_forRange (I:=λx c a=>a=st/\∃d o,c=(none,d,o)/\d<o/\x+1<=o/\d<=hint/\p (hint - d)=false)
   (Q:=λc a=>a=st/\∃d o,c=(none,d,o)/\d<o/\d<=hint/\p (hint - d)=false/\(hint+1<=o\/(o<=hint/\p (hint - o)=true))) ?N ?f1 ⟨rfl,0,1,rfl,by lia,by lia,by lia,e0⟩) ?g1)
  case N =>
   rintro x c a _ hx ⟨rfl,d,o,rfl,h1,h2,l,g⟩
   dsimp only
   by_cases r:o≥hint+1
   ·rw[if_pos r]
    exact wpS_pure ⟨rfl,d,o,rfl,h1,l,g,.inl r⟩
   ·rw[if_neg r]
    refine wpS_bind (H (hint - o) (by lia) ?_)
    cases w:p (hint - o)with
    |true=>exact wpS_pure ⟨rfl,d,o,rfl,h1,l,g,.inr ⟨by lia,w⟩⟩
    |false=>exact wpS_pure ⟨rfl,o,2 * o+1,rfl,by lia,by lia,by lia,w⟩
  case f1 =>
   rintro c a ⟨rfl,d,o,rfl,h1,h2,l,g⟩
   exact⟨rfl,d,o,rfl,h1,l,g,.inl (by lia)⟩
  case g1 =>
   rintro c a ⟨rfl,d,o,rfl,h1,l,g,y⟩
   dsimp only
   refine wpS_bind (D (hint+1 - min o (hint+1)) (hint - d) (by lia) (by lia) (λi hi=>?_) (λi hi T=>u (hint - d) i hi T g) _ ?_ ?_ _ λk k1 k2 k3=>wpS_pure (h k k1 k2 k3))
   ·rcases y with y|⟨y,L⟩
    ·lia
    ·exact mono i (hint - o) (by lia) (by lia) L
   ·intro x lo hi r G v f
    dsimp only
    rw[if_neg r]
    refine wpS_bind (H _ G ?_)
    cases w:p (lo+(hi - lo) / 2)with
    |true=>rw[w,if_pos rfl]at f;exact wpS_pure f
    |false=>rw[w,if_neg (by simp)]at f;exact wpS_pure f
   ·intro x lo hi r v f
    dsimp only
    rw[if_pos r]
    exact wpS_pure f
end
section
variable{ky:Keyed->O.α}
abbrev An(ky:Keyed->O.α)(x y:Keyed):Prop:=O.kle (ky x) (ky y)
abbrev Ai(ky:Keyed->O.α)(l:List Keyed):Prop:=l.Pairwise (An ky)
structure Mi(ky:Keyed->O.α)(a b out:List Keyed)(ia ib:Nat):Prop where
 perm:(out++(a.drop ia++b.drop ib)).Perm (a++b)
 srt:Ai ky out
 le:∀x∈out,∀y,y∈a.drop ia\/y∈b.drop ib->An ky x y
variable{a b out:List Keyed}{ia ib k:Nat}
theorem QM{l:List Keyed}{k:Nat}{x:Keyed}(h:x∈l.take k\/x∈l.drop k):x∈l:=by
 rw[<-take_append_drop k l];exact mem_append.mpr h
theorem BM{l:List Keyed}(h:Ai ky l)(k:Nat):Ai ky (l.take k)/\Ai ky (l.drop k)/\∀x∈l.take k,∀y∈l.drop k,An ky x y:=by
 have h':Ai ky (l.take k++l.drop k):=by rw[take_append_drop];exact h
 obtain⟨h1,h2,a⟩:=pairwise_append.mp h'
 exact⟨h1,h2,a⟩
theorem Mi.manyA(m:Mi ky a b out ia ib)(sa:Ai ky a)(k:Nat)(hb:∀x∈(a.drop ia).take k,∀y∈b.drop ib,An ky x y):Mi ky a b (out++(a.drop ia).take k) (ia+k) ib where
 perm:=by
  have e:a.drop ia=(a.drop ia).take k++a.drop (ia+k):=by rw[<-drop_drop];exact(take_append_drop _ _).symm
  have:=m.perm
  rw[e]at this
  simpa[append_assoc]using this
 srt:=by
  refine pairwise_append.mpr ⟨m.srt,(BM (BM sa ia).2.1 k).1,λx hx y hy=>m.le x hx y (.inl (QM (.inl hy)))⟩
 le:=λx hx y hy=>by
  rcases mem_append.mp hx with hx|hx
  ·refine m.le x hx y ?_
   rcases hy with hy|hy
   ·rw[<-drop_drop]at hy;exact .inl (QM (.inr hy))
   ·exact .inr hy
  ·rcases hy with hy|hy
   ·rw[<-drop_drop]at hy
    exact(BM (BM sa ia).2.1 k).2.2 x hx y hy
   ·exact hb x hx y hy
theorem Mi.swap(m:Mi ky a b out ia ib):Mi ky b a out ib ia where
 perm:=((perm_append_comm).append_left out).trans (m.perm.trans perm_append_comm)
 srt:=m.srt
 le:=λx d y c=>m.le x d y c.symm
theorem Mi.manyB(m:Mi ky a b out ia ib)(c:Ai ky b)(k:Nat)(ha:∀x∈(b.drop ib).take k,∀y∈a.drop ia,An ky x y):Mi ky a b (out++(b.drop ib).take k) ia (ib+k):=(m.swap.manyA c k ha).swap
theorem QN{l:List Keyed}{x:Keyed}(e:l[i]?=some x):(l.drop i).take 1=[x]:=by
 have hi:i<l.length:=by
  rcases Nat.lt_or_ge i l.length with q|q
  ·exact q
  ·rw[getElem?_eq_none q]at e;cases e
 rw[getElem?_eq_getElem hi]at e
 rw[drop_eq_getElem_cons hi]
 simp[oI e]
theorem Mi.oneA(m:Mi ky a b out ia ib)(sa:Ai ky a){x:Keyed}(e:a[ia]?=some x)(hb:∀y∈b.drop ib,An ky x y):Mi ky a b (out++[x]) (ia+1) ib:=by
 have:=m.manyA sa 1 (by rw[QN e];intro z c;rw[mem_singleton.mp c];exact hb)
 rw[QN e]at this;exact this
theorem Mi.oneB(m:Mi ky a b out ia ib)(c:Ai ky b){x:Keyed}(e:b[ib]?=some x)(ha:∀y∈a.drop ia,An ky x y):Mi ky a b (out++[x]) ia (ib+1):=(m.swap.oneA c e ha).swap
theorem FR{l:List Keyed}(h:Ai ky l){x:Keyed}(e:l[i]?=some x):∀y∈l.drop i,An ky x y:=by
 have hi:i<l.length:=by
  rcases Nat.lt_or_ge i l.length with q|q
  ·exact q
  ·rw[getElem?_eq_none q]at e;cases e
 rw[getElem?_eq_getElem hi]at e
 have h2:=(BM h i).2.1
 rw[drop_eq_getElem_cons hi,oI e]at h2 ⊢
 intro y hy
 rcases mem_cons.mp hy with rfl|hy
 ·exact KeyOrd.kle_refl _
 ·exact(pairwise_cons.mp h2).1 y hy
structure MDone(ky:Keyed->O.α)(a b m:List Keyed):Prop where
 perm:m.Perm (a++b)
 srt:Ai ky m
theorem Mi.done(m:Mi ky a b out ia ib)(sa:Ai ky a)(c:Ai ky b)(h:a.length<=ia\/b.length<=ib):MDone ky a b (out++a.drop ia++b.drop ib) where
 perm:=by rw[append_assoc];exact m.perm
 srt:=by
  rw[append_assoc]
  refine pairwise_append.mpr ⟨m.srt,?_,λx e y d=>m.le x e y (mem_append.mp d)⟩
  rcases h with h|h
  ·rw[drop_eq_nil_of_le h];exact(BM c ib).2.1
  ·rw[drop_eq_nil_of_le h,append_nil];exact(BM sa ia).2.1
theorem Mi.lastA(m:Mi ky a b out ia ib)(sa:Ai ky a)(c:Ai ky b)(h:∀x∈b.drop ib,∀y∈a.drop ia,An ky x y):MDone ky a b (out++b.drop ib++a.drop ia) where
 perm:=by rw[append_assoc];exact((perm_append_comm).append_left out).trans m.perm
 srt:=by
  rw[append_assoc]
  exact pairwise_append.mpr ⟨m.srt,pairwise_append.mpr ⟨(BM c ib).2.1,(BM sa ia).2.1,h⟩,λx e y d=>m.le x e y (mem_append.mp d).symm⟩
end
theorem Ir(a:Array Keyed)(i:Nat):(a.extract i a.size).toList=a.toList.drop i:=by
 rw[Array.toList_extract,extract_eq_take_drop]
 rw[take_of_length_le (by rw[length_drop,Array.length_toList];lia)]
theorem LU(a:Array Keyed)(i k:Nat):(a.extract i (i+k)).toList=(a.toList.drop i).take k:=by
 rw[Array.toList_extract,extract_eq_take_drop,Nat.add_sub_cancel_left]
section
variable{M:Model}{κ:SortKind}{ky:Keyed->O.α}{mem:Keyed->Prop}
abbrev Bq(st:SortSt)(g:Nat):SortSt:=SortSt.mk' (kindOf st) (arrOf st) (pendingOf st) g (failedOf st)
def XF:Nat->StateT SortSt Sem Unit:=sortPriv% PySem.Builtin.setMinGallop
theorem Iu{g:Nat}{R:Unit->SortSt->Prop}(h:R () (Bq st g)):wpS M A E s (XF g) R st:=wpS_modify (f:=λst=>Bq st g) h
theorem Bc{a:Array Keyed}{x:Keyed}(e:a.toList[i]?=some x):a[i]?=some x:=by rw[<-Array.getElem?_toList];exact e
theorem FS{l:List Keyed}(h:i<l.length):∃x,l[i]?=some x/\x∈l:=⟨l[i],getElem?_eq_getElem h,getElem_mem h⟩
theorem Gw{l:List Keyed}{y:Keyed}(h:y∈l.drop i):∃j,i<=j/\l[j]?=some y:=by
 obtain⟨n,a⟩:=getElem?_of_mem h
 exact⟨i+n,Nat.le_add_right _ _,by rw[<-getElem?_drop];exact a⟩
theorem Iv{l:List Keyed}{k:Nat}{y:Keyed}(h:y∈(l.drop i).take k):∃j,j<k/\l[i+j]?=some y:=by
 obtain⟨n,a⟩:=getElem?_of_mem h
 rw[getElem?_take]at a
 split at a
 ·exact⟨n,‹_›,by rw[<-getElem?_drop];exact a⟩
 ·cases a
theorem LV(C:Cmp M A E s κ O ky mem){key:Keyed}{base hint:Nat}{R:Option Nat->SortSt->Prop}(q:kindOf st=κ)(c:mem key)(p:∀x∈qG.toList,mem x)
  (o:∀i j x y,base<=i->i<=j->j<base+n->qG.toList[i]?=some x->qG.toList[j]?=some y->An ky x y) (z:base+n<=qG.size) (v:hint<n)
  (h:∀k,k<=n->(∀i x,i<k->qG.toList[base+i]?=some x->An ky x key)->(∀i x,k<=i->i<n->qG.toList[base+i]?=some x->O.klt (ky key) (ky x))->R (some k) st):wpS M A E s (LS false key qG base n hint) R st:=by
 have a:∀i,i<n->∃x,qG.toList[base+i]?=some x/\x∈qG.toList:=λi hi=>FS (by rw[Array.length_toList];lia)
 refine QL C q c (λi=>match qG.toList[base+i]? with|some x=>C6 ky false key x|none=>false) (λi hi=>?_) v (λi j u r g=>?_) (λk k1 k2 k3=>h k k1 (λi x hi e=>?_) (λi x hi d e=>?_))
 ·obtain⟨x,e,f⟩:=a i hi
  exact⟨x,Bc e,p x f,by rw[e]⟩
 ·obtain⟨x,e,f⟩:=a i (by lia)
  obtain⟨y,l,w⟩:=a j r
  simp only[l,C6,Bool.false_eq_true,if_false,Bool.not_eq_true']at g
  simp only[e,C6,Bool.false_eq_true,if_false,Bool.not_eq_true']
  exact KeyOrd.kle_trans (o _ _ x y (by lia) (by lia) (by lia) e l) g
 ·have:=k2 i hi
  simp only[e,C6,Bool.false_eq_true,if_false,Bool.not_eq_true']at this
  exact this
 ·have:=k3 i hi d
  simp only[e,C6,Bool.false_eq_true,if_false,Bool.not_eq_false']at this
  exact this
theorem LW(C:Cmp M A E s κ O ky mem){key:Keyed}{base hint:Nat}{R:Option Nat->SortSt->Prop}(q:kindOf st=κ)(c:mem key)(p:∀x∈qG.toList,mem x)
  (o:∀i j x y,base<=i->i<=j->j<base+n->qG.toList[i]?=some x->qG.toList[j]?=some y->An ky x y) (z:base+n<=qG.size) (v:hint<n)
  (h:∀k,k<=n->(∀i x,i<k->qG.toList[base+i]?=some x->O.klt (ky x) (ky key))->(∀i x,k<=i->i<n->qG.toList[base+i]?=some x->An ky key x)->R (some k) st):wpS M A E s (LS true key qG base n hint) R st:=by
 have a:∀i,i<n->∃x,qG.toList[base+i]?=some x/\x∈qG.toList:=λi hi=>FS (by rw[Array.length_toList];lia)
 refine QL C q c (λi=>match qG.toList[base+i]? with|some x=>C6 ky true key x|none=>false) (λi hi=>?_) v (λi j u r g=>?_) (λk k1 k2 k3=>h k k1 (λi x hi e=>?_) (λi x hi d e=>?_))
 ·obtain⟨x,e,f⟩:=a i hi
  exact⟨x,Bc e,p x f,by rw[e]⟩
 ·obtain⟨x,e,f⟩:=a i (by lia)
  obtain⟨y,l,w⟩:=a j r
  simp only[l,C6,if_true]at g
  simp only[e,C6,if_true]
  exact KeyOrd.klt_of_kle_of_klt (o _ _ x y (by lia) (by lia) (by lia) e l) g
 ·have:=k2 i hi
  simp only[e,C6,if_true]at this
  exact this
 ·have:=k3 i hi d
  simp only[e,C6,if_true]at this
  exact this
theorem Ei{l:List Keyed}(h:Ai ky l){x y:Keyed}(a:i<=j)(e:l[i]?=some x)(c:l[j]?=some y):An ky x y:=by
 refine FR h e y ?_
 have:(l.drop i)[j - i]?=some y:=by rw[getElem?_drop,show i+(j - i)=j by lia];exact c
 exact mem_of_getElem? this
end
section
variable{M:Model}{κ:SortKind}{ky:Keyed->O.α}{mem:Keyed->Prop}
theorem Ae{α:Type}{c:Prop}[Decidable c]{x y:StateT SortSt Sem α}{R:α->SortSt->Prop}(h1:c->wpS M A E s x R st)(h2:¬c->wpS M A E s y R st):wpS M A E s (if c then x else y) R st:=by
 split
 ·exact h1 ‹_›
 ·exact h2 ‹_›
structure MLo(ky:Keyed->O.α)(a b out:Array Keyed)(ia ib:Nat):Prop where
 mi:Mi ky a.toList b.toList out.toList ia ib
 ha:ia+1<a.size
 hb:ib<b.size
theorem Iw{α d a:Type}{F:d->a->StateT SortSt Sem α}{I:d->a->Prop}{c:Prop}[Decidable c]{t:StateT SortSt Sem α}{x:d}{y:a}{R:α->SortSt->Prop}(k:∀b g,I b g->wpS M A E s (F b g) R st)
  (h1:(∀b g,I b g->wpS M A E s (F b g) R st)->c->wpS M A E s t R st) (h2:¬c->I x y):wpS M A E s (if c then t else F x y) R st:=Ae (h1 k) (λh=>k _ _ (h2 h))
theorem QP{α a:Type}{F:a->StateT SortSt Sem α}{c:Prop}[Decidable c]{x y:a}{R:α->SortSt->Prop}(k:∀z,wpS M A E s (F z) R st):wpS M A E s (if c then F x else F y) R st:=Ae (λ_=>k _) (λ_=>k _)
theorem XG(C:Cmp M A E s κ O ky mem){a b:Array Keyed}{R:Array Keyed->SortSt->Prop}(hk:kindOf st=κ)(ma:∀x∈a.toList,mem x)(mb:∀x∈b.toList,mem x)(sa:Ai ky a.toList)(N:Ai ky b.toList)
  (ha:0<a.size) (hb:0<b.size) (h1:∀x y,b.toList[0]?=some x->y∈a.toList->An ky x y) (h2:∀x∈b.toList,∀y,a.toList[a.size - 1]?=some y->An ky x y)
  (h:∀m g,MDone ky a.toList b.toList m.toList->R m (Bq st g)):wpS M A E s (XD a b) R st:=by
 have la:a.toList.length=a.size:=Array.length_toList
 have lb:b.toList.length=b.size:=Array.length_toList
 have ata:∀i,i<a.size->∃x,a.toList[i]?=some x/\mem x:=λi hi=>let⟨x,e,p⟩:=FS (l:=a.toList) (i:=i) (by lia);⟨x,e,ma x p⟩
 have atb:∀i,i<b.size->∃x,b.toList[i]?=some x/\mem x:=λi hi=>let⟨x,e,p⟩:=FS (l:=b.toList) (i:=i) (by lia);⟨x,e,mb x p⟩
 have u:∀(out:Array Keyed) ia ib g,Mi ky a.toList b.toList out.toList ia ib->(a.size<=ia\/b.size<=ib)->R (out++a.extract ia a.size++b.extract ib b.size) (Bq st g):=λout ia ib g m f=>by
  refine h _ g ?_
  rw[Array.toList_append,Array.toList_append,Ir,Ir]
  exact m.done sa N (by rw[la,lb];exact f)
 have v:∀(out:Array Keyed) ia ib g,Mi ky a.toList b.toList out.toList ia ib->ia+1=a.size->R (out++b.extract ib b.size++a.extract ia a.size) (Bq st g):=λout ia ib g m f=>by
  refine h _ g ?_
  rw[Array.toList_append,Array.toList_append,Ir,Ir]
  refine m.lastA sa N λx p y L=>?_
  obtain⟨j,hj,e⟩:=Gw L
  have af:j<a.toList.length:=by
   rcases Nat.lt_or_ge j a.toList.length with q|q
   ·exact q
   ·rw[getElem?_eq_none q]at e;cases e
  have ej:j=a.size - 1:=by lia
  rw[ej]at e
  exact h2 x (mem_of_mem_drop p) y e
 refine wpS_bind (wpS_lift (wpAny_rule ⟨rfl,?_⟩))
 obtain⟨b0,a9,as⟩:=atb 0 hb
 refine wpS_bind (Ba (Bc a9) ?_)
 have m0:Mi ky a.toList b.toList (#[b0]:Array Keyed).toList 0 1:=by
  have:Mi ky a.toList b.toList [] 0 0:=⟨by simp,List.Pairwise.nil,λx p=>by cases p⟩
  exact this.oneB N a9 (λy L=>h1 b0 y a9 (by simpa using L))
 dsimp -zeta only
 by_cases ag:1=b.size
 ·rw[if_pos (by simpa using ag)]
  exact wpS_pure (u _ 0 1 (gallopOf st) m0 (.inr (by lia)))
 rw[if_neg (by simpa using ag)]
 by_cases a8:0+1=a.size
 ·rw[if_pos (by simpa using a8)]
  exact wpS_pure (v _ 0 1 (gallopOf st) m0 a8)
 rw[if_neg (by simpa using a8)]
 refine wpS_bind (wpS_get ?_)
 refine wpS_bind (wpS_mono (wpS_forRange (I:=λx c d=>(∃g,d=Bq st g)/\∃out ia ib mg,c=(none,out,ia,ib,mg)/\MLo ky a b out ia ib/\x+1<=ia+ib)
  (Q:=λc d=>∃m r,c=(some m,r)/\R m d) ?step ?u ⟨⟨gallopOf st,rfl⟩,_,_,_,_,rfl,⟨m0,by lia,by lia⟩,by lia⟩) ?aa)
 case aa =>
  rintro c d ⟨m,r,rfl,hr⟩
  exact wpS_pure hr
 case u =>
  rintro c d ⟨_,out,ia,ib,mg,rfl,m,p⟩
  have:=m.ha
  have:=m.hb
  lia
 case step =>
  rintro x c d _ p ⟨⟨g,rfl⟩,out,ia,ib,mg,rfl,m,ab⟩
  dsimp -zeta only
  refine wpS_bind (wpS_mono (wpS_forRange (I:=λy c d=>d=Bq st g/\∃out ia ib D B,c=(none,out,ia,ib,D,B)/\MLo ky a b out ia ib/\x+1+y<=ia+ib)
   (Q:=λc d=>(∃m r,c=(some m,r)/\R m d)\/(d=Bq st g/\∃out ia ib D B,c=(none,out,ia,ib,D,B)/\MLo ky a b out ia ib/\x+1<=ia+ib)) ?a1 ?ai ⟨rfl,_,_,_,_,_,rfl,m,by lia⟩) ?a3)
  case ai =>
   rintro c d ⟨_,out,ia,ib,D,B,rfl,m,p⟩
   have:=m.ha
   have:=m.hb
   lia
  case a1 =>
   rintro y c d _ L ⟨rfl,out,ia,ib,D,B,rfl,m,aj⟩
   have a7:=m.ha
   have J:=m.hb
   obtain⟨xa,ea,a5⟩:=ata ia (by lia)
   obtain⟨xb,Y,a4⟩:=atb ib J
   dsimp -zeta only
   refine wpS_bind (Ba (Bc Y) (wpS_bind (Ba (Bc ea) (wpS_bind (C.ask _ _ a4 a5 _ _ hk ?_)))))
   cases ae:O.blt (ky xb) (ky xa)with
   |true =>
    dsimp -zeta only
    rw[if_pos rfl]
    have w:=m.mi.oneB N Y λz f=>KeyOrd.kle_trans (KeyOrd.kle_of_klt ae) (FR sa ea z f)
    rw[<-Array.toList_push]at w
    refine wpS_bind (Ba (Bc Y) ?_)
    by_cases f:ib+1=b.size
    ·rw[if_pos (by simpa using f)]
     exact wpS_pure (.inl ⟨_,_,rfl,u _ _ _ g w (.inr (by lia))⟩)
    ·rw[if_neg (by simpa using f)]
     split
     ·exact wpS_pure (.inr ⟨rfl,_,_,_,_,_,rfl,⟨w,a7,by lia⟩,by lia⟩)
     ·exact wpS_pure ⟨rfl,_,_,_,_,_,rfl,⟨w,a7,by lia⟩,by lia⟩
   |false =>
    dsimp -zeta only
    rw[if_neg (by simp)]
    have w:=m.mi.oneA sa ea λz f=>KeyOrd.kle_trans ae (FR N Y z f)
    rw[<-Array.toList_push]at w
    refine wpS_bind (Ba (Bc ea) ?_)
    by_cases f:ia+1+1=a.size
    ·rw[if_pos (by simpa using f)]
     exact wpS_pure (.inl ⟨_,_,rfl,v _ _ _ g w f⟩)
    ·rw[if_neg (by simpa using f)]
     split
     ·exact wpS_pure (.inr ⟨rfl,_,_,_,_,_,rfl,⟨w,by lia,J⟩,by lia⟩)
     ·exact wpS_pure ⟨rfl,_,_,_,_,_,rfl,⟨w,by lia,J⟩,by lia⟩
  case a3 =>
   rintro c d (⟨w,r,rfl,hr⟩|⟨rfl,out,ia,ib,D,B,rfl,m,ab⟩)
   ·exact wpS_pure ⟨w,_,rfl,hr⟩
   dsimp -zeta only
   refine wpS_bind (wpS_lift (wpAny_rule ⟨rfl,?_⟩))
   refine wpS_bind (wpS_mono (wpS_forRange (I:=λy c d=>(∃g,d=Bq st g)/\∃out ia ib mg D B,c=(none,out,ia,ib,mg,D,B)/\MLo ky a b out ia ib/\x+1+2 * y<=ia+ib)
    (Q:=λc d=>(∃m r,c=(some m,r)/\R m d)\/((∃g,d=Bq st g)/\∃out ia ib mg D B,c=(none,out,ia,ib,mg,D,B)/\MLo ky a b out ia ib/\x+2<=ia+ib)) ?a0 ?ah ⟨⟨g,rfl⟩,_,_,_,_,_,_,rfl,m,by lia⟩) ?a2)
   case ah =>
    rintro c d ⟨_,out,ia,ib,mg,D,B,rfl,m,p⟩
    have:=m.ha
    have:=m.hb
    lia
   case a2 =>
    rintro c d (⟨w,r,rfl,hr⟩|⟨⟨g,rfl⟩,out,ia,ib,mg,D,B,rfl,m,ab⟩)
    ·exact wpS_pure ⟨w,_,rfl,hr⟩
    ·dsimp -zeta only
     exact wpS_bind (Iu (wpS_pure ⟨⟨_,rfl⟩,_,_,_,_,rfl,m,by lia⟩))
   case a0 =>
    rintro y c d _ L ⟨⟨g,rfl⟩,out,ia,ib,mg,D,B,rfl,m,aj⟩
    have a7:=m.ha
    have J:=m.hb
    obtain⟨xb,Y,a4⟩:=atb ib J
    extract_lets -merge c1 c2 c3 c4 c5 c6 c7 c8 c9 ar aq ap jp ao
    refine QP (F:=λz=>jp () z) λz=>?_
    subst ao jp ap aq ar c9 c8 c7 c6 c5 c4 c3 c2 c1
    dsimp -zeta only
    refine wpS_bind (Iu ?_)
    refine wpS_bind (Ba (Bc Y) (wpS_bind (LV (base:=ia) (n:=a.size - ia) (hint:=0) C hk a4 ma (λi j x y _ a6 _ e1 e2=>Ei sa a6 e1 e2) (by lia) (by lia) λk k1 k2 k3=>?_)))
    have T:=m.mi.manyA sa k λx p z f=>by
     obtain⟨j,hj,e⟩:=Iv p
     exact KeyOrd.kle_trans (k2 j x hj e) (FR N Y z f)
    have up:∀z∈a.toList.drop (ia+k),An ky xb z:=λz f=>by
     obtain⟨j,hj,e⟩:=Gw f
     have af:j<a.toList.length:=by
      rcases Nat.lt_or_ge j a.toList.length with q|q
      ·exact q
      ·rw[getElem?_eq_none q]at e;cases e
     exact KeyOrd.kle_of_klt (k3 (j - ia) z (by lia) (by lia) (by rw[show ia+(j - ia)=j by lia];exact e))
    dsimp -zeta only
    extract_lets -merge d1 jp d2 d3
    refine Iw (F:=λo n=>jp () o n) (I:=λo H=>¬H+1=a.size/\H<a.size/\ia<=H/\Mi ky a.toList b.toList o.toList H ib/\∀z∈a.toList.drop H,An ky xb z) (λo H h=>?_) (λkey an=>?_) (λan=>?_)
    ·clear T up k2 k3
     obtain⟨f,U,au,T,up⟩:=h
     subst d3 d2 jp d1
     dsimp -zeta only
     refine wpS_bind (Ba (Bc Y) ?_)
     have m2:=T.oneB N Y up
     rw[<-Array.toList_push]at m2
     refine Ae (λL=>wpS_pure (.inl ⟨_,_,rfl,u _ _ _ _ m2 (.inr (by have:=eq_of_beq L;lia))⟩)) (λL=>?_)
     have L:¬ib+1=b.size:=by simpa using L
     obtain⟨xa,ea,a5⟩:=ata H (by lia)
     refine wpS_bind (Ba (Bc ea) (wpS_bind (LW (base:=ib+1) (n:=b.size - (ib+1)) (hint:=0) C hk a5 mb (λi j x y _ a6 _ e1 e2=>Ei N a6 e1 e2) (by lia) (by lia) λl l1 l2 l3=>?_)))
     have m3:=m2.manyB N l λx p z f=>by
      obtain⟨j,hj,e⟩:=Iv p
      exact KeyOrd.kle_trans (KeyOrd.kle_of_klt (l2 j x hj e)) (FR sa ea z f)
     have G:∀z∈b.toList.drop (ib+1+l),An ky xa z:=λz f=>by
      obtain⟨j,hj,e⟩:=Gw f
      have af:j<b.toList.length:=by
       rcases Nat.lt_or_ge j b.toList.length with q|q
       ·exact q
       ·rw[getElem?_eq_none q]at e;cases e
      exact l3 (j - (ib+1)) z (by lia) (by lia) (by rw[show ib+1+(j - (ib+1))=j by lia];exact e)
     dsimp -zeta only
     extract_lets -merge e1 e2 jq e3 e4
     refine Iw (F:=λo n=>jq () o n) (I:=λo nl=>nl<b.size/\ib+1<=nl/\Mi ky a.toList b.toList o.toList H nl/\∀z∈b.toList.drop nl,An ky xa z) (λo nl h=>?_) (λkey al=>?_) (λal=>?_)
     ·clear m3 G l2 l3
      obtain⟨hw,av,m3,G⟩:=h
      subst e4 e3 jq e2 e1
      dsimp -zeta only
      refine wpS_bind (Ba (Bc ea) ?_)
      have m4:=m3.oneA sa ea G
      rw[<-Array.toList_push]at m4
      refine Ae (λhv=>wpS_pure (.inl ⟨_,_,rfl,v _ _ _ _ m4 (by simpa using hv)⟩)) (λhv=>?_)
      have hv:¬H+1+1=a.size:=by simpa using hv
      exact Ae (λ_=>wpS_pure (.inr ⟨⟨_,rfl⟩,_,H+1,nl,_,_,_,rfl,⟨m4,by lia,by lia⟩,by lia⟩)) (λ_=>wpS_pure ⟨⟨_,rfl⟩,_,H+1,nl,_,_,_,rfl,⟨m4,by lia,by lia⟩,by lia⟩)
     ·rw[<-LU,<-Array.toList_append]at m3
      exact Ae (λhw=>wpS_pure (.inl ⟨_,_,rfl,u _ _ _ _ m3 (.inr (Nat.le_of_eq (eq_of_beq hw).symm))⟩)) (λhw=>key _ _ ⟨Nat.lt_of_le_of_ne (by lia) λq=>hw (beq_iff_eq.mpr q),Nat.le_add_right _ _,m3,G⟩)
     ·have ak:l=0:=by lia
      clear_value jq
      subst ak
      rw[take_zero,append_nil]at m3
      exact⟨by lia,Nat.le_refl _,m3,G⟩
    ·rw[<-LU,<-Array.toList_append]at T
     exact Ae (λf=>wpS_pure (.inl ⟨_,_,rfl,v _ _ _ _ T (eq_of_beq f)⟩)) (λf=>Ae (λU=>wpS_pure (.inl ⟨_,_,rfl,u _ _ _ _ T (.inl (Nat.le_of_eq (eq_of_beq U).symm))⟩)) (λU=>key _ _ ⟨λq=>f (beq_iff_eq.mpr q),Nat.lt_of_le_of_ne (by lia) λq=>U (beq_iff_eq.mpr q),Nat.le_add_right _ _,T,up⟩))
    ·have am:k=0:=by lia
     clear_value jp
     subst am
     rw[take_zero,append_nil]at T
     exact⟨by lia,by lia,Nat.le_refl _,T,up⟩
end
section
variable{ky:Keyed->O.α}
structure Mh(ky:Keyed->O.α)(a b out:List Keyed)(na nb:Nat):Prop where
 perm:((a.take na++b.take nb)++out.reverse).Perm (a++b)
 srt:Ai ky out.reverse
 le:∀y∈out,∀x,x∈a.take na\/x∈b.take nb->An ky x y
variable{a b out:List Keyed}{na nb:Nat}
theorem Mh.swap(m:Mh ky a b out na nb):Mh ky b a out nb na where
 perm:=((perm_append_comm).append_right _).trans (m.perm.trans perm_append_comm)
 srt:=m.srt
 le:=λy c x d=>m.le y c x d.symm
theorem QR{l:List Keyed}(h:i<=n):l.take n=l.take i++(l.take n).drop i:=by
 have:=(take_append_drop i (l.take n)).symm
 rw[take_take,Nat.min_eq_left h]at this
 exact this
theorem Mh.manyA(m:Mh ky a b out na nb)(sa:Ai ky a)(c:j<=na)(hb:∀x∈(a.take na).drop j,∀y∈b.take nb,An ky y x):Mh ky a b (out++((a.take na).drop j).reverse) j nb where
 perm:=by
  have:=m.perm
  rw[QR c]at this
  rw[reverse_append,reverse_reverse]
  generalize (a.take na).drop j=g at this ⊢
  refine List.Perm.trans ?_ this
  rw[append_assoc,append_assoc,append_assoc]
  refine List.Perm.append_left _ ?_
  rw[<-append_assoc,<-append_assoc]
  exact List.Perm.append_right _ perm_append_comm
 srt:=by
  rw[reverse_append,reverse_reverse]
  refine pairwise_append.mpr ⟨(BM (BM sa na).1 j).2.1,m.srt,λx hx y hy=>m.le y (mem_reverse.mp hy) x (.inl ?_)⟩
  exact mem_of_mem_drop hx
 le:=λy hy x hx=>by
  rcases mem_append.mp hy with hy|hy
  ·refine m.le y hy x ?_
   rcases hx with hx|hx
   ·exact .inl (by rw[QR c];exact mem_append_left _ hx)
   ·exact .inr hx
  ·have hy:=mem_reverse.mp hy
   rcases hx with hx|hx
   ·have s2:=(BM sa na).1
    have e:(a.take na).take j=a.take j:=by rw[take_take,Nat.min_eq_left c]
    exact(BM s2 j).2.2 x (by rw[e];exact hx) y hy
   ·exact hb y hy x hx
theorem Mh.manyB(m:Mh ky a b out na nb)(c:Ai ky b)(d:j<=nb)(ha:∀x∈(b.take nb).drop j,∀y∈a.take na,An ky y x):Mh ky a b (out++((b.take nb).drop j).reverse) na j:=(m.swap.manyA c d ha).swap
theorem QU{l:List Keyed}{x:Keyed}(h:0<n)(e:l[n - 1]?=some x):(l.take n).drop (n - 1)=[x]:=by
 have hi:n - 1<l.length:=by
  rcases Nat.lt_or_ge (n - 1) l.length with q|q
  ·exact q
  ·rw[getElem?_eq_none q]at e;cases e
 rw[getElem?_eq_getElem hi]at e
 have a:=oI e
 rw[drop_take,show n - (n - 1)=1 by lia,drop_eq_getElem_cons hi,a]
 rfl
theorem Mh.oneA(m:Mh ky a b out na nb)(sa:Ai ky a)(c:0<na){x:Keyed}(e:a[na - 1]?=some x)(hb:∀y∈b.take nb,An ky y x):Mh ky a b (out++[x]) (na - 1) nb:=by
 have:=m.manyA sa (Nat.sub_le na 1) (by rw[QU c e];intro z d;rw[mem_singleton.mp d];exact hb)
 rw[QU c e]at this;exact this
theorem Mh.oneB(m:Mh ky a b out na nb)(c:Ai ky b)(d:0<nb){x:Keyed}(e:b[nb - 1]?=some x)(ha:∀y∈a.take na,An ky y x):Mh ky a b (out++[x]) na (nb - 1):=(m.swap.oneA c d e ha).swap
theorem Gx{l:List Keyed}(h:Ai ky l){x:Keyed}(c:0<n)(e:l[n - 1]?=some x):∀y∈l.take n,An ky y x:=λy a=>by
 obtain⟨i,hi⟩:=getElem?_of_mem a
 rw[getElem?_take]at hi
 split at hi
 ·exact Ei h (by lia) hi e
 ·cases hi
theorem Mh.done(m:Mh ky a b out na nb)(sa:Ai ky a)(c:Ai ky b)(h:na=0\/nb=0):MDone ky a b (a.take na++b.take nb++out.reverse) where
 perm:=m.perm
 srt:=by
  refine pairwise_append.mpr ⟨?_,m.srt,λx e y d=>m.le y (mem_reverse.mp d) x (mem_append.mp e)⟩
  rcases h with h|h
  ·rw[h,take_zero,nil_append];exact(BM c nb).1
  ·rw[h,take_zero,append_nil];exact(BM sa na).1
theorem Mh.firstB(m:Mh ky a b out na nb)(sa:Ai ky a)(c:Ai ky b)(h:∀x∈b.take nb,∀y∈a.take na,An ky x y):MDone ky a b (b.take nb++a.take na++out.reverse) where
 perm:=((perm_append_comm).append_right _).trans m.perm
 srt:=pairwise_append.mpr ⟨pairwise_append.mpr ⟨(BM c nb).1,(BM sa na).1,h⟩,m.srt,λx e y d=>m.le y (mem_reverse.mp d) x (mem_append.mp e).symm⟩
end
theorem Ix(a:Array Keyed)(n:Nat):(a.extract 0 n).toList=a.toList.take n:=by
 rw[Array.toList_extract,extract_eq_take_drop]
 simp
theorem LX(a:Array Keyed)(i n:Nat):(a.extract i n).toList=(a.toList.take n).drop i:=by
 rw[Array.toList_extract,extract_eq_take_drop,drop_take]
section
variable{M:Model}{κ:SortKind}{ky:Keyed->O.α}{mem:Keyed->Prop}
structure MHi(ky:Keyed->O.α)(a b out:Array Keyed)(na nb:Nat):Prop where
 mi:Mh ky a.toList b.toList out.toList na nb
 ha:0<na
 hb:1<nb
 la:na<=a.size
 lb:nb<=b.size
theorem XH(C:Cmp M A E s κ O ky mem){a b:Array Keyed}{R:Array Keyed->SortSt->Prop}(hk:kindOf st=κ)(ma:∀x∈a.toList,mem x)(mb:∀x∈b.toList,mem x)(U:Ai ky a.toList)(sb:Ai ky b.toList)
  (ha:0<a.size) (hb:0<b.size) (h1:∀x y,b.toList[0]?=some x->y∈a.toList->An ky x y) (h2:∀x∈b.toList,∀y,a.toList[a.size - 1]?=some y->An ky x y)
  (h:∀m g,MDone ky a.toList b.toList m.toList->R m (Bq st g)):wpS M A E s (XE a b) R st:=by
 have la:a.toList.length=a.size:=Array.length_toList
 have lb:b.toList.length=b.size:=Array.length_toList
 have ata:∀i,i<a.size->∃x,a.toList[i]?=some x/\mem x:=λi hi=>let⟨x,e,p⟩:=FS (l:=a.toList) (i:=i) (by lia);⟨x,e,ma x p⟩
 have atb:∀i,i<b.size->∃x,b.toList[i]?=some x/\mem x:=λi hi=>let⟨x,e,p⟩:=FS (l:=b.toList) (i:=i) (by lia);⟨x,e,mb x p⟩
 have u:∀(out:Array Keyed) na nb g,Mh ky a.toList b.toList out.toList na nb->(na=0\/nb=0)->R (a.extract 0 na++b.extract 0 nb++out.reverse) (Bq st g):=λout na nb g m f=>by
  refine h _ g ?_
  rw[Array.toList_append,Array.toList_append,Ix,Ix,Array.toList_reverse]
  exact m.done U sb f
 have v:∀(out:Array Keyed) na nb g,Mh ky a.toList b.toList out.toList na nb->nb=1->R (b.extract 0 nb++a.extract 0 na++out.reverse) (Bq st g):=λout na nb g m f=>by
  refine h _ g ?_
  rw[Array.toList_append,Array.toList_append,Ix,Ix,Array.toList_reverse]
  refine m.firstB U sb λx p y G=>?_
  obtain⟨i,hi⟩:=getElem?_of_mem p
  rw[getElem?_take]at hi
  split at hi
  ·have:i=0:=by lia
   rw[this]at hi
   exact h1 x y hi (mem_of_mem_take G)
  ·cases hi
 refine wpS_bind (wpS_lift (wpAny_rule ⟨rfl,?_⟩))
 obtain⟨a0,ab,aq⟩:=ata (a.size - 1) (by lia)
 refine wpS_bind (Ba (Bc ab) ?_)
 have m0:Mh ky a.toList b.toList (#[a0]:Array Keyed).toList (a.size - 1) b.size:=by
  have e1:a.toList.take a.size=a.toList:=take_of_length_le (by lia)
  have e2:b.toList.take b.size=b.toList:=take_of_length_le (by lia)
  have:Mh ky a.toList b.toList [] a.size b.size:=⟨by rw[e1,e2];simp,List.Pairwise.nil,λx p=>by cases p⟩
  exact this.oneA U ha ab (λy G=>h2 y (by rw[e2]at G;exact G) a0 ab)
 refine Ae (λf=>wpS_pure (u _ _ _ (gallopOf st) m0 (.inl (eq_of_beq f)))) (λf=>?_)
 have f:¬a.size - 1=0:=by simpa using f
 refine Ae (λhw=>wpS_pure (v _ _ _ (gallopOf st) m0 (eq_of_beq hw))) (λhw=>?_)
 have hw:¬b.size=1:=by simpa using hw
 refine wpS_bind (wpS_get ?_)
 refine wpS_bind (wpS_mono (wpS_forRange (I:=λx c d=>(∃g,d=Bq st g)/\∃na nb out mg,c=(none,na,nb,out,mg)/\MHi ky a b out na nb/\na+nb+x+1<=a.size+b.size)
  (Q:=λc d=>∃m r,c=(some m,r)/\R m d) ?step ?u ⟨⟨gallopOf st,rfl⟩,_,_,_,_,rfl,⟨m0,by lia,by lia,by lia,by lia⟩,by lia⟩) ?ae)
 case ae =>
  rintro c d ⟨m,r,rfl,hr⟩
  exact wpS_pure hr
 case u =>
  rintro c d ⟨_,na,nb,out,mg,rfl,m,p⟩
  have:=m.ha
  have:=m.hb
  lia
 case step =>
  rintro x c d _ p ⟨⟨g,rfl⟩,na,nb,out,mg,rfl,m,af⟩
  refine wpS_bind (wpS_mono (wpS_forRange (I:=λy c d=>d=Bq st g/\∃na nb out D B,c=(none,na,nb,out,D,B)/\MHi ky a b out na nb/\na+nb+x+1+y<=a.size+b.size)
   (Q:=λc d=>(∃m r,c=(some m,r)/\R m d)\/(d=Bq st g/\∃na nb out D B,c=(none,na,nb,out,D,B)/\MHi ky a b out na nb/\na+nb+x+1<=a.size+b.size)) ?a2 ?ai ⟨rfl,_,_,_,_,_,rfl,m,by lia⟩) ?a4)
  case ai =>
   rintro c d ⟨_,na,nb,out,D,B,rfl,m,p⟩
   have:=m.ha
   have:=m.hb
   lia
  case a2 =>
   rintro y c d _ G ⟨rfl,na,nb,out,D,B,rfl,m,aj⟩
   have N:=m.ha
   have aa:=m.hb
   have a8:=m.la
   have a7:=m.lb
   obtain⟨xa,ea,a6⟩:=ata (na - 1) (by lia)
   obtain⟨xb,eb,a5⟩:=atb (nb - 1) (by lia)
   refine wpS_bind (Ba (Bc eb) (wpS_bind (Ba (Bc ea) (wpS_bind (C.ask _ _ a5 a6 _ _ hk ?_)))))
   cases ag:O.blt (ky xb) (ky xa)with
   |true =>
    refine Ae (λ_=>?_) (λhn=>absurd rfl hn)
    have w:=m.mi.oneA U N ea λz f=>KeyOrd.kle_trans (Gx sb (by lia) eb z f) (KeyOrd.kle_of_klt ag)
    rw[<-Array.toList_push]at w
    refine wpS_bind (Ba (Bc ea) ?_)
    refine Ae (λf=>wpS_pure (.inl ⟨_,_,rfl,u _ _ _ g w (.inl (eq_of_beq f))⟩)) (λf=>?_)
    have f:¬na - 1=0:=by simpa using f
    exact Ae (λ_=>wpS_pure (.inr ⟨rfl,na - 1,nb,_,_,_,rfl,⟨w,by lia,aa,by lia,a7⟩,by lia⟩)) (λ_=>wpS_pure ⟨rfl,na - 1,nb,_,_,_,rfl,⟨w,by lia,aa,by lia,a7⟩,by lia⟩)
   |false =>
    refine Ae (λhn=>by cases hn) (λ_=>?_)
    have w:=m.mi.oneB sb (by lia) eb λz f=>KeyOrd.kle_trans (Gx U N ea z f) ag
    rw[<-Array.toList_push]at w
    refine wpS_bind (Ba (Bc eb) ?_)
    refine Ae (λf=>wpS_pure (.inl ⟨_,_,rfl,v _ _ _ g w (eq_of_beq f)⟩)) (λf=>?_)
    have f:¬nb - 1=1:=by simpa using f
    exact Ae (λ_=>wpS_pure (.inr ⟨rfl,na,nb - 1,_,_,_,rfl,⟨w,N,by lia,a8,by lia⟩,by lia⟩)) (λ_=>wpS_pure ⟨rfl,na,nb - 1,_,_,_,rfl,⟨w,N,by lia,a8,by lia⟩,by lia⟩)
  case a4 =>
   rintro c d (⟨w,r,rfl,hr⟩|⟨rfl,na,nb,out,D,B,rfl,m,af⟩)
   ·exact wpS_pure ⟨w,_,rfl,hr⟩
   refine wpS_bind (wpS_lift (wpAny_rule ⟨rfl,?_⟩))
   refine wpS_bind (wpS_mono (wpS_forRange (I:=λy c d=>(∃g,d=Bq st g)/\∃na nb out mg D B,c=(none,na,nb,out,mg,D,B)/\MHi ky a b out na nb/\na+nb+x+1+2 * y<=a.size+b.size)
    (Q:=λc d=>(∃m r,c=(some m,r)/\R m d)\/((∃g,d=Bq st g)/\∃na nb out mg D B,c=(none,na,nb,out,mg,D,B)/\MHi ky a b out na nb/\na+nb+x+2<=a.size+b.size)) ?a1 ?ah ⟨⟨g,rfl⟩,_,_,_,_,_,_,rfl,m,by lia⟩) ?a3)
   case ah =>
    rintro c d ⟨_,na,nb,out,mg,D,B,rfl,m,p⟩
    have:=m.ha
    have:=m.hb
    lia
   case a3 =>
    rintro c d (⟨w,r,rfl,hr⟩|⟨⟨g,rfl⟩,na,nb,out,mg,D,B,rfl,m,af⟩)
    ·exact wpS_pure ⟨w,_,rfl,hr⟩
    ·exact wpS_bind (Iu (wpS_pure ⟨⟨_,rfl⟩,na,nb,_,_,rfl,m,by lia⟩))
   case a1 =>
    rintro y c d _ G ⟨⟨g,rfl⟩,na,nb,out,mg,D,B,rfl,m,aj⟩
    have N:=m.ha
    have aa:=m.hb
    have a8:=m.la
    have a7:=m.lb
    obtain⟨xb,eb,a5⟩:=atb (nb - 1) (by lia)
    extract_lets -merge c1 c2 c3 c4 c5 c6 c7 c8 c9 ap ao an jp am
    refine QP (F:=λz=>jp () z) λz=>?_
    subst am jp an ao ap c9 c8 c7 c6 c5 c4 c3 c2 c1
    dsimp -zeta only
    refine wpS_bind (Iu ?_)
    refine wpS_bind (Ba (Bc eb) (wpS_bind (LV (base:=0) (n:=na) (hint:=na - 1) C hk a5 ma (λi j x y _ a9 _ e1 e2=>Ei U a9 e1 e2) (by lia) (by lia) λk k1 k2 k3=>?_)))
    have m1:=m.mi.manyA U k1 λx p z f=>by
     rw[drop_take]at p
     obtain⟨i,hi,e⟩:=Iv p
     exact KeyOrd.kle_trans (Gx sb (by lia) eb z f) (KeyOrd.kle_of_klt (k3 (k+i) x (by lia) (by lia) (by rw[Nat.zero_add];exact e)))
    have up:∀z∈a.toList.take k,An ky z xb:=λz f=>by
     obtain⟨i,hi⟩:=getElem?_of_mem f
     rw[getElem?_take]at hi
     split at hi
     ·exact k2 i z (by lia) (by rw[Nat.zero_add];exact hi)
     ·cases hi
    dsimp -zeta only
    extract_lets -merge d1 d2 jp d3 d4
    refine Iw (F:=λn o=>jp () n o) (I:=λT o=>¬T=0/\T<=na/\Mh ky a.toList b.toList o.toList T nb/\∀z∈a.toList.take T,An ky z xb) (λT o h=>?_) (λkey L=>?_) (λL=>?_)
    ·clear m1 up k2 k3
     obtain⟨f,as,m1,up⟩:=h
     subst d4 d3 jp d2 d1
     dsimp -zeta only
     refine wpS_bind (Ba (Bc eb) ?_)
     have m2:=m1.oneB sb (by lia) eb up
     rw[<-Array.toList_push]at m2
     refine Ae (λG=>wpS_pure (.inl ⟨_,_,rfl,v _ _ _ _ m2 (eq_of_beq G)⟩)) (λG=>?_)
     have G:¬nb - 1=1:=λq=>G (beq_iff_eq.mpr q)
     obtain⟨xa,ea,a6⟩:=ata (T - 1) (by lia)
     refine wpS_bind (Ba (Bc ea) (wpS_bind (LW (base:=0) (n:=nb - 1) (hint:=nb - 1 - 1) C hk a6 mb (λi j x y _ a9 _ e1 e2=>Ei sb a9 e1 e2) (by lia) (by lia) λl l1 l2 l3=>?_)))
     have Y:=m2.manyB sb l1 λx p z f=>by
      rw[drop_take]at p
      obtain⟨i,hi,e⟩:=Iv p
      exact KeyOrd.kle_trans (Gx U (by lia) ea z f) (l3 (l+i) x (by lia) (by lia) (by rw[Nat.zero_add];exact e))
     have H:∀z∈b.toList.take l,An ky z xa:=λz f=>by
      obtain⟨i,hi⟩:=getElem?_of_mem f
      rw[getElem?_take]at hi
      split at hi
      ·exact KeyOrd.kle_of_klt (l2 i z (by lia) (by rw[Nat.zero_add];exact hi))
      ·cases hi
     dsimp -zeta only
     extract_lets -merge e1 e2 e3 jq e4 e5
     refine Iw (F:=λn o=>jq () n o) (I:=λnl o=>¬nl=1/\¬nl=0/\nl<=nb - 1/\Mh ky a.toList b.toList o.toList T nl/\∀z∈b.toList.take nl,An ky z xa) (λnl o h=>?_) (λkey J=>?_) (λJ=>?_)
     ·clear Y H l2 l3
      obtain⟨hw,hv,ar,Y,H⟩:=h
      subst e5 e4 jq e3 e2 e1
      dsimp -zeta only
      refine wpS_bind (Ba (Bc ea) ?_)
      have m4:=Y.oneA U (by lia) ea H
      rw[<-Array.toList_push]at m4
      refine Ae (λhu=>wpS_pure (.inl ⟨_,_,rfl,u _ _ _ _ m4 (.inl (eq_of_beq hu))⟩)) (λhu=>?_)
      have hu:¬T - 1=0:=by simpa using hu
      exact Ae (λ_=>wpS_pure (.inr ⟨⟨_,rfl⟩,T - 1,nl,_,_,_,_,rfl,⟨m4,by lia,by lia,by lia,by lia⟩,by lia⟩)) (λ_=>wpS_pure ⟨⟨_,rfl⟩,T - 1,nl,_,_,_,_,rfl,⟨m4,by lia,by lia,by lia,by lia⟩,by lia⟩)
     ·have J:0<nb - 1 - l:=J
      rw[<-LX,<-Array.toList_reverse,<-Array.toList_append]at Y
      exact Ae (λhw=>wpS_pure (.inl ⟨_,_,rfl,v _ _ _ _ Y (eq_of_beq hw)⟩)) (λhw=>Ae (λhv=>wpS_pure (.inl ⟨_,_,rfl,u _ _ _ _ Y (.inr (eq_of_beq hv))⟩)) (λhv=>key _ _ ⟨λq=>hw (beq_iff_eq.mpr q),λq=>hv (beq_iff_eq.mpr q),l1,Y,H⟩))
     ·have J:¬0<nb - 1 - l:=J
      have ak:l=nb - 1:=by lia
      clear_value jq
      subst ak
      rw[drop_eq_nil_of_le (by rw[length_take];lia),reverse_nil,append_nil]at Y
      exact⟨G,by lia,Nat.le_refl _,Y,H⟩
    ·have L:0<na - k:=L
     rw[<-LX,<-Array.toList_reverse,<-Array.toList_append]at m1
     exact Ae (λf=>wpS_pure (.inl ⟨_,_,rfl,u _ _ _ _ m1 (.inl (eq_of_beq f))⟩)) (λf=>key _ _ ⟨λq=>f (beq_iff_eq.mpr q),k1,m1,up⟩)
    ·have L:¬0<na - k:=L
     have al:k=na:=by lia
     clear_value jp
     subst al
     rw[drop_eq_nil_of_le (by rw[length_take];lia),reverse_nil,append_nil]at m1
     exact⟨by lia,Nat.le_refl _,m1,up⟩
end
theorem QV:∀(m:List Keyed) (c d:Nat) (qG:Array Keyed),c+d+m.length<=qG.size->((m.zipIdx d).foldl (λa (q:Keyed×Nat)=>a.setIfInBounds (c+q.2) q.1) qG).toList=qG.toList.take (c+d)++m++qG.toList.drop (c+d+m.length)
 |[],c,d,qG,h=>by simp
 |x::m,c,d,qG,h=>by
  rw[zipIdx_cons,foldl_cons]
  simp only[length_cons]at h
  rw[QV m c (d+1) _ (by rw[Array.size_setIfInBounds];lia),Array.toList_setIfInBounds]
  have f:c+d<qG.toList.length:=by rw[Array.length_toList];lia
  rw[take_set,drop_set,if_pos (by lia)]
  have e:(qG.toList.take (c+(d+1))).set (c+d) x=qG.toList.take (c+d)++[x]:=by
   rw[show c+(d+1)=(c+d)+1 by lia,take_add_one,getElem?_eq_getElem f]
   rw[set_append,if_neg (by rw[length_take];lia),length_take,Nat.min_eq_left (Nat.le_of_lt f),Nat.sub_self]
   rfl
  rw[e]
  simp only[length_cons,append_assoc,cons_append,nil_append]
  rw[show c+(d+1)+m.length=c+d+(m.length+1) by lia]
section
variable{M:Model}{κ:SortKind}{ky:Keyed->O.α}{mem:Keyed->Prop}
theorem XI{st':SortSt}{R:PUnit->SortSt->Prop}(h:R ⟨⟩ st'):wpS M A E s (set st':StateT SortSt Sem PUnit) R st:=by
 unfold wpS;rw[StateT.run_set];exact wP ⟨rfl,h⟩
theorem XJ{P X Y S:List Keyed}(h:i<X.length):(P++X++Y++S)[P.length+i]?=X[i]?:=by
 rw[append_assoc,append_assoc,getElem?_append_right (by lia),Nat.add_sub_cancel_left,getElem?_append_left h]
theorem XM{P X Y S:List Keyed}(h:i<Y.length):(P++X++Y++S)[P.length+X.length+i]?=Y[i]?:=by
 rw[append_assoc,getElem?_append_right (by rw[length_append];lia),length_append,Nat.add_sub_cancel_left,getElem?_append_left h]
theorem XN(C:Cmp M A E s κ O ky mem){sa na Q sb nb a6:Nat}{P X Y S:List Keyed}{R:Bool->SortSt->Prop}(U:kindOf st=κ)(hf:failedOf st=none)(T:∀x∈(arrOf st).toList,mem x)
  (e:(arrOf st).toList=P++X++Y++S) (lP:P.length=sa) (lX:X.length=na) (lY:Y.length=nb) (h0:0<na) (h1:0<nb) (G:Ai ky X) (D:Ai ky Y)
  (p1:(pendingOf st)[i]?=some (sa,na,Q)) (p2:(pendingOf st)[i+1]?=some (sb,nb,a6)) (aa:sb=sa+na)
  (h:∀Z qG g,Z.Perm (X++Y)->Ai ky Z->qG.toList=P++Z++S->R true (SortSt.mk' κ qG (((pendingOf st).setIfInBounds i (sa,na+nb,Q)).eraseIdxIfInBounds (i+1)) g none)):wpS M A E s (mergeAt' i) R st:=by
 obtain⟨y0,I⟩:∃y,Y[0]?=some y:=⟨Y[0],getElem?_eq_getElem (by lia)⟩
 obtain⟨xl,L⟩:∃y,X[na - 1]?=some y:=⟨X[na - 1],getElem?_eq_getElem (by lia)⟩
 subst lP
 subst aa
 have eX:∀i,i<na->(arrOf st).toList[P.length+i]?=X[i]?:=λi hi=>by rw[e];exact XJ (by lia)
 have eY:∀i,i<nb->(arrOf st).toList[P.length+na+i]?=Y[i]?:=λi hi=>by rw[e,<-lX];exact XM (by lia)
 have ab:(arrOf st).size=P.length+na+nb+S.length:=by
  have:=congrArg length e
  rw[Array.length_toList]at this
  simp only[length_append]at this
  lia
 have a4:(arrOf st).toList[P.length+na]?=some y0:=by have:=eY 0 h1;rw[Nat.add_zero]at this;rw[this];exact I
 refine wpS_bind (wpS_get ?_)
 rw[p1,p2]
 refine wpS_bind ?_
 refine XI ?_
 refine wpS_bind (Ba (Bc a4) (wpS_bind (LV (qG:=arrOf st) (base:=P.length) (n:=na) (hint:=0) C U (T y0 (mem_of_getElem? a4)) T (λi j x y hi a9 hj r N=>?_) (by lia) h0 λk k1 k2 k3=>?_)))
 ·rw[show i=P.length+(i - P.length) by lia,eX _ (by lia)]at r
  rw[show j=P.length+(j - P.length) by lia,eX _ (by lia)]at N
  exact Ei G (by lia) r N
 have H:∀x∈X.take k,An ky x y0:=λx c=>by
  obtain⟨i,hi⟩:=getElem?_of_mem c
  rw[getElem?_take]at hi
  split at hi
  ·exact k2 i x ‹_› (by rw[eX i (by lia)];exact hi)
  ·cases hi
 have a8:∀x∈X.drop k,An ky y0 x:=λx c=>by
  obtain⟨i,hi,e⟩:=Gw c
  have hl:i<X.length:=by
   rcases Nat.lt_or_ge i X.length with q|q
   ·exact q
   ·rw[getElem?_eq_none q]at e;cases e
  exact KeyOrd.kle_of_klt (k3 i x hi (by lia) (by rw[eX i (by lia)];exact e))
 have u:∀y∈Y,An ky y0 y:=λy v=>FR D I y (by simpa using v)
 have f:(∀x∈X,∀y∈Y,An ky x y)->R true (SortSt.mk' κ (arrOf st) (((pendingOf st).setIfInBounds i (P.length,na+nb,Q)).eraseIdxIfInBounds (i+1)) (gallopOf st) none):=λc =>
  h (X++Y) (arrOf st) (gallopOf st) (List.Perm.refl _) (pairwise_append.mpr ⟨G,D,c⟩) (by rw[e,append_assoc P X Y])
 have a3:SortSt.mk' κ (arrOf st) (((pendingOf st).setIfInBounds i (P.length,na+nb,Q)).eraseIdxIfInBounds (i+1)) (gallopOf st) none=SortSt.mk' (kindOf st) (arrOf st) (((pendingOf st).setIfInBounds i (P.length,na+nb,Q)).eraseIdxIfInBounds (i+1)) (gallopOf st) (failedOf st):=by rw[U,hf]
 refine Ae (λp=>wpS_pure ?_) (λp=>?_)
 ·have p:na - k=0:=eq_of_beq p
  rw[a3]at f
  refine f λx c y v=>KeyOrd.kle_trans (H x ?_) (u y v)
  rw[take_of_length_le (by lia)];exact c
 have p:¬na - k=0:=by simpa using p
 have a5:(arrOf st).toList[P.length+k+(na - k) - 1]?=some xl:=by rw[show P.length+k+(na - k) - 1=P.length+(na - 1) by lia,eX _ (by lia)];exact L
 refine wpS_bind (Ba (Bc a5) (wpS_bind (LW (qG:=arrOf st) (base:=P.length+na) (n:=nb) (hint:=nb - 1) C U (T xl (mem_of_getElem? a5)) T (λi j x y hi a9 hj r N=>?_) (by lia) (by lia) λl l1 l2 l3=>?_)))
 ·rw[show i=P.length+na+(i - (P.length+na)) by lia,eY _ (by lia)]at r
  rw[show j=P.length+na+(j - (P.length+na)) by lia,eY _ (by lia)]at N
  exact Ei D (by lia) r N
 have a0:∀x∈X,An ky x xl:=λx c=>Gx G h0 L x (by rw[take_of_length_le (by lia)];exact c)
 have a7:∀y∈Y.take l,An ky y xl:=λx c=>by
  obtain⟨i,hi⟩:=getElem?_of_mem c
  rw[getElem?_take]at hi
  split at hi
  ·exact KeyOrd.kle_of_klt (l2 i x ‹_› (by rw[eY i (by lia)];exact hi))
  ·cases hi
 have a2:∀y∈Y.drop l,An ky xl y:=λx c=>by
  obtain⟨i,hi,e⟩:=Gw c
  have hl:i<Y.length:=by
   rcases Nat.lt_or_ge i Y.length with q|q
   ·exact q
   ·rw[getElem?_eq_none q]at e;cases e
  exact l3 i x hi (by lia) (by rw[eY i (by lia)];exact e)
 refine Ae (λv=>wpS_pure ?_) (λv=>?_)
 ·have v:l=0:=eq_of_beq v
  rw[a3]at f
  exact f λx c y o=>KeyOrd.kle_trans (a0 x c) (a2 y (by rw[v];exact o))
 have v:¬l=0:=by simpa using v
 have ex:((arrOf st).extract (P.length+k) (P.length+na)).toList=X.drop k:=by
  rw[LX,e,append_assoc,append_assoc,take_append,take_of_length_le (by lia),Nat.add_sub_cancel_left,take_append,take_of_length_le (by lia),<-lX,Nat.sub_self,take_zero,append_nil,drop_append,drop_eq_nil_of_le (by lia),Nat.add_sub_cancel_left]
  rfl
 have J:((arrOf st).extract (P.length+na) (P.length+na+l)).toList=Y.take l:=by
  rw[LU,e,append_assoc,drop_append,drop_eq_nil_of_le (by rw[length_append];lia),length_append,lX,Nat.sub_self,nil_append,drop_zero,take_append_of_le_length (by lia)]
 have sx:((arrOf st).extract (P.length+k) (P.length+na)).size=na - k:=by rw[<-Array.length_toList,ex,length_drop];lia
 have sy:((arrOf st).extract (P.length+na) (P.length+na+l)).size=l:=by rw[<-Array.length_toList,J,length_take];lia
 have a1:∀(m:Array Keyed) g,MDone ky ((arrOf st).extract (P.length+k) (P.length+na)).toList ((arrOf st).extract (P.length+na) (P.length+na+l)).toList m.toList ->
   R true (SortSt.mk' (kindOf st) (m.toList.zipIdx.foldl (λa (q:Keyed×Nat)=>a.setIfInBounds (P.length+k+q.2) q.1) (arrOf st)) (((pendingOf st).setIfInBounds i (P.length,na+nb,Q)).eraseIdxIfInBounds (i+1)) g (failedOf st)):=λm g d=>by
  rw[ex,J]at d
  rw[U,hf]
  have lm:m.toList.length=na - k+l:=by rw[d.perm.length_eq,length_append,length_drop,length_take];lia
  have B:∀z∈m.toList,z∈X.drop k\/z∈Y.take l:=λz p=>mem_append.mp (d.perm.mem_iff.mp p)
  refine h (X.take k++(m.toList++Y.drop l)) _ g ?_ ?_ ?_
  ·have p3:(m.toList++Y.drop l).Perm (X.drop k++Y):=by
    have:=d.perm.append_right (Y.drop l)
    rw[append_assoc,take_append_drop]at this
    exact this
   have p4:=p3.append_left (X.take k)
   rw[<-append_assoc (X.take k) (X.drop k) Y,take_append_drop]at p4
   exact p4
  ·refine pairwise_append.mpr ⟨(BM G k).1,pairwise_append.mpr ⟨d.srt,(BM D l).2.1,λx c y o=>?_⟩,λx c y o=>?_⟩
   ·rcases B x c with z|z
    ·exact KeyOrd.kle_trans (a0 x (mem_of_mem_drop z)) (a2 y o)
    ·exact(BM D l).2.2 x z y o
   ·rcases mem_append.mp o with z|z
    ·rcases B y z with z|z
     ·exact(BM G k).2.2 x c y z
     ·exact KeyOrd.kle_trans (H x c) (u y (mem_of_mem_take z))
    ·exact KeyOrd.kle_trans (H x c) (u y (mem_of_mem_drop z))
  ·have:=QV m.toList (P.length+k) 0 (arrOf st) (by lia)
   rw[this,Nat.add_zero,lm,e]
   have r:(P++X++Y++S).take (P.length+k)=P++X.take k:=by
    rw[append_assoc,append_assoc,take_append,take_of_length_le (by lia),Nat.add_sub_cancel_left,take_append_of_le_length (by lia)]
   have N:(P++X++Y++S).drop (P.length+k+(na - k+l))=Y.drop l++S:=by
    rw[show P.length+k+(na - k+l)=(P++X).length+l by rw[length_append];lia,append_assoc,drop_append,drop_eq_nil_of_le (by lia),Nat.add_sub_cancel_left,nil_append,drop_append_of_le_length (by lia)]
   rw[r,N]
   simp only[append_assoc]
 have mx:∀z∈((arrOf st).extract (P.length+k) (P.length+na)).toList,mem z:=λz p=>T z (by rw[ex]at p;rw[e];simp[mem_of_mem_drop p])
 have my:∀z∈((arrOf st).extract (P.length+na) (P.length+na+l)).toList,mem z:=λz p=>T z (by rw[J]at p;rw[e];simp[mem_of_mem_take p])
 have first:∀x y,((arrOf st).extract (P.length+na) (P.length+na+l)).toList[0]?=some x->y∈((arrOf st).extract (P.length+k) (P.length+na)).toList->An ky x y:=λx y r o=>by
  rw[J,getElem?_take,if_pos (by lia),I]at r
  cases r
  rw[ex]at o
  exact a8 y o
 have w:∀x∈((arrOf st).extract (P.length+na) (P.length+na+l)).toList,∀y,((arrOf st).extract (P.length+k) (P.length+na)).toList[((arrOf st).extract (P.length+k) (P.length+na)).size - 1]?=some y->An ky x y:=λx c y r=>by
  rw[sx,ex,getElem?_drop,show k+(na - k - 1)=na - 1 by lia,L]at r
  cases r
  rw[J]at c
  exact a7 x c
 refine Ae (λ_=>wpS_bind (XG (a:=(arrOf st).extract (P.length+k) (P.length+na)) (b:=(arrOf st).extract (P.length+na) (P.length+na+l)) C (by exact U) mx my (by rw[ex];exact(BM G k).2.1) (by rw[J];exact(BM D l).1) (by rw[sx];lia) (by rw[sy];lia) first w λm g d=>?_)) (λ_=>wpS_bind (XH (a:=(arrOf st).extract (P.length+k) (P.length+na)) (b:=(arrOf st).extract (P.length+na) (P.length+na+l)) C (by exact U) mx my (by rw[ex];exact(BM G k).2.1) (by rw[J];exact(BM D l).1) (by rw[sx];lia) (by rw[sy];lia) first w λm g d=>?_))
 all_goals
  refine wpS_bind (wpS_modify ?_)
  refine wpS_bind (wpS_get (wpS_pure ?_))
  have:=a1 m g d
  have hn:(failedOf st).isNone=true:=by rw[hf];rfl
  show R (failedOf st).isNone _
  rw[hn]
  exact this
end
section
variable{M:Model}{κ:SortKind}{ky:Keyed->O.α}{mem:Keyed->Prop}
def Kx(ky:Keyed->O.α)(qG:Array Keyed)(i:Nat):O.α:=ky (qG.getD i (Value.none,Value.none))
def Ci(ky:Keyed->O.α)(lo n:Nat)(qG:Array Keyed):Prop:=∀i j,i<=j->j<n->O.kle (Kx ky qG (lo+i)) (Kx ky qG (lo+j))
def Ct(ky:Keyed->O.α)(lo n:Nat)(qG:Array Keyed):Prop:=∀i j,i<=j->j<n->O.kle (Kx ky qG (lo+j)) (Kx ky qG (lo+i))
theorem Gy{p q:Array Keyed}(h:p[i]?=q[j]?):Kx ky p i=Kx ky q j:=by
 unfold Kx
 rw[Array.getD_eq_getD_getElem?,Array.getD_eq_getD_getElem?,h]
theorem LY{p:Array Keyed}(a:j<=p.size)(k:Nat):Kx ky (mirror p i j ((j - i) / 2)) k=if i<=k/\k<j then Kx ky p (i+j - 1 - k)else Kx ky p k:=by
 have e:=getElem?_mirror_all (i:=i) a k
 split
 ·rw[if_pos ‹_›]at e;exact Gy e
 ·rw[if_neg ‹_›]at e;exact Gy e
theorem QX{p:Array Keyed}(c:j<=p.size)(a:∀k,i<=k->k<j->Kx ky p k=Kx ky p (j - 1))(k:Nat):Kx ky (mirror p i j ((j - i) / 2)) k=Kx ky p k:=by
 rw[LY c]
 split
 ·rw[a _ (by lia) (by lia),a k (by lia) (by lia)]
 ·rfl
theorem QY{p:Array Keyed}(h:i<p.size):∃x,p[i]?=some x/\x∈p.toList/\Kx ky p i=ky x:=by
 refine⟨p[i],getElem?_pos _ i h,by simp,?_⟩
 unfold Kx
 rw[Array.getD_eq_getD_getElem?,getElem?_pos _ i h];rfl
structure From(lo:Nat)(p q:Array Keyed):Prop where
 perm:q.Perm p
 low:∀i,i<lo->q[i]?=p[i]?
theorem From.refl{p:Array Keyed}:From lo p p:=⟨Array.Perm.refl _,λ_ _=>rfl⟩
theorem From.trans{p q r:Array Keyed}(h:From lo p q)(g:From lo q r):From lo p r:=⟨g.perm.trans h.perm,λi hi=>(g.low i hi).trans (h.low i hi)⟩
theorem From.size{p q:Array Keyed}(h:From lo p q):q.size=p.size:=by have:=(Array.perm_iff_toList_perm.mp h.perm).length_eq;simpa using this
theorem From.mirror{p:Array Keyed}(hi:lo<=i)(a:j<=p.size):From lo p (mirror p i j ((j - i) / 2)):=⟨mirror_perm _ _ _ _,λk c=>by rw[getElem?_mirror_all a,if_neg (by lia)]⟩
theorem From.mems{p q:Array Keyed}(h:From lo p q)(hm:∀x∈p.toList,mem x):∀x∈q.toList,mem x:=λx a=>hm x ((Array.perm_iff_toList_perm.mp h.perm).mem_iff.mp a)
theorem LZ(C:Cmp M A E s κ O ky mem){R:Option Bool->SortSt->Prop}(e:kindOf st=κ)(a:∀x∈(arrOf st).toList,mem x)(hi:i<(arrOf st).size)(f:j<(arrOf st).size)
  (h:R (some (O.blt (Kx ky (arrOf st) i) (Kx ky (arrOf st) j))) st):wpS M A E s (ltAt' i j) R st:=by
 obtain⟨x,l,d,k1⟩:=QY (ky:=ky) hi
 obtain⟨y,g,c,k2⟩:=QY (ky:=ky) f
 rw[k1,k2]at h
 exact wpS_bind (wpS_get (wpS_bind (Ba l (wpS_bind (Ba g (C.ask _ _ (a x d) (a y c) _ _ e h))))))
theorem FT(C:Cmp M A E s κ O ky mem){b:Bool}{R:Option Bool->SortSt->Prop}(e:O.blt (Kx ky (arrOf st) i) (Kx ky (arrOf st) j)=b)(c:kindOf st=κ)(a:∀x∈(arrOf st).toList,mem x)(hi:i<(arrOf st).size)(d:j<(arrOf st).size)
  (h:R (some b) st):wpS M A E s (ltAt' i j) R st:=LZ C c a hi d (by rw[e];exact h)
theorem Dl{R:Unit->SortSt->Prop}(h:R () (setArr st (mirror (arrOf st) i j ((j - i) / 2)))):wpS M A E s (reverseSlice' i j) R st:=by
 rw[reverseSlice'_eq];exact wpS_modify h
theorem Gz{a nrem:Nat}{R:Option (Option Nat)×Nat->SortSt->Prop}(F:Nat->Option (Option Nat)×Nat->StateT SortSt Sem (ForInStep (Option (Option Nat)×Nat)))
  (u:∀x n (r:ForInStep (Option (Option Nat)×Nat)->SortSt->Prop),1<=n->n<nrem->r (if O.blt (Kx ky qG (lo+n)) (Kx ky qG (lo+n - 1))=true then .done (none,n)else .yield (none,n+1)) st->wpS M A E s (F x (none,n)) r st)
  (h1:1<=a) (q:a<=nrem) (d:Ci ky lo a qG) (h:∀n,a<=n->n<=nrem->Ci ky lo n qG->(n=nrem\/O.klt (Kx ky qG (lo+n)) (Kx ky qG (lo+n - 1)))->R (none,n) st):wpS M A E s (forIn [a:nrem] (none,a) F) R st:=by
 refine wpS_forRange (I:=λx c f=>f=st/\c=(none,x)/\Ci ky lo x qG) ?_ ?_ ⟨rfl,rfl,d⟩
 ·rintro x c f l g ⟨rfl,rfl,d⟩
  refine u x x _ (by lia) g ?_
  cases e:O.blt (Kx ky qG (lo+x)) (Kx ky qG (lo+x - 1))with
  |true=>rw[if_pos rfl];exact h x l (by lia) d (.inr e)
  |false =>
   rw[if_neg (by simp)]
   refine⟨rfl,rfl,λi j p w=>?_⟩
   by_cases o:j=x
   ·subst o
    by_cases hi:i=j
    ·subst hi;exact KeyOrd.kle_refl _
    ·have v:O.kle (Kx ky qG (lo+(j - 1))) (Kx ky qG (lo+j)):=by rw[show lo+(j - 1)=lo+j - 1 by lia];exact e
     exact KeyOrd.kle_trans (d i (j - 1) (by lia) (by lia)) v
   ·exact d i j p (by lia)
 ·rintro c f ⟨rfl,rfl,d⟩
  rw[Nat.max_eq_right q]at d ⊢
  exact h nrem q (Nat.le_refl _) d (.inl rfl)
theorem XO(C:Cmp M A E s κ O ky mem){nrem:Nat}{R:Option Nat->SortSt->Prop}(hk:kindOf st=κ)(hm:∀x∈(arrOf st).toList,mem x)(h1:1<=nrem)(hz:lo+nrem<=(arrOf st).size)
  (h:∀m qG,From lo (arrOf st) qG->1<=m->m<=nrem->Ci ky lo m qG->R (some m) (setArr st qG)):wpS M A E s (countRun' lo nrem) R st:=by
 have body:∀(qG:Array Keyed),From lo (arrOf st) qG->∀n,1<=n->n<nrem->∀{R':Option Bool->SortSt->Prop},R' (some (O.blt (Kx ky qG (lo+n)) (Kx ky qG (lo+n - 1)))) (setArr st qG)->wpS M A E s (ltAt' (lo+n) (lo+n - 1)) R' (setArr st qG):=λqG d n H B R' p =>
  LZ (st:=setArr st qG) C hk (d.mems hm) (by show lo+n<qG.size;rw[d.size];lia) (by show lo+n - 1<qG.size;rw[d.size];lia) p
 have tail:∀(qG:Array Keyed) (n:Nat),From lo (arrOf st) qG->1<=n->n<=nrem->Ct ky lo n qG->Ci ky lo n (mirror qG lo (lo+n) ((lo+n - lo) / 2)):=λqG n d H B g i j f hj=>by
  have hs:lo+n<=qG.size:=by rw[d.size];lia
  rw[LY hs,LY hs,if_pos (by lia),if_pos (by lia),show lo+(lo+n) - 1 - (lo+i)=lo+(n - 1 - i) by lia,show lo+(lo+n) - 1 - (lo+j)=lo+(n - 1 - j) by lia]
  exact g _ _ (by lia) (by lia)
 have T:∀(qG:Array Keyed) (n q:Nat),From lo (arrOf st) qG->n<=nrem->q+1<=n->(∀i,n - (q+1)<=i->i<n->Kx ky qG (lo+i)=Kx ky qG (lo+n - 1))->∀k,Kx ky (mirror qG (lo+n - (q+1)) (lo+n) ((lo+n - (lo+n - (q+1))) / 2)) k=Kx ky qG k:=λqG n q d B y u k=>by
  refine QX (by rw[d.size];lia) (λk k1 k2=>?_) k
  rw[show k=lo+(k - lo) by lia]
  exact u (k - lo) (by lia) (by lia)
 refine wpS_bind (Gz (ky:=ky) (lo:=lo) (qG:=arrOf st) _ (λx n R' H B p=>?_) (Nat.le_refl 1) h1 (λi j f hj=>by rw[show i=j by lia];exact KeyOrd.kle_refl _) λn H B hs a7=>?_)
 ·refine wpS_bind (body (arrOf st) From.refl n H B ?_)
  cases e:O.blt (Kx ky (arrOf st) (lo+n)) (Kx ky (arrOf st) (lo+n - 1))with
  |true=>rw[e,if_pos rfl]at p;exact wpS_pure p
  |false=>rw[e,if_neg (by simp)]at p;exact wpS_pure p
 refine Ae (λu=>wpS_pure (h n (arrOf st) From.refl H B hs)) (λu=>?_)
 have u:¬n=nrem:=by simpa using u
 have a5:=a7.resolve_left u
 refine Ae (λhn=>?_) (λhn=>?_)
 ·refine wpS_bind (LZ C hk hm (by lia) (by lia) ?_)
  cases a4:O.blt (Kx ky (arrOf st) lo) (Kx ky (arrOf st) (lo+n - 1))with
  |true=>exact Ae (λ_=>wpS_pure (h n (arrOf st) From.refl H B hs)) (λz=>absurd rfl z)
  |false =>
   refine Ae (λz=>by cases z) (λ_=>?_)
   refine wpS_bind (Dl ?_)
   have all:∀k,k<n->Kx ky (arrOf st) (lo+k)=Kx ky (arrOf st) (lo+n - 1):=λk hk=>by
    have a1:=hs 0 k (by lia) hk
    have a2:=hs k (n - 1) (by lia) (by lia)
    rw[show lo+(n - 1)=lo+n - 1 by lia]at a2
    exact KeyOrd.kle_antisymm a2 (KeyOrd.kle_trans a4 a1)
   have N:From lo (arrOf st) (mirror (arrOf st) lo (lo+n) ((lo+n - lo) / 2)):=From.mirror (Nat.le_refl _) (by lia)
   have ek:∀k,Kx ky (mirror (arrOf st) lo (lo+n) ((lo+n - lo) / 2)) k=Kx ky (arrOf st) k:=QX (by lia) λk k1 k2=>by
    rw[show k=lo+(k - lo) by lia];exact all _ (by lia)
   have g:Ct ky lo (n+1) (mirror (arrOf st) lo (lo+n) ((lo+n - lo) / 2)):=λi j f hj=>by
    rw[ek,ek]
    by_cases a9:j=n
    ·subst a9
     by_cases hi:i=j
     ·subst hi;exact KeyOrd.kle_refl _
     ·rw[all i (by lia)];exact KeyOrd.kle_of_klt a5
    ·rw[all i (by lia),all j (by lia)];exact KeyOrd.kle_refl _
   show wpS M A E s _ R (setArr st (mirror (arrOf st) lo (lo+n) ((lo+n - lo) / 2)))
   generalize mirror (arrOf st) lo (lo+n) ((lo+n - lo) / 2)=r at N g ⊢
   refine wpS_bind (wpS_lift (wpAny_rule ⟨rfl,?_⟩))
   refine wpS_bind (wpS_mono (wpS_forRange (I:=λx c o=>∃qG q,c=(none,x,q)/\o=setArr st qG/\From lo (arrOf st) qG/\Ct ky lo x qG/\q+1<=x/\∀i,x - (q+1)<=i->i<x->Kx ky qG (lo+i)=Kx ky qG (lo+x - 1))
    (Q:=λc o=>∃qG m q,c=(none,m,q)/\o=setArr st qG/\From lo (arrOf st) qG/\Ct ky lo m qG/\1<=m/\m<=nrem/\q+1<=m/\∀i,m - (q+1)<=i->i<m->Kx ky qG (lo+i)=Kx ky qG (lo+m - 1)) ?st ?fi ⟨r,0,rfl,rfl,N,g,by lia,λi h1 h2=>by congr 1;lia⟩) ?po)
   case fi =>
    rintro c o ⟨qG,q,rfl,rfl,d,g,y,u⟩
    rw[Nat.max_eq_right (by lia)]at *
    exact⟨qG,nrem,q,rfl,rfl,d,g,by lia,by lia,y,u⟩
   case st =>
    rintro x c o a6 a3 ⟨qG,q,rfl,rfl,d,g,y,u⟩
    refine wpS_bind (body qG d x (by lia) a3 ?_)
    cases e1:O.blt (Kx ky qG (lo+x)) (Kx ky qG (lo+x - 1))with
    |true =>
     refine Ae (λ_=>?_) (λz=>absurd rfl z)
     have Y:∀arr':Array Keyed,(∀k,Kx ky arr' k=Kx ky qG k)->Ct ky lo (x+1) arr':=λarr' a0 i j f hj=>by
      rw[a0,a0]
      by_cases G:j=x
      ·subst G
       by_cases hi:i=j
       ·subst hi;exact KeyOrd.kle_refl _
       ·have e2:O.kle (Kx ky qG (lo+j)) (Kx ky qG (lo+(j - 1))):=by rw[show lo+(j - 1)=lo+j - 1 by lia];exact KeyOrd.kle_of_klt e1
        exact KeyOrd.kle_trans e2 (g i (j - 1) (by lia) (by lia))
      ·exact g i j f (by lia)
     refine Ae (λD=>wpS_bind (Dl (wpS_pure ⟨_,0,rfl,rfl,d.trans (From.mirror (i:=lo+x - (q+1)) (j:=lo+x) (by lia) ?_),Y _ (T qG x q d (by lia) y u),by lia,λi h1 h2=>by congr 1;lia⟩))) (λD=>wpS_pure ⟨qG,0,rfl,rfl,d,Y qG (λ_=>rfl),by lia,λi h1 h2=>by congr 1;lia⟩)
     show lo+x<=qG.size
     rw[d.size];lia
    |false =>
     refine Ae (λz=>by cases z) (λ_=>?_)
     have U:lo+x<qG.size:=by rw[d.size];lia
     cases e2:O.blt (Kx ky qG (lo+x - 1)) (Kx ky qG (lo+x))with
     |true =>
      refine wpS_bind (FT (st:=setArr st qG) C e2 hk (d.mems hm) (by show lo+x - 1<qG.size;lia) U ?_)
      exact Ae (λ_=>wpS_pure ⟨qG,x,q,rfl,rfl,d,g,by lia,by lia,y,u⟩) (λz=>absurd rfl z)
     |false =>
      refine wpS_bind (FT (st:=setArr st qG) C e2 hk (d.mems hm) (by show lo+x - 1<qG.size;lia) U ?_)
      have ex:Kx ky qG (lo+x)=Kx ky qG (lo+x - 1):=O.total _ _ e1 e2
      refine Ae (λz=>by cases z) (λ_=>wpS_pure ⟨qG,q+1,rfl,rfl,d,λi j f hj=>?_,by lia,λi i1 i2=>?_⟩)
      ·by_cases G:j=x
       ·subst G
        by_cases hi:i=j
        ·subst hi;exact KeyOrd.kle_refl _
        ·rw[ex,show lo+j - 1=lo+(j - 1) by lia];exact g i (j - 1) (by lia) (by lia)
       ·exact g i j f (by lia)
      ·rw[show lo+(x+1) - 1=lo+x by lia]
       by_cases hi:i=x
       ·rw[hi]
       ·rw[ex];exact u i (by lia) (by lia)
   case po =>
    rintro c o ⟨qG,m,q,rfl,rfl,d,g,L,J,y,u⟩
    refine Ae (λD=>wpS_bind (Dl ?_)) (λD=>?_)
    ·have w:=d.trans (From.mirror (i:=lo+m - (q+1)) (j:=lo+m) (by lia) (by rw[d.size];lia))
     have B4:Ct ky lo m (mirror qG (lo+m - (q+1)) (lo+m) ((lo+m - (lo+m - (q+1))) / 2)):=λi j f hj=>by rw[T qG m q d J y u,T qG m q d J y u];exact g i j f hj
     show wpS M A E s _ R (setArr st (mirror qG (lo+m - (q+1)) (lo+m) ((lo+m - (lo+m - (q+1))) / 2)))
     generalize mirror qG (lo+m - (q+1)) (lo+m) ((lo+m - (lo+m - (q+1))) / 2)=l at w B4 ⊢
     refine wpS_bind (Dl ?_)
     have v:=w.trans (From.mirror (i:=lo) (j:=lo+m) (Nat.le_refl lo) (by rw[w.size];lia))
     refine wpS_bind (Gz (ky:=ky) (lo:=lo) (qG:=mirror l lo (lo+m) ((lo+m - lo) / 2)) _ (λx n R' H B p=>?_) L J (tail l m w L J B4) λn' a b c _=>wpS_pure (h n' _ v (Nat.le_trans L a) b c))
     refine wpS_bind (body _ v n H B ?_)
     cases e:O.blt (Kx ky (mirror l lo (lo+m) ((lo+m - lo) / 2)) (lo+n)) (Kx ky (mirror l lo (lo+m) ((lo+m - lo) / 2)) (lo+n - 1))with
     |true=>rw[e,if_pos rfl]at p;exact wpS_pure p
     |false=>rw[e,if_neg (by simp)]at p;exact wpS_pure p
    ·refine wpS_bind (Dl ?_)
     have v:=d.trans (From.mirror (i:=lo) (j:=lo+m) (Nat.le_refl lo) (by rw[d.size];lia))
     refine wpS_bind (Gz (ky:=ky) (lo:=lo) (qG:=mirror qG lo (lo+m) ((lo+m - lo) / 2)) _ (λx n R' H B p=>?_) L J (tail qG m d L J g) λn' a b c _=>wpS_pure (h n' _ v (Nat.le_trans L a) b c))
     refine wpS_bind (body _ v n H B ?_)
     cases e:O.blt (Kx ky (mirror qG lo (lo+m) ((lo+m - lo) / 2)) (lo+n)) (Kx ky (mirror qG lo (lo+m) ((lo+m - lo) / 2)) (lo+n - 1))with
     |true=>rw[e,if_pos rfl]at p;exact wpS_pure p
     |false=>rw[e,if_neg (by simp)]at p;exact wpS_pure p
 ·have a8:n=1:=by lia
  subst a8
  have N:From lo (arrOf st) (arrOf st):=From.refl
  have g:Ct ky lo (1+1) (arrOf st):=λi j f hj=>by
   by_cases hi:i=j
   ·subst hi;exact KeyOrd.kle_refl _
   ·have h0:i=0:=by lia
    have h1:j=1:=by lia
    subst h0;subst h1
    exact KeyOrd.kle_of_klt a5
  obtain⟨r,N,g,e0⟩:∃r,From lo (arrOf st) r/\Ct ky lo (1+1) r/\r=arrOf st:=⟨_,N,g,rfl⟩
  refine(show wpS M A E s _ R (setArr st r)->_ fromλhh=>by rw[e0]at hh;exact hh) ?_
  refine wpS_bind (wpS_lift (wpAny_rule ⟨rfl,?_⟩))
  refine wpS_bind (wpS_mono (wpS_forRange (I:=λx c o=>∃qG q,c=(none,x,q)/\o=setArr st qG/\From lo (arrOf st) qG/\Ct ky lo x qG/\q+1<=x/\∀i,x - (q+1)<=i->i<x->Kx ky qG (lo+i)=Kx ky qG (lo+x - 1))
   (Q:=λc o=>∃qG m q,c=(none,m,q)/\o=setArr st qG/\From lo (arrOf st) qG/\Ct ky lo m qG/\1<=m/\m<=nrem/\q+1<=m/\∀i,m - (q+1)<=i->i<m->Kx ky qG (lo+i)=Kx ky qG (lo+m - 1)) ?st ?fi ⟨r,0,rfl,rfl,N,g,by lia,λi h1 h2=>by congr 1;lia⟩) ?po)
  case fi =>
   rintro c o ⟨qG,q,rfl,rfl,d,g,y,u⟩
   rw[Nat.max_eq_right (by lia)]at *
   exact⟨qG,nrem,q,rfl,rfl,d,g,by lia,by lia,y,u⟩
  case st =>
   rintro x c o a6 a3 ⟨qG,q,rfl,rfl,d,g,y,u⟩
   refine wpS_bind (body qG d x (by lia) a3 ?_)
   cases e1:O.blt (Kx ky qG (lo+x)) (Kx ky qG (lo+x - 1))with
   |true =>
    refine Ae (λ_=>?_) (λz=>absurd rfl z)
    have Y:∀arr':Array Keyed,(∀k,Kx ky arr' k=Kx ky qG k)->Ct ky lo (x+1) arr':=λarr' a0 i j f hj=>by
     rw[a0,a0]
     by_cases G:j=x
     ·subst G
      by_cases hi:i=j
      ·subst hi;exact KeyOrd.kle_refl _
      ·have e2:O.kle (Kx ky qG (lo+j)) (Kx ky qG (lo+(j - 1))):=by rw[show lo+(j - 1)=lo+j - 1 by lia];exact KeyOrd.kle_of_klt e1
       exact KeyOrd.kle_trans e2 (g i (j - 1) (by lia) (by lia))
     ·exact g i j f (by lia)
    refine Ae (λD=>wpS_bind (Dl (wpS_pure ⟨_,0,rfl,rfl,d.trans (From.mirror (i:=lo+x - (q+1)) (j:=lo+x) (by lia) ?_),Y _ (T qG x q d (by lia) y u),by lia,λi h1 h2=>by congr 1;lia⟩))) (λD=>wpS_pure ⟨qG,0,rfl,rfl,d,Y qG (λ_=>rfl),by lia,λi h1 h2=>by congr 1;lia⟩)
    show lo+x<=qG.size
    rw[d.size];lia
   |false =>
    refine Ae (λz=>by cases z) (λ_=>?_)
    have U:lo+x<qG.size:=by rw[d.size];lia
    cases e2:O.blt (Kx ky qG (lo+x - 1)) (Kx ky qG (lo+x))with
    |true =>
     refine wpS_bind (FT (st:=setArr st qG) C e2 hk (d.mems hm) (by show lo+x - 1<qG.size;lia) U ?_)
     exact Ae (λ_=>wpS_pure ⟨qG,x,q,rfl,rfl,d,g,by lia,by lia,y,u⟩) (λz=>absurd rfl z)
    |false =>
     refine wpS_bind (FT (st:=setArr st qG) C e2 hk (d.mems hm) (by show lo+x - 1<qG.size;lia) U ?_)
     have ex:Kx ky qG (lo+x)=Kx ky qG (lo+x - 1):=O.total _ _ e1 e2
     refine Ae (λz=>by cases z) (λ_=>wpS_pure ⟨qG,q+1,rfl,rfl,d,λi j f hj=>?_,by lia,λi i1 i2=>?_⟩)
     ·by_cases G:j=x
      ·subst G
       by_cases hi:i=j
       ·subst hi;exact KeyOrd.kle_refl _
       ·rw[ex,show lo+j - 1=lo+(j - 1) by lia];exact g i (j - 1) (by lia) (by lia)
      ·exact g i j f (by lia)
     ·rw[show lo+(x+1) - 1=lo+x by lia]
      by_cases hi:i=x
      ·rw[hi]
      ·rw[ex];exact u i (by lia) (by lia)
  case po =>
   rintro c o ⟨qG,m,q,rfl,rfl,d,g,L,J,y,u⟩
   refine Ae (λD=>wpS_bind (Dl ?_)) (λD=>?_)
   ·have w:=d.trans (From.mirror (i:=lo+m - (q+1)) (j:=lo+m) (by lia) (by rw[d.size];lia))
    have B4:Ct ky lo m (mirror qG (lo+m - (q+1)) (lo+m) ((lo+m - (lo+m - (q+1))) / 2)):=λi j f hj=>by rw[T qG m q d J y u,T qG m q d J y u];exact g i j f hj
    show wpS M A E s _ R (setArr st (mirror qG (lo+m - (q+1)) (lo+m) ((lo+m - (lo+m - (q+1))) / 2)))
    generalize mirror qG (lo+m - (q+1)) (lo+m) ((lo+m - (lo+m - (q+1))) / 2)=l at w B4 ⊢
    refine wpS_bind (Dl ?_)
    have v:=w.trans (From.mirror (i:=lo) (j:=lo+m) (Nat.le_refl lo) (by rw[w.size];lia))
    refine wpS_bind (Gz (ky:=ky) (lo:=lo) (qG:=mirror l lo (lo+m) ((lo+m - lo) / 2)) _ (λx n R' H B p=>?_) L J (tail l m w L J B4) λn' a b c _=>wpS_pure (h n' _ v (Nat.le_trans L a) b c))
    refine wpS_bind (body _ v n H B ?_)
    cases e:O.blt (Kx ky (mirror l lo (lo+m) ((lo+m - lo) / 2)) (lo+n)) (Kx ky (mirror l lo (lo+m) ((lo+m - lo) / 2)) (lo+n - 1))with
    |true=>rw[e,if_pos rfl]at p;exact wpS_pure p
    |false=>rw[e,if_neg (by simp)]at p;exact wpS_pure p
   ·refine wpS_bind (Dl ?_)
    have v:=d.trans (From.mirror (i:=lo) (j:=lo+m) (Nat.le_refl lo) (by rw[d.size];lia))
    refine wpS_bind (Gz (ky:=ky) (lo:=lo) (qG:=mirror qG lo (lo+m) ((lo+m - lo) / 2)) _ (λx n R' H B p=>?_) L J (tail qG m d L J g) λn' a b c _=>wpS_pure (h n' _ v (Nat.le_trans L a) b c))
    refine wpS_bind (body _ v n H B ?_)
    cases e:O.blt (Kx ky (mirror qG lo (lo+m) ((lo+m - lo) / 2)) (lo+n)) (Kx ky (mirror qG lo (lo+m) ((lo+m - lo) / 2)) (lo+n - 1))with
    |true=>rw[e,if_pos rfl]at p;exact wpS_pure p
    |false=>rw[e,if_neg (by simp)]at p;exact wpS_pure p
end
section
variable{M:Model}{κ:SortKind}{ky:Keyed->O.α}{mem:Keyed->Prop}
theorem XQ{p:Array Keyed}{a d:Nat}(c:a<p.size)(f:d<=a)(k:Nat):Kx ky (bubble p a d) k=if k=a - d then Kx ky p a else if a - d<k/\k<=a then Kx ky p (k - 1)else Kx ky p k:=by
 have e:=getElem?_bubble c d f k
 split
 ·rw[if_pos ‹_›]at e;exact Gy e
 ·rw[if_neg ‹_›]at e
  split
  ·rw[if_pos ‹_›]at e;exact Gy e
  ·rw[if_neg ‹_›]at e;exact Gy e
theorem XR{R:Unit->SortSt->Prop}(h:R () (setArr st (bubble (arrOf st) i (i - j)))):wpS M A E s (moveDown' i j) R st:=by
 rw[moveDown'_eq];exact wpS_modify h
theorem XS(C:Cmp M A E s κ O ky mem){ok:Nat}{R:Bool->SortSt->Prop}(U:kindOf st=κ)(T:∀x∈(arrOf st).toList,mem x)(a0:ok<=n)(hz:lo+n<=(arrOf st).size)(hs:Ci ky lo ok (arrOf st))
  (h:∀qG,From lo (arrOf st) qG->Ci ky lo n qG->R true (setArr st qG)):wpS M A E s (binarySort' lo n ok) R st:=by
 refine wpS_bind (wpS_mono (wpS_forRange (I:=λk c a=>∃qG,c=(none,())/\a=setArr st qG/\From lo (arrOf st) qG/\Ci ky lo (min k n) qG)
  (Q:=λc a=>∃qG,c=(none,())/\a=setArr st qG/\From lo (arrOf st) qG/\Ci ky lo n qG) ?step ?H ⟨arrOf st,rfl,rfl,From.refl,?w⟩) ?v)
 case v =>
  rintro c a ⟨qG,rfl,rfl,g,d⟩
  exact wpS_pure (h qG g d)
 case w =>
  intro i j o hj
  by_cases h0:ok=0
  ·rw[show i=j by lia];exact KeyOrd.kle_refl _
  ·exact hs i j o (by lia)
 case H =>
  rintro c a ⟨qG,rfl,rfl,g,d⟩
  refine⟨qG,rfl,rfl,g,?_⟩
  rwa [show min (max (max ok 1) n) n=n by lia]at d
 case step =>
  rintro k c a a4 a3 ⟨qG,rfl,rfl,g,d⟩
  rw[show min k n=k by lia]at d
  have e:lo+k<qG.size:=by rw[g.size];lia
  refine wpS_bind (wpS_mono (wpS_forRange (I:=λx c a=>a=setArr st qG/\∃l r,c=(none,l,r)/\l<=r/\r<=k/\r - l<=k - x/\(∀i,i<l->O.kle (Kx ky qG (lo+i)) (Kx ky qG (lo+k)))/\∀i,r<=i->i<k->O.klt (Kx ky qG (lo+k)) (Kx ky qG (lo+i)))
   (Q:=λc a=>a=setArr st qG/\∃l r,c=(none,l,r)/\l<=k/\(∀i,i<l->O.kle (Kx ky qG (lo+i)) (Kx ky qG (lo+k)))/\∀i,l<=i->i<k->O.klt (Kx ky qG (lo+k)) (Kx ky qG (lo+i))) ?D ?J ⟨rfl,0,k,rfl,by lia,by lia,by lia,λi hi=>by lia,λi h1 h2=>by lia⟩) ?G)
  case J =>
   rintro c a ⟨rfl,l,r,rfl,h1,h2,h3,u,q⟩
   have:l=r:=by lia
   subst this
   exact⟨rfl,l,l,rfl,h2,u,q⟩
  case D =>
   rintro x c a _ hx ⟨rfl,l,r,rfl,h1,h2,h3,u,q⟩
   refine Ae (λy=>wpS_pure ?_) (λy=>?_)
   ·have y:l≥r:=y
    have:l=r:=by lia
    subst this
    exact⟨rfl,l,l,rfl,h2,u,q⟩
   ·have y:¬l≥r:=y
    have f:lo+(l+r) / 2<qG.size:=by lia
    cases p:O.blt (Kx ky qG (lo+k)) (Kx ky qG (lo+(l+r) / 2))with
    |true =>
     refine wpS_bind (FT (st:=setArr st qG) C p U (g.mems T) e f ?_)
     exact Ae (λ_=>wpS_pure ⟨rfl,l,(l+r) / 2,rfl,by lia,by lia,by lia,u,λi N i2=>KeyOrd.klt_of_klt_of_kle p (d _ _ N i2)⟩) (λz=>absurd rfl z)
    |false =>
     refine wpS_bind (FT (st:=setArr st qG) C p U (g.mems T) e f ?_)
     exact Ae (λz=>by cases z) (λ_=>wpS_pure ⟨rfl,(l+r) / 2+1,r,rfl,by lia,by lia,by lia,λi N=>KeyOrd.kle_trans (d i ((l+r) / 2) (by lia) (by lia)) p,q⟩)
  case G =>
   rintro c a ⟨rfl,l,r,rfl,h2,u,q⟩
   refine wpS_bind (XR (wpS_pure ⟨_,rfl,rfl,g.trans ⟨bubble_perm _ _ _,λi hi=>?_⟩,?_⟩))
   ·show(bubble qG (lo+k) (lo+k - (lo+l)))[i]?=_
    rw[getElem?_bubble e _ (by lia),if_neg (by lia),if_neg (by lia)]
   ·show Ci ky lo (min (k+1) n) (bubble qG (lo+k) (lo+k - (lo+l)))
    rw[show min (k+1) n=k+1 by lia]
    have L:∀i,i<=k->Kx ky (bubble qG (lo+k) (lo+k - (lo+l))) (lo+i)=if i=l then Kx ky qG (lo+k)else if l<i then Kx ky qG (lo+(i - 1))else Kx ky qG (lo+i):=λi hi=>by
     rw[XQ e (by lia),show lo+k - (lo+k - (lo+l))=lo+l by lia]
     by_cases p:i=l
     ·rw[if_pos (by lia),if_pos p]
     ·rw[if_neg (by lia),if_neg p]
      by_cases Y:l<i
      ·rw[if_pos (by lia),if_pos Y,show lo+i - 1=lo+(i - 1) by lia]
      ·rw[if_neg (by lia),if_neg Y]
    intro i j o hj
    rw[L i (by lia),L j (by lia)]
    by_cases a1:i=l
    ·rw[if_pos a1]
     by_cases B:j=l
     ·rw[if_pos B];exact KeyOrd.kle_refl _
     ·rw[if_neg B,if_pos (by lia)]
      exact KeyOrd.kle_of_klt (q (j - 1) (by lia) (by lia))
    ·rw[if_neg a1]
     by_cases a2:l<i
     ·rw[if_pos a2,if_neg (by lia),if_pos (by lia)]
      exact d _ _ (by lia) (by lia)
     ·rw[if_neg a2]
      by_cases B:j=l
      ·rw[if_pos B];exact u i (by lia)
      ·rw[if_neg B]
       by_cases b2:l<j
       ·rw[if_pos b2];exact d _ _ (by lia) (by lia)
       ·rw[if_neg b2];exact d _ _ o (by lia)
def BN(ky:Keyed->O.α):List (Nat×Nat×Nat)->List (List Keyed)->Nat->Prop
 |[],[],_=>True
 |q::p,r::rs,b=>q.1=b/\q.2.1=r.length/\0<r.length/\Ai ky r/\BN ky p rs (b+r.length)
 |_,_,_=>False
theorem BN.len:∀{p:List (Nat×Nat×Nat)} {rs:List (List Keyed)} {b:Nat},BN ky p rs b->p.length=rs.length
 |[],[],_,_=>rfl
 |q::p,r::rs,b,h=>by simp[BN.len h.2.2.2.2]
 |[],_::_,_,h=>h.elim
 |_::_,[],_,h=>h.elim
theorem BN.few:∀{p:List (Nat×Nat×Nat)} {rs:List (List Keyed)} {b:Nat},BN ky p rs b->rs.length<=rs.flatten.length
 |[],[],_,_=>by simp
 |q::p,r::rs,b,h=>by have:=BN.few h.2.2.2.2;have:=h.2.2.1;simp only[length_cons,flatten_cons,length_append];lia
 |[],_::_,_,h=>h.elim
 |_::_,[],_,h=>h.elim
theorem BN.snoc:∀{p:List (Nat×Nat×Nat)} {rs:List (List Keyed)} {b:Nat},BN ky p rs b->∀{r:List Keyed} {q:Nat×Nat×Nat},q.1=b+rs.flatten.length->q.2.1=r.length->0<r.length->Ai ky r->BN ky (p++[q]) (rs++[r]) b
 |[],[],b,_,r,q,h1,h2,c,a=>⟨by simpa using h1,h2,c,a,trivial⟩
 |q'::p,d::rs,b,h,r,q,h1,h2,c,a=>⟨h.1,h.2.1,h.2.2.1,h.2.2.2.1,BN.snoc h.2.2.2.2 (by rw[h1];simp only[flatten_cons,length_append];lia) h2 c a⟩
 |[],_::_,_,h,_,_,_,_,_,_=>h.elim
 |_::_,[],_,h,_,_,_,_,_,_=>h.elim
theorem BN.pow{f:Nat->Nat}:∀{p:List (Nat×Nat×Nat)} {rs:List (List Keyed)} {b i:Nat},BN ky p rs b->BN ky (p.modify i λq=>(q.1,q.2.1,f q.2.2)) rs b
 |[],[],_,i,_=>by cases i<;>trivial
 |q::p,r::rs,b,0,h=>h
 |q::p,r::rs,b,i+1,h=>⟨h.1,h.2.1,h.2.2.1,h.2.2.2.1,BN.pow h.2.2.2.2⟩
 |[],_::_,_,_,h=>h.elim
 |_::_,[],_,_,h=>h.elim
theorem BN.split:∀{p:List (Nat×Nat×Nat)} {rs:List (List Keyed)} {b:Nat} (i:Nat),BN ky p rs b->i+1<p.length ->
  ∃a X Y c e d,rs=a++X::Y::c/\p[i]?=some (b+a.flatten.length,X.length,e)/\p[i+1]?=some (b+a.flatten.length+X.length,Y.length,d)/\0<X.length/\0<Y.length/\Ai ky X/\Ai ky Y /\
   ∀Z,Ai ky Z->Z.length=X.length+Y.length->BN ky ((p.set i (b+a.flatten.length,X.length+Y.length,e)).eraseIdx (i+1)) (a++Z::c) b
 |q::u::p,r::s::rs,b,0,h,_=>by
  obtain⟨h1,h2,l,j,o,n,y,x,w⟩:=h
  obtain⟨O,N,J⟩:=q
  obtain⟨M,L,I⟩:=u
  simp only at h1 h2 o n
  subst h1;subst h2;subst o;subst n
  refine⟨[],r,s,rs,J,I,rfl,by simp,by simp,l,y,j,x,λZ g f=>?_⟩
  exact⟨by simp,by simp[f],by lia,g,by rw[f,<-Nat.add_assoc];exact w⟩
 |q::p,r::rs,b,i+1,h,hi=>by
  obtain⟨h1,h2,l,j,v⟩:=h
  obtain⟨a,X,Y,c,e,d,H,G,E,D,C,B,A,z⟩:=BN.split i v (by simpa using hi)
  refine⟨r::a,X,Y,c,e,d,by rw[H];rfl,?_,?_,D,C,B,A,λZ g f=>?_⟩
  ·rw[getElem?_cons_succ,G,flatten_cons,length_append,Nat.add_assoc]
  ·rw[getElem?_cons_succ,E,flatten_cons,length_append,Nat.add_assoc b]
  ·have:=z Z g f
   refine⟨h1,h2,l,j,?_⟩
   rw[flatten_cons,length_append,<-Nat.add_assoc]
   exact this
 |[],_,_,_,_,hi=>by simp at hi
 |[_],_,_,0,_,hi=>by simp at hi
 |_::_,[],_,_,h,_=>h.elim
 |_::_::_,[_],_,0,h,_=>h.2.2.2.2.elim
theorem Ci.srt(h:Ci ky lo n qG)(hz:lo+n<=qG.size):Ai ky ((qG.toList.drop lo).take n):=by
 refine pairwise_iff_getElem.mpr λi j hi c g=>?_
 have d:i<n:=by rw[length_take]at hi;lia
 have a:j<n:=by rw[length_take]at c;lia
 have e:∀k (f:k<((qG.toList.drop lo).take n).length),k<n->ky ((qG.toList.drop lo).take n)[k]=Kx ky qG (lo+k):=λk f hn=>by
  rw[getElem_take,getElem_drop]
  unfold Kx
  rw[Array.getD_eq_getD_getElem?,getElem?_pos qG (lo+k) (by lia)]
  simp
 show O.kle _ _
 rw[e i hi d,e j c a]
 exact h i j (by lia) a
end
section
variable{M:Model}{κ:SortKind}{ky:Keyed->O.α}{mem:Keyed->Prop}
structure Rn(κ:SortKind)(ky:Keyed->O.α)(a0:Array Keyed)(st:SortSt)(rs:List (List Keyed))(qF:List Keyed):Prop where
 kind:kindOf st=κ
 failed:failedOf st=none
 perm:(arrOf st).Perm a0
 eq:(arrOf st).toList=rs.flatten++qF
 pend:BN ky (pendingOf st).toList rs 0
variable{a0:Array Keyed}{rs:List (List Keyed)}{qF:List Keyed}
theorem Rn.mems(r:Rn κ ky a0 st rs qF)(hm:∀x∈a0.toList,mem x):∀x∈(arrOf st).toList,mem x:=λx a=>hm x ((Array.perm_iff_toList_perm.mp r.perm).mem_iff.mp a)
theorem Rn.size(r:Rn κ ky a0 st rs qF):(arrOf st).size=a0.size:=by have:=(Array.perm_iff_toList_perm.mp r.perm).length_eq;simpa using this
theorem Rn.psize(r:Rn κ ky a0 st rs qF):(pendingOf st).size=rs.length:=by rw[<-r.pend.len,Array.length_toList]
theorem Rn.merge(C:Cmp M A E s κ O ky mem)(r:Rn κ ky a0 st rs qF)(hm:∀x∈a0.toList,mem x)(hi:i+1<rs.length){R:Bool->SortSt->Prop}
  (h:∀st' d,Rn κ ky a0 st' d qF->d.flatten.length=rs.flatten.length->d.length+1=rs.length->R true st'):wpS M A E s (mergeAt' i) R st:=by
 obtain⟨c,X,Y,e,u,q,f,p,o,B,z,y,w,v⟩:=r.pend.split i (by rw[r.pend.len];exact hi)
 rw[Nat.zero_add,Array.getElem?_toList]at p o
 have a:(arrOf st).toList=c.flatten++X++Y++(e.flatten++qF):=by rw[r.eq,f];simp[append_assoc]
 refine XN C r.kind r.failed (r.mems hm) a rfl rfl rfl B z y w p o rfl λZ qG g j sz n=>?_
 have l:Z.length=X.length+Y.length:=by rw[j.length_eq,length_append]
 refine h _ (c++Z::e) ⟨rfl,rfl,?_,?_,?_⟩ ?_ ?_
 ·show qG.Perm a0
  refine Array.Perm.trans (Array.perm_iff_toList_perm.mpr ?_) r.perm
  rw[n,a]
  refine List.Perm.append_right _ ?_
  rw[append_assoc]
  exact j.append_left _
 ·show qG.toList=_
  rw[n];simp[append_assoc]
 ·show BN ky (((pendingOf st).setIfInBounds i (c.flatten.length,X.length+Y.length,u)).eraseIdxIfInBounds (i+1)).toList _ 0
  have:=v Z sz l
  rw[Nat.zero_add]at this
  rw[Array.eraseIdxIfInBounds_eq]
  split
  ·rw[Array.toList_eraseIdx,Array.toList_setIfInBounds];exact this
  ·rename_i hn
   rw[Array.size_setIfInBounds,r.psize]at hn
   lia
 ·rw[f];simp[l];lia
 ·rw[f];simp;lia
theorem XT(C:Cmp M A E s κ O ky mem){R:Unit->SortSt->Prop}(hk:kindOf st=κ)(hf:failedOf st=none)(hp:pendingOf st=#[])(Y:∀x∈(arrOf st).toList,mem x)
  (h:∀st',(arrOf st').Perm (arrOf st)->failedOf st'=none->Ai ky (arrOf st').toList->R () st'):wpS M A E s sortRuns' R st:=by
 have r0:Rn κ ky (arrOf st) st [] (arrOf st).toList:=⟨hk,hf,Array.Perm.refl _,rfl,by rw[hp];trivial⟩
 refine wpS_bind (wpS_get ?_)
 refine wpS_bind (wpS_mono (wpS_forRange (I:=λx c st'=>∃rs qF,c=(none,rs.flatten.length)/\Rn κ ky (arrOf st) st' rs qF/\(x<=rs.flatten.length\/(arrOf st).size<=rs.flatten.length))
  (Q:=λc st'=>∃rs qF,c=(none,rs.flatten.length)/\Rn κ ky (arrOf st) st' rs qF/\(arrOf st).size<=rs.flatten.length) ?step ?G ⟨[],_,rfl,r0,.inl (Nat.zero_le _)⟩) ?L)
 case G =>
  rintro c st' ⟨rs,qF,rfl,r,B⟩
  exact⟨rs,qF,rfl,r,B.elim (λB=>Nat.le_trans (Nat.le_max_right _ _) B) id⟩
 case L =>
  rintro c st' ⟨rs,qF,rfl,r,B⟩
  have hl:qF=[]:=by
   have:=congrArg length r.eq
   rw[Array.length_toList,r.size,length_append]at this
   exact eq_nil_of_length_eq_zero (by lia)
  subst hl
  have a7:=r.pend.few
  have a3:rs.flatten.length=(arrOf st).size:=by
   have:=congrArg length r.eq
   rw[Array.length_toList,r.size,append_nil]at this
   exact this.symm
  refine wpS_bind (wpS_mono (wpS_forRange (I:=λy c st'=>∃rs,c=(none,())/\Rn κ ky (arrOf st) st' rs []/\(rs.length<=(arrOf st).size - y\/rs.length<=1)) (Q:=λc st'=>∃rs,c=(none,())/\Rn κ ky (arrOf st) st' rs []/\rs.length<=1) ?st ?fi ⟨rs,rfl,r,.inl (by lia)⟩) ?po)
  case po =>
   rintro c st' ⟨rs,rfl,r,h1⟩
   refine wpS_pure (h st' r.perm r.failed ?_)
   rw[r.eq,append_nil]
   have v:=r.pend
   generalize (pendingOf st').toList=pl at v
   match rs,h1,pl,v with
   |[],_,_,_=>exact List.Pairwise.nil
   |[x],_,[q],v=>simpa using v.2.2.2.1
  case fi =>
   rintro c st' ⟨rs,rfl,r,h1⟩
   refine⟨rs,rfl,r,?_⟩
   rcases h1 with h1|h1
   ·have:max 0 (arrOf st).size=(arrOf st).size:=Nat.max_eq_right (Nat.zero_le _)
    have h1:rs.length<=(arrOf st).size - max 0 (arrOf st).size:=h1
    lia
   ·exact h1
  case st =>
   rintro y c st' _ hy ⟨rs,rfl,r,h1⟩
   refine wpS_bind (wpS_get ?_)
   have U:=r.psize
   refine Ae (λu=>wpS_pure ⟨rs,rfl,r,?_⟩) (λu=>?_)
   ·have u:(pendingOf st').size<=1:=u
    lia
   ·have u:¬(pendingOf st').size<=1:=u
    have G:∀i,i+1<rs.length->wpS M A E s (mergeAt' i) (λb p=>b=true/\∃o,Rn κ ky (arrOf st) p o []/\o.length+1=rs.length) st':=λi hi=>r.merge C Y hi λp o r' _ h2=>⟨rfl,o,r',h2⟩
    refine wpS_bind (wpS_mono (G _ ?_) ?_)
    ·have q1:(pendingOf st').size - 2 - 1+1<rs.length:=by lia
     have q2:(pendingOf st').size - 2+1<rs.length:=by lia
     repeat' split
     all_goals first|exact q1|exact q2
    ·rintro b p ⟨rfl,o,r',h2⟩
     refine Ae (λz=>by cases z) (λ_=>wpS_pure ⟨o,rfl,r',?_⟩)
     lia
 case step =>
  rintro x c st' _ B ⟨rs,qF,rfl,r,a8⟩
  have a3:rs.flatten.length+qF.length=(arrOf st).size:=by
   have:=congrArg length r.eq
   rw[Array.length_toList,r.size,length_append]at this
   exact this.symm
  have B:x<(arrOf st).size:=B
  refine Ae (λu=>wpS_pure ⟨rs,qF,rfl,r,u⟩) (λu=>?_)
  have u:¬rs.flatten.length≥(arrOf st).size:=u
  have after:∀(n:Nat) (qG:Array Keyed),From rs.flatten.length (arrOf st') qG->1<=n->rs.flatten.length+n<=(arrOf st).size->Ci ky rs.flatten.length n qG ->
    Rn κ ky (arrOf st) (setArr st' qG) rs (qG.toList.drop rs.flatten.length)/\Ai ky ((qG.toList.drop rs.flatten.length).take n)/\qG.size=(arrOf st).size:=λn qG w n1 n2 hu=>by
   have H:qG.size=(arrOf st).size:=by rw[w.size,r.size]
   have a0:qG.toList.take rs.flatten.length=rs.flatten:=by
    have e1:qG.toList.take rs.flatten.length=(arrOf st').toList.take rs.flatten.length:=by
     apply ext_getElem?
     intro i
     rw[getElem?_take,getElem?_take]
     split
     ·rw[Array.getElem?_toList,Array.getElem?_toList];exact w.low i ‹_›
     ·rfl
    rw[e1,r.eq,take_left]
   refine⟨⟨r.kind,r.failed,w.perm.trans r.perm,?_,r.pend⟩,hu.srt (by lia),H⟩
   show qG.toList=_
   have:=(take_append_drop rs.flatten.length qG.toList).symm
   rw[a0]at this
   exact this
  refine wpS_bind (XO C r.kind (r.mems Y) (by show 1<=(arrOf st).size - rs.flatten.length;lia) (by rw[r.size];show rs.flatten.length+((arrOf st).size - rs.flatten.length)<=_;lia) λm qG w m1 m2 hu=>?_)
  have m2:m<=(arrOf st).size - rs.flatten.length:=m2
  refine Ae (λD=>?_) (λD=>?_)
  ·have D:m<minRun' (arrOf st).size (arrOf st).size 0:=D
   refine wpS_bind (wpS_lift (wpAny_rule ⟨rfl,?_⟩))
   refine wpS_bind (XS (st:=setArr st' qG) (lo:=rs.flatten.length) (n:=(min ((arrOf st).size - rs.flatten.length) (minRun' (arrOf st).size (arrOf st).size 0))) (ok:=m) C r.kind (w.mems (r.mems Y)) (by lia) (by show _<=qG.size;rw[w.size,r.size];lia) hu λarr2 a6 a2=>?_)
   have a5:From rs.flatten.length (arrOf st') arr2:=w.trans a6
   refine Ae (λz=>by cases z) (λ_=>?_)
   obtain⟨J,s1,H⟩:=after (min ((arrOf st).size - rs.flatten.length) (minRun' (arrOf st).size (arrOf st).size 0)) arr2 a5 (by lia) (by lia) a2
   have T:∀(d:SortSt) (e:List (List Keyed)),Rn κ ky (arrOf st) d e (arr2.toList.drop rs.flatten.length)->e.flatten.length=rs.flatten.length->∃j l,((none:Option Unit),rs.flatten.length+(min ((arrOf st).size - rs.flatten.length) (minRun' (arrOf st).size (arrOf st).size 0)))=(none,j.flatten.length)/\Rn κ ky (arrOf st) (setPending d ((pendingOf d).push (rs.flatten.length,(min ((arrOf st).size - rs.flatten.length) (minRun' (arrOf st).size (arrOf st).size 0)),0))) j l/\(x+1<=j.flatten.length\/(arrOf st).size<=j.flatten.length):=λd e g l2=>by
    have lt:((arr2.toList.drop rs.flatten.length).take (min ((arrOf st).size - rs.flatten.length) (minRun' (arrOf st).size (arrOf st).size 0))).length=(min ((arrOf st).size - rs.flatten.length) (minRun' (arrOf st).size (arrOf st).size 0)):=by have:=Array.length_toList (xs:=arr2);rw[length_take,length_drop];lia
    have N:(e++[(arr2.toList.drop rs.flatten.length).take (min ((arrOf st).size - rs.flatten.length) (minRun' (arrOf st).size (arrOf st).size 0))]).flatten.length=rs.flatten.length+(min ((arrOf st).size - rs.flatten.length) (minRun' (arrOf st).size (arrOf st).size 0)):=by
     rw[flatten_append,length_append,l2]
     simp only[flatten_cons,flatten_nil,append_nil,lt]
    refine⟨e++[(arr2.toList.drop rs.flatten.length).take (min ((arrOf st).size - rs.flatten.length) (minRun' (arrOf st).size (arrOf st).size 0))],(arr2.toList.drop rs.flatten.length).drop (min ((arrOf st).size - rs.flatten.length) (minRun' (arrOf st).size (arrOf st).size 0)),by rw[N],⟨g.kind,g.failed,g.perm,?_,?_⟩,?_⟩
    ·show(arrOf d).toList=_
     rw[g.eq]
     simp only[flatten_append,flatten_cons,flatten_nil,append_nil,append_assoc,take_append_drop]
    ·show BN ky ((pendingOf d).push (rs.flatten.length,(min ((arrOf st).size - rs.flatten.length) (minRun' (arrOf st).size (arrOf st).size 0)),0)).toList _ 0
     rw[Array.toList_push]
     exact g.pend.snoc (by rw[Nat.zero_add,l2]) (by rw[lt]) (by rw[lt];lia) s1
    ·rw[N];lia
   refine wpS_bind (wpS_get ?_)
   cases hb:(pendingOf (setArr st' arr2)).back? with
   |none=>exact wpS_bind (wpS_modify (wpS_pure (T (setArr st' arr2) rs J rfl)))
   |some q =>
    obtain⟨q1,q2,q3⟩:=q
    refine wpS_bind (wpS_mono (wpS_forRange (I:=λ_ c d=>∃e,c=(none,())/\Rn κ ky (arrOf st) d e (arr2.toList.drop rs.flatten.length)/\e.flatten.length=rs.flatten.length) (Q:=λc d=>∃e,c=(none,())/\Rn κ ky (arrOf st) d e (arr2.toList.drop rs.flatten.length)/\e.flatten.length=rs.flatten.length) ?a ?b ⟨rs,rfl,J,rfl⟩) ?c)
    case b=>intro c d hh;exact hh
    case c =>
     rintro c d ⟨e,rfl,g,l2⟩
     refine wpS_bind (wpS_modify (wpS_bind (wpS_modify (wpS_pure (T _ e ⟨g.kind,g.failed,g.perm,g.eq,?_⟩ l2)))))
     show BN ky ((pendingOf d).modify ((pendingOf d).size - 1) λq=>(q.1,q.2.1,_)).toList e 0
     rw[Array.toList_modify]
     exact g.pend.pow (f:=λ_=>_)
    case a =>
     rintro y c d _ _ ⟨e,rfl,g,l2⟩
     refine wpS_bind (wpS_get ?_)
     have U:=g.psize
     dsimp only
     cases he:(if(pendingOf d).size > 1 then(pendingOf d)[(pendingOf d).size - 2]? else none)with
     |none=>exact wpS_pure ⟨e,rfl,g,l2⟩
     |some q =>
      have a4:(pendingOf d).size > 1:=by
       by_cases z:(pendingOf d).size > 1
       ·exact z
       ·rw[if_neg z]at he;cases he
      exact Ae (λ_=>wpS_pure ⟨e,rfl,g,l2⟩) (λ_=>wpS_bind (g.merge C Y (i:=(pendingOf d).size - 2) (by lia) λa1 j r3 l3 _=>Ae (λz=>by cases z) (λ_=>wpS_pure ⟨j,rfl,r3,by rw[l3,l2]⟩)))
  ·obtain⟨J,s1,H⟩:=after m qG w m1 (by lia) hu
   have T:∀(d:SortSt) (e:List (List Keyed)),Rn κ ky (arrOf st) d e (qG.toList.drop rs.flatten.length)->e.flatten.length=rs.flatten.length->∃j l,((none:Option Unit),rs.flatten.length+m)=(none,j.flatten.length)/\Rn κ ky (arrOf st) (setPending d ((pendingOf d).push (rs.flatten.length,m,0))) j l/\(x+1<=j.flatten.length\/(arrOf st).size<=j.flatten.length):=λd e g l2=>by
    have lt:((qG.toList.drop rs.flatten.length).take m).length=m:=by have:=Array.length_toList (xs:=qG);rw[length_take,length_drop];lia
    have N:(e++[(qG.toList.drop rs.flatten.length).take m]).flatten.length=rs.flatten.length+m:=by
     rw[flatten_append,length_append,l2]
     simp only[flatten_cons,flatten_nil,append_nil,lt]
    refine⟨e++[(qG.toList.drop rs.flatten.length).take m],(qG.toList.drop rs.flatten.length).drop m,by rw[N],⟨g.kind,g.failed,g.perm,?_,?_⟩,?_⟩
    ·show(arrOf d).toList=_
     rw[g.eq]
     simp only[flatten_append,flatten_cons,flatten_nil,append_nil,append_assoc,take_append_drop]
    ·show BN ky ((pendingOf d).push (rs.flatten.length,m,0)).toList _ 0
     rw[Array.toList_push]
     exact g.pend.snoc (by rw[Nat.zero_add,l2]) (by rw[lt]) (by rw[lt];lia) s1
    ·rw[N];lia
   refine wpS_bind (wpS_get ?_)
   cases hb:(pendingOf (setArr st' qG)).back? with
   |none=>exact wpS_bind (wpS_modify (wpS_pure (T (setArr st' qG) rs J rfl)))
   |some q =>
    obtain⟨q1,q2,q3⟩:=q
    refine wpS_bind (wpS_mono (wpS_forRange (I:=λ_ c d=>∃e,c=(none,())/\Rn κ ky (arrOf st) d e (qG.toList.drop rs.flatten.length)/\e.flatten.length=rs.flatten.length) (Q:=λc d=>∃e,c=(none,())/\Rn κ ky (arrOf st) d e (qG.toList.drop rs.flatten.length)/\e.flatten.length=rs.flatten.length) ?a ?b ⟨rs,rfl,J,rfl⟩) ?c)
    case b=>intro c d hh;exact hh
    case c =>
     rintro c d ⟨e,rfl,g,l2⟩
     refine wpS_bind (wpS_modify (wpS_bind (wpS_modify (wpS_pure (T _ e ⟨g.kind,g.failed,g.perm,g.eq,?_⟩ l2)))))
     show BN ky ((pendingOf d).modify ((pendingOf d).size - 1) λq=>(q.1,q.2.1,_)).toList e 0
     rw[Array.toList_modify]
     exact g.pend.pow (f:=λ_=>_)
    case a =>
     rintro y c d _ _ ⟨e,rfl,g,l2⟩
     refine wpS_bind (wpS_get ?_)
     have U:=g.psize
     dsimp only
     cases he:(if(pendingOf d).size > 1 then(pendingOf d)[(pendingOf d).size - 2]? else none)with
     |none=>exact wpS_pure ⟨e,rfl,g,l2⟩
     |some q =>
      have a4:(pendingOf d).size > 1:=by
       by_cases z:(pendingOf d).size > 1
       ·exact z
       ·rw[if_neg z]at he;cases he
      exact Ae (λ_=>wpS_pure ⟨e,rfl,g,l2⟩) (λ_=>wpS_bind (g.merge C Y (i:=(pendingOf d).size - 2) (by lia) λa1 j r3 l3 _=>Ae (λz=>by cases z) (λ_=>wpS_pure ⟨j,rfl,r3,by rw[l3,l2]⟩)))
end
end L2
namespace L2
open PySem PySem.Spec PyProof.Rows PySem.W
section
variable{κ:SortKind}{ky:Keyed->O.α}
def Ej(h:Heap)(a:Addr)(us:List Value):Heap:=((h.update a (Obj.mapSeq λ_=>#[])).push (seqObj "tuple" us.toArray 0)).push (seqObj "list" #[] 0)
theorem QZ{b:Addr}{o:Obj}(d:b≠a)(e:h.get? b=some o):(Ej h a us).get? b=some o:=by
 have c:=Heap.lt_size e
 refine(Heap.get?_push_ne _ b _ (by rw[size_push',Heap.size_update];exact Nat.ne_of_lt (Nat.lt_succ_of_lt c))).trans ((Heap.get?_push_ne _ b _ (by rw[Heap.size_update];exact Nat.ne_of_lt c)).trans ?_)
 rw[Heap.get?_update_ne _ _ _ _ d];exact e
theorem La{F:PySem.Fin->Shared->Prop}(i:s.heap.get? a=some (seqObj "list" us.toArray n))(h2:¬us.length<2)(hz:us.length<=16777216)
  (u:wpAny (model prog w) A (keyKind' us.toArray) (λκ' s'=>κ'=κ/\s'={ s with heap:=Ej s.heap a us }) E { s with heap:=Ej s.heap a us })
  (v:Cmp (model prog w) A E { s with heap:=Ej s.heap a us } κ O ky (·∈(pairsOf us).toList))
  (h:∀st:Array Keyed,st.Perm (pairsOf us)->Ai ky st.toList->F (.done (.ret .none)) { s with heap:=sortedHeap s.heap a us (st.map (·.2)) }) :
  wpAny (model prog w) A (Builtin.«list.sort» ⟨[.ref a],[]⟩) F E s:=by
 have o:=Heap.lt_size i
 have d:us.toArray.size<=sizeLine:=by rw[size_toArray,sizeLine_eq];exact hz
 rw[list_sort_plain]
 refine wB (listItems_at i rfl (wB (listUpdate_at i rfl ?_ d (Nat.zero_le _))))
 have g:=get?_update_seq i (λ_=>#[])
 refine wB (seqEpoch_at g rfl (wB (wpAny_newTuple (wB (wpAny_newList (wpAny_holding ?_) (Nat.zero_le _))) d)))
 have f:(Ej s.heap a us).get? a=_ :=
  (Heap.get?_push_ne _ a _ (by rw[size_push',Heap.size_update];exact Nat.ne_of_lt (Nat.lt_succ_of_lt o))).trans ((Heap.get?_push_ne _ a _ (by rw[Heap.size_update];exact Nat.ne_of_lt o)).trans g)
 have hz:¬us.toArray.size<2:=by rw[size_toArray];exact h2
 dsimp only
 rw[if_neg hz,if_neg hz]
 refine wB (wpAny_mono u ?_ λ_ _ e=>e)
 rintro κ' s' ⟨rfl,rfl⟩
 have run:=XT (st:=SortSt.mk' κ' (us.toArray.zip us.toArray) #[] 7 none) (R:=λ_ c=>(arrOf c).Perm (pairsOf us)/\failedOf c=none/\Ai ky (arrOf c).toList) v rfl rfl rfl (λx p=>p) λc B z y=>⟨B,z,y⟩
 refine wB (wpAny_mono run ?_ λ_ _ e=>e)
 rintro⟨⟨⟩,c⟩ s' ⟨rfl,l,r,q⟩
 dsimp only
 have j:((arrOf c).map (·.2)).size<=sizeLine:=by
  rw[Array.size_map]
  have:=(Array.perm_iff_toList_perm.mp l).length_eq
  rw[Array.length_toList,Array.length_toList,pairsOf_size]at this
  rw[this,sizeLine_eq];assumption
 refine wB (seqEpoch_at f rfl (wB (listUpdate_at f rfl ?_ (Nat.zero_le _) (Nat.le_succ_of_le j))))
 rw[r]
 simp only[bne_self_eq_false,Bool.false_eq_true,if_false]
 exact wP (h _ l q)
theorem Lb{l:Addr}(i:s.heap.IsList l us.toArray)(h2:¬us.length<2)(hz:us.length<=16777216)
  (j:∀(h:Around) (h1:Heap),h.units<=A.units+2->(∀b o,s.heap.get? b=some o->h1.get? b=some o)->wpAny (model prog w) h (keyKind' us.toArray) (λκ' s'=>κ'=κ/\s'={ s with heap:=h1 }) E { s with heap:=h1 })
  (n:∀(h:Around) (h1:Heap),h.units<=A.units+2->(∀b o,s.heap.get? b=some o->h1.get? b=some o)->Cmp (model prog w) h E { s with heap:=h1 } κ O ky (·∈(pairsOf us).toList))
  (q:∀st:Array Keyed,st.Perm (pairsOf us)->Ai ky st.toList->Q (.ref (s.heap.objs.size+1)) { s with heap:=sortedAll s.heap us (st.map (·.2)) }) :
  wpAny (model prog w) A (call (.builtin "sorted") [.ref l]) Q E s:=by
 have g:us.length<=sizeLine:=by rw[sizeLine_eq];exact hz
 refine Calls.call_function_entry kind_sorted plain_sorted entry_sorted (args_sorted1 _) ?_
 unfold Builtin.«sorted»
 refine wB (m:=checkCount "sorted" 1 1 _) (wP (wB (collect_list i (wB (wpAny_newList ?_ g)) g)))
 have c:((s.heap.push (seqObj "list" #[] 0)).update s.heap.objs.size (Obj.mapSeq (·++us.toArray))).objs.size=s.heap.objs.size+1:=by
  rw[Heap.size_update,size_push']
 have d:=Heap.get?_push_size ((s.heap.push (seqObj "list" #[] 0)).update s.heap.objs.size (Obj.mapSeq (·++us.toArray))) (o:=seqObj "list" us.toArray 0) rfl
 rw[c]at d
 show wpAny _ _ _ _ _ { s with heap:=((s.heap.push (seqObj "list" #[] 0)).update s.heap.objs.size (Obj.mapSeq (·++us.toArray))).push (seqObj "list" us.toArray 0) }
 rw[c]
 have keep:∀b o,s.heap.get? b=some o->(((s.heap.push (seqObj "list" #[] 0)).update s.heap.objs.size (Obj.mapSeq (·++us.toArray))).push (seqObj "list" us.toArray 0)).get? b=some o:=λb o e=>by
  have f:=Heap.lt_size e
  refine(Heap.get?_push_ne _ b _ (by rw[c];exact Nat.ne_of_lt (Nat.lt_succ_of_lt f))).trans ?_
  rw[Heap.get?_update_ne _ _ _ _ (Nat.ne_of_lt f)]
  exact(Heap.get?_push_ne _ b _ (Nat.ne_of_lt f)).trans e
 have a:∀b o,s.heap.get? b=some o->(Ej (((s.heap.push (seqObj "list" #[] 0)).update s.heap.objs.size (Obj.mapSeq (·++us.toArray))).push (seqObj "list" us.toArray 0)) (s.heap.objs.size+1) us).get? b=some o:=λb o e=>QZ (Nat.ne_of_lt (Nat.lt_succ_of_lt (Heap.lt_size e))) (keep b o e)
 exact wB (wpAny_holding (wpAny_call_entry slot_list_sort ⟨_,d,rfl⟩ entry_list_sort (La (κ:=κ) (ky:=ky) (s:={ s with heap:=((s.heap.push (seqObj "list" #[] 0)).update s.heap.objs.size (Obj.mapSeq (·++us.toArray))).push (seqObj "list" us.toArray 0) }) d h2 hz (j _ _ (by simp) a) (n _ _ (by simp) a) λst r p=>⟨_,rfl,wP ⟨_,rfl,q st r p⟩⟩) (args_list_sort _)))
end
def Cj(ps:List (Addr×List Int)):Keyed->List Int:=λk=>match k.1 with
 |.ref x=>((ps.find? λq=>decide (q.1=x)).map (·.2)).getD []
 |_=>[]
theorem Ek{ps:List (Addr×List Int)}(d:∀q∈ps,∀q'∈ps,q.1=q'.1->q.2=q'.2){q:Addr×List Int}(c:q∈ps)(v:Value):Cj ps (.ref q.1,v)=q.2:=by
 unfold Cj
 cases a:ps.find? λq'=>decide (q'.1=q.1)with
 |none=>exact absurd (rfl:q.1=q.1) (by simpa using find?_eq_none.mp a q c)
 |some p =>
  have h1:=find?_some a
  have h2:=mem_of_find?_eq_some a
  show((ps.find? λq'=>decide (q'.1=q.1)).map (·.2)).getD []=q.2
  rw[a]
  exact d p h2 q c (by simpa using h1)
abbrev rv(ps:List (Addr×List Int)):List Value:=ps.map λq=>Value.ref q.1
theorem Iy(ps:List (Addr×List Int)):(pairsOf (rv ps)).toList=ps.map λq=>((Value.ref q.1,Value.ref q.1):Keyed):=by
 show((rv ps).toArray.zip (rv ps).toArray).toList=_
 rw[Array.toList_zip]
 show(rv ps).zip (rv ps)=_
 induction ps with
 |nil=>rfl
 |cons q ps a=>simp only[rv,map_cons,zip_cons_cons]at a ⊢;rw[a]
def G4(h:Heap)(ps:List (Addr×List Int)):Prop:=∀q∈ps,∃us,IntsAre us q.2/\∃o n,h.get? q.1=some o/\o.cls=.type "tuple"/\o.data=.seq us.toArray n
theorem Lc{κ:SortKind}{x y:Keyed}{b:Bool}{R:Option Bool->SortSt->Prop}(a:kindOf st=κ)(h:R (some b) st)(q:∀(c:VS) (Q:Bool->Shared->Prop),Q b s->wpAny (model prog w) A (keyLt' κ x.1 y.1) Q c s):wpS (model prog w) A E s (lt' x y) R st:=by
 rw[lt'_eq]
 refine wpS_bind (wpS_get ?_)
 rw[a]
 exact wpS_bind (wpS_lift (wpAny_attempt (q _ _ ⟨rfl,wpS_pure h⟩)))
theorem Qa{ps:List (Addr×List Int)}(f:G4 s.heap ps)(i:∀q∈ps,∀q'∈ps,q.1=q'.1->q.2=q'.2)(g:∀q∈ps,q.2.length=n):Cmp (model prog w) A E s (tuples' true) DH (Cj ps) (·∈(pairsOf (rv ps)).toList) where
 ask:=λx y e d R st o h=>by
  rw[Iy]at e d
  obtain⟨p,c,rfl⟩:=mem_map.mp e
  obtain⟨q,a,rfl⟩:=mem_map.mp d
  rw[Ek i c,Ek i a]at h
  refine Lc o h λM Q r=>?_
  obtain⟨us,l,D,H,B,L,v⟩:=f p c
  obtain⟨vs,j,C,G,z,J,u⟩:=f q a
  have l1:=l.length
  have l2:=j.length
  have l3:=g p c
  have I:=g q a
  refine kat_lt B v z u ?_
  rw[show decide (us.toArray.size<vs.toArray.size)=false by rw[size_toArray,size_toArray];exact decide_eq_false (by lia)]
  exact N2 0 l j (by lia) r
theorem Qb{ps:List (Addr×List Int)}(e:G4 s.heap ps)(a:0<n)(g:∀q∈ps,q.2.length=n)(h2:¬ps.length<2):wpAny (model prog w) A (keyKind' (rv ps).toArray) (λκ' s'=>κ'=tuples' true/\s'=s) E s:=by
 obtain⟨fs,c,j,h⟩:=PQ e (λq f=>by rw[g q f];exact a)
 refine kat_kind (T:=.type "int") c (by lia) (λv d=>?_) rfl ⟨rfl,rfl⟩
 obtain⟨i,t,rfl⟩:=h v d
 exact WO _ _ i t
theorem XU{x y:Addr}{d c:Obj}{k:Nat}(D:A.units<cLine)(j:s.heap.get? x=some d)(r:d.cls=.type "tuple")(dx:d.data=.seq #[] n)(C:s.heap.get? y=some c)(q:c.cls=.type "tuple")(p:c.data=.seq #[] k)
  {f:VS} {Q:Bool->Shared->Prop} (h:Q false s):wpAny (model prog w) A (keyLt' oneType' (.ref x) (.ref y)) Q f s:=by
 rw[keyLt'_oneType,oneLt'_eq]
 simp only[if_true]
 refine wB (wpAny_cRoomFor D ?_)
 obtain⟨o,B,z,i⟩:=d
 obtain⟨l,pd,u,g⟩:=c
 simp only at r dx q p
 subst r;subst dx;subst q;subst p
 have a:wpAny (model prog w) A (call (.builtin "tuple.__lt__") [.ref x,.ref y]) (λv s'=>v=.bool false/\s'=s) f s :=
  wpAny_call (codeAny_call_builtin (R:=wants (λv s'=>v=.bool false/\s'=s) f) PySem.F.slot_tuple_lt.plain PySem.F.entry_tuple_lt (PySem.F.slot_tuple_lt.check _ _ _ _ _ _ _ _ ⟨_,j,rfl⟩ (PySem.F.args_tuple_lt_2 _ _)
   (HT.tuple_lt_ints x y #[] #[] n k B pd i g [] [] .nil .nil prog w A (wants (λv s'=>v=.bool false/\s'=s) f) s ⟨j,C,rfl,rfl⟩)))
 refine wB (wpAny_callSpecialIfBound?_slot ⟨_,j,rfl⟩ PySem.F.slot_tuple_lt (wpAny_mono a ?_ λ_ _ e=>e))
 rintro v s' ⟨rfl,rfl⟩
 exact wpAny_truthy_bool h
theorem Qc{ps:List (Addr×List Int)}(j:A.units<cLine)(g:G4 s.heap ps)(i:∀q∈ps,∀q'∈ps,q.1=q'.1->q.2=q'.2)(d:∀q∈ps,q.2.length=0):Cmp (model prog w) A E s oneType' DH (Cj ps) (·∈(pairsOf (rv ps)).toList) where
 ask:=λx y f e R st l h=>by
  rw[Iy]at f e
  obtain⟨p,c,rfl⟩:=mem_map.mp f
  obtain⟨q,a,rfl⟩:=mem_map.mp e
  rw[Ek i c,Ek i a,eq_nil_of_length_eq_zero (d p c),eq_nil_of_length_eq_zero (d q a)]at h
  refine Lc l h λN Q n=>?_
  obtain⟨us,H,J,M,D,B,v⟩:=g p c
  obtain⟨vs,G,I,L,C,z,u⟩:=g q a
  have l1:=H.length
  have l2:=G.length
  have r:us=[]:=eq_nil_of_length_eq_zero (by rw[l1,d p c])
  have o:vs=[]:=eq_nil_of_length_eq_zero (by rw[l2,d q a])
  subst r;subst o
  exact XU j D B v C z u n
theorem Qd{ps:List (Addr×List Int)}(o:G4 s.heap ps)(C:∀q∈ps,q.2.length=0)(h2:¬ps.length<2):wpAny (model prog w) A (keyKind' (rv ps).toArray) (λκ' s'=>κ'=oneType'/\s'=s) E s:=by
 have h:∀v∈rv ps,∀{l:VS},l (.type "tuple") s->wpAny (model prog w) A (typeOf v) l E s:=λv g l i=>by
  obtain⟨q,c,rfl⟩:=mem_map.mp g
  obtain⟨us,y,z,B,n,u,p⟩:=o q c
  exact wpAny_typeOf_ref n (by rw[u];exact i)
 obtain⟨f,d,qF,e⟩:∃f d qF,rv ps=f::d::qF:=by
  match ps,h2 with
  |[],h2=>simp at h2
  |[_],h2=>simp at h2
  |a::b::r,_=>exact⟨_,_,_,rfl⟩
 rw[kat_kind_eq,mapM_toArray,map_eq_pure_bind]
 refine wB (wB (kas_mapM (r:=none) _ (λv g l i=>?_) (wP ?_)))
 ·rw[kas_first_eq]
  refine wB (h v g ?_)
  rw[if_neg (by decide)]
  obtain⟨q,c,rfl⟩:=mem_map.mp g
  obtain⟨us,y,z,B,n,u,p⟩:=o q c
  have G:us=[]:=eq_nil_of_length_eq_zero (by rw[y.length,C q c])
  subst G
  exact wB (listItems_at n p (wP i))
 ·rw[e]
  rw[if_neg (by simp),if_neg (by simp)]
  rw[<-e,oneTypeOnly'_eq,mapM_toArray,map_eq_pure_bind]
  refine wB (wB (wB (kas_mapM (r:=.type "tuple") _ (λv g l i=>h v g i) (wP ?_))))
  have D:(map (λ_=>Value.type "tuple") (rv ps)).toArray[0]?=some (.type "tuple"):=by rw[e];simp
  have j:((map (λ_=>Value.type "tuple") (rv ps)).toArray.all λx=>x==Value.type "tuple")=true:=by
   simp only[all_toArray,all_map,all_eq_true]
   intro _ _
   rfl
  rw[D]
  simp only[j,if_true]
  exact wP (wP ⟨rfl,rfl⟩)
theorem G5{ps:List (Addr×List Int)}(n:∀q∈ps,∀q'∈ps,q.1=q'.1->q.2=q'.2){st:Array Keyed}(j:st.Perm (pairsOf (rv ps)))(i:Ai (O:=DH) (Cj ps) st.toList) :
  ∃c:List (Addr×List Int),c.Perm ps/\Bb (c.map (·.2))/\st.map (·.2)=(rv c).toArray:=by
 have d:=Array.perm_iff_toList_perm.mp j
 rw[Iy]at d
 let g:Keyed->Addr×List Int:=λk=>((match k.1 with|.ref x=>x|_=>0),Cj ps k)
 have o:∀q∈ps,g (Value.ref q.1,Value.ref q.1)=q:=λq f=>by
  show(q.1,Cj ps (Value.ref q.1,Value.ref q.1))=q
  rw[Ek n f]
 refine⟨st.toList.map g,?_,?_,?_⟩
 ·have:=d.map g
  rw[map_map]at this
  have e:ps.map (g ∘ λq=>(Value.ref q.1,Value.ref q.1))=ps:=by
   conv=>rhs;rw[<-map_id ps]
   exact map_congr_left λq f=>o q f
  rw[e]at this
  exact this
 ·unfold Bb
  rw[map_map]
  exact List.Pairwise.map _ (λa b h=>h) i
 ·apply Array.ext'
  rw[Array.toList_map]
  show _=(st.toList.map g).map λq=>Value.ref q.1
  rw[map_map]
  refine map_congr_left λk l=>?_
  obtain⟨q,f,rfl⟩:=mem_map.mp (d.mem_iff.mp l)
  rfl
def Qe:List V->Hp->VK->Prop:=λxs H Q=>∃(p:Addr) (ps:List (Addr×List Int)),xs=[.ref p]/\H p=some (.lst (Bx ps))/\(∀q∈ps,H q.1=some (.tup (q.2.map V.int)))/\ps.length<=16777216/\(∃n,∀q∈ps,q.2.length=n) /\
 ∀(l:Addr) (ps':List (Addr×List Int)),H l=none->ps'.Perm ps->Bb (ps'.map (·.2))->Q (.ref l) (AD H l (.lst (Bx ps')))
theorem Qf{a b:List Int}(h:a.map V.int=b.map V.int):a=b:=by
 have:=congrArg (map λp=>match p with|V.int i=>i|_=>0) h
 simpa[map_map,Function.comp_def]using this
theorem Qg{ps:List (Addr×List Int)}(c:∀q∈ps,H q.1=some (.tup (q.2.map V.int))):∀q∈ps,∀q'∈ps,q.1=q'.1->q.2=q'.2:=λq d q' a e=>by
 have h1:=c q d
 have h2:=c q' a
 rw[e,h2]at h1
 injection h1 with h1
 injection h1 with h1
 exact(Qf h1).symm
theorem D8(I:Inv X qA σ H s){ps:List (Addr×List Int)}(e:∀q∈ps,H q.1=some (.tup (q.2.map V.int))){h1:Heap}(k:∀q∈ps,∀o,s.heap.get? q.1=some o->h1.get? q.1=some o):G4 h1 ps:=λq a=>by
 obtain⟨us,c,tt,_⟩:=I.tuple (.of (e q a))
 obtain⟨o,h,g,d,f⟩:=tt
 exact⟨us,E4 c,o,d,k q a o h,g,f⟩
theorem Qh{k:Nat}(D:Room k X.A):BP X (.builtin "sorted") Qe:=by
 intro qA s σ H xs us Q I r h
 obtain⟨p,ps,rfl,f,d,l,⟨n,i⟩,k⟩:=h
 obtain⟨u,rfl,B⟩:=r.one
 cases B
 obtain⟨qH,r,pl,C⟩:=I.list (.of f)
 have g:=K3 r
 subst g
 have c:∀a:List (Addr×List Int),a.Perm ps->Bb (a.map (·.2))->EP X qA σ Q (.ref (s.heap.objs.size+1)) { s with heap:=sortedAll s.heap (rv ps) (rv a).toArray }:=λa h1 h2=>by
  obtain⟨e,E⟩:=sortedAll_at s.heap (rv ps) (rv a).toArray
  refine⟨.ref (s.heap.objs.size+1),_,I.laid (t':=s.toks) (o:=.lst (Bx a)) (λb o q=>sortedAll_old q) (Nat.le_succ _) ⟨?_,_,e,IW a,E⟩,rfl,k _ a (I.hok.fresh (Nat.le_succ _)) h1 h2⟩
  rw[length_map,h1.length_eq,sizeLine_eq];exact l
 by_cases h2:ps.length<2
 ·refine PP pl.isList (by simpa using h2) (c ps (List.Perm.refl _) ?_)
  match ps,h2 with
  |[],_=>exact List.Pairwise.nil
  |[_],_=>exact pairwise_singleton _ _
 ·have j:=Qg d
  have J:=D.un
  rcases Nat.eq_zero_or_pos n with e|n0
  ·subst e
   refine Lb (κ:=oneType') (O:=DH) (ky:=Cj ps) pl.isList (by simpa using h2) (by simpa using l) (λz h1 _ k1=>Qd (s:={ s with heap:=h1 }) (D8 I d λq _ o e=>k1 _ o e) i h2) (λz h1 G k1=>Qc (s:={ s with heap:=h1 }) (by lia) (D8 I d λq _ o e=>k1 _ o e) j i) λst f v=>?_
   obtain⟨a,y,x,w⟩:=G5 j f v
   rw[w]
   exact c a y x
  ·refine Lb (κ:=tuples' true) (O:=DH) (ky:=Cj ps) pl.isList (by simpa using h2) (by simpa using l) (λz h1 _ k1=>Qb (s:={ s with heap:=h1 }) (D8 I d λq _ o e=>k1 _ o e) n0 i h2) (λz h1 G k1=>Qa (s:={ s with heap:=h1 }) (D8 I d λq _ o e=>k1 _ o e) j i) λst f v=>?_
   obtain⟨a,y,x,w⟩:=G5 j f v
   rw[w]
   exact c a y x
def Ld:pC:=p1 λx f K=>∃rs:List (List Int),x=.lst (rs.map AJ)/\rs.length<=16777216/\(∃n,∀r∈rs,r.length=n)/\∀rs':List (List Int),rs'.Perm rs->Bb rs'->K (.lst (rs'.map AJ)) .nw
theorem Qi:CB Qe Ld:=λW ρ σ Hs H Q K xs vs ok st r f q=>by
 unfold Ld p1 at f
 split at f
 ·obtain⟨v,rfl,rv⟩:=r.one
  obtain⟨rs,rfl,s,⟨n,j⟩,o⟩:=f
  obtain⟨p,us,rfl,c,i⟩:=CI ok rv
  obtain⟨ps,rfl,e,h⟩:=LC i
  have u:ps.length=rs.length:=by rw[<-e,length_map]
  refine⟨p,ps,rfl,c,h,by lia,⟨n,λq g=>j _ (by rw[<-e];exact mem_map_of_mem g)⟩,λl a d h1 h2=>q _ _ _ _ (o (a.map (·.2)) (by rw[<-e];exact h1.map _) h2) (Step.new ok.bag d) ?_⟩
  have:=Ib (b:=W.b) (Z:=AC W ρ σ .nw) (H:=H) (ps:=a) λq g=>h q (h1.mem_iff.mp g)
  rw[show(a.map λq=>AJ q.2)=(a.map (·.2)).map AJ by rw[map_map];rfl]at this
  exact Ec ok st (by simp) (by simp) this d
 ·exact f.elim
def Qj:List V->Hp->VK->Prop:=λxs H Q=>∃(p:Addr) (ks:List (List Int)) (vs:List V),xs=[.ref p]/\H p=some (.dT ((ks.map AV).zip vs))/\ks.length=vs.length/\ks.length<=1000000/\(∃n,∀r∈ks,r.length=n) /\
 ∀(l:Addr) (ps':List (Addr×List Int)),H l=none->(∀q∈ps',H q.1=some (.tup (q.2.map V.int)))->(ps'.map (·.2)).Perm ks->Bb (ps'.map (·.2))->Q (.ref l) (AD H l (.lst (Bx ps')))
theorem XV(hc:X.calm=true){k:Nat}(hr:Room k X.A):BP X (.builtin "sorted") Qj:=by
 intro qA s σ H xs us Q I r h
 obtain⟨p,ks,vs,rfl,C,U,a6,⟨n,hn⟩,k⟩:=h
 obtain⟨u,rfl,ru⟩:=r.one
 cases ru
 obtain⟨es,ep,a5,rd,hd,hz,e1,e2,e3⟩:=IZ I.hok C
 rw[map_fst_zip (by rw[length_map,U];exact Nat.le_refl _)]at e1
 obtain⟨ps,a1,a2,a3⟩:=Ph e1
 have v:∀q∈ps,H q.1=some (.tup (q.2.map V.int)):=λq w=>by
  have:=e2 _ (a3 q w)
  rw[LB]at this
  exact this
 have er:(es.toList.map (·.key))=rv ps:=by
  rw[e3]
  have:=congrArg (map Value.ref) a1
  simpa[map_map,Function.comp_def]using this.symm
 have N:ps.length=ks.length:=by rw[<-a2,length_map]
 have a0:es.size=ps.length:=by
  have:=congrArg length er
  simpa using this
 obtain⟨m,hm,_⟩:=I.loc
 refine kdu_sorted (Pf hd) (I.ok.hd hc) (Att.fr_all hm) (SR (g:=Att.noObjs s.heap) (L:=X.env.locals)) rd (by rw[a0,N,sizeLine_eq];lia) λD h' tk J F' N' hD hl hv=>?_
 have ew:J=rv ps:=by
  rw[<-er]
  apply ext_getElem?
  intro j
  by_cases hj:j<J.length
  ·obtain⟨Y,e⟩:=hv j J[j] (by simp[hj])
   rw[getElem?_eq_getElem hj,e,getElem?_map]
   simp[Y]
  ·rw[getElem?_eq_none (by lia),getElem?_eq_none (by simp;lia)]
 subst ew
 have G:∀u,s.heap.get? D≠some u:=λu e=>Nat.lt_irrefl _ (hD (D,u) (Jr (N' _ mem_cons_self).2.1 (Att.noObjs_get _ _) e))
 have E:H D=none:=by
  cases e:H D with
  |none=>rfl
  |some o=>obtain⟨u,e2⟩:=(I.hok D o e).there;exact absurd e2 (G u)
 have f:h'.get? D=some (seqObj "list" (rv ps).toArray 0):=N'.get (a:=D) mem_cons_self
 have a4:X.env.locals≠D:=λz=>(N' _ mem_cons_self).2.1 z.symm
 have B:∀c:List (Addr×List Int),c.Perm ps->Bb (c.map (·.2))->EP X qA σ Q (.ref D) { s with heap:=sortedHeap h' D (rv ps) (rv c).toArray,toks:=tk }:=λc h1 h2=>by
  obtain⟨e,he⟩:=sortedHeap_at (out:=(rv c).toArray) f
  have T:(sortedHeap h' D (rv ps) (rv c).toArray).Ns X.env.locals m:=by
   obtain⟨o',x,y,e',rr⟩:=F'.ns
   exact⟨o',x,y,(sortedHeap_old a4 (Heap.lt_size e')).trans e',rr⟩
  refine⟨.ref D,_,I.laidF (t':=tk) (o:=.lst (Bx c)) hm T (λb u nb eb=>?_) E G ⟨?_,_,e,IW c,he⟩,rfl,k D c E (λq w=>v q (h1.mem_iff.mp w)) (by rw[<-a2];exact h1.map _) h2⟩
  ·have e4:=N'.get (mem_cons_of_mem _ (Jr nb (Att.noObjs_get _ _) eb))
   rw[sortedHeap_old (show b≠D fromλz=>G u (by rw[<-z];exact eb)) (Heap.lt_size e4)]
   exact e4
  ·rw[length_map,h1.length_eq,sizeLine_eq];lia
 have nL:∀b o,H b=some o->b≠X.env.locals:=λb o e z=>by subst z;rw[I.free]at e;cases e
 have d:∀q∈ps,∀o,s.heap.get? q.1=some o->(Ej h' D (rv ps)).get? q.1=some o:=λq w o e =>
  QZ (λz=>G o (by rw[<-z];exact e)) (N'.get (mem_cons_of_mem _ (Jr (nL _ _ (v q w)) (Att.noObjs_get _ _) e)))
 by_cases h2:ps.length<2
 ·refine wpAny_call_entry slot_list_sort ⟨_,f,rfl⟩ entry_list_sort (PN f (by simpa using h2) ⟨_,rfl,B ps (List.Perm.refl _) ?_⟩) (args_list_sort _)
  match ps,h2 with
  |[],_=>exact List.Pairwise.nil
  |[_],_=>exact pairwise_singleton _ _
 ·have l:=Qg v
  have i:∀q∈ps,q.2.length=n:=λq w=>hn _ (by rw[<-a2];exact mem_map_of_mem w)
  have hu:=hr.un
  rcases Nat.eq_zero_or_pos n with e|n0
  ·subst e
   refine wpAny_call_entry slot_list_sort ⟨_,f,rfl⟩ entry_list_sort (La (κ:=oneType') (O:=DH) (ky:=Cj ps) (s:={ s with heap:=h',toks:=tk }) f (by simpa using h2) (by simp;lia) (Qd (s:={ s with heap:=_,toks:=tk }) (D8 I v d) i h2) (Qc (s:={ s with heap:=_,toks:=tk }) (by simp;lia) (D8 I v d) l i) λst C M=>⟨_,rfl,?_⟩) (args_list_sort _)
   obtain⟨c,b1,b2,b3⟩:=G5 l C M
   rw[b3]
   exact B c b1 b2
  ·refine wpAny_call_entry slot_list_sort ⟨_,f,rfl⟩ entry_list_sort (La (κ:=tuples' true) (O:=DH) (ky:=Cj ps) (s:={ s with heap:=h',toks:=tk }) f (by simpa using h2) (by simp;lia) (Qb (s:={ s with heap:=_,toks:=tk }) (D8 I v d) n0 i h2) (Qa (s:={ s with heap:=_,toks:=tk }) (D8 I v d) l i) λst C M=>⟨_,rfl,?_⟩) (args_list_sort _)
   obtain⟨c,b1,b2,b3⟩:=G5 l C M
   rw[b3]
   exact B c b1 b2
def Lf:pC:=p1 λx f K=>∃(ks:List (List Int)) (xs:List P),x=.dT ks xs/\ks.length<=1000000/\(∃n,∀r∈ks,r.length=n)/\∀rs':List (List Int),rs'.Perm ks->Bb rs'->K (.lst (rs'.map AJ)) .nw
theorem XW:CB Qj Lf:=λW ρ σ Hs H Q K xs vs ok st r c q=>by
 unfold Lf p1 at c
 split at c
 ·obtain⟨v,rfl,rv⟩:=r.one
  obtain⟨ks,xs,rfl,g,j,n⟩:=c
  obtain⟨p,us,rfl,_,u,s,o⟩:=Ef ok rv
  refine⟨p,ks,us,rfl,u,by rw[s,o.length],g,j,λl a f h e d=>q _ _ _ _ (n _ e d) (Step.new ok.bag f) ?_⟩
  have i:AB W.b (AC W ρ σ .nw) H ((a.map (·.2)).map AJ) (Bx a):=by
   have:=Ib (b:=W.b) (Z:=AC W ρ σ .nw) (H:=H) (ps:=a) h
   rw[map_map]
   exact this
  exact Ec ok st (by simp) (by simp) i f
 ·exact c.elim
end L2
namespace L2
open PySem
abbrev Tl:=List (List Int×Int)
theorem XX(t:Tl)(r:List Int)(c:Int)(r':List Int):AW (BG t r c) r'=if r'=r then some c else AW t r':=by
 unfold BG
 split
 ·rename_i f
  by_cases e:r'=r
  ·subst e
   rw[if_pos rfl]
   obtain⟨q,hq,e⟩:=mem_map.mp f
   unfold AW
   induction t with
   |nil=>simp at hq
   |cons p t g =>
    rw[map_cons,find?_cons]
    by_cases a:p.1=r'
    ·simp[a]
    ·rw[if_neg a]
     simp only[a,decide_false]
     refine g ?_ ?_
     ·rcases mem_map.mp f with⟨z,hz,h⟩
      rcases mem_cons.mp hz with rfl|hz
      ·exact absurd h a
      ·exact mem_map.mpr ⟨z,hz,h⟩
     ·rcases mem_cons.mp hq with rfl|hq
      ·exact absurd e a
      ·exact hq
  ·rw[if_neg e]
   unfold AW
   clear f
   induction t with
   |nil=>rfl
   |cons p t g =>
    rw[map_cons,find?_cons,find?_cons]
    by_cases a:p.1=r
    ·rw[if_pos a]
     have:¬p.1=r':=λz=>e (by rw[<-z,a])
     simp only[this,decide_false]
     exact g
    ·rw[if_neg a]
     by_cases d:p.1=r'
     ·simp[d]
     ·simp only[d,decide_false];exact g
 ·rename_i f
  unfold AW
  rw[find?_append]
  by_cases e:r'=r
  ·subst e
   rw[if_pos rfl]
   have:t.find? (λq=>decide (q.1=r'))=none:=find?_eq_none.mpr λq hq=>by
    simp only[decide_eq_true_eq]
    exactλz=>f (mem_map.mpr ⟨q,hq,z⟩)
   rw[this];simp
  ·rw[if_neg e]
   have:([(r,c)]:Tl).find? (λq=>decide (q.1=r'))=none:=by
    have:¬r=r':=λz=>e z.symm
    simp[this]
   rw[this];cases t.find? (λq=>decide (q.1=r'))<;>rfl
theorem Iz{t:Tl}(h:r∉t.map (·.1)):AW t r=none:=by
 unfold AW
 rw[find?_eq_none.mpr λq a=>?_]
 ·rfl
 ·simp only[decide_eq_true_eq]
  exactλz=>h (mem_map.mpr ⟨q,a,z⟩)
theorem FU{t:Tl}(nd:(t.map (·.1)).Nodup)(h:q∈t):AW t q.1=some q.2:=by
 induction t with
 |nil=>cases h
 |cons p t a =>
  unfold AW
  rw[find?_cons]
  rw[map_cons,nodup_cons]at nd
  rcases mem_cons.mp h with rfl|h
  ·simp
  ·have:¬p.1=q.1:=λz=>nd.1 (by rw[z];exact mem_map_of_mem h)
   simp only[this,decide_false]
   exact a nd.2 h
theorem Lg(t:Tl)(r:List Int)(c:Int)(r':List Int):r'∈(BG t r c).map (·.1)↔r'=r\/r'∈t.map (·.1):=by
 rw[Py]
 split
 ·rename_i h
  exact⟨.inr,λz=>z.elim (λz=>z▸h) id⟩
 ·rw[mem_append,mem_singleton,or_comm]
def Al(a:Tl)(q:List Int×Int):Tl:=BG a q.1 ((AW a q.1).getD 0+q.2)
def BW(t:Tl):Tl:=t.foldl Al []
def cnt(t:Tl)(r:List Int):Int:=(t.map λq=>if q.1=r then q.2 else 0).sum
theorem JA(a:Tl)(q:List Int×Int)(r:List Int):(AW (Al a q) r).getD 0=(AW a r).getD 0+if q.1=r then q.2 else 0:=by
 unfold Al
 rw[XX]
 by_cases e:r=q.1
 ·subst e;simp
 ·rw[if_neg e,if_neg (λz=>e z.symm)];simp
theorem XY(t:Tl):∀(a:Tl) (r:List Int),(AW (t.foldl Al a) r).getD 0=(AW a r).getD 0+cnt t r:=by
 induction t with
 |nil=>intro a r;simp[cnt]
 |cons q t c =>
  intro a r
  rw[foldl_cons,c,JA]
  unfold cnt
  rw[map_cons,sum_cons]
  lia
theorem FV(t:Tl)(r:List Int):(AW (BW t) r).getD 0=cnt t r:=by
 unfold BW
 rw[XY]
 simp[AW]
theorem XZ(t:Tl):∀(a:Tl) (r:List Int),r∈(t.foldl Al a).map (·.1)↔r∈a.map (·.1)\/r∈t.map (·.1):=by
 induction t with
 |nil=>intro a r;simp
 |cons q t c =>
  intro a r
  rw[foldl_cons,c]
  unfold Al
  rw[Lg,map_cons,mem_cons]
  constructor
  ·rintro((h|h)|h)
   ·exact .inr (.inl h)
   ·exact .inl h
   ·exact .inr (.inr h)
  ·rintro(h|h|h)
   ·exact .inl (.inr h)
   ·exact .inl (.inl h)
   ·exact .inr h
theorem JB(t:Tl)(r:List Int):r∈(BW t).map (·.1)↔r∈t.map (·.1):=by
 unfold BW;rw[XZ];simp
theorem JC(t:Tl):∀a:Tl,(t.foldl Al a).length<=a.length+t.length:=by
 induction t with
 |nil=>intro a;simp
 |cons q t c =>
  intro a
  have h1:=c (Al a q)
  have h2:(Al a q).length<=a.length+1:=Gr _ _ _
  simp only[foldl_cons,length_cons]
  lia
theorem Lh(t:Tl):(BW t).length<=t.length:=by have:=JC t [];simpa[BW]using this
theorem Xa(t:Tl):∀a:Tl,(a.map (·.1)).Nodup->((t.foldl Al a).map (·.1)).Nodup:=by
 induction t with
 |nil=>intro a h;exact h
 |cons q t c=>intro a h;exact c (Al a q) (LI h)
theorem FW(t:Tl):((BW t).map (·.1)).Nodup:=Xa t [] (by simp)
theorem Li{t:Tl}(h:∀q∈t,q.1.length=n):∀q∈BW t,q.1.length=n:=λq a=>by
 have:q.1∈(BW t).map (·.1):=mem_map_of_mem a
 obtain⟨p,c,e⟩:=mem_map.mp ((JB t q.1).mp this)
 rw[<-e];exact h p c
def Dm(t:Tl):Tl:=((CQ (t.map (·.1))).filter λr=>decide (0<(AW t r).getD 0)).map λr=>(r,(AW t r).getD 0)
theorem Xb{t:Tl}(h:∀r,0<=(AW t r).getD 0):Dm t=Ak t:=by
 unfold Dm Ak
 congr 1
 refine filter_congr λr _=>?_
 have:=h r
 by_cases e:(AW t r).getD 0=0
 ·simp[e]
 ·have:0<(AW t r).getD 0:=by lia
  simp[e,this]
theorem Lj{t:Tl}(h:∀q∈t,0<=q.2)(r:List Int):0<=cnt t r:=by
 unfold cnt
 induction t with
 |nil=>simp
 |cons q t a =>
  rw[map_cons,sum_cons]
  have h1:=a λp c=>h p (mem_cons_of_mem _ c)
  have h2:=h q mem_cons_self
  split<;>lia
theorem Xc(t:Tl)(r:List Int):(AW (Ak t) r).getD 0=(AW t r).getD 0:=by
 by_cases h:r∈t.map (·.1)/\(AW t r).getD 0≠0
 ·have i:(r,(AW t r).getD 0)∈Ak t:=by
   unfold Ak
   exact mem_map.mpr ⟨r,mem_filter.mpr ⟨(C5 _).mem_iff.mpr h.1,by simpa using h.2⟩,rfl⟩
  unfold AW at *
  cases c:(Ak t).find? λq=>decide (q.1=r)with
  |none=>have:=find?_eq_none.mp c _ i;simp at this
  |some p =>
   have h1:p.1=r:=by simpa using find?_some c
   have h2:=mem_of_find?_eq_some c
   unfold Ak at h2
   obtain⟨f,_,e⟩:=mem_map.mp h2
   rw[<-e]at h1 ⊢
   simp only at h1
   subst h1
   rfl
 ·have g:r∉(Ak t).map (·.1):=λz=>by
   obtain⟨q,d,e⟩:=mem_map.mp z
   unfold Ak at d
   obtain⟨f,a,j⟩:=mem_map.mp d
   rw[<-j]at e
   simp only at e
   subst e
   obtain⟨h1,h2⟩:=mem_filter.mp a
   exact h ⟨(C5 _).mem_iff.mp h1,by simpa using h2⟩
  rw[Iz g]
  by_cases h1:r∈t.map (·.1)
  ·have:(AW t r).getD 0=0:=Classical.byContradiction λz=>h ⟨h1,z⟩
   rw[this];rfl
  ·rw[Iz h1]
theorem Qk{t:Tl}(h:(t.map (·.1)).Nodup):((Ak t).map (·.1)).Nodup:=by
 unfold Ak
 rw[map_map,show((λq:List Int×Int=>q.1) ∘ λr=>(r,(AW t r).getD 0))=id from rfl,map_id]
 exact((C5 _).nodup_iff.mpr h).filter _
theorem Xd{t:Tl}(h:∀q∈t,q.1.length=n):∀q∈Ak t,q.1.length=n:=λq a=>by
 obtain⟨p,c,e⟩:=mem_map.mp (Ik a)
 rw[<-e];exact h p c
theorem Xe{t:Tl}(h:q∈Ak t):q.2=(AW t q.1).getD 0/\q.2≠0:=by
 unfold Ak at h
 obtain⟨r,a,rfl⟩:=mem_map.mp h
 exact⟨rfl,by simpa using(mem_filter.mp a).2⟩
theorem JD{t:Tl}(h:(t.map (·.1)).Nodup):Gv t=t:=by
 have key:∀(t a:Tl),(∀q∈t,q.1∉a.map (·.1))->(t.map (·.1)).Nodup->t.foldl (λa q=>BG a q.1 q.2) a=a++t:=by
  intro t
  induction t with
  |nil=>intro a _ _;simp
  |cons q t d =>
   intro a h1 h2
   rw[map_cons,nodup_cons]at h2
   rw[foldl_cons,show BG a q.1 q.2=a++[q] by unfold BG;rw[if_neg (h1 q mem_cons_self)]]
   rw[d _ (λp c=>?_) h2.2]
   ·simp
   ·rw[map_append,mem_append]
    rintro(z|z)
    ·exact h1 p (mem_cons_of_mem _ c) z
    ·have:p.1=q.1:=by simpa using z
     exact h2.1 (by rw[<-this];exact mem_map_of_mem c)
 have:=key t [] (by simp) h
 simpa[Gv]using this
def idx(ss:List Str)(z:Str):Nat:=ss.findIdx λx=>decide (x=z)
theorem D9{ss:List Str}{z:Str}(h:z∈ss):ss[idx ss z]?=some z/\∀m,m<idx ss z->ss[m]?≠some z:=by
 have a:idx ss z<ss.length:=findIdx_lt_length_of_exists ⟨z,h,decide_eq_true rfl⟩
 refine⟨?_,λm d e=>?_⟩
 ·have:=findIdx_getElem (p:=λx=>decide (x=z)) (xs:=ss) (w:=a)
  rw[getElem?_eq_getElem a]
  exact congrArg some (of_decide_eq_true this)
 ·have:=not_of_lt_findIdx d
  obtain⟨c,f⟩:=List.getElem?_eq_some_iff.mp e
  simp[f]at this
theorem EA{ss:List Str}{z:Str}(h:z∈ss):idx ss z<ss.length:=(List.getElem?_eq_some_iff.mp (D9 h).1).1
def AM(qK:List Str)(r:List Int)(qC:List Str):List Int:=qC.map λn=>r.getD (idx qK n) 0
def A5(qK:List Str)(t:Tl)(qC:List Str):Tl:=t.map λq=>(AM qK q.1 qC,q.2)
theorem Lk(qK:List Str)(r:List Int)(qC:List Str):(AM qK r qC).length=qC.length:=by unfold AM;rw[length_map]
theorem Ll(qK:List Str)(t:Tl)(qC:List Str):(A5 qK t qC).length=t.length:=by unfold A5;rw[length_map]
theorem Ql(qK:List Str)(t:Tl)(qC:List Str):∀q∈A5 qK t qC,q.1.length=qC.length:=λq a=>by
 obtain⟨p,_,rfl⟩:=mem_map.mp a
 exact Lk _ _ _
theorem Qm{t:Tl}(h:∀q∈t,0<=q.2):∀q∈A5 qK t qC,0<=q.2:=λq a=>by
 obtain⟨p,c,rfl⟩:=mem_map.mp a
 exact h p c
def Am(qK:List Str)(t:Tl)(qC:List Str):Tl:=Ak (BW (A5 qK t qC))
structure Sh(qK:List Str)(t:Tl)(qC:List Str):Prop where
 len:qC.length<=100
 sub:∀n∈qC,n∈qK
 few:t.length<=100000
 rows:∀q∈t,q.1.length=qK.length
structure Tal(n:Nat)(t:Tl):Prop where
 few:t.length<=1000
 rows:∀q∈t,q.1.length=n
 pos:∀q∈t,0<q.2
 nd:(t.map (·.1)).Nodup
theorem Qn{t:Tl}(h:∀q∈t,0<=q.2):Dm (BW (A5 qK t qC))=Am qK t qC :=
 Xb λr=>by rw[FV];exact Lj (Qm h) r
theorem Lm{t:Tl}(d:t.length<=1000)(h1:∀q∈t,q.1.length=n)(h2:(t.map (·.1)).Nodup)(e:∀r,0<=(AW t r).getD 0):Tal n (Ak t) where
 few:=Nat.le_trans (FP t) d
 rows:=Xd h1
 pos:=λq c=>by
  obtain⟨a,b⟩:=Xe c
  have:=e q.1
  lia
 nd:=Qk h2
theorem Ln{t:Tl}(h:∀q∈t,0<=q.2)(a:t.length<=1000):Tal qC.length (Am qK t qC):=by
 refine Lm ?_ (Li (Ql qK t qC)) (FW _) λr=>by rw[FV];exact Lj (Qm h) r
 exact Nat.le_trans (Lh _) (by rw[Ll];exact a)
theorem Lo(qK:List Str)(t:Tl)(qC:List Str):(Am qK t qC).length<=t.length:=Nat.le_trans (FP _) (Nat.le_trans (Lh _) (by rw[Ll];exact Nat.le_refl _))
def Lp(a b:Tl):List (List Int):=(a.map (·.1)++b.map (·.1)).filter λr=>decide ((AW a r).getD 0≠(AW b r).getD 0)
def G6(a b:Tl):Option (List Int):=(CQ (Lp a b)).head?
theorem Xf(a:Tl):G6 a a=none:=by
 unfold G6 Lp
 rw[filter_eq_nil_iff.mpr (by simp)]
 rfl
theorem Xg(b:List Int)(r:List (List Int)):(CQ (b::r)).head?=some (r.foldl (λm x=>if HT.lexLt x m=true then x else m) b):=by
 have key:∀(r:List (List Int)) (b:List Int),(r.foldl (λm x=>if HT.lexLt x m=true then x else m) b)∈b::r/\∀x∈b::r,HT.lexLt x (r.foldl (λm x=>if HT.lexLt x m=true then x else m) b)=false:=by
  intro r
  induction r with
  |nil=>intro b;exact⟨by simp,λx hx=>by rw[mem_singleton.mp hx];exact E8 b⟩
  |cons y r g =>
   intro b
   rw[foldl_cons]
   obtain⟨h1,h2⟩:=g (if HT.lexLt y b=true then y else b)
   refine⟨?_,λx hx=>?_⟩
   ·rcases mem_cons.mp h1 with e|h1
    ·rw[e];split<;>simp
    ·exact mem_cons_of_mem _ (mem_cons_of_mem _ h1)
   ·generalize r.foldl (λm x=>if HT.lexLt x m=true then x else m) (if HT.lexLt y b=true then y else b)=m at h1 h2 ⊢
    have a:=h2 _ mem_cons_self
    rcases mem_cons.mp hx with rfl|hx
    ·split at a
     ·rename_i f
      cases e:HT.lexLt x m
      ·rfl
      ·have:=GJ _ _ _ f e;rw[this]at a;cases a
     ·exact a
    ·rcases mem_cons.mp hx with rfl|hx
     ·split at a
      ·exact a
      ·rename_i f
       cases e:HT.lexLt x m
       ·rfl
       ·rcases KS x b m e with q|q
        ·exact absurd q f
        ·rw[q]at a;cases a
     ·exact h2 x (mem_cons_of_mem _ hx)
 obtain⟨h1,h2⟩:=key r b
 have c:=C5 (b::r)
 have d:=Gu (b::r)
 generalize r.foldl (λm x=>if HT.lexLt x m=true then x else m) b=m at h1 h2 ⊢
 match h:CQ (b::r),c,d with
 |[],c,_=>exact absurd c.length_eq (by simp)
 |x::xs,c,d =>
  have j:=h2 x (c.mem_iff.mp mem_cons_self)
  have i:HT.lexLt m x=false:=by
   rcases mem_cons.mp (c.mem_iff.mpr h1)with rfl|hm
   ·exact E8 m
   ·exact(pairwise_cons.mp d).1 m hm
  rw[head?_cons,E9 x m j i]
def Xh:Option (List Int)->P
 |none=>.non
 |some r=>AJ r
def Ao(a b:List Str):List Str:=a.filter λn=>decide (n∈b)
theorem Ck(a b:List Str):(∀n∈Ao a b,n∈a)/\∀n∈Ao a b,n∈b:=⟨λn c=>(mem_filter.mp c).1,λn c=>by simpa using(mem_filter.mp c).2⟩
theorem FX(a b:List Str):(Ao a b).length<=a.length:=length_filter_le _ _
theorem G7{t:Tl}(h:Tal n t):∀q∈t,0<=q.2:=λq a=>Int.le_of_lt (h.pos q a)
theorem El{t:Tl}(a:Tal qK.length t)(d:qC.length<=100)(c:∀n∈qC,n∈qK):Sh qK t qC:=⟨d,c,Nat.le_trans a.few (by decide),a.rows⟩
end L2
namespace L2
open PySem PyProof.Rows
abbrev EB(a b:Str):Prop:=¬(b.cps.toList<a.cps.toList)
abbrev DR(l:List Str):Prop:=l.Pairwise EB
theorem Xi{a b c:Str}(h:EB a b)(g:EB b c):EB a c:=λz=>h (List.lt_of_le_of_lt (List.not_lt.mp g) z)
theorem Xj{a b:Str}(h:a.cps.toList=b.cps.toList):a=b:=PyProof.Rows.ext_toList h
theorem Xk{a b:Str}(h:EB a b)(g:EB b a):a=b:=Xj (List.le_antisymm (List.not_lt.mp h) (List.not_lt.mp g))
theorem Qo:∀(l:List Str) (p:Str),risingS p l=true->(p::l).Pairwise EB
 |[],p,_=>pairwise_singleton _ _
 |x::r,p,h=>by
  rw[risingS,Bool.and_eq_true]at h
  have h1:EB p x:=by have:=h.1;rw[ltCps_eq]at this;simpa using this
  have h2:=Qo r x h.2
  refine pairwise_cons.mpr ⟨λy hy=>?_,h2⟩
  rcases mem_cons.mp hy with rfl|hy
  ·exact h1
  ·exact Xi h1 ((pairwise_cons.mp h2).1 y hy)
theorem Qp{l:List Str}(h:sortedS l=true):DR l:=by
 cases l with
 |nil=>exact List.Pairwise.nil
 |cons x r=>exact Qo r x h
theorem Qq:∀{a b:List Str},a.Perm b->DR a->DR b->a=b
 |[],b,h,_,_=>(nil_perm.mp h).symm
 |x::xs,[],h,_,_=>absurd h.length_eq (by simp)
 |x::xs,y::ys,h,h1,h2=>by
  have e:x=y:=by
   have hx:x∈y::ys:=h.mem_iff.mp mem_cons_self
   have hy:y∈x::xs:=h.mem_iff.mpr mem_cons_self
   rcases mem_cons.mp hx with e|hx
   ·exact e
   ·rcases mem_cons.mp hy with e|hy
    ·exact e.symm
    ·exact Xk ((pairwise_cons.mp h1).1 y hy) ((pairwise_cons.mp h2).1 x hx)
  subst e
  rw[Qq ((perm_cons x).mp h) (pairwise_cons.mp h1).2 (pairwise_cons.mp h2).2]
structure Nms(ns:List Str):Prop where
 pos:1<=ns.length
 len:ns.length<=6
 nd:ns.Nodup
 srt:DR ns
end L2
namespace L2
open PySem PySem.Spec PyProof.Rows
def mroIn(K:Fg)(C C':Addr):Bool:=match K.lookup C with
 |some ⟨_,_,.cls cd,_⟩=>cd.mro.contains (.ref C')
 |_=>true
section
variable{M:Model}{nm q:Str}{C N:Addr}{bs bm:List Value}{hdct:Bool}{sn:List Str}{sub:List Value}{ab:Bool}{col:Option Bool}{dd:Option Addr}{k0 k1 k2 k3 k5:Option Value}{newId:String}
 {nm' q':Str} {C' N':Addr} {bs' bm':List Value} {hdct':Bool} {sn':List Str} {sub':List Value} {ab':Bool} {col':Option Bool} {dd':Option Addr} {l0 l1 l2 l3 l5:Option Value} {newId':String}
end
end L2
namespace L2
open PySem PySem.Spec PyProof.Rows PySem.W Builtin Builtin.ObjectAttr
end L2
namespace L2
open PySem PySem.Spec PyProof.Rows PySem.W
end L2
namespace L2
open PySem PySem.Spec PyProof.Rows
mutual
def P.dry:P->Bool
 |.lst _=>false|.dT _ _=>false|.dK _ _=>false|.fT _ _=>false|.bag=>false
 |.tup xs=>P.drys xs
 |.non=>true|.bl _=>true|.int _=>true|.str _=>true
def P.drys:List P->Bool
 |[]=>true
 |x::r=>x.dry&&P.drys r
end
@[simp] theorem Xl(i:Int):(P.int i).dry=true:=by simp[P.dry]
@[simp] theorem Xm(i:Str):(P.str i).dry=true:=by simp[P.dry]
@[simp] theorem Xo(xs:List P):(P.tup xs).dry=P.drys xs:=by simp[P.dry]
@[simp] theorem Xp:P.drys []=true:=by simp[P.drys]
@[simp] theorem Xq(x:P)(xs:List P):P.drys (x::xs)=(x.dry&&P.drys xs):=by simp[P.drys]
@[simp] theorem Qr:∀ns:List Int,P.drys (ns.map P.int)=true
 |[]=>by simp
 |n::r=>by simp[Qr r]
abbrev Xr:=Xn->Hp->Prop
abbrev pX:=List S->(P->Fl->Prop)->(Xn->Prop)->Prop
abbrev Xt:=List S->(List (P×Fl)->Prop)->(Xn->Prop)->Prop
section
variable{ι:Type}
variable{Xs:ι->Cx}{EX:Xr}{a e:Expr}{pa:pX}{pr:Xt}
def Xu(k:Nat)(E:PEnds):PEnds:={ E with nx:=λρ=>ρ[k]?=some .emp/\E.nx ρ,bk:=λρ=>ρ[k]?=some .emp/\E.bk ρ,ct:=λρ=>ρ[k]?=some .emp/\E.ct ρ }
end
section
variable{ι:Type}
end
end L2
namespace L2
open PySem PySem.Spec PyProof.Rows PySem.W
end L2
namespace L2
open PySem
def Bl(t:Tl):Tl:=Ak (BW t)
theorem G8{t:Tl}(h:(t.map (·.1)).Nodup)(r:List Int):cnt t r=(AW t r).getD 0:=by
 induction t with
 |nil=>rfl
 |cons q t c =>
  simp only[map_cons,nodup_cons]at h
  have e:cnt (q::t) r=(if q.1=r then q.2 else 0)+cnt t r:=by unfold cnt;simp
  rw[e,c h.2]
  unfold AW
  rw[find?_cons]
  by_cases z:q.1=r
  ·have f:t.find? (λp=>decide (p.1=r))=none:=find?_eq_none.mpr λp d=>by
    simp only[decide_eq_true_eq]
    exactλa=>h.1 (by rw[z,<-a];exact mem_map.mpr ⟨p,d,rfl⟩)
   rw[f];simp[z]
  ·simp[z]
theorem Lq(t:Tl)(r:List Int):cnt (Bl t) r=cnt t r:=by
 unfold Bl
 rw[G8 (Qk (FW t)),Xc,FV]
theorem Xv(a b:Tl)(r:List Int):cnt (a++b) r=cnt a r+cnt b r:=by unfold cnt;rw[map_append,sum_append]
theorem Qs{t u:Tl}(d:(t.map (·.1)).Nodup)(c:(u.map (·.1)).Nodup)(h:∀r,(AW t r).getD 0=(AW u r).getD 0):Ak t=Ak u:=by
 have mem:∀{t:Tl} (r:List Int),(AW t r).getD 0≠0->r∈t.map (·.1):=λ{t} r z=>by
  by_cases a:r∈t.map (·.1)
  ·exact a
  ·rw[Iz a]at z;exact absurd rfl z
 have key:((CQ (t.map (·.1))).filter λr=>decide ((AW t r).getD 0≠0))=((CQ (u.map (·.1))).filter λr=>decide ((AW u r).getD 0≠0)):=by
  refine LJ ((perm_ext_iff_of_nodup ?_ ?_).mpr λr=>?_) ((Gu _).filter _) ((Gu _).filter _)
  ·exact((C5 _).nodup_iff.mpr d).filter _
  ·exact((C5 _).nodup_iff.mpr c).filter _
  ·simp only[mem_filter,(C5 _).mem_iff,decide_eq_true_eq]
   exact⟨λz=>⟨mem r (by rw[<-h];exact z.2),by rw[<-h];exact z.2⟩,λz=>⟨mem r (by rw[h];exact z.2),by rw[h];exact z.2⟩⟩
 unfold Ak
 rw[key]
 exact map_congr_left λr _=>by rw[h]
theorem FY{t u:Tl}(h:∀r,cnt t r=cnt u r):Bl t=Bl u:=Qs (FW t) (FW u) λr=>by rw[FV,FV,h]
theorem Lr{t:Tl}(h:(t.map (·.1)).Nodup):Ak t=Bl t:=Qs h (FW t) λr=>by rw[FV,G8 h]
theorem Xw(t:Tl):Bl (Bl t)=Bl t:=FY (Lq t)
theorem Xx{t:Tl}(h:(t.map (·.1)).Nodup):Bl (Ak t)=Ak t:=by rw[Lr h,Xw]
def AX(φ:List Int->Int)(t:Tl):Int:=(t.map λq=>φ q.1 * q.2).sum
theorem Qt(c:List Int->Int)(a b:Tl):AX c (a++b)=AX c a+AX c b:=by unfold AX;rw[map_append,sum_append]
theorem Qu(a:List Int->Int)(x:List Int)(c:Int):∀(L:List (List Int)),L.Nodup->(L.map λr=>a r * (if x=r then c else 0)).sum=if x∈L then a x * c else 0
 |[],_=>by simp
 |y::L,d=>by
  simp only[nodup_cons]at d
  rw[map_cons,sum_cons,Qu a x c L d.2]
  by_cases e:x=y
  ·subst e;simp[d.1]
  ·simp[e]
theorem Ls{α:Type}(f g:α->Int):∀L:List α,(L.map λr=>f r+g r).sum=(L.map f).sum+(L.map g).sum
 |[]=>rfl
 |x::L=>by simp only[map_cons,sum_cons,Ls f g L];lia
theorem Lu(a:List Int->Int){L:List (List Int)}(nd:L.Nodup):∀{t:Tl},(∀q∈t,q.1∈L)->AX a t=(L.map λr=>a r * cnt t r).sum
 |[],_=>by
  have:(L.map λr=>a r * cnt [] r).sum=0:=by
   induction L with
   |nil=>rfl
   |cons x L c=>rw[map_cons,sum_cons,c (nodup_cons.mp nd).2 (λ_ z=>absurd z (by simp))];simp[cnt]
  rw[this];rfl
 |q::t,h=>by
  have c:=Lu a nd (t:=t) λp d=>h p (mem_cons_of_mem _ d)
  have e:∀r,a r * cnt (q::t) r=a r * (if q.1=r then q.2 else 0)+a r * cnt t r:=λr=>by
   have:cnt (q::t) r=(if q.1=r then q.2 else 0)+cnt t r:=by unfold cnt;simp
   rw[this,Int.mul_add]
  have f:AX a (q::t)=a q.1 * q.2+AX a t:=by unfold AX;simp
  rw[f,c,map_congr_left λr _=>e r,Ls,Qu a q.1 q.2 L nd,if_pos (h q mem_cons_self)]
theorem Qv(a:List Int->Int){t u:Tl}(h:∀r,cnt t r=cnt u r):AX a t=AX a u:=by
 have d:=FW (t++u)
 have f:∀q∈t,q.1∈(BW (t++u)).map (·.1):=λq c=>(JB _ _).mpr (mem_map.mpr ⟨q,mem_append_left _ c,rfl⟩)
 have e:∀q∈u,q.1∈(BW (t++u)).map (·.1):=λq c=>(JB _ _).mpr (mem_map.mpr ⟨q,mem_append_right _ c,rfl⟩)
 rw[Lu a d f,Lu a d e]
 exact congrArg List.sum (map_congr_left λr _=>by rw[h])
theorem JE(a:List Int->Int)(t:Tl):AX a (Bl t)=AX a t:=Qv a (Lq t)
theorem EC(qK:List Str)(t:Tl)(qC:List Str)(s:List Int):cnt (A5 qK t qC) s=AX (λr=>if AM qK r qC=s then 1 else 0) t:=by
 unfold cnt A5 AX
 rw[map_map]
 refine congrArg List.sum (map_congr_left λq _=>?_)
 show(if AM qK q.1 qC=s then q.2 else 0)=(if AM qK q.1 qC=s then(1:Int)else 0) * q.2
 by_cases z:AM qK q.1 qC=s
 ·rw[if_pos z,if_pos z,Int.one_mul]
 ·rw[if_neg z,if_neg z,Int.zero_mul]
def BX(t:Tl):Int:=(t.map (·.2)).sum
theorem JF(t:Tl):BX t=AX (λ_=>1) t:=by unfold BX AX;simp
theorem Qw(t:Tl):BX (Bl t)=BX t:=by rw[JF,JF,JE]
theorem Xy(qK:List Str)(t:Tl)(qC:List Str):BX (A5 qK t qC)=BX t:=by unfold BX A5;rw[map_map];rfl
theorem C7(qK:List Str)(t:Tl)(qC:List Str):Am qK t qC=Bl (A5 qK t qC):=rfl
theorem JG{less:List Str}(c:∀n∈less,n∈qC):AM qC (AM qK r qC) less=AM qK r less:=by
 unfold AM
 refine map_congr_left λn a=>?_
 have h:=(D9 (c n a)).1
 rw[getD_eq_getElem?_getD,getElem?_map,h]
 rfl
theorem Qx{less:List Str}(t:Tl)(a:∀n∈less,n∈qC):Am qC (Am qK t qC) less=Am qK t less:=by
 rw[C7,C7,C7]
 refine FY λs=>?_
 rw[EC,JE,EC]
 unfold AX A5
 rw[map_map]
 refine congrArg List.sum (map_congr_left λq _=>?_)
 show(if AM qC (AM qK q.1 qC) less=s then(1:Int)else 0) * q.2=_
 rw[JG a]
theorem Qy(nd:qK.Nodup)(h:r.length=qK.length):AM qK r qK=r:=by
 refine ext_getElem? λi=>?_
 unfold AM
 rw[getElem?_map]
 rcases Nat.lt_or_ge i qK.length with hi|hi
 ·have e:idx qK qK[i]=i:=by
   have a:=D9 (getElem_mem hi)
   exact(getElem_inj nd).mp (List.getElem?_eq_some_iff.mp a.1).2
  rw[getElem?_eq_getElem hi]
  show some (r.getD (idx qK qK[i]) 0)=_
  rw[e,getD_eq_getElem?_getD,getElem?_eq_getElem (by lia)];rfl
 ·rw[getElem?_eq_none hi,getElem?_eq_none (by lia)];rfl
end L2
namespace L2
open PySem PySem.Spec PyProof.Rows PySem.W
theorem Xz(t:SetTable)(n:Nat):(t.orStandIn n).led=t.led:=by unfold SetTable.orStandIn;split<;>rfl
theorem X0(t:SetTable)(es:Array (Int×Value))(h:Int)(x:Value):(layNew t es h x).2.1.led=t.led:=by
 unfold layNew;split
 ·exact Xz _ _
 ·rfl
theorem Qz{c a f:Nat}{led plain:Bool}{g:Array Int}{t':SetTable}{d:Array Nat}(e:SetTable.laid c a f led plain g=some (t',d)):t'.led=led/\t'.plain=plain:=by
 unfold SetTable.laid at e
 cases h:SetTable.layClean c g with
 |none=>rw[h]at e;cases e
 |some ow =>
  rw[h]at e
  injection e with e
  injection e with i j
  subst i
  exact⟨rfl,rfl⟩
theorem X1(t:SetTable)(es:Array (Int×Value))(n:Nat):(relayAll t es n).2.1.led=t.led:=by
 unfold relayAll;split
 ·rename_i t' a e
  dsimp only
  split
  ·exact(Qz e).1
  ·rfl
 ·rfl
theorem X2{t:SetTable}(es:Array (Int×Value))(n:Nat)(p:t.plain=false):(relayAll t es n).2.1.plain=false:=by
 unfold relayAll;split
 ·rename_i t' a e
  dsimp only
  split
  ·rw[(Qz e).2];exact p
  ·rfl
 ·rfl
theorem Lv{α:Type}:∀{l:List α} {i:Nat} (h:i<l.length),(l[i]::l.eraseIdx i).Perm l
 |[],_,h=>by cases h
 |x::r,0,h=>by simp
 |x::r,i+1,h=>by
  have a:=Lv (l:=r) (i:=i) (by simpa using h)
  simp only[getElem_cons_succ,eraseIdx_cons_succ]
  exact(List.Perm.swap _ _ _).trans (a.cons _)
theorem X3{a:Source}{Q:Nat->Shared->Prop}(c:n≠0)(h:∀i,i<n->∀dr,Q i { s with drawn:=dr }):wpAny (model prog w) A (choose a n) Q E s:=λd p _=>by
 unfold choose
 rw[Sem.wp]
 exact⟨c,by rw[Sem.wp];exact h _ (Nat.mod_lt _ (Nat.pos_of_ne_zero c)) _⟩
theorem Q0{α:Type}:∀(n:Nat) (xs:List α) (s:Shared) (Q:List α->Shared->Prop),xs.length=n->(∀ys dr,ys.Perm xs->Q ys { s with drawn:=dr })->wpAny (model prog w) A (drawOrder n xs) Q E s
 |0,xs,s,Q,a,h=>by
  unfold drawOrder
  obtain rfl:=eq_nil_of_length_eq_zero a
  exact wP (h [] s.drawn (List.Perm.refl _))
 |n+1,[],s,Q,a,h=>by cases a
 |n+1,x::xs,s,Q,a,h=>by
  unfold drawOrder
  refine wB (X3 (by simp) λi hi dr=>?_)
  rw[getElem?_eq_getElem hi]
  dsimp only
  refine wB (Q0 n _ _ _ (by rw[length_eraseIdx_of_lt hi];simp at a ⊢;lia) λys dr c=>wP ?_)
  exact h _ dr ((c.cons _).trans (Lv hi))
theorem Q3{α:Type}(next:Nat->Nat):∀(n k:Nat) (left:List α) (out:Array α),left.length=n->(pickOrder.go next n k left out).toList.Perm (out.toList++left)
 |0,k,left,out,a=>by
  obtain rfl:=eq_nil_of_length_eq_zero a
  unfold pickOrder.go
  simp
 |n+1,k,left,out,a=>by
  unfold pickOrder.go
  have hi:next k % left.length<left.length:=Nat.mod_lt _ (by lia)
  rw[getElem?_eq_getElem hi]
  dsimp only
  refine(Q3 next n (k+1) _ _ (by rw[length_eraseIdx_of_lt hi];lia)).trans ?_
  rw[Array.toList_push,append_assoc]
  exact(Lv hi).append_left _
theorem Lw{α:Type}(next:Nat->Nat)(xs:Array α):(pickOrder next xs).toList.Perm xs.toList:=by
 unfold pickOrder
 simpa using Q3 next xs.size 0 xs.toList #[] rfl
theorem Q4:Manifest.owners.lookup (String.ofList ['r','o','t','a','r','e','t','i','_','t','e','s'].reverse)=some Manifest.sig_set_iterator:=by kernel_rfl
theorem G9:Slot "set_iterator" "__next__" "set_iterator.__next__":=.of (owner:="set_iterator") (n:="__next__") (by rw[typeLookup_type,builtinLookup_eq_fast];kernel_rfl) nofun nofun nofun (by first|exact .inl nofun|exact .inr nofun) (by rw[isSubtype_type];kernel_rfl)
theorem X4:entryFor table "set_iterator.__next__"=some Builtin.«set_iterator.__next__»:=entryFor_of_tree (by kernel_rfl)
theorem X5(a:Value):argsOk "set_iterator.__next__" ⟨[a],[]⟩:=by
 unfold argsOk;rw[signature?_of (id:="set_iterator.__next__") (n:=['_','_','t','x','e','n','_','_']) (o:=['r','o','t','a','r','e','t','i','_','t','e','s']) (by kernel_rfl) Q4];kernel_rfl
theorem X6:entryFor table "set.__iter__"=some Builtin.«frozenset.__iter__»:=entryFor_alias (id':="frozenset.__iter__") (by kernel_rfl) rfl nofun (by kernel_rfl)
def BO(es:Array (Int×Value))(ep:Nat)(t:SetTable):Obj:={ cls:=.type "set",dict:=none,data:=.set es ep t,slots:=#[] }
def CU(vs:Array Value):Obj:={ cls:=.type "set_iterator",dict:=none,data:=.fields vs,slots:=#[] }
abbrev iF(first:Value)(i:Nat)(a:Addr)(n ep:Nat):Array Value:=#[first,.int i 0,.ref a,.int n 0,.int ep 0]
section
variable{es:Array (Int×Value)}{t:SetTable}{first:Value}
def JH(I:Addr):Sem PySem.Fin:=do setField (.ref I) 2 .none;raiseNew (<-newExc (.type "StopIteration") [])
theorem JI{F:PySem.Fin->Shared->Prop}(c:s.heap.get? I=some (CU (iF (.int j 0) i a es.size ep)))(d:s.heap.get? a=some (BO es ep t))(e:t.fits es.size=true)
  (h:wpAny (model prog w) A (setNext a j i ep >>= λr=>match r with|some (x,next)=>(do setField (.ref I) 0 (rawInt next);setField (.ref I) 1 (rawInt ((i:Int)+1));ret x)|none=>JH I) F E s) :
  wpAny (model prog w) A (Builtin.«set_iterator.__next__» ⟨[.ref I],[]⟩) F E s:=by
 unfold Builtin.«set_iterator.__next__»
 refine wB (m:=slotArgs "__next__" 0 _) (wP ?_)
 refine wB (wpAny_fieldsOf c rfl ?_)
 dsimp only
 refine wB (wpAny_setEntries_of d rfl e ?_)
 rw[if_neg (by simp)]
 simp only[Int.toNat_natCast]
 exact h
theorem Q5{T:Addr}{ps:List Nat}{F:PySem.Fin->Shared->Prop}(c:s.heap.get? I=some (CU (iF (.ref T) i a es.size ep)))(d:s.heap.get? a=some (BO es ep t))(f:t.fits es.size=true)(g:s.heap.get? T=some (seqObj "tuple" (ps.map λp:Nat=>rawInt p).toArray 0))
  (h:wpAny (model prog w) A (match ps[i]? with|some p=>(do let x <-setNextDrawn a p ep;setField (.ref I) 1 (rawInt ((i:Int)+1));ret x)|none=>(do setField (.ref I) 0 (rawInt 0);JH I)) F E s) :
  wpAny (model prog w) A (Builtin.«set_iterator.__next__» ⟨[.ref I],[]⟩) F E s:=by
 unfold Builtin.«set_iterator.__next__»
 refine wB (m:=slotArgs "__next__" 0 _) (wP ?_)
 refine wB (wpAny_fieldsOf c rfl ?_)
 dsimp only
 refine wB (wpAny_setEntries_of d rfl f ?_)
 rw[if_neg (by simp)]
 refine wB (wpAny_seqItems g rfl ?_)
 dsimp only
 simp only[Int.toNat_natCast,getElem?_toArray,getElem?_map]
 cases e:ps[i]? with
 |none=>rw[e]at h;exact h
 |some p=>rw[e]at h;exact h
end
section
variable{es:Array (Int×Value)}{t:SetTable}{first:Value}
theorem FZ{Q:Option Value->Shared->Prop}(a:s.TypeIs (.ref I) "set_iterator")(h:wpAny (model prog w) A.in1 (Builtin.«set_iterator.__next__» ⟨[.ref I],[]⟩) (λfin s'=>∃v,fin=.done (.ret v)/\Q (some v) s') (λe s'=>s'.TypeIs e "StopIteration"/\Q none s') s):wpAny (model prog w) A (pyNext (.ref I)) Q E s:=by
 unfold pyNext
 refine wB (wpAny_attempt (wpAny_callSpecial?_slot (name:=Str.ofString "__next__") a G9 (wpAny_call_entry G9 a X4 (wpAny_mono h (λfin s' x=>?_) λe s' x=>?_) (X5 _))))
 ·obtain⟨v,rfl,q⟩:=x
  exact⟨_,rfl,wP q⟩
 ·exact wB (wpAny_isInstance (T:="StopIteration") (b:=true) x.1 isSubtype_stop (wP x.2))
theorem Lx{vs:Array Value}{F:PySem.Fin->Shared->Prop}(f:A.handled=none)(c:s.heap.get? I=some (CU vs))(d:2<vs.size)
  (h:∀h' e,Heap.ExtBut I s.heap h'->Shared.TypeIs { s with heap:=h' } e "StopIteration"->E e { s with heap:=h' }):wpAny (model prog w) A (JH I) F E s:=by
 unfold JH
 refine wB (wpAny_setField c rfl d ?_)
 refine wB ?_
 simp only[newExc,newTuple]
 refine wB (wpAny_newObj_type ?i (by size_fits))
 refine wB (m:=firstArgMember _ _) (wpAny_of_eq (a:=Value.none) (by first|rfl|(simp only[firstArgMember];rfl)) (wpAny_newObj_type ?g (by size_fits)))
 simp only[raiseNew]
 refine wB (wpAny_handled ?_)
 rw[f]
 refine wB (wP (wpAny_throw ?_))
 exact h _ _ (((Heap.SameBut.update ..).extBut.push _).push _) ⟨_,Heap.get?_push_size _ rfl,rfl⟩
def Dn(w:World)(a:Addr)(es:Array (Int×Value))(ep:Nat):List Value:=(pickOrder (w.params.setOrder a ep) es).toList.map (·.2)
theorem Q6{Q:Option (Value×Nat)->Shared->Prop}(e:w.params.followText "set-order"=true)(c:s.heap.get? a=some (BO es ep t))(d:t.fits es.size=true)(h:Q ((Dn w a es ep)[i]?.map λx=>(x,j)) s):wpAny (model prog w) A (setNext a j i ep) Q E s:=by
 unfold setNext
 refine wB (wpAny_setState_of c rfl d ?_)
 dsimp only
 refine wB ?_
 unfold setsByText
 refine wB (wpAny_askSetting (wP ?_))
 show wpAny _ _ (if w.params.followText "set-order"=true then _ else _) _ _ _
 rw[if_pos e]
 rw[if_neg (by simp)]
 refine wB ?_
 unfold setWalk
 refine wB (wpAny_setState_of c rfl d ?_)
 dsimp only
 refine wB ?_
 unfold setsByText
 refine wB (wpAny_askSetting (wP ?_))
 show wpAny _ _ (if w.params.followText "set-order"=true then _ else _) _ _ _
 rw[if_pos e]
 refine wB (wpAny_askSetting (wP (wP ?_)))
 unfold Dn at h
 rw[getElem?_map,Array.getElem?_toList,Option.map_map]at h
 exact h
end
section
variable{es:Array (Int×Value)}{t:SetTable}
theorem Q7:Slot "set_iterator" "__iter__" "set_iterator.__iter__":=.of (owner:="set_iterator") (n:="__iter__") (by rw[typeLookup_type,builtinLookup_eq_fast];kernel_rfl) nofun nofun nofun (by first|exact .inl nofun|exact .inr nofun) (by rw[isSubtype_type];kernel_rfl)
theorem X7:entryFor table "set_iterator.__iter__"=some Builtin.«dict_keyiterator.__iter__»:=entryFor_alias (id':="dict_keyiterator.__iter__") (by kernel_rfl) rfl nofun (by kernel_rfl)
theorem X8(a:Value):argsOk "set_iterator.__iter__" ⟨[a],[]⟩:=by
 unfold argsOk;rw[signature?_of (id:="set_iterator.__iter__") (n:=['_','_','r','e','t','i','_','_']) (o:=['r','o','t','a','r','e','t','i','_','t','e','s']) (by kernel_rfl) Q4];kernel_rfl
theorem Ly{vs:Array Value}(a:s.heap.get? I=some (CU vs))(d:Q (.ref I) s):wpAny (model prog w) A (pyIter (.ref I)) Q E s:=by
 have c:s.TypeIs (.ref I) "set_iterator":=⟨_,a,rfl⟩
 refine wpAny_pyIter_slot c Q7 (wpAny_call_entry Q7 c X7 ?_ (X8 _))
 exact wP ⟨_,rfl,"set_iterator",_,c,G9.lookup,d⟩
theorem X9(r:A.handled=none)(d:a≠I)(l:w.params.followText "set-order"=true)(f:t.fits es.size=true):WalksS prog w A I [I,a] [I] (λx y=>y=x) es.size (λi v=>(Dn w a es ep)[i]?=some v)
  (λi s=>s.heap.get? I=some (CU (iF (.int 0 0) i a es.size ep))/\s.heap.get? a=some (BO es ep t)) where
 sub:=λb h=>by simp at h;simp[h]
 grefl:=λ_=>rfl
 gtrans:=λ_ _ _ h1 h2=>h2.trans h1
 frame:=λi s h' tk st _ g=>⟨g I (by simp) _ st.1,g a (by simp) _ st.2⟩
 item:=λi s Q E hi st c=>by
  have q:(Dn w a es ep).length=es.size:=by unfold Dn;rw[length_map,(Lw _ _).length_eq,Array.length_toList]
  refine FZ ⟨_,st.1,rfl⟩ (JI (j:=0) st.1 st.2 f (wB (Q6 l st.2 f ?_)))
  rw[getElem?_eq_getElem (show i<(Dn w a es ep).length by lia),Option.map_some]
  dsimp only
  refine wB (wpAny_setField_rec st.1 (by simp) λh1 B p=>wB (wpAny_setField_rec B (by simp) λh2 u n=>wP ⟨_,rfl,c _ _ (by rw[getElem?_eq_getElem]) ⟨?_,?_⟩ ⟨?_,rfl,rfl,rfl,Nat.le_refl _⟩⟩))
  ·rw[u];simp[CU,rawInt]
  ·exact n.extBut _ _ d (p.extBut _ _ d st.2)
  ·exactλb o nb e=>n.extBut _ _ (λz=>nb (by simp[z])) (p.extBut _ _ (λz=>nb (by simp[z])) e)
 done:=λs Q E st c=>by
  have q:(Dn w a es ep).length=es.size:=by unfold Dn;rw[length_map,(Lw _ _).length_eq,Array.length_toList]
  refine FZ ⟨_,st.1,rfl⟩ (JI (j:=0) st.1 st.2 f (wB (Q6 l st.2 f ?_)))
  rw[getElem?_eq_none (by lia),Option.map_none]
  dsimp only
  exact Lx r st.1 (by simp) λh' e x y=>⟨y,c _ ⟨λb o nb e=>x b o (λz=>nb (by simp[z])) e,rfl,rfl,rfl,Nat.le_refl _⟩⟩
 self:=λi s Q E st c=>Ly st.1 c
theorem YA{T:Addr}{ps:List Nat}(C:A.handled=none)(n:a≠I)(q:T≠I)(l:t.fits es.size=true)(D:ps.length=es.size)(B:∀p∈ps,p<es.size):WalksS prog w A I [I,a,T] [I] (λx y=>y=x) es.size (λi v=>∃p,ps[i]?=some p/\∃h,es[p]?=some (h,v))
  (λi s=>s.heap.get? I=some (CU (iF (.ref T) i a es.size ep))/\s.heap.get? a=some (BO es ep t)/\s.heap.get? T=some (seqObj "tuple" (ps.map λp:Nat=>rawInt p).toArray 0)) where
 sub:=λb u=>by simp at u;simp[u]
 grefl:=λ_=>rfl
 gtrans:=λ_ _ _ h1 h2=>h2.trans h1
 frame:=λi s h' tk st _ j=>⟨j I (by simp) _ st.1,j a (by simp) _ st.2.1,j T (by simp) _ st.2.2⟩
 item:=λi s Q E hi st f=>by
  have c:i<ps.length:=by lia
  have d:=B _ (getElem_mem c)
  refine FZ ⟨_,st.1,rfl⟩ (Q5 st.1 st.2.1 l st.2.2 ?_)
  rw[getElem?_eq_getElem c]
  dsimp only
  refine wB ?_
  unfold setNextDrawn
  refine wB (wpAny_setState_of st.2.1 rfl l ?_)
  dsimp only
  rw[if_neg (by simp),Array.getElem?_eq_getElem d]
  dsimp only
  refine wP ?_
  refine wB (wpAny_setField_rec st.1 (by simp) λh1 r g=>wP ⟨_,rfl,f _ _ ⟨_,getElem?_eq_getElem c,es[ps[i]].1,by rw[Array.getElem?_eq_getElem d]⟩ ⟨?_,?_,?_⟩ ⟨?_,rfl,rfl,rfl,Nat.le_refl _⟩⟩)
  ·rw[r];simp[CU,rawInt]
  ·exact g.extBut _ _ n st.2.1
  ·exact g.extBut _ _ q st.2.2
  ·exactλb o nb e=>g.extBut _ _ (λz=>nb (by simp[z])) e
 done:=λs Q E st f=>by
  refine FZ ⟨_,st.1,rfl⟩ (Q5 st.1 st.2.1 l st.2.2 ?_)
  rw[getElem?_eq_none (by lia)]
  dsimp only
  refine wB (wpAny_setField_rec st.1 (by simp) λh1 r g=>?_)
  exact Lx C r (by simp) λh' e x y=>⟨y,f _ ⟨λb o nb e=>x b o (λz=>nb (by simp[z])) (g.extBut _ _ (λz=>nb (by simp[z])) e),rfl,rfl,rfl,Nat.le_refl _⟩⟩
 self:=λi s Q E st f=>Ly st.1 f
theorem Q8{Q:Option (Value×Nat)->Shared->Prop}(g:w.params.followText "set-order"=false)(h1:es.size<=1)(c:t.led=true)(e:s.heap.get? a=some (BO es ep t))(f:t.fits es.size=true)
  (h:Q (match es[SetTable.below t.place j]?,t.place[SetTable.below t.place j]? with|some (_,x),some k=>some (x,k+1)|_,_=>none) s):wpAny (model prog w) A (setNext a j i ep) Q E s:=by
 unfold setNext
 refine wB (wpAny_setState_of e rfl f ?_)
 dsimp only
 refine wB ?_
 unfold setsByText
 refine wB (wpAny_askSetting (wP ?_))
 show wpAny _ _ (if w.params.followText "set-order"=true then _ else _) _ _ _
 rw[if_neg (by rw[g];exact Bool.false_ne_true)]
 refine wpAny_ite_split (λd=>absurd d ?_) (λ_=>?_)
 ·show¬((!t.plain&&decide (es.size > 1))=true)
  simp;lia
 ·refine wB (?_:wpAny _ _ (if(!t.led&&!es.isEmpty)=true then _ else pure ()) _ _ _)
  rw[if_neg (by rw[c];simp)]
  exact wP (wP h)
theorem YB(xs:Array Nat):SetTable.below xs 0=0:=by
 unfold SetTable.below
 have:∀n hi,SetTable.below.go xs 0 n 0 hi=0:=by
  intro n
  induction n with
  |zero=>intro hi;rfl
  |succ n a =>
   intro hi
   unfold SetTable.below.go
   split
   ·simp only[Nat.not_lt_zero,if_false];exact a _
   ·rfl
 exact this _ _
theorem YC{xs:Array Nat}(h:xs.size=1)(k:Nat)(a:xs[0]?=some k):SetTable.below xs (k+1)=1:=by
 unfold SetTable.below
 rw[h]
 unfold SetTable.below.go
 have e:xs.getD 0 (k+1)=k:=by rw[Array.getD_eq_getD_getElem?,a];rfl
 simp[e,SetTable.below.go]
theorem YD(L:A.handled=none)(l:a≠I)(q:w.params.followText "set-order"=false)(h1:es.size<=1)(c:t.led=true)(d:t.fits es.size=true):WalksS prog w A I [I,a] [I] (λx y=>y=x) es.size (λi v=>∃h,es[i]?=some (h,v))
  (λi s=>(∃j:Nat,s.heap.get? I=some (CU (iF (.int j 0) i a es.size ep))/\(i=0->j=0)/\(i=1->∃k,t.place[0]?=some k/\j=k+1))/\s.heap.get? a=some (BO es ep t)) where
 sub:=λb p=>by simp at p;simp[p]
 grefl:=λ_=>rfl
 gtrans:=λ_ _ _ h1 h2=>h2.trans h1
 frame:=λi s h' tk st _ n=>⟨let⟨j,e,r⟩:=st.1;⟨j,n I (by simp) _ e,r⟩,n a (by simp) _ st.2⟩
 item:=λi s Q E hi st g=>by
  obtain⟨⟨j,e,r,_⟩,f⟩:=st
  have G:i=0:=by lia
  subst G
  obtain rfl:=r rfl
  have H:t.place.size=es.size:=by simp[SetTable.fits]at d;exact d.1
  refine FZ ⟨_,e,rfl⟩ (JI e f d (wB (Q8 q h1 c f d ?_)))
  rw[YB,Array.getElem?_eq_getElem hi,Array.getElem?_eq_getElem (show 0<t.place.size by lia)]
  dsimp only
  refine wB (wpAny_setField_rec e (by simp) λh1 N B=>wB (wpAny_setField_rec N (by simp) λh2 M u=>wP ⟨_,rfl,g _ _ ⟨es[0].1,by rw[Array.getElem?_eq_getElem hi]⟩ ⟨⟨t.place[0]+1,?_,(λz=>absurd z (by lia)),(λ_=>⟨_,Array.getElem?_eq_getElem _,rfl⟩)⟩,?_⟩ ⟨?_,rfl,rfl,rfl,Nat.le_refl _⟩⟩))
  ·rw[M];simp[CU,rawInt]
  ·exact u.extBut _ _ l (B.extBut _ _ l f)
  ·exactλb o nb e=>u.extBut _ _ (λz=>nb (by simp[z])) (B.extBut _ _ (λz=>nb (by simp[z])) e)
 done:=λs Q E st g=>by
  obtain⟨⟨j,e,O,D⟩,f⟩:=st
  have H:t.place.size=es.size:=by simp[SetTable.fits]at d;exact d.1
  refine FZ ⟨_,e,rfl⟩ (JI e f d (wB (Q8 q h1 c f d ?_)))
  have J:es[SetTable.below t.place j]?=none:=by
   by_cases z:es.size=0
   ·exact Array.getElem?_eq_none (by lia)
   ·have C:es.size=1:=by lia
    obtain⟨k,n,rfl⟩:=D C
    rw[YC (by lia) k n]
    exact Array.getElem?_eq_none (by lia)
  rw[J]
  dsimp only
  exact Lx L e (by simp) λh' e x y=>⟨y,g _ ⟨λb o nb e=>x b o (λz=>nb (by simp[z])) e,rfl,rfl,rfl,Nat.le_refl _⟩⟩
 self:=λi s Q E st g=>let⟨⟨_,e,_⟩,_⟩:=st;Ly e g
end
def Em(w:World)(es:Array (Int×Value))(t:SetTable):Prop:=t.fits es.size=true/\es.size<=4096/\t.led=!w.params.followText "set-order"/\(0<es.size->t.plain=false)
def Lz(prog:Program)(w:World)(A:Around)(a:Addr)(es:Array (Int×Value))(s:Shared)(I:Addr)(h1:Heap)(dr:PySem.Drawn):Prop :=
 s.heap.objs.size<=I/\(∀b o,s.heap.get? b=some o->h1.get? b=some o)/\∃(vs:List Value) (fp:List Addr) (St:Nat->Shared->Prop),
  vs.Perm (es.toList.map (·.2))/\(∀b∈fp,b=a\/s.heap.objs.size<=b/\b<h1.objs.size)/\I<h1.objs.size/\WalksS prog w A I fp [I] (λx y=>y=x) es.size (λi v=>vs[i]?=some v) St/\St 0 { s with heap:=h1,drawn:=dr }
section
variable{es:Array (Int×Value)}{t:SetTable}
theorem WalksS.wk{wr:List Addr}{G:Array GenState->Array GenState->Prop}{P P':Nat->Value->Prop}{St:Nat->Shared->Prop}(W:WalksS prog w A I fp wr G n P St)(h:∀i v,i<n->P i v->P' i v):WalksS prog w A I fp wr G n P' St where
 sub:=W.sub
 grefl:=W.grefl
 gtrans:=W.gtrans
 frame:=W.frame
 item:=λi s Q E hi st c=>W.item i s Q E hi st λv s' a=>c v s' (h i v hi a)
 done:=W.done
 self:=W.self
theorem YE(B:A.handled=none)(f:s.heap.get? a=some (BO es ep t))(ok:Em w es t)(L:∀I h1 dr,Lz prog w A a es s I h1 dr->Q (.ref I) { s with heap:=h1,drawn:=dr }):wpAny (model prog w) A (pyIter (.ref a)) Q E s:=by
 obtain⟨g,hz,n,y⟩:=ok
 have J:s.TypeIs (.ref a) "set":=⟨_,f,rfl⟩
 have D:=Heap.lt_size f
 refine wpAny_pyIter_slot J F.slot_set_iter (wpAny_call_entry F.slot_set_iter J X6 ?_ (F.args_set_iter_1 _))
 unfold Builtin.«frozenset.__iter__» Builtin.Frozenset.slot0 Builtin.Frozenset.addrOf Builtin.Frozenset.sizeOf
 refine wB (wB (m:=slotArgs "__iter__" 0 _) (wP (wP ?_)))
 refine wB (wB (wpAny_setEntries_of f rfl g (wP ?_)))
 unfold setDrawn
 refine wB (wB (wpAny_setState_of f rfl g ?_))
 dsimp only
 refine wB ?_
 unfold setsByText
 refine wB (wpAny_askSetting (wP (wP ?_)))
 have M:∀(first:Value),∀{G:VS},G (.ref s.heap.objs.size) { s with heap:=s.heap.push (CU (iF first 0 a es.size ep)) }->wpAny (model prog w) A.in1 (do let d <-setEpoch a;newFields "set_iterator" [first,rawInt 0,Value.ref a,rawInt ↑es.size,rawInt ↑d]) G E s:=λfirst G q =>
  wB (wpAny_setEpoch_of f rfl g (wpAny_newObj_type q))
 refine wpAny_ite_split (λC=>?_) (λC=>?_)
 ·have j:(!w.params.followText "set-order"&&(!t.plain&&decide (es.size > 1)))=true:=C
  refine wB (Q0 es.size _ _ _ (length_range) λps dr pp=>?_)
  have H:ps.length=es.size:=by rw[pp.length_eq,length_range]
  refine wB (wpAny_newTuple ?_ (by rw[length_map,H,sizeLine_eq];lia))
  have l:(s.heap.push (seqObj "tuple" (ps.map λp:Nat=>rawInt p).toArray 0)).get? a=some (BO es ep t):=Heap.get?_push_of_some _ f
  refine wB (wpAny_setEpoch_of (s:={ s with heap:=s.heap.push (seqObj "tuple" (ps.map λp:Nat=>rawInt p).toArray 0),drawn:=dr }) l rfl g ?_)
  refine wB (wpAny_newObj_type (wP ⟨_,rfl,"set_iterator",_,⟨_,Heap.get?_push_size _ rfl,rfl⟩,G9.lookup,L _ _ _ ?_⟩))
  have c:(s.heap.push (seqObj "tuple" (ps.map λp:Nat=>rawInt p).toArray 0)).objs.size=s.heap.objs.size+1:=size_push' _ _
  show Lz prog w A a es s (s.heap.push (seqObj "tuple" (ps.map λp:Nat=>rawInt p).toArray 0)).objs.size ((s.heap.push (seqObj "tuple" (ps.map λp:Nat=>rawInt p).toArray 0)).push (CU (iF (.ref s.heap.objs.size) 0 a es.size ep))) dr
  have lt:∀p∈ps,p<es.size:=λp N=>mem_range.mp (pp.mem_iff.mp N)
  refine⟨by rw[c];exact Nat.le_succ _,λb o e=>Heap.get?_push_of_some _ (Heap.get?_push_of_some _ e),ps.map λp=>((es[p]?).map (·.2)).getD .none,[_,a,s.heap.objs.size],_,?_,?_,by simp only[size_push'];exact Nat.lt_succ_self _,WalksS.wk (YA (T:=s.heap.objs.size) (ps:=ps) B (by rw[c];exact Nat.ne_of_lt (Nat.lt_succ_of_lt D)) (by rw[c];exact Nat.ne_of_lt (Nat.lt_succ_self _)) g H lt) ?_,Heap.get?_push_size _ rfl,Heap.get?_push_of_some _ l,Heap.get?_push_of_some _ (Heap.get?_push_size _ rfl)⟩
  ·refine(pp.map _).trans ?_
   have:(List.range es.size).map (λp=>((es[p]?).map (·.2)).getD .none)=es.toList.map (·.2):=by
    apply ext_getElem
    ·simp
    ·intro i h1 h2
     have O:i<es.size:=by simpa using h1
     simp[O]
   rw[this]
  ·intro b r
   simp only[mem_cons,not_mem_nil,or_false]at r
   rw[size_push',c]
   rcases r with rfl|rfl|rfl
   ·right;rw[c];exact⟨Nat.le_succ _,Nat.lt_succ_self _⟩
   ·left;rfl
   ·right;exact⟨Nat.le_refl _,Nat.lt_succ_of_lt (Nat.lt_succ_self _)⟩
  ·rintro i v hi ⟨p,Y,h,U⟩
   rw[getElem?_map,Y,Option.map_some,U];rfl
 ·have j:¬(!w.params.followText "set-order"&&(!t.plain&&decide (es.size > 1)))=true:=C
  refine wB (wP ?_)
  refine wB (wpAny_setEpoch_of f rfl g ?_)
  refine wB (wpAny_newObj_type (wP ⟨_,rfl,"set_iterator",_,⟨_,Heap.get?_push_size _ rfl,rfl⟩,G9.lookup,L _ _ s.drawn ?_⟩))
  show Lz prog w A a es s s.heap.objs.size (s.heap.push (CU (iF (.int 0 0) 0 a es.size ep))) s.drawn
  have u:∀b∈[s.heap.objs.size,a],b=a\/s.heap.objs.size<=b/\b<(s.heap.push (CU (iF (.int 0 0) 0 a es.size ep))).objs.size:=by
   intro b r
   simp only[mem_cons,not_mem_nil,or_false]at r
   rw[size_push']
   rcases r with rfl|rfl
   ·right;exact⟨Nat.le_refl _,Nat.lt_succ_self _⟩
   ·left;rfl
  cases x:w.params.followText "set-order" with
  |true =>
   refine⟨Nat.le_refl _,λb o e=>Heap.get?_push_of_some _ e,Dn w a es ep,_,_,(Lw _ _).map _,u,by rw[size_push'];exact Nat.lt_succ_self _,X9 (ep:=ep) B (Nat.ne_of_lt D) x g,Heap.get?_push_size _ rfl,Heap.get?_push_of_some _ f⟩
  |false =>
   have h1:es.size<=1:=by
    rw[x]at j
    by_cases z:es.size<=1
    ·exact z
    ·exfalso;apply j;rw[y (by lia)];simp;lia
   refine⟨Nat.le_refl _,λb o e=>Heap.get?_push_of_some _ e,es.toList.map (·.2),_,_,List.Perm.refl _,u,by rw[size_push'];exact Nat.lt_succ_self _,WalksS.wk (YD (ep:=ep) B (Nat.ne_of_lt D) x h1 (by rw[n,x];rfl) g) ?_,⟨0,Heap.get?_push_size _ rfl,λ_=>rfl,λz=>absurd z (by lia)⟩,Heap.get?_push_of_some _ f⟩
   rintro i v hi ⟨h,e⟩
   rw[getElem?_map,Array.getElem?_toList,e];rfl
end
section
variable{es:Array (Int×Value)}{t:SetTable}
theorem YF{Q:Bool->Shared->Prop}(e:s.TypeIs (.ref a) "set")(h:Q false s):wpAny (model prog w) A (Builtin.List.listLengthHint (.ref a)) Q E s:=by
 unfold Builtin.List.listLengthHint
 refine wB (wpAny_specialOf e F.slot_set_len.lookup ?_)
 generalize c:("set.__len__":String)=d
 wp_delta
 rw[show splitId d=some ("set","__len__")from by subst c;decide +kernel]
 subst c
 refine wB (wpAny_isInstance (T:="set") (b:=true) e sub_set_self ?_)
 refine wpAny_ite_split (λz=>absurd z (by decide)) (λ_=>wpAny_ite_split (λ_=>wB (wpAny_typeOf e (wP h))) (λz=>absurd nofun z))
theorem YG{R:Result->Shared->Prop}(hh:A.handled=none)(y:s.heap.get? a=some (BO es ep t))(ok:Em w es t)(S:Addr)(res:Value)(r:S≠a)(E:s.heap.get? S=some { cls:=.type "list",data:=.seq #[] })
  (hR:∀h' tk dr d c',(∀b o,b≠S->s.heap.get? b=some o->h'.get? b=some o)->h'.get? S=some { cls:=.type "list",dict:=none,data:=.seq d c',slots:=#[] }->d.toList.Perm (es.toList.map (·.2))->R (.ok (.ret res)) { s with heap:=h',toks:=tk,drawn:=dr }) :
  wpAny (model prog w) A.in1 (Builtin.List.listExtendWith (.ref S) (.ref a) res)
   (λfin s'=>match fin with|.done f=>R (.ok f) s'|.again c'=>c'.quiet=true/\codeAny (model prog w) A c' R s') (λe s'=>R (.error e) s') s:=by
 have l:=Heap.lt_size E
 have hz:es.size<=sizeLine:=by rw[sizeLine_eq];have:=ok.2.1;lia
 unfold Builtin.List.listExtendWith
 refine wB (wpAny_typeOf (T:="set") ⟨_,y,rfl⟩ ?_)
 have Q:Builtin.List.listSameRef (.ref S) (.ref a)=false:=by simp[Builtin.List.listSameRef,r]
 rw[if_neg (by rw[Q];decide)]
 refine wB (YE hh y ok λI h1 dr W=>?_)
 obtain⟨G,keep,vs,fp,St,pp,B,a1,W,st⟩:=W
 have a0:S≠I:=λz=>absurd l (by rw[z];exact Nat.not_lt.mpr G)
 have q:S∉fp:=λhb=>(B S hb).elim r λz=>absurd l (Nat.not_lt.mpr z.1)
 have key:∀(h:Heap) (g:Nat),St 0 { s with heap:=h,drawn:=dr }->(∀b o,b≠S->s.heap.get? b=some o->h.get? b=some o)->h.get? S=some { cls:=.type "list",data:=.seq #[] g } ->
   codeAny (model prog w) A (.builtin "list.extend.loop" ⟨[.ref S,.ref I,res],[]⟩) R { s with heap:=h,drawn:=dr }:=by
  intro h g x Y n
  refine codeAny_extend_loopS W hz S q res es.size 0 _ #[] g rfl (Nat.zero_le _) x n (ItemsOf.nil _) λs' d c' v D j=>?_
  have e:s'={ s with heap:=s'.heap,toks:=s'.toks,drawn:=dr }:=by
   have M:=v.gens;have L:=v.drawn;have J:=v.os
   obtain⟨U,g',d',N,O⟩:=s'
   simp only at M L J
   subst M;subst L;subst J
   rfl
  rw[e]
  refine hR _ _ _ d c' (λb o nb H=>v.heap b o (λhb=>?_) (Y b o nb H)) D ?_
  ·rcases mem_cons.mp hb with z|hb
   ·exact nb z
   ·exact absurd (Heap.lt_size H) (by rw[mem_singleton.mp hb];exact Nat.not_lt.mpr G)
  ·have hl:vs.length=es.size:=by rw[pp.length_eq];simp
   have:d.toList=vs:=by
    apply ext_getElem?
    intro i
    by_cases hi:i<d.size
    ·have:=j.2 i d[i] (by rw[Array.getElem?_eq_getElem hi])
     rw[this,Array.getElem?_toList,Array.getElem?_eq_getElem hi]
    ·rw[getElem?_eq_none (by simpa using hi),getElem?_eq_none (by have:=j.1;lia)]
   rw[this];exact pp
 have p:=keep _ _ E
 refine wB (wpAny_holding (YF ⟨_,keep _ _ y,rfl⟩ ?_))
 refine wpAny_ite_split (λ_=>?_) (λ_=>wP ⟨plainId_quiet PySem.F.plain_extend_loop _,key _ _ st (λb o _ e=>keep b o e) p⟩)
 refine wB (wpAny_rule (wB ?_))
 show wpAny _ _ (updateSeq S (·.push .none) >>= λ_=>updateSeq S (·.pop)) _ _ _
 refine wB (wpAny_updateSeq p rfl ?_)
 have u:=Heap.get?_update_self (Obj.mapSeq (·.push Value.none)) p rfl
 refine wpAny_updateSeq (hz:=by seq_fits) u rfl ?_
 have C:=Heap.get?_update_self (Obj.mapSeq (·.pop)) u rfl
 refine wP ⟨plainId_quiet PySem.F.plain_extend_loop _,key _ _ (W.frame 0 _ _ _ st (Nat.le_refl _) λb hb o e=>?_) (λb o nb e=>?_) C⟩
 ·have nb:S≠b:=λz=>q (z▸hb)
  exact(Heap.get?_update_other _ _ nb).trans ((Heap.get?_update_other _ _ nb).trans e)
 ·exact(Heap.get?_update_other _ _ nb.symm).trans ((Heap.get?_update_other _ _ nb.symm).trans (keep b o e))
theorem YH{R:List Value->Shared->Prop}(r:A.handled=none)(n:s.heap.get? a=some (BO es ep t))(ok:Em w es t)
  (h:∀h' tk dr d,(∀b o,s.heap.get? b=some o->h'.get? b=some o)->d.Perm (es.toList.map (·.2))->R d { s with heap:=h',toks:=tk,drawn:=dr }):wpAny (model prog w) A (collect (.ref a)) R E s:=by
 have u:=Heap.lt_size n
 unfold collect
 refine wB (wpAny_runValue (codeAny_builtin entry_proto_collect' ?_))
 rw[Around.under_plainId PySem.F.plain_proto_collect _]
 refine wB (m:=newList []) (wpAny_newObj_type (wP ⟨plainId_quiet PySem.F.plain_list_iadd _,codeAny_builtin entry_list_iadd' ?_⟩))
 rw[Around.under_plainId PySem.F.plain_list_iadd _]
 have i:(s.heap.push { cls:=.type "list",data:=.seq ([]:List Value).toArray }).get? s.heap.objs.size=some { cls:=.type "list",data:=.seq #[] }:=Heap.get?_push_size _ rfl
 have key:=YG (prog:=prog) (A:=A) (s:={ s with heap:=s.heap.push { cls:=.type "list",data:=.seq ([]:List Value).toArray } })
  (R:=λq s'=>∃h' tk dr d g,q=.ok (.ret (.ref s.heap.objs.size))/\s'={ s with heap:=h',toks:=tk,drawn:=dr }/\(∀b o,s.heap.get? b=some o->h'.get? b=some o)/\h'.get? s.heap.objs.size=some { cls:=.type "list",dict:=none,data:=.seq d g,slots:=#[] }/\d.toList.Perm (es.toList.map (·.2)))
  r (Heap.get?_push_of_some _ n) ok s.heap.objs.size (.ref s.heap.objs.size) (Nat.ne_of_gt u) i λh' tk dr d g k1 k2 k3=>⟨h',tk,dr,d,g,rfl,rfl,λb o e=>k1 b o (Nat.ne_of_lt (Heap.lt_size e)) (Heap.get?_push_of_some _ e),k2,k3⟩
 refine wpAny_mono key (λj s' x=>?_) λe s' x=>?_
 ·cases j with
  |done f =>
   obtain⟨h',tk,dr,d,g,e,rfl,k1,k2,k3⟩:=x
   cases e
   exact wB (wpAny_load k2 (wP (h h' tk dr _ k1 k3)))
  |again p =>
   refine⟨x.1,codeAny_mono x.2 λq l y=>?_⟩
   obtain⟨h',tk,dr,d,g,rfl,rfl,k1,k2,k3⟩:=y
   exact wB (wpAny_load k2 (wP (h h' tk dr _ k1 k3)))
 ·obtain⟨_,_,_,_,_,v,_⟩:=x
  cases v
theorem YI{ss:List Str}(C:A.handled=none)(y:s.heap.get? a=some (BO es ep t))(ok:Em w es t)(p:StrsAre (es.toList.map (·.2)) ss)(H:es.size<64)
  (h:∀h' tk dr (D:Addr) (out:List Value) (d:List Str) e,(∀u,s.heap.get? D≠some u)->(∀b o,s.heap.get? b=some o->h'.get? b=some o)->h'.get? D=some (seqObj "list" out.toArray e)->StrsAre out d->d.Perm ss->sortedS d=true->Q (.ref D) { s with heap:=h',toks:=tk,drawn:=dr }) :
  wpAny (model prog w) A (call (.builtin "sorted") [.ref a]) Q E s:=by
 refine Calls.call_function_entry kind_sorted plain_sorted entry_sorted (args_sorted1 _) ?_
 unfold Builtin.«sorted»
 refine wB (m:=checkCount "sorted" 1 1 _) (wP (wB (YH (A:=A.in1) C y ok λh' tk dr c k1 k2=>?_)))
 have B:c.length=es.size:=by rw[k2.length_eq];simp
 refine wB (wpAny_newList ?_ (by rw[B,sizeLine_eq];lia))
 have j:(h'.push (seqObj "list" c.toArray 0)).get? h'.objs.size=some (seqObj "list" c.toArray 0):=Heap.get?_push_size _ rfl
 have i:StrsAre c (c.map strOf):=strsAre_map c λv g=>p.all v (k2.mem_iff.mp g)
 have z:(c.map strOf).Perm ss:=by
  have:=k2.map strOf
  rwa [p.strs]at this
 refine wB (wpAny_holding (wpAny_call_entry slot_list_sort ⟨_,j,rfl⟩ entry_list_sort (list_sort_treeK strKind_oneLt j i.keysOf (λn l qF e=>keyKind_strs (by rw[<-e];exact i)) (by lia) λf T O=>⟨_,rfl,?_⟩) (args_list_sort _)))
 obtain⟨d,N,M,L⟩:=sorted_out_str i T O
 obtain⟨e,G⟩:=sortedHeap_at (out:=(arrOf f).map (·.2)) j
 refine wP ⟨_,rfl,h _ _ _ _ ((arrOf f).map (·.2)).toList d e ?_ (λb o J=>?_) ?_ N (M.trans z) L⟩
 ·exactλu I=>absurd (Heap.lt_size (k1 _ _ I)) (Nat.lt_irrefl _)
 ·have r:=k1 b o J
  have x:b≠h'.objs.size:=Nat.ne_of_lt (Heap.lt_size r)
  have q:(h'.push (seqObj "list" c.toArray 0)).get? b=some o:=Heap.get?_push_of_some _ r
  rw[sortedHeap_old x (Heap.lt_size q)]
  exact q
 ·rw[Array.toArray_toList];exact G
end
theorem Q9(y:Str)(tk:Tok):(PySem.strKind prog w).is y (.str y tk)=true:=by
 show Value.isStrOf y (.str y tk)=true
 simp[Value.isStrOf]
theorem L0{y:Str}{v:Value}(h:(PySem.strKind prog w).is y v=true):strOf v=y/\∃tk,v=.str y tk:=by
 obtain⟨tk,rfl⟩:=Value.isStrOf_shape h
 exact⟨rfl,tk,rfl⟩
abbrev RA(es:Array (Int×Value)):List Str:=es.toList.map λe=>strOf e.2
def Cm(prog:Program)(w:World)(h:Heap)(a:Addr)(ks:List Str):Prop:=∃es ep t,h.get? a=some (BO es ep t)/\Em w es t/\es.size<scanBound/\ElemsOf (PySem.strKind prog w) es.toList/\(RA es).Perm ks
def Br(ks:List Str)(y:Str):List Str:=if y∈ks then ks else ks++[y]
theorem Cm.at{ks:List Str}(x:Cm prog w h a ks)(k:∀o,h.get? a=some o->h'.get? a=some o):Cm prog w h' a ks:=let⟨es,ep,t,e,r⟩:=x;⟨es,ep,t,k _ e,r⟩
theorem RB{es c:Array (Int×Value)}{t t':SetTable}{Q:Unit->Shared->Prop}(d:s.heap.get? a=some (BO es ep t))(hz:c.size<scanBound)(h:∀h',Heap.SameBut a s.heap h'->h'.get? a=some (BO c (ep+1) t')->Q () { s with heap:=h' }):wpAny (model prog w) A (storeSet a c t') Q E s:=by
 refine wpAny_storeSet_of d rfl (h _ (Heap.SameBut.update ..) ?_) (fits_of_scanBound hz)
 exact Heap.get?_update_self (Obj.putSet c t') d rfl
theorem RC(g:Bool->Sem Unit)(c:g=λb=>match b with|true=>rule "set.scan.the-table-gave-way" | false=>pure ())(b:Bool){Q:Unit->Shared->Prop}(a:Q () s):wpAny (model prog w) A (g b) Q E s:=by
 subst c;cases b<;>first|exact wP a|exact wpAny_rule a
theorem YJ{ks:List Str}{y:Str}{tk:Tok}{Q:Bool->Shared->Prop}(x:Cm prog w s.heap a ks)(U:ks.length+1<scanBound)(h:∀b h',Heap.SameBut a s.heap h'->Cm prog w h' a (Br ks y)->Q b { s with heap:=h' }) :
  wpAny (model prog w) A (setAddHashed a (.str y tk) ((PySem.strKind prog w).hash y)) Q E s:=by
 obtain⟨es,ep,t,M,⟨hf,hz,f,Y⟩,hb,g,J⟩:=x
 have hk:=Q9 (prog:=prog) (w:=w) y tk
 have a2:es.size=ks.length:=by rw[<-J.length_eq];simp
 have mem:y∈ks↔∃e∈es.toList,(PySem.strKind prog w).is y e.2=true:=by
  rw[<-J.mem_iff,mem_map]
  constructor
  ·rintro⟨e,B,rfl⟩
   obtain⟨⟨k,D,_⟩,_⟩:=g e B
   refine⟨e,B,?_⟩
   rw[(L0 D).1];exact D
  ·rintro⟨e,B,q⟩
   exact⟨e,B,(L0 q).1⟩
 unfold setAddHashed setAddHashedIn
 refine wpAny_holding (wB (wpAny_setState_of M rfl hf ?_))
 dsimp only
 rw[if_pos (byScan_of rfl hb g)]
 unfold setAddByScan
 refine wB (wB (wpAny_rule (wB (wpAny_setScan_of hk M rfl hf g ?_))))
 cases hr:findIdx? (λe=>(PySem.strKind prog w).is y e.2) es.toList with
 |some j =>
  obtain⟨hj,a0,_⟩:=findIdx?_eq_some_iff_getElem.mp hr
  have hm:y∈ks:=mem.mpr ⟨_,getElem_mem hj,a0⟩
  refine wP (wP (h _ s.heap (Heap.SameBut.refl a s.heap) ⟨es,ep,t,M,⟨hf,hz,f,Y⟩,hb,g,?_⟩))
  unfold Br
  rw[if_pos hm]
  exact J
 |none =>
  have hm:y∉ks:=λz=>by
   obtain⟨e,B,q⟩:=mem.mp z
   have:=findIdx?_eq_none_iff.mp hr e B
   rw[q]at this;cases this
  dsimp only
  have v:=layNew_perm t es ((PySem.strKind prog w).hash y) (.str y tk)
  have N:=layNew_fits t es ((PySem.strKind prog w).hash y) (.str y tk)
  have ld:=X0 t es ((PySem.strKind prog w).hash y) (.str y tk)
  generalize layNew t es ((PySem.strKind prog w).hash y) (.str y tk)=L at v N ld ⊢
  obtain⟨c,O,wd,gv⟩:=L
  dsimp only at v N ld ⊢
  rw[Array.toList_push]at v
  have z1:c.size=es.size+1:=by have:=v.length_eq;simpa using this
  have i:ElemsOf (PySem.strKind prog w) c.toList:=(g.push hk rfl).perm v
  have H:c.size<scanBound:=by lia
  have C:(RA c).Perm (Br ks y):=by
   unfold Br
   rw[if_neg hm]
   refine(v.map _).trans ?_
   rw[map_append]
   exact J.append (List.Perm.refl _)
  have I:∀(t2:SetTable),t2.fits c.size=true->t2.led=t.led->t2.plain=false->wpAny (model prog w) A (do
    storeSet a c t2
    if(!wd&&t2.tooFull)=true then do
      (match (relayAll t2 c (SetTable.grown c.size)).2.2 with|true=>rule "set.scan.the-table-gave-way" | false=>pure ():Sem Unit)
      storeSet a (relayAll t2 c (SetTable.grown c.size)).1 (relayAll t2 c (SetTable.grown c.size)).2.1
      pure (some true)
     else pure (some true)) (λr s'=>wpAny (model prog w) A (match r with|some u=>pure u|none=>setAddHashedIn a (.str y tk) ((PySem.strKind prog w).hash y) 99999) Q E s') E s:=by
   intro t2 f2 l2 p2
   have T:Em w c t2:=⟨f2,by have:scanBound=4096:=rfl;lia,by rw[l2,f],λ_=>p2⟩
   refine wB (RB M H λh1 b1 e1=>?_)
   split
   ·have d:=relayAll_perm t2 c (SetTable.grown c.size)
    have o:=relayAll_fits t2 c (SetTable.grown c.size)
    have n:=X1 t2 c (SetTable.grown c.size)
    have l:=X2 c (SetTable.grown c.size) p2
    generalize relayAll t2 c (SetTable.grown c.size)=L at d o n l ⊢
    obtain⟨p,t3,a1⟩:=L
    dsimp only at d o n l ⊢
    have z3:p.size=c.size:=by have:=d.length_eq;simpa using this
    have G:p.size<scanBound:=by lia
    refine wB (RC _ rfl a1 (wB (RB (s:={ s with heap:=h1 }) e1 G λh3 b3 e3=>wP (wP (h _ _ (b1.trans b3) ⟨p,_,t3,e3,⟨o,by have:scanBound=4096:=rfl;lia,by rw[n,l2,f],λ_=>l⟩,G,i.perm d,(d.map _).trans C⟩)))))
   ·exact wP (wP (h _ _ b1 ⟨c,_,t2,e1,T,H,i,C⟩))
  refine wB (RC _ rfl gv ?_)
  by_cases p1:O.plain=true
  ·rw[if_pos p1]
   refine wB (wP ?_)
   exact I { O with plain:=false } (SetTable.fits_plain_off N) ld rfl
  ·rw[if_neg p1]
   refine wB (wP ?_)
   exact I O N ld (by simpa using p1)
def CV(ys:List Str):List Str:=ys.foldl Br []
theorem YK{P:Nat->Value->Prop}{R:Result->Shared->Prop}{wr:List Addr}{G:Array GenState->Array GenState->Prop}{ys:List Str}{vs:List Value}{St:Nat->Shared->Prop}(W:WalksS prog w A.in1 I fp wr G n P St)(O:n=vs.length)(J:∀i v,P i v->vs[i]?=some v)(d:StrsAre vs ys)(S:Addr)(u:S∉fp)(c:vs.length+1<scanBound) :
  ∀(k i:Nat) (s:Shared) (ks:List Str),vs.length - i=k->i<=vs.length->ks.length<=i->St i s->Cm prog w s.heap S ks->(∀s',Moved (S::wr) G s s'->Cm prog w s'.heap S ((ys.drop i).foldl Br ks)->R (.ok (.ret .none)) s') ->
   codeAny (model prog w) A (.builtin "set.update.loop" ⟨[.ref S,.ref I],[]⟩) R s:=by
 have r:S∉wr:=λh=>u (W.sub _ h)
 have U:vs.length=ys.length:=d.length
 subst O
 intro k
 induction k with
 |zero =>
  intro i s ks Q hi D st tx H
  have E:i=vs.length:=by lia
  subst E
  refine codeAny_builtin PyProof.Rows.F.entry_set_update_loop ?_
  rw[Around.under_plainId PyProof.Rows.F.plain_set_update_loop _]
  refine wB (m:=pyNext (.ref I)) (W.done s _ _ st λs' l=>?_)
  refine wP (H s' (l.mono λb c=>mem_cons_of_mem _ c) ?_)
  rw[drop_of_length_le (by lia)]
  exact tx.at λo e=>l.heap S o r e
 |succ k M =>
  intro i s ks Q hi D st tx H
  have a:i<vs.length:=by lia
  have p:i<ys.length:=by lia
  refine codeAny_builtin PyProof.Rows.F.entry_set_update_loop ?_
  rw[Around.under_plainId PyProof.Rows.F.plain_set_update_loop _]
  refine wB (m:=pyNext (.ref I)) (W.item i s _ _ a st λv s' hP z l=>?_)
  replace hP:=J i v hP
  have N:∃tk,v=.str ys[i] tk:=by
   have C:vs[i]=v:=by rw[getElem?_eq_getElem a]at hP;exact oI hP
   obtain⟨x,tk,e⟩:=d.all v (C▸getElem_mem a)
   have T:=d.strs
   have:ys[i]=x:=by
    have L:(vs.map strOf)[i]?=ys[i]?:=by rw[T]
    rw[getElem?_map,hP,getElem?_eq_getElem p,e]at L
    exact(oI L).symm
   exact⟨tk,by rw[this];exact e⟩
  obtain⟨tk,rfl⟩:=N
  refine wB (m:=holding _ _) (wpAny_holding ?_)
  unfold setAdd
  refine wpAny_holding (wB ((PySem.strKind prog w).pyHash (Q9 ys[i] tk) ?_))
  refine YJ (s:={ s' with toks:=s'.toks+1 }) (tx.at λo e=>l.heap S o r e) (by lia) λb h' g y=>?_
  have q:(Br ks ys[i]).length<=i+1:=by
   unfold Br;split
   ·lia
   ·simp;lia
  refine wP ⟨plainId_quiet PyProof.Rows.F.plain_set_update_loop _,M (i+1) _ _ (by lia) a q (W.frame _ s' _ _ z (Nat.le_succ _) λb c o e=>?_) y λB j f=>?_⟩
  ·rw[g.2 b (λh:b=S=>u (by rw[<-h];exact c))];exact e
  ·refine H B (Moved.trans W.gtrans ((l.mono λb c=>mem_cons_of_mem _ c).then_heap (Nat.le_succ _) λb o c e=>?_) j) ?_
   ·rw[g.2 b (λh:b=S=>c (by rw[h];exact mem_cons_self))];exact e
   ·rw[drop_eq_getElem_cons p];exact f
theorem YL(x:Value){Q₁:VS}(h:Q₁ (.ref s.heap.objs.size) { s with heap:=s.heap.push (BO #[] 0 (.fresh 0 0 (!w.params.followText "set-order"))) }) :
  codeAny (model prog w) A (.call (.builtin "set.__new__") ⟨[.type "set",x],[]⟩) (wants Q₁ E) s:=by
 refine codeAny_of_tree ?_
 show wpAny _ A.in1 (do checkBuiltinCall "set.__new__" ⟨[.type "set",x],[]⟩;again (.builtin "set.__new__" ⟨[.type "set",x],[]⟩)) _ _ s
 refine wB (wpAny_of_eq (F.newCall_set_1 x) (wP ⟨plainId_quiet F.plain_set_new _,codeAny_builtin F.entry_set_new ?_⟩))
 rw[Around.under_plainId F.plain_set_new _]
 unfold Builtin.«set.__new__» Builtin.Frozenset.newClass
 have a:=sub_set_self
 obtain⟨c,g,d,tk,os⟩:=s
 dsimp only
 wp_walk
 refine wpAny_askSetting (wP ?_)
 dsimp only
 simp only[newObj]
 exact wB (wpAny_alloc (wP (wP h)))
theorem YM:Em w #[] (.fresh 0 0 (!w.params.followText "set-order")):=⟨rfl,by decide,rfl,λh=>absurd h (by decide)⟩
theorem RD{l:Addr}{c:String}{G:Option Addr}{U:Data}{D:Array (Option Value)}{vs:List Value}{ys:List Str}(hh:A.handled=none)(y:s.heap.get? l=some { cls:=.type c,dict:=G,data:=U,slots:=D })(q:StrsAre vs ys)(M:ys.length+1<scanBound)
  (a1:isSubtype (.type c) (.type "set")=pure false) (a2:isSubtype (.type c) (.type "frozenset")=pure false) (a8:(Value.type c==Value.type "dict")=false)
  (L:∀(Y:Around) (s':Shared),Y.handled=none->s'.heap.get? l=some { cls:=.type c,dict:=G,data:=U,slots:=D }->∃(oI:Obj) (St:Nat->Heap->Prop),(∀(E':VS) (Q':VS),Q' (.ref s'.heap.objs.size) { s' with heap:=s'.heap.push oI }->wpAny (model prog w) Y (pyIter (.ref l)) Q' E' s')/\Walks prog w Y.in1 s'.heap.objs.size [s'.heap.objs.size,l] [s'.heap.objs.size] vs.toArray.size (λi v=>vs.toArray[i]?=some v) St/\St 0 (s'.heap.push oI))
  (h:∀(h':Heap) (tk:Nat),Cm prog w h' s.heap.objs.size (CV ys)->(∀b o,s.heap.get? b=some o->h'.get? b=some o)->Q (.ref s.heap.objs.size) { s with heap:=h',toks:=tk }) :
  wpAny (model prog w) A (call (.type "set") [.ref l]) Q E s:=by
 obtain⟨c',tl,a3⟩:=F.called_set.mro
 have I:=F.called_set.made
 have a0:=F.called_set.sub
 have J:=Heap.lt_size y
 refine wpAny_call (codeAny_of_tree (?_:wpAny _ _ (callAny (.type "set") _) _ _ _))
 refine wP ⟨Code.quiet_builtin _ nofun,codeAny_builtin F.entry_type_call ?_⟩
 rw[Around.under_plain (weight_type_call_type "set" [.ref l] []) rfl]
 have q1:=F.called_set.notType
 have q2:=F.called_set.canCreate
 have aa:=F.typeCall_set_1 (.ref l)
 repeat (any_goals (first|assumption|wp_step))
 generalize B:SetTable.fresh 0 0 (!w.params.followText "set-order")=g
 refine codeAny_mono (YL (.ref l) (E:=E) (Q₁:=λp f=>p=.ref s.heap.objs.size/\f={ s with heap:=s.heap.push (BO #[] 0 g) }) (by rw[B];exact⟨rfl,rfl⟩)) λr f H=>?_
 cases r with
 |error e=>exact H
 |ok fl =>
  cases fl with
  |ret p =>
   obtain⟨rfl,rfl⟩:=H
   have O:(s.heap.push (BO #[] 0 g)).get? s.heap.objs.size=some (BO #[] 0 g):=Heap.get?_push_size _ rfl
   have hT:Shared.TypeIs { s with heap:=s.heap.push (BO #[] 0 g) } (.ref s.heap.objs.size) "set":=⟨_,O,rfl⟩
   have a9:=F.called_set.init.lookup
   have ab:=F.called_set.init.bind (.ref s.heap.objs.size)
   repeat (any_goals (first|assumption|wp_step))
   refine codeAny_mono (codeAny_call_builtin (R:=wants (λr d=>r=.none/\∃h' tk,d={ s with heap:=h',toks:=tk }/\Cm prog w h' s.heap.objs.size (CV ys)/\(∀b o,s.heap.get? b=some o->h'.get? b=some o)) E) F.called_set.init.plain F.entry_set_init (check_set_init_1 hT ?_)) λn d a=>?_
   ·have x:(s.heap.push (BO #[] 0 g)).get? l=some { cls:=.type c,dict:=G,data:=U,slots:=D }:=Heap.get?_push_of_some _ y
    have ac:(s.heap.push (BO #[] 0 g)).get? s.heap.objs.size=some { cls:=.type "set",dict:=none,data:=.set #[] 0 g,slots:=#[] }:=O
    subst B
    unfold Builtin.«set.__init__» noKeywords Builtin.Frozenset.updateFrom
    generalize T:pyIter=PI
    wp_walk
    subst T
    obtain⟨oI,St,z,W,st⟩:=L A.in1.in1 { s with heap:=s.heap.push (BO #[] 0 (SetTable.fresh 0 0 (!w.params.followText "set-order"))) } hh x
    refine z _ _ (wB (wpAny_runValue ?_))
    have u:=size_push' s.heap (BO #[] 0 (SetTable.fresh 0 0 (!w.params.followText "set-order")))
    have N:s.heap.objs.size∉[(s.heap.push (BO #[] 0 (SetTable.fresh 0 0 (!w.params.followText "set-order")))).objs.size,l]:=by
     rw[u];simp only[mem_cons,not_mem_nil,or_false,not_or]
     exact⟨Nat.ne_of_lt (Nat.lt_succ_self _),Nat.ne_of_gt J⟩
    have a4:=q.length
    refine YK W.toS (size_toArray) (vs:=vs) (λi v e=>by simpa using e) q s.heap.objs.size N (by lia) (vs.length - 0) 0 _ [] rfl (Nat.zero_le _) (Nat.le_refl _) st ⟨#[],0,_,Heap.get?_push_of_some _ O,YM,by decide,λe he=>by simp at he,List.Perm.refl _⟩ λs' C tx=>?_
    have e:s'={ s with heap:=s'.heap,toks:=s'.toks }:=by
     have e1:=C.gens;have e2:=C.drawn;have e3:=C.os
     obtain⟨a7,g',d',a5,a6⟩:=s'
     simp only at e1 e2 e3
     subst e1;subst e2;subst e3
     rfl
    refine wP (wP ⟨rfl,_,_,e,tx,λb o eb=>?_⟩)
    have M:=Heap.lt_size eb
    refine C.heap b o ?_ (Heap.get?_push_of_some _ (Heap.get?_push_of_some _ eb))
    rw[u]
    simp only[mem_cons,not_mem_nil,or_false,not_or]
    exact⟨Nat.ne_of_lt M,Nat.ne_of_lt (Nat.lt_succ_of_lt M)⟩
   ·cases n with
    |error e=>exact a
    |ok j =>
     cases j with
     |ret r =>
      obtain⟨rfl,h',tk,rfl,x1,x2⟩:=a
      repeat (any_goals (first|assumption|wp_step))
      exact h _ _ x1 x2
     |_=>exact a.elim
  |_=>exact H.elim
theorem YN:isSubtype (.type "tuple") (.type "set")=pure false:=by rw[isSubtype_type];kernel_rfl
theorem YO:isSubtype (.type "tuple") (.type "frozenset")=pure false:=by rw[isSubtype_type];kernel_rfl
theorem YQ{l:Addr}{vs:List Value}{ys:List Str}(p:A.handled=none)(j:s.heap.IsList l vs.toArray)(c:StrsAre vs ys)(r:ys.length+1<scanBound)
  (h:∀(h':Heap) (tk:Nat),Cm prog w h' s.heap.objs.size (CV ys)->(∀b o,s.heap.get? b=some o->h'.get? b=some o)->Q (.ref s.heap.objs.size) { s with heap:=h',toks:=tk }):wpAny (model prog w) A (call (.type "set") [.ref l]) Q E s:=by
 obtain⟨⟨f,y,z,x⟩,d,i,n,g⟩:=j
 simp only at i g
 subst i;subst g
 exact RD p d c r F.sub_list_set F.sub_list_frozenset (by decide) (λv s' u e=>have a:s'.heap.IsList l vs.toArray:=⟨_,e,rfl,n,rfl⟩;⟨_,_,λC B q=>wpAny_pyIter_list a q,Walks.list (A:=v.in1) u _ l (Nat.ne_of_lt (Heap.lt_size e)) vs.toArray,⟨_,Heap.get?_push_size _ rfl,rfl,rfl⟩,a.push _⟩) h
theorem YR{l:Addr}{vs:List Value}{ys:List Str}(p:A.handled=none)(j:s.heap.IsTuple l vs.toArray)(a:StrsAre vs ys)(r:ys.length+1<scanBound)
  (h:∀(h':Heap) (tk:Nat),Cm prog w h' s.heap.objs.size (CV ys)->(∀b o,s.heap.get? b=some o->h'.get? b=some o)->Q (.ref s.heap.objs.size) { s with heap:=h',toks:=tk }):wpAny (model prog w) A (call (.type "set") [.ref l]) Q E s:=by
 obtain⟨⟨f,y,z,x⟩,c,i,n,g⟩:=j
 simp only at i g
 subst i;subst g
 exact RD p c a r YN YO (by decide) (λv s' u e=>have d:s'.heap.IsTuple l vs.toArray:=⟨_,e,rfl,n,rfl⟩;⟨_,_,λC B q=>wpAny_pyIter_tuple d q,Walks.tuple (A:=v.in1) u _ l (Nat.ne_of_lt (Heap.lt_size e)) vs.toArray,⟨_,Heap.get?_push_size _ rfl,rfl,rfl⟩,⟨_,Heap.get?_push_of_some _ e,rfl,n,rfl⟩⟩) h
def JJ(prog:Program)(w:World)(a:Addr)(ks:List Str):HO:=.ext λh=>Cm prog w h a ks
def L1(prog:Program)(w:World):List V->Hp->VK->Prop:=λxs H Q=>∃(p:Addr) (ss:List Str),xs=[.ref p]/\(H p=some (.lst (ss.map V.str))\/H p=some (.tup (ss.map V.str)))/\ss.length<4000/\∀a:Addr,H a=none->Q (.ref a) (AD H a (JJ prog w a (CV ss)))
def L3(prog:Program)(w:World):List V->Hp->VK->Prop:=λxs H Q=>∃(a:Addr) (ks:List Str),xs=[.ref a]/\H a=some (JJ prog w a ks)/\ks.length<64/\∀(l:Addr) (ss':List Str),H l=none->ss'.Perm ks->sortedS ss'=true->Q (.ref l) (AD H l (.lst (ss'.map V.str)))
theorem Inv.dr{d:PySem.Drawn}(I:Inv X qA σ H s):Inv X qA σ H { s with drawn:=d }:=⟨I.ok,I.os,I.bare,I.base,I.loc,I.cell,I.free,I.freeC,I.pin,I.hok,I.len⟩
theorem YS(d:X.calm=true):BP X (.type "set") (L1 X.prog X.w):=by
 intro qA s σ H xs us Q I r h
 obtain⟨p,c,rfl,hp,i,q⟩:=h
 obtain⟨u,rfl,g⟩:=r.one
 cases g
 have a:∀(h':Heap) (tk:Nat),Cm X.prog X.w h' s.heap.objs.size (CV c)->(∀b o,s.heap.get? b=some o->h'.get? b=some o)->EP X qA σ Q (.ref s.heap.objs.size) { s with heap:=h',toks:=tk }:=λh' tk tx k =>
  ⟨.ref s.heap.objs.size,_,I.laid (t':=tk) (o:=JJ X.prog X.w s.heap.objs.size (CV c)) k (Nat.le_refl _) ⟨tx,(let⟨_,_,_,e,_⟩:=tx;⟨_,e⟩),λh1 h2 x y=>x.at y⟩,rfl,q _ (I.hok.fresh (Nat.le_refl _))⟩
 have f:c.length+1<scanBound:=by show c.length+1<4096;lia
 rcases hp with hp|hp
 ·obtain⟨qH,r,pl,_⟩:=I.list (.of hp)
  exact YQ (I.ok.hd d) pl.isList (GG r) f a
 ·obtain⟨qH,r,tt,_⟩:=I.tuple (.of hp)
  exact YR (I.ok.hd d) tt (GG r) f a
theorem YT(C:X.calm=true):BP X (.builtin "sorted") (L3 X.prog X.w):=by
 intro qA s σ H xs us Q I r h
 obtain⟨a,ks,rfl,E,J,q⟩:=h
 obtain⟨u,rfl,y⟩:=r.one
 cases y
 obtain⟨⟨es,ep,t,e,ok,_,g,n⟩,_⟩:=I.hok a _ E
 have M:es.size=ks.length:=by rw[<-n.length_eq];simp
 have G:StrsAre (es.toList.map (·.2)) ((es.toList.map (·.2)).map strOf):=strsAre_map _ λv A=>by
  obtain⟨x,z,rfl⟩:=mem_map.mp A
  obtain⟨⟨k,B,_⟩,_⟩:=g x z
  obtain⟨_,tk,e⟩:=L0 B
  exact⟨_,tk,e⟩
 have d:((es.toList.map (·.2)).map strOf).Perm ks:=by rw[map_map];exact n
 obtain⟨m,p,_⟩:=I.loc
 refine YI (I.ok.hd C) e ok G (by lia) λh' tk dr D out c i j k1 k2 k3 l k5=>?_
 have f:H D=none:=by
  cases e:H D with
  |none=>rfl
  |some o=>obtain⟨u,L⟩:=(I.hok D o e).there;exact absurd L (j u)
 refine⟨.ref D,_,(Inv.laidF (t':=tk) (o:=.lst (c.map V.str)) I p (p.at' λo e=>k1 _ o e) (λb u _ e=>k1 b u e) f j ⟨?_,out,i,KQ k3,k2⟩).dr,rfl,q D c f (l.trans d) k5⟩
 rw[length_map,(l.trans d).length_eq]
 exact Nat.le_of_lt (Dx (by lia))
theorem YU{ks:List Str}{y:Str}:x∈Br ks y↔x∈ks\/x=y:=by
 unfold Br;split
 ·rename_i h
  exact⟨.inl,λz=>z.elim id λe=>e▸h⟩
 ·simp
theorem YV{ks:List Str}{y:Str}(h:ks.Nodup):(Br ks y).Nodup:=by
 unfold Br;split
 ·exact h
 ·rename_i n
  exact nodup_append.mpr ⟨h,by simp,λa d b c e=>n (by rw[mem_singleton]at c;rw[<-c,<-e];exact d)⟩
theorem RE:∀(ys ks:List Str) (x:Str),x∈ys.foldl Br ks↔x∈ks\/x∈ys
 |[],ks,x=>by simp
 |y::r,ks,x=>by
  rw[foldl_cons,RE r,YU,mem_cons,or_assoc]
theorem RG:∀(ys ks:List Str),ks.Nodup->(ys.foldl Br ks).Nodup
 |[],ks,h=>h
 |y::r,ks,h=>RG r _ (YV h)
theorem RH:∀(ys ks:List Str),(ys.foldl Br ks).length<=ks.length+ys.length
 |[],ks=>by simp
 |y::r,ks=>by
  have:=RH r (Br ks y)
  have h2:(Br ks y).length<=ks.length+1:=by unfold Br;split<;>simp
  simp only[foldl_cons,length_cons]
  lia
theorem YW{ys:List Str}:x∈CV ys↔x∈ys:=by unfold CV;rw[RE];simp
theorem YX(ys:List Str):(CV ys).Nodup:=RG ys [] List.Pairwise.nil
theorem YY(ys:List Str):(CV ys).length<=ys.length:=by unfold CV;simpa using RH ys []
def JK:pC:=p1 λx f K=>∃ss:List Str,(x=.lst (ss.map P.str)\/x=.tup (ss.map P.str))/\ss.length<64/\∀ss':List Str,ss'.Nodup->(∀z,z∈ss'↔z∈ss)->DR ss'->K (.lst (ss'.map P.str)) .nw
def RI(prog:Program)(w:World):List V->Hp->VK->Prop:=λxs H Q=>L1 prog w xs H λv H1=>L3 prog w [v] H1 Q
section
theorem YZ{x:P}{ss:List Str}(ok:Ok W ρ σ H)(rv:RF W ρ σ Hs f H x v)(d:x=.lst (ss.map P.str)\/x=.tup (ss.map P.str)):∃p,v=.ref p/\(H p=some (.lst (ss.map V.str))\/H p=some (.tup (ss.map V.str))):=by
 rcases d with rfl|rfl
 ·obtain⟨p,us,rfl,c,a⟩:=CI ok rv
  rw[AB.strs.mp a]at c
  exact⟨p,rfl,.inl c⟩
 ·obtain⟨p,us,rfl,c,a⟩:=DN ok rv
  rw[AB.strs.mp a]at c
  exact⟨p,rfl,.inr c⟩
theorem Ya:CB (RI prog w) JK:=λW ρ σ Hs H Q K xs vs ok st r e q=>by
 unfold JK p1 at e
 split at e
 ·obtain⟨v,rfl,rv⟩:=r.one
  obtain⟨c,i,s,j⟩:=e
  obtain⟨p,rfl,n⟩:=YZ ok rv i
  refine⟨p,c,rfl,n,by lia,λa o=>⟨a,CV c,rfl,Af,by have:=YY c;lia,λl f h h1 h2=>?_⟩⟩
  have d:Step W.b W.a H (AD H a (JJ prog w a (CV c))):=Step.new ok.bag o
  exact q _ _ _ _ (j f (h1.nodup_iff.mpr (YX c)) (λz=>h1.mem_iff.trans YW) (Qp h2)) (d.trans (Step.new d.bag h)) (Ec (g:=.nw) (ok.step d) (st.trans d) (by simp) (by simp) (AB.strs.mpr rfl) h)
 ·exact e.elim
section
variable{ι:Type}{Xs:ι->Cx}{a:Expr}{p:pA}{p1 p2 pos2:Pos}
theorem RJ(e:∀i,(Xs i).prog=prog/\(Xs i).w=w)(f:∀i,(Xs i).calm=true)(j:∀i,(Xs i).mg "sorted"=none)(c:∀i,(Xs i).mg "set"=none)(o:QA Xs [a] p)
  (l:∀i,Gl (Xs i) "sorted":=by intro _;rfl) (d:∀i,Gl (Xs i) "set":=by intro _;rfl) (n:∀i,starEach [a] (Xs i).env=(false,eval a (Xs i).env)::starEach [] (Xs i).env:=by intro _;rfl) :
  QE Xs (.Call (.Name "sorted" p1) [.Call (.Name "set" p2) [a] [] pos2] [] pos) (GM JK p):=by
 obtain⟨t,h1,h2⟩:=o
 refine⟨EQ (L3 prog w) (B8 (EQ (L1 prog w) t) B7),λi=>?_,show A6 (EQ (RI prog w) t) _ from KZ Ya h2⟩
 have h:=YT (X:=Xs i) (f i)
 have g:=YS (X:=Xs i) (f i)
 rw[(e i).1,(e i).2]at h g
 exact ER h (l i) (j i) (show bootBuiltins _=some (.builtin "sorted") by decide +kernel) (Ap (J8 g (d i) (c i) nofun (h1 i) nofun nofun (n i) rfl) BA rfl) nofun nofun rfl rfl
end
end
end L2
namespace L2
open PySem PySem.Spec PyProof.Rows
theorem Yb{r:Pos}(S:CompScopeC N sc N' qD scope)(l:X.N.Nodup)(n:X.N[i]?=some x)(J:Bu X.env.scope x)(hc:X.calm=true)(hi:PI X tg iter wi)(T:Dz qD g)
  (U:∀p,PG (X.compC N' scope p) tg g) (L:∀p,Dy (X.compC N' scope p) ifs tt) (he:∀p,PE (X.compC N' scope p) elt te) (hN:X.N=N:=by rfl) (d:X.env.scope=sc:=by rfl)
  (c:swapsWith (.ListComp elt [⟨tg,iter,ifs,0⟩] scope pos) (some (.Name x pos')) r.line X.env=pure true:=by rfl) (M:∀x,foldedSetIterable iter X.env x=pure x:=by intro _;rfl)
  (Y:X.fn x=true\/X.env.scope.names.lookup x=some .local:=by trivial) :
  PS X (.Assign [.Name x pos'] (.ListComp elt [⟨tg,iter,ifs,0⟩] scope pos) r) (Da (E6 wi qD g tt te) (Cd i)):=by
 intro qA s σ H D I h
 rw[exec_Assign_Name_used _ _ _ _ c]
 refine wB (wpAny_standAt (wB ?_))
 show wpAny _ _ (do let _ <-comprehension (.ListComp elt [⟨tg,iter,ifs,0⟩] scope pos) scope X.env _ (newList []) false (eval iter X.env) (some (assign (.Name x pos') X.env))) _ _ s
 refine wB (AH (Np (QQ:=λ_ s'=>SP X qA D .next s') S hN d hc hi T U L he M I h λD' C H' s' m IO q G w E u B Q=>?_) λ_ s' O=>wP (wP O))
 refine wpAny_assign_Name (Js (v:=V.ref D') IO l n J rfl (λy I2 ⟨a,f,ha⟩=>?_) Y)
 have A:C≠a:=by
  rcases ha with e|e
  ·rw[e];exact w
  ·exactλz=>u _ _ e z.symm
 refine⟨m,Q.sameBut f A,λh' j=>⟨_,H',I2.turned (t':=y.toks) (λb o hb e=>(j.2 b hb).trans e) G w (.inr E) u B,q⟩⟩
section
variable{ι:Type}{Xs:ι->Cx}{pt:pT}
abbrev L4(Xs:ι->Cx)(N':List Str)(scope:Scope):ι×CompP->Cx:=λq=>(Xs q.1).compC N' scope q.2
theorem Yc{k:Nat}{f:Pos}(d:∀i,(Xs i).N.Nodup)(S:CompScopeC N sc N' qD scope)(s:FH qD)(y:∀i,(Xs i).calm=true)(hi:QI Xs tg iter pi)(u:Ga (L4 Xs N' scope) qD tg pg)(q:Gb (L4 Xs N' scope) ifs pt)(w:QE (L4 Xs N' scope) elt pe)
  (e:∀i,(Xs i).N[k]?=some x:=by intro _;rfl) (o:∀i,Bu (Xs i).env.scope x:=by intro _;trivial)
  (z:∀i,(Xs i).N=N:=by intro _;rfl) (c:∀i,(Xs i).env.scope=sc:=by intro _;rfl)
  (a:∀i,swapsWith (.ListComp elt [⟨tg,iter,ifs,0⟩] scope pos) (some (.Name x pos')) f.line (Xs i).env=pure true:=by intro _;rfl) (r:∀i,∀x,foldedSetIterable iter (Xs i).env x=pure x:=by intro _ _;rfl)
  (v:∀i,(Xs i).fn x=true\/(Xs i).env.scope.names.lookup x=some .local:=by intro _;trivial) :
  QS Xs (.Assign [.Name x pos'] (.ListComp elt [⟨tg,iter,ifs,0⟩] scope pos) f) (GP (GZ pi qD pg pt pe) k):=by
 obtain⟨wi,n,l⟩:=hi
 obtain⟨g,C,B,A⟩:=u
 obtain⟨tt,j,h⟩:=q
 obtain⟨te,E,D⟩:=w
 exact⟨_,λi=>Yb S (d i) (e i) (o i) (y i) (n i) A (λp=>C (i,p)) (λp=>j (i,p)) (λp=>E (i,p)) (z i) (c i) (a i) (r i) (v i),Kj (Km s l B h D)⟩
end
end L2
namespace L2
open PySem PySem.Spec PyProof.Rows PySem.W
end L2
namespace L2
section
variable{α:Type}(adj:α->α->Prop)
variable{adj}
end
end L2
namespace L2
section
variable{α:Type}[DecidableEq α](r:Nat->List α)(there:List Nat)
variable{r there}
end
end L2
namespace L2
open PySem
abbrev gt(row:List Str)(k:Nat):Str:=row.getD k ⟨#[]⟩
end L2
namespace L2
open PySem PySem.Spec PyProof.Rows PySem.W
end L2
namespace L2
open PySem
abbrev Wd.at(W:Wd)(h:Hp):Wd:={ W with H₀:=h,F:=h }
section
variable{h:Hp}{k:Nat}
structure Sub(W:Wd)(h:Hp):Prop where
 fb:W.F W.b=none
 o:∀p x,p≠W.b->W.H₀ p=some x->h p=some x
 f:∀p x,W.F p=some x->h p=some x
end
end L2
namespace L2
open PySem PySem.Spec PyProof.Rows
end L2
namespace PySem
open PySem.Sem (wp)
section
variable{K:Type}[DecidableEq K]{knd:HeapKind prog w K}
theorem Yd{xs:List (K×Addr×Value)}{k:K}{v:Value}(u:knd.room A)(c:knd.is s.heap k a)(C:s.heap.DictOfH knd d xs)
  (h1:∀p,atKey xs k=some p->Q p.2 { s with toks:=s.toks+knd.draws k })
  (h2:atKey xs k=none->∀h',h'.DictOfH knd d (storedH xs k a v)->Heap.SameBut d s.heap h'->Q v { s with heap:=h',toks:=s.toks+knd.draws k })
  (hsz:xs.length<=sizeLine):wpAny (model prog w) A (dictSetDefault d (.ref a) v) Q E s:=by
 obtain⟨o,es,ep,g,D,f,n,l,q⟩:=C
 unfold dictSetDefault
 try with_reducible refine wpAny_holding ?_
 refine wB (knd.pyHash u c ?_)
 refine wB (wpAny_dictFind_heap (s:={ s with toks:=s.toks+knd.draws k }) u c g f n l q ?_ ?_)
 ·intro i
  have h:k∉xs.map (·.1):=not_mem_keys_of_get i
  have B:=atKey_none_of_get i
  have h2:=h2 B
  rw[storedH_new B]at h2
  refine wB (wpAny_rule (wB (wpAny_updateDictKeys (hz:=by have e:=size_of_entries n;lia) (s:={ s with toks:=s.toks+knd.draws k }) g f (wP (h2 _ ⟨_,_,ep+1,Heap.get?_update_self _ g (Obj.isFreed_of_dict (Obj.data_mapDictKeys f _)),
   D.mapDictKeys _,Obj.data_mapDictKeys f _,?_,?_,?_⟩ (Heap.SameBut.update ..))))))
  ·simp[n,entryOfKey]
  ·intro x hx
   rcases mem_append.mp hx with hx|hx
   ·exact knd.keeps (l x hx) g f (Heap.SameBut.update ..)
   ·simp only[mem_singleton]at hx
    subst hx
    exact knd.keeps c g f (Heap.SameBut.update ..)
  ·rw[map_append,nodup_append]
   refine⟨q,by simp,?_⟩
   intro x hx y r
   simp only[map_cons,map_nil,mem_singleton]at r
   subst r
   exactλe=>h (e▸hx)
 ·intro j p z
  have h1:=h1 p (atKey_of_get q z)
  refine wB (wpAny_dictEntries (s:={ s with toks:=s.toks+knd.draws k }) g f ?_)
  rw[entry_at n j,z]
  exact wB (wpAny_rule (wP h1))
theorem Ye(knd:HeapKind prog w K)(d a:Addr)(n:(d==sysModules)=false)(dflt:Value) :
  MeetsIn prog w (Builtin.«dict.setdefault» ⟨[.ref d,.ref a,dflt],[]⟩) (λA R s=>knd.room A.in1/\∃k xs,knd.is s.heap k a/\s.heap.DictOfH knd d xs/\xs.length<=sizeLine /\
   (∀p,atKey xs k=some p->R (.ok (.ret p.2)) { s with toks:=s.toks+knd.draws k }) /\
   (atKey xs k=none->∀h',h'.DictOfH knd d (storedH xs k a dflt)->Heap.SameBut d s.heap h'->R (.ok (.ret dflt)) { s with heap:=h',toks:=s.toks+knd.draws k })) :=
 .of_wp λA R s ⟨i,k,xs,c,g,h,h1,h2⟩=>by
  unfold Builtin.«dict.setdefault»
  refine wB ?_
  unfold Builtin.Dict.keyAndDefault
  refine wB (wpAny_notOrdered_dict g.typeIs ?_)
  show wpAny _ _ (pure (d,Value.ref a,some dflt)) _ _ s
  refine wP ?_
  show wpAny _ _ (if(d==sysModules)=true then _ else(dictSetDefault d (.ref a) dflt >>= _)) _ _ s
  rw[if_neg (by rw[n];exact Bool.false_ne_true)]
  exact wB (Yd i c g (λp j=>wP ⟨p.2,rfl,h1 p j⟩) (λl h' f e=>wP ⟨dflt,rfl,h2 l h' f e⟩) h)
end
end PySem
namespace L2
open PySem PySem.Spec PyProof.Rows
section
variable{b:Addr}{z:V}{r:Value}
theorem Yf{qI:List (List AN×V)}{k:List AN}(u:A.units+1<cLine)(I:Inv X qA σ H s)(e:H a=some (.dT qI))(n:H b=some (.tup (k.map kV)))(l:qI.length<sizeLine)(g:AG z r)
  (h1:∀v,BB qI k=some v->∀w' s',Inv X qA σ H s'->AG v w'->Q w' s') (h2:BB qI k=none->∀w' s',Inv X qA σ (AD H a (.dT (BK qI k z))) s'->AG z w'->Q w' s') :
  wpAny (model X.prog X.w) A (call (.builtin "dict.setdefault") [.ref a,.ref b,r]) Q E s:=by
 obtain⟨f,i,xs,rel,dd⟩:=KF I.hok e
 have o:xs.length<=sizeLine:=by rw[<-Paired.length rel];exact f
 have C:(BK qI k z).length<=sizeLine:=by have:=GA qI k z;lia
 refine call_meetsIn PySem.F.slot_dict_setdefault dd.typeIs PySem.F.entry_dict_setdefault (PySem.F.args_dict_setdefault_3 _ _ _) (Ye (tupleKind (Bn X.prog X.w)) a b i r) ⟨tupleKind_room_in1 u,k,xs,E5 I.hok n,dd,o,λp y=>?_,λB h' dd' x=>?_⟩
 ·have q:=rel.val k
  rw[y]at q
  cases d:BB qI k with
  |none=>rw[d]at q;exact q.elim
  |some v=>rw[d]at q;exact h1 v d _ _ (I.tok _) q
 ·have q:=rel.val k
  rw[B]at q
  cases d:BB qI k with
  |some v=>rw[d]at q;exact q.elim
  |none =>
   refine h2 d _ _ ?_ g
   obtain⟨q,es,ep,h,L,J,G,_,D⟩:=dd'
   refine GD I (by rw[e];exact True.intro) x ⟨q,h⟩ ⟨C,i,_,(rel.put k n g).keeps λc ys j=>?_,q,es,ep,h,L,J,G,D⟩
   rw[AL (Dr j e (λz=>nomatch z))]
   exact j
end
def L5(td ty tx:TE):TE:=λσ H Q=>td σ H λx H1=>∃a,x=.ref a/\Hw H1 a/\ty σ H1 λy H2=>tx σ H2 λz H3=>∃(qI:List (List AN×V)) (k:List AN) (b:Addr),H3 a=some (.dT qI)/\y=.ref b/\H3 b=some (.tup (k.map kV))/\qI.length<sizeLine /\
 (∀v,BB qI k=some v->Q v H3)/\(BB qI k=none->Q z (AD H3 a (.dT (BK qI k z))))
theorem Yg{o e f:Expr}{td ty tx:TE}(L:X.A.units+1<cLine)(M:PE X o td)(U:PE X e ty)(T:PE X f tx)(m:M2 X o "setdefault" qM e f qL):PE X (.Call (.Attribute o "setdefault" qM) [e,f] [] qL) (L5 td ty tx):=by
 intro qA s σ H Q I h
 refine wpAny_Call_method m.base m.few m.line PySem.F.plainAttrs_dict PySem.F.slot_dict_setdefault PySem.F.type_dict_setdefault (AH (M qA s σ H _ I h) λu r ⟨x,H1,i,C,a,ex,d,E⟩=>?_)
 subst ex
 obtain rfl:u=Value.ref a:=C
 obtain⟨n,l,_⟩:=Nf i d
 refine⟨n,l,?_⟩
 rw[m.trees]
 refine Calls.callWith_builtin rfl (Calls.evalArgs_plain (Calls.spliced_cons (AH (U qA r σ H1 _ i E) λG q ⟨y,H2,I2,B,D⟩ =>
  Calls.spliced_cons (AH (T qA q σ H2 _ I2 D) λfv s3 ⟨z,H3,I3,w,qI,k,b,ea,ey,eb,O,g1,Y⟩=>Calls.spliced_nil ?_))))
 subst ey
 cases(show G=Value.ref b from B)
 exact Yf L I3 ea eb O w (λv J j p g c=>⟨v,H3,g,c,g1 v J⟩) λN j p g c=>⟨z,_,g,c,Y N⟩
abbrev Wd.put(W:Wd)(O:Addr->Prop):Wd:={ W with O:=O }
section
variable{O O':Addr->Prop}{q:Addr}{k:Nat}
theorem Yh(h:∀p,O' p->O p)(z:AC (W.put O') ρ σ f p):AC (W.put O) ρ σ f p:=by
 have k:Ow (W.put O') ρ σ p->Ow (W.put O) ρ σ p:=λz=>z.elim (λz=>.inl (h p z)) .inr
 cases f<;>simp only[AC]at z ⊢
 ·exact z.elim .inl λz=>.inr (z.elim (λz=>.inl (k z)) .inr)
 ·exact z.elim .inl λz=>.inr (z.elim (λz=>.inl (k z)) .inr)
 ·exact z.elim .inl λz=>.inr (k z)
 ·exact z.elim .inl λz=>.inr (z.elim (λz=>.inl (k z)) .inr)
 ·exact z
 ·exact z
theorem Ok.lessO(h:∀p,O' p->O p)(ok:Ok (W.put O) ρ σ H):Ok (W.put O') ρ σ H where
 bag:=ok.bag
 fb:=ok.fb
 old:=ok.old
 frm:=ok.frm
 oo:=λp z=>ok.oo p (h p z)
 len:=ok.len
 slot:=λi s e=>by
  obtain⟨u,h1,h2⟩:=ok.slot i s e
  exact⟨u,h1,Bo.mv (W:=W.put O) (Wb:=W.put O') rfl rfl rfl rfl (λf p o a e=>⟨λz=>a (Yh h z),e⟩) (λ_ _ e=>e) (λ_ _ _ e=>e) h2⟩
 uniq:=ok.uniq
theorem Ok.updO(ok:Ok W ρ σ H)(C:W.O q)(G:¬Ac ρ σ q)(E:∀ys,o≠.tup ys):Ok W ρ σ (AD H q o):=by
 obtain⟨Y,U,Q,T,o',A,D⟩:=ok.oo q C
 have g:∀p vs,H p=some (.tup vs)->AD H q o p=some (.tup vs):=λp vs e=>by
  rw[AL (λz=>by subst z;rw[e]at A;cases A;exact D vs rfl)];exact e
 have d:∀{f:Fl},f=.cl\/f=.fr->∀p u,¬AC W ρ σ f p->H p=some u->¬AC W ρ σ f p/\AD H q o p=some u:=λI p u B e=>⟨B,by
  rw[AL (λz=>B (by subst z;rcases I with rfl|rfl<;>simp[AC,Ow,C]))];exact e⟩
 refine⟨ok.bag.put Q T,ok.fb,λp u x e=>?_,λp u e=>?_,λp x=>?_,ok.len,λi s e=>?_,ok.uniq⟩
 ·rw[AL (λz=>by subst z;rw[Y]at e;cases e)];exact ok.old p u x e
 ·rw[AL (λz=>by subst z;rw[U]at e;cases e)];exact ok.frm p u e
 ·obtain⟨h1,h2,N,M,u,L,J⟩:=ok.oo p x
  refine⟨h1,h2,N,M,?_⟩
  by_cases z:p=q
  ·subst z;exact⟨o,Af,E⟩
  ·exact⟨u,by rw[AL z];exact L,J⟩
 ·obtain⟨u,h1,h2⟩:=ok.slot i s e
  refine⟨u,h1,?_⟩
  cases s with
  |emp=>trivial
  |sh y=>obtain⟨v,h,n⟩:=h2;exact⟨v,h,n.keep (d (.inl rfl)) g⟩
  |fr y=>obtain⟨v,h,n⟩:=h2;exact⟨v,h,n.keep (d (.inr rfl)) g⟩
  |own y =>
   obtain⟨r,h,n,e3,e4,e5,l⟩:=h2
   have w:r≠q:=λz=>G ⟨i,y,e,by rw[h1,h,z]⟩
   refine⟨r,h,n,e3,e4,e5,?_⟩
   cases y with
   |lst xs=>obtain⟨vs,c,a⟩:=l;exact⟨vs,by rw[AL w];exact c,a.keep (d (f:=.fr) (.inr rfl)) g⟩
   |dT ks xs=>obtain⟨vs,c,j,a⟩:=l;exact⟨vs,by rw[AL w];exact c,j,a.keep (d (f:=.fr) (.inr rfl)) g⟩
   |fT ks xs=>obtain⟨vs,c,j,a⟩:=l;exact⟨vs,c.map λ_ e=>by rw[AL w];exact e,j,a.keep (d (f:=.fr) (.inr rfl)) g⟩
   |dK ks xs=>obtain⟨vs,c,j,a⟩:=l;exact⟨vs,by rw[AL w];exact c,j,a.keep (d (f:=.fr) (.inr rfl)) g⟩
   |_=>exact l.elim
theorem Ok.moreO(ok:Ok (W.put O) ρ σ H)(hn:H q=none)(d:∀ys,o≠.tup ys):Ok (W.put λp=>O p\/p=q) ρ σ (AD H q o):=by
 have c:=ok.step (Step.new (o:=o) ok.bag hn)
 refine⟨c.bag,ok.fb,c.old,c.frm,λp hp=>?_,ok.len,λi s e=>?_,ok.uniq⟩
 ·rcases hp with hp|hp
  ·exact c.oo p hp
  ·subst hp
   have nb:=ok.bag.nb hn
   refine⟨?_,?_,nb,ok.bag.na hn,o,Af,d⟩
   ·cases z:(W.put O).H₀ p with
    |none=>rfl
    |some u=>rw[ok.old p u nb z]at hn;cases hn
   ·cases z:(W.put O).F p with
    |none=>rfl
    |some u=>rw[ok.frm p u z]at hn;cases hn
 ·obtain⟨u,h1,h2⟩:=ok.slot i s e
  refine⟨u,h1,Bo.mv (W:=W.put O) (Wb:=W.put λp=>O p\/p=q) rfl rfl rfl rfl (λf p u g a=>⟨λz=>g ?_,by rw[AL (A3 a hn)];exact a⟩) (λp vs a=>by rw[AL (A3 a hn)];exact a) (λp u _ a=>by rw[AL (A3 a hn)];exact a) h2⟩
  have k:Ow (W.put λp=>O p\/p=q) ρ σ p->Ow (W.put O) ρ σ p:=λz=>z.elim (λz=>z.elim .inl λz=>by rw[z,hn]at a;cases a) .inr
  cases f<;>simp only[AC]at z ⊢
  ·exact z.elim .inl λz=>.inr (z.elim (λz=>.inl (k z)) .inr)
  ·exact z.elim .inl λz=>.inr (z.elim (λz=>.inl (k z)) .inr)
  ·exact z.elim .inl λz=>.inr (k z)
  ·exact z.elim .inl λz=>.inr (z.elim (λz=>.inl (k z)) .inr)
  ·exact z
  ·exact z
theorem Ok.aside{x:P}(ok:Ok W ρ σ H)(noO:∀p,¬W.O p)(c:ρ[k]?=some (.own x))(g:σ[k]?=some (some (.ref q))):Ok (W.put λp=>p=q) (ρ.set k .emp) σ H/\∀p,Ac (ρ.set k .emp) σ p->p≠q:=by
 have a:Ac ρ σ q:=⟨k,x,c,g⟩
 have l:k<ρ.length:=by
  rcases Nat.lt_or_ge k ρ.length with z|z
  ·exact z
  ·rw[getElem?_eq_none z]at c;cases c
 have get:∀(i:Nat) (y:P),(ρ.set k S.emp)[i]?=some (S.own y)->i≠k/\ρ[i]?=some (S.own y):=λi y e=>by
  by_cases hi:k=i
  ·subst hi;rw[getElem?_set_self l]at e;cases e
  ·rw[getElem?_set_ne hi]at e;exact⟨Ne.symm hi,e⟩
 have d:∀p,Ac (ρ.set k .emp) σ p->Ac ρ σ p:=λp ⟨i,y,h1,h2⟩=>⟨i,y,(get i y h1).2,h2⟩
 refine⟨⟨ok.bag,ok.fb,ok.old,ok.frm,λp h=>?_,by rw[length_set];exact ok.len,λi s e=>?_,λi j y z h1 h2 r=>ok.uniq i j y z (get i y h1).2 (get j z h2).2 r⟩,λp ⟨i,y,h1,h2⟩ z=>?_⟩
 ·have h:p=q:=h
  subst h
  exact ok.ow (.inr a)
 ·by_cases hi:k=i
  ·subst hi
   rw[getElem?_set_self l]at e
   cases e
   exact⟨_,g,trivial⟩
  ·rw[getElem?_set_ne hi]at e
   obtain⟨u,h1,h2⟩:=ok.slot i s e
   refine⟨u,h1,Bo.mv (W:=W) (Wb:=W.put λp=>p=q) rfl rfl rfl rfl (λf p u o v=>⟨λz=>o ?_,v⟩) (λ_ _ e=>e) (λ_ _ _ e=>e) h2⟩
   have k:Ow (W.put λp=>p=q) (ρ.set k .emp) σ p->Ow W ρ σ p:=λz=>z.elim (λz=>by rw[show p=q from z];exact .inr a) λz=>.inr (d p z)
   cases f<;>simp only[AC]at z ⊢
   ·exact z.elim .inl λz=>.inr (z.elim (λz=>.inl (k z)) .inr)
   ·exact z.elim .inl λz=>.inr (z.elim (λz=>.inl (k z)) .inr)
   ·exact z.elim .inl λz=>.inr (k z)
   ·exact z.elim .inl λz=>.inr (z.elim (λz=>.inl (k z)) .inr)
   ·exact z
   ·exact z
 ·obtain⟨n,e⟩:=get i y h1
  exact n (ok.uniq i k y x e c (by rw[h2,g,z]))
end
def L6(k:Nat)(g:TG)(p:pG):Prop:=∀(W:Wd) (ρ:List S) (σ:St) (Hs H:Hp) (x:P) (f:Fl) (v:V) (Q:St->Hp->Prop) (K:List S->Prop),Ok W ρ σ Hs->Step W.b W.a Hs H->RF W ρ σ Hs f H x v->x.imm=true->p x f ρ K ->
 (∀ρ' σ',K ρ'->Ok W ρ' σ' H->σ'[k]?=σ[k]?->ρ'[k]?=ρ[k]?->(∀p,Ac ρ' σ' p->Ac ρ σ p)->Q σ' H)->g v σ H Q
def RK{ι:Type}(Xs:ι->Cx)(k:Nat)(tg:Expr)(p:pG):Prop:=∃g,(∀i,PG (Xs i) tg g)/\L6 k g p
section
variable{ι:Type}{Xs:ι->Cx}{k:Nat}
theorem Yi{x:P}{K:List S->Prop}(ok:Ok W ρ σ H)(hi:x.imm=true)(r:RF W ρ σ H .fr H x v)(h:BL j x f ρ K):K (ρ.set j (.sh x))/\Ok W (ρ.set j (.sh x)) (σ.set j (some v)) H:=by
 unfold BL at h
 rw[if_pos hi]at h
 obtain⟨ρ',e,a⟩:=Ok.set (k:=j) (K:=λρ'=>ρ'=ρ.set j (.sh x)) ok (Step.refl ok.bag) r (by unfold BL;rw[if_pos hi])
 subst e
 exact⟨h,a⟩
theorem RL{W:Wd}{H:Hp}{f:Fl}{Q:St->Hp->Prop}{K:List S->Prop}:∀{ks:List Nat} {xs:List P} {vs:List V} {ρ:List S} {σ:St},k∉ks->P.imms xs=true->Ok W ρ σ H->AB W.b (λ_=>False) H xs vs->GR ks xs f ρ K ->
  (∀ρ' σ',K ρ'->Ok W ρ' σ' H->σ'[k]?=σ[k]?->ρ'[k]?=ρ[k]?->(∀p,Ac ρ' σ' p->Ac ρ σ p)->Q σ' H)->C0 ks vs σ H Q
 |[],[],vs,ρ,σ,_,_,ok,r,h,q=>⟨r,q ρ σ h ok rfl rfl λ_ z=>z⟩
 |[],_::_,_,_,_,_,_,_,_,h,_=>h.elim
 |_::_,[],_,_,_,_,_,_,_,h,_=>h.elim
 |j::ks,x::xs,vs,ρ,σ,i,hi,ok,r,h,q=>by
  obtain⟨v,t,w,o,n⟩:=r
  subst w
  rw[Hz,Bool.and_eq_true]at hi
  obtain⟨u,g⟩:=Yi ok hi.1 (o.imm hi.1) h
  have l:j≠k:=λz=>i (by simp[z])
  refine⟨v,t,rfl,RL (λz=>i (by simp[z])) hi.2 g n u λρ' σ' a b c d e=>q ρ' σ' a b (by rw[c,getElem?_set_ne l]) (by rw[d,getElem?_set_ne l]) λp z=>FC (s:=.sh x) (λ_ z=>nomatch z) p (e p z)⟩
theorem Yj{ks:List Nat}(e:ks.length=n)(d:k∉ks):L6 k (EL Kf n (C0 ks)) (EY ks):=λW ρ σ Hs H x f v Q K ok st r hi h q=>by
 obtain⟨xs,rfl,g,h⟩:=h
 have a:=ok.step st
 obtain⟨p,vs,rfl,i,c⟩:=(r.any a)
 have hi:P.imms xs=true:=by simpa[P.imm]using hi
 exact⟨p,vs,rfl,.of i,by rw[<-c.length,g,e],RL d hi a (c.imm hi) h q⟩
theorem Yk{k1:Nat}{ks:List Nat}(k:Nat)(f:∀i,(Xs i).calm=true)(g:∀i,(Xs i).K=Kf)(h:∀i,EK (Xs i) es (C0 ks))(e:ks.length=n)(c:k∉ks:=by decide)
  (d:∀i,(assignEach es (Xs i).env).length=n:=by intro _;rfl) (a:∀i,(assignEach es (Xs i).env).findIdx? (·.1)=none:=by intro _;rfl):RK Xs k (.Tuple es k1 pos) (EY ks) :=
 ⟨EL Kf n (C0 ks),λi=>by have:=Jy (k:=k1) (pos:=pos) (f i) (h i) (d i) (a i);rw[g i]at this;exact this,Yj e c⟩
end
structure Grp(b:Addr)(H:Hp)(g:Addr)(ks:List (List Int))(gs:List Addr)(xss:List (List P)):Prop where
 cell:H g=some (.dT ((ks.map AV).zip (gs.map V.ref)))
 l1:gs.length=ks.length
 l2:xss.length=ks.length
 kd:ks.Nodup
 nd:gs.Nodup
 ng:g∉gs
 inn:∀(j:Nat) q ys,gs[j]?=some q->xss[j]?=some ys->P.imms ys=true/\∃vs,H q=some (.lst vs)/\AB b (λ_=>False) H ys vs
def DS(ks:List (List Int))(xss:List (List P))(r:List Int)(z:P):List (List P):=if r∈ks then xss.modify (ks.idxOf r) (·++[z])else xss++[[z]]
theorem L7{r:List Int}:∀{ks:List (List Int)} {gs:List Addr},gs.length=ks.length->BB ((ks.map AV).zip (gs.map V.ref)) (AV r)=(gs[ks.idxOf r]?).map V.ref
 |[],[],_=>rfl
 |k0::ks,g::gs,h=>by
  have c:=L7 (r:=r) (ks:=ks) (gs:=gs) (by simpa using h)
  simp only[map_cons,zip_cons_cons]
  by_cases e:k0=r
  ·subst e
   rw[F9 rfl,idxOf_cons_self];rfl
  ·have a:¬AV k0=AV r:=λz=>e (DO _ _ z)
   have d:BB ((AV k0,V.ref g)::(ks.map AV).zip (gs.map V.ref)) (AV r)=BB ((ks.map AV).zip (gs.map V.ref)) (AV r):=by unfold BB;rw[find?_cons];simp[a]
   rw[d,c,idxOf_cons,show(k0==r)=false from beq_eq_false_iff_ne.mpr e];rfl
abbrev BH(g:Addr)(gs:List Addr):Addr->Prop:=λp=>p=g\/p∈gs
section
variable{g:Addr}{gs:List Addr}{xss:List (List P)}{k:Nat}
theorem AB.still{b:Addr}(hi:P.imms ys=true)(c:∀p us,H p=some (.tup us)->H' p=some (.tup us))(h:AB b Z H ys vs):AB b (λ_=>False) H' ys vs :=
 AB.imm (Z:=λ_=>True) hi ((h.imm (Z':=λ_=>True) hi).keep (λp o a e=>absurd trivial a) c)
theorem Rp.still{b:Addr}(hi:y.imm=true)(c:∀p us,H p=some (.tup us)->H' p=some (.tup us))(h:Rp b Z H y v):Rp b (λ_=>False) H' y v :=
 Rp.imm (Z:=λ_=>True) hi ((h.imm (Z':=λ_=>True) hi).keep (λp o a e=>absurd trivial a) c)
theorem Grp.step(G:Grp W.b H g ks gs xss)(st:Step W.b W.a H H')(hb:Bag H W.b W.a)(nb:∀p,BH g gs p->p≠W.b):Grp W.b H' g ks gs xss :=
 ⟨st.same g _ (nb g (.inl rfl)) G.cell,G.l1,G.l2,G.kd,G.nd,G.ng,λj q ys h1 h2=>by
  obtain⟨a,vs,c,d⟩:=G.inn j q ys h1 h2
  exact⟨a,vs,st.same q _ (nb q (.inr (mem_of_getElem? h1))) c,d.still a λp us e=>st.same p _ (hb.neT e).1 e⟩⟩
theorem Yl{tK tV:TE}{pk pv:pE}{M:List Int->P->Prop}{Q:VK}(hK:A6 tK pk)(hV:A6 tV pv)(ok:Ok (W.put (BH g gs)) ρ σ H)(hs:σ[k]?=some (some (.ref g)))(U:∀p,Ac ρ σ p->¬BH g gs p)(G:Grp W.b H g ks gs xss)
  (hn:n<16777216) (h1:ks.length<=n) (h2:∀ys∈xss,ys.length<=n) (hk:pk ρ λy _=>∃r,CK y=some r/\pv ρ λz _=>z.imm=true/\M r z)
  (q:∀r z a1 H',M r z->Ok (W.put (BH g a1)) ρ σ H'->(∀p,Ac ρ σ p->¬BH g a1 p)->Grp W.b H' g (Aq ks r) a1 (DS ks xss r z)->Q .non H') :
  Ho Kf "list" Ht (L5 (Cb k) tK (J6 B7)) (B8 tV B7) σ H Q:=by
 have nb:∀p,BH g gs p->p≠W.b:=λp z=>(ok.oo p z).2.2.1
 refine⟨.ref g,hs,g,rfl,.inr ⟨_,.of G.cell⟩,hK _ ρ σ H _ _ ok hk λy f v Hy ⟨r,a7,hv⟩ s1 r1=>⟨Nat.zero_le _,λp hp=>?_⟩⟩
 have i:=ok.step s1
 have G1:=G.step s1 ok.bag nb
 obtain⟨b,rfl,J⟩:=Eg i a7 r1
 have s2:Step W.b W.a Hy (AD Hy p (.lst [])):=Step.new i.bag hp
 have D:=i.step s2
 have G2:=G1.step s2 i.bag nb
 have hl:((ks.map AV).zip (gs.map V.ref)).length<sizeLine:=by
  rw[length_zip,length_map,length_map,G.l1,Nat.min_self,sizeLine_eq];lia
 refine⟨_,_,b,G2.cell,rfl,s2.same b _ (i.bag.neT J).1 J,hl,λv d=>?_,λd=>?_⟩
 ·-- there
  rw[L7 G.l1]at d
  have c:r∈ks:=by
   refine Classical.byContradiction λz=>?_
   rw[idxOf_eq_length (by simpa using z),getElem?_eq_none (by rw[G.l1];exact Nat.le_refl _)]at d
   cases d
  have hj:ks.idxOf r<ks.length:=idxOf_lt_length_iff.mpr c
  have a0:ks.idxOf r<gs.length:=by rw[G.l1];exact hj
  have a8:ks.idxOf r<xss.length:=by rw[G.l2];exact hj
  obtain⟨j,a9⟩:∃j,ks.idxOf r=j:=⟨_,rfl⟩
  rw[a9]at hj a0 a8 d
  rw[getElem?_eq_getElem a0]at d
  cases d
  have eg:gs[j]?=some gs[j]:=getElem?_eq_getElem a0
  have ex:xss[j]?=some xss[j]:=getElem?_eq_getElem a8
  obtain⟨im,vs,c1,c2⟩:=G2.inn j _ _ eg ex
  refine⟨.inl ⟨rfl,vs,.of c1⟩,hV _ ρ σ _ _ _ D hv λz f2 I L ⟨hz,hM⟩ N r3=>?_⟩
  have C:=D.step N
  have G3:=G2.step N D.bag nb
  obtain⟨im,vs,c1,c2⟩:=G3.inn j _ _ eg ex
  have A:BH g gs gs[j]:=.inr (mem_of_getElem? eg)
  have ht:∀p us,L p=some (.tup us)->AD L gs[j] (.lst (vs++[I])) p=some (.tup us):=λp us e=>by rw[AL (λz=>by rw[z,c1]at e;cases e)];exact e
  have af:vs.length<16777216:=by rw[<-c2.length];have:=h2 _ (mem_of_getElem? ex);lia
  refine⟨gs[j],vs,I,rfl,rfl,c1,by rw[sizeLine_eq];lia,q r z gs _ hM (C.updO A (λz=>U _ z A) λ_ z=>nomatch z) U ?_⟩
  have ed:Aq ks r=ks:=by unfold Aq;rw[if_pos c]
  have ab:g≠gs[j]:=λz=>G.ng (z▸mem_of_getElem? eg)
  rw[ed]
  have a2:DS ks xss r z=xss.modify j (·++[z]):=by unfold DS;rw[if_pos c,a9]
  rw[a2]
  refine⟨by rw[AL ab];exact G3.cell,G.l1,by rw[length_modify];exact G.l2,G.kd,G.nd,G.ng,λB q' ys h l=>?_⟩
  rw[getElem?_modify]at l
  by_cases Y:j=B
  ·subst Y
   rw[eg]at h
   cases h
   rw[ex]at l
   simp only[Option.map_eq_map,Option.map_some,if_pos]at l
   cases l
   exact⟨by rw[U4,im];simp[hz],vs++[I],Af,(c2.still im ht).snoc (Rp.still hz ht (r3.any C))⟩
  ·cases ex':xss[B]? with
   |none=>rw[ex']at l;cases l
   |some zs =>
    rw[ex']at l
    simp only[Option.map_eq_map,Option.map_some,if_neg Y]at l
    cases l
    obtain⟨u,us,d1,d2⟩:=G3.inn B _ _ h ex'
    have nq:q'≠gs[j]:=λz=>Y (by
     have ac:B<gs.length:=by
      rcases Nat.lt_or_ge B gs.length with w|w
      ·exact w
      ·rw[getElem?_eq_none w]at h;cases h
     rw[getElem?_eq_getElem ac]at h
     cases h
     exact((getElem_inj G.nd).mp z).symm)
    exact⟨u,us,by rw[AL nq];exact d1,d2.still u ht⟩
 ·-- new
  have c:r∉ks:=λz=>by
   rw[L7 G.l1,getElem?_eq_getElem (by rw[G.l1];exact idxOf_lt_length_iff.mpr z)]at d
   cases d
  have E:g≠p:=A3 G1.cell hp
  have a4:p∉gs:=λz=>by
   obtain⟨_,_,_,_,o,e,_⟩:=i.oo p (.inr z)
   rw[hp]at e;cases e
  have sub:∀x,BH g (gs++[p]) x->BH g gs x\/x=p:=λx z=>by
   rcases z with z|z
   ·exact .inl (.inl z)
   ·rcases mem_append.mp z with z|z
    ·exact .inl (.inr z)
    ·exact .inr (by simpa using z)
  have s:∀x,Ac ρ σ x->¬BH g (gs++[p]) x:=λx z w=>(sub x w).elim (U x z) λe=>by
   obtain⟨_,_,_,_,o,h,_⟩:=i.ow (.inr z)
   rw[e,hp]at h;cases h
  have C:Ok (W.put (BH g (gs++[p]))) ρ σ (AD Hy p (.lst [])):=Ok.lessO (W:=W) (O:=λx=>BH g gs x\/x=p) sub (i.moreO hp λ_ z=>nomatch z)
  have T:=C.updO (q:=g) (o:=.dT (BK ((ks.map AV).zip (gs.map V.ref)) (AV r) (.ref p))) (.inl rfl) (λz=>s g z (.inl rfl)) λ_ z=>nomatch z
  have a5:∀x,BH g (gs++[p]) x->x≠W.b:=λx z=>(T.oo x z).2.2.1
  have ep:BK ((ks.map AV).zip (gs.map V.ref)) (AV r) (V.ref p)=((Aq ks r).map AV).zip ((gs++[p]).map V.ref):=by
   rw[PU DO (by rw[length_map,G.l1]),if_neg c,map_append];rfl
  have ed:Aq ks r=ks++[r]:=by unfold Aq;rw[if_neg c]
  refine⟨.inl ⟨rfl,[],.of (by rw[AL E.symm];exact Af)⟩,hV _ ρ σ _ _ _ T hv λz f2 I L ⟨hz,hM⟩ N r3=>?_⟩
  have a3:=T.step N
  have a6:L p=some (.lst []):=N.same p _ (a5 p (.inr (by simp))) (by rw[AL E.symm];exact Af)
  have ae:L g=some (.dT (((Aq ks r).map AV).zip ((gs++[p]).map V.ref))):=by rw[<-ep];exact N.same g _ (a5 g (.inl rfl)) Af
  have A:BH g (gs++[p]) p:=.inr (by simp)
  have ht:∀x us,L x=some (.tup us)->AD L p (.lst ([]++[I])) x=some (.tup us):=λx us e=>by rw[AL (λz=>by rw[z,a6]at e;cases e)];exact e
  refine⟨p,[],I,rfl,rfl,a6,by rw[sizeLine_eq];simp,q r z (gs++[p]) _ hM (a3.updO A (λz=>s _ z A) λ_ z=>nomatch z) s ?_⟩
  have a2:DS ks xss r z=xss++[[z]]:=by unfold DS;rw[if_neg c]
  rw[a2]
  refine⟨by rw[AL E];exact ae,by rw[ed];simp[G.l1],by rw[ed];simp[G.l2],by rw[ed];exact nodup_append.mpr ⟨G.kd,by simp,λa ha b J e=>c (by simp at J;rw[<-J,<-e];exact ha)⟩,nodup_append.mpr ⟨G.nd,by simp,λa ha b J e=>a4 (by simp at J;rw[<-J,<-e];exact ha)⟩,λz=>?_,λB q' ys h l=>?_⟩
  ·rcases mem_append.mp z with z|z
   ·exact G.ng z
   ·exact E (by simpa using z)
  ·have sg:∀x o,x≠W.b->x≠g->AD Hy p (.lst []) x=some o->L x=some o:=λx o h1 h2 e=>N.same x o h1 (by rw[AL h2];exact e)
   rcases Nat.lt_or_ge B gs.length with w|w
   ·rw[getElem?_append_left w]at h
    rw[getElem?_append_left (by rw[G.l2,<-G.l1];exact w)]at l
    obtain⟨u,us,d1,d2⟩:=G2.inn B _ _ h l
    have mq:q'∈gs:=mem_of_getElem? h
    have nq:q'≠p:=λz=>a4 (z▸mq)
    have aa:q'≠g:=λz=>G.ng (z▸mq)
    refine⟨u,us,by rw[AL nq];exact sg q' _ (nb q' (.inr mq)) aa d1,d2.still u λx us e=>ht x us (sg x _ (D.bag.neT e).1 (λz=>by rw[z,G2.cell]at e;cases e) e)⟩
   ·rw[getElem?_append_right w]at h
    rw[getElem?_append_right (by rw[G.l2,<-G.l1];exact w)]at l
    cases hd:B - gs.length with
    |succ m=>rw[hd]at h;cases h
    |zero =>
     rw[hd]at h
     cases h
     rw[show B - xss.length=0 by rw[G.l2,<-G.l1];exact hd]at l
     cases l
     exact⟨by simp[hz],[I],Af,I,[],rfl,Rp.still hz ht (r3.any a3),rfl⟩
end
theorem AB.of_get{b:Addr}{Z:Addr->Prop}{H:Hp}:∀{xs:List P} {vs:List V},xs.length=vs.length->(∀(j:Nat) x v,xs[j]?=some x->vs[j]?=some v->Rp b Z H x v)->AB b Z H xs vs
 |[],[],_,_=>rfl
 |x::xs,v::vs,a,h=>⟨v,vs,rfl,h 0 x v rfl rfl,AB.of_get (by simpa using a) λj y u d c=>h (j+1) y u (by simpa using d) (by simpa using c)⟩
section
variable{g:Addr}{gs:List Addr}{xss:List (List P)}{k:Nat}
theorem Ok.ownBack(ok:Ok (W.put (BH g gs)) ρ σ H)(noO:∀p,¬W.O p)(B:k<ρ.length)(n:σ[k]?=some (some (.ref g)))(d:∀p,Ac ρ σ p->¬BH g gs p)(G:Grp W.b H g ks gs xss):Ok W (ρ.set k (.own (.dT ks (xss.map .lst)))) σ H:=by
 have a:∀p,Ac (ρ.set k (.own (.dT ks (xss.map .lst)))) σ p->p=g\/Ac ρ σ p:=λp ⟨i,y,h1,h2⟩=>by
  by_cases hi:k=i
  ·subst hi
   rw[n]at h2
   cases h2
   exact .inl rfl
  ·rw[getElem?_set_ne hi]at h1
   exact .inr ⟨i,y,h1,h2⟩
 have A:∀f p,AC W (ρ.set k (.own (.dT ks (xss.map .lst)))) σ f p->AC (W.put (BH g gs)) ρ σ f p:=λf p z=>by
  have k:Ow W (ρ.set k (.own (.dT ks (xss.map .lst)))) σ p->Ow (W.put (BH g gs)) ρ σ p:=λz=>z.elim (λz=>absurd z (noO p)) λz=>(a p z).elim (λz=>.inl (.inl z)) .inr
  cases f<;>simp only[AC]at z ⊢
  ·exact z.elim .inl λz=>.inr (z.elim (λz=>.inl (k z)) .inr)
  ·exact z.elim .inl λz=>.inr (z.elim (λz=>.inl (k z)) .inr)
  ·exact z.elim .inl λz=>.inr (k z)
  ·exact z.elim .inl λz=>.inr (z.elim (λz=>.inl (k z)) .inr)
  ·exact z
  ·exact z
 refine⟨ok.bag,ok.fb,ok.old,ok.frm,λp z=>absurd z (noO p),by rw[length_set];exact ok.len,λi s e=>?_,λi j y z h1 h2 o=>?_⟩
 ·by_cases hi:k=i
  ·subst hi
   rw[getElem?_set_self B]at e
   cases e
   obtain⟨Y,U,T,Q,_⟩:=ok.oo g (.inl rfl)
   refine⟨_,n,g,rfl,Y,U,T,Q,gs.map V.ref,G.cell,by rw[length_map,G.l2],AB.of_get (by rw[length_map,length_map,G.l1,G.l2]) λj x v w r=>?_⟩
   rw[getElem?_map]at w r
   obtain⟨ys,E,rfl⟩:=Option.map_eq_some_iff.mp w
   obtain⟨q,eq,rfl⟩:=Option.map_eq_some_iff.mp r
   obtain⟨C,vs,L,J⟩:=G.inn j q ys eq E
   have l:q∈gs:=mem_of_getElem? eq
   obtain⟨N,b2,M,b4,_⟩:=ok.oo q (.inr l)
   refine⟨q,vs,rfl,λz=>?_,L,J.imm C⟩
   rcases z with z|z|z
   ·exact M z
   ·rcases z with z|z
    ·exact noO q z
    ·rcases a q z with z|z
     ·exact G.ng (z▸l)
     ·exact d q z (.inr l)
   ·exact z N
  ·rw[getElem?_set_ne hi]at e
   obtain⟨u,h1,h2⟩:=ok.slot i s e
   exact⟨u,h1,Bo.mv (W:=W.put (BH g gs)) (Wb:=W) rfl rfl rfl rfl (λf p u D I=>⟨λz=>D (A f p z),I⟩) (λ_ _ e=>e) (λ_ _ _ e=>e) h2⟩
 ·have c:∀(i:Nat) (y:P),k≠i->(ρ.set k (.own (.dT ks (xss.map .lst))))[i]?=some (S.own y)->σ[i]?≠σ[k]?:=λi y hi e z=>by
   rw[getElem?_set_ne hi]at e
   exact d g ⟨i,y,e,by rw[z,n]⟩ (.inl rfl)
  by_cases hi:k=i
  ·by_cases h:k=j
   ·exact hi.symm.trans h
   ·subst hi;exact absurd o.symm (c j z h h2)
  ·by_cases h:k=j
   ·subst h;exact absurd o (c i y hi h1)
   ·rw[getElem?_set_ne hi]at h1
    rw[getElem?_set_ne h]at h2
    exact ok.uniq i j y z h1 h2 o
end
def L8(k:Nat)(pi:pI)(pg:pG)(pk pv:pE):pS:=λE ρ=>ρ[k]?=some (.own (.dT [] []))/\pi ρ λxs f st=>st=true/\P.imms xs=true/\xs.length<16777216/\∃I:Nat->List S->List (List Int)->List (List P)->Prop,I 0 (ρ.set k .emp) [] [] /\
 (∀i ρ' ks xss x,xs[i]?=some x->I i ρ' ks xss->pg x .fr ρ' λρ2=>pk ρ2 λy _=>∃r,CK y=some r/\pv ρ2 λz _=>z.imm=true/\I (i+1) ρ2 (Aq ks r) (DS ks xss r z))/\∀ρ' ks xss,I xs.length ρ' ks xss->E.nx (ρ'.set k (.own (.dT ks (xss.map .lst))))
theorem Ym{xss:List (List P)}{z:P}(h:∀ys∈xss,ys.length<=n):∀ys∈DS ks xss r z,ys.length<=n+1:=by
 unfold DS
 split
 ·intro ys hy
  obtain⟨j,a⟩:=mem_iff_getElem?.mp hy
  rw[getElem?_modify]at a
  cases e:xss[j]? with
  |none=>rw[e]at a;cases a
  |some zs =>
   rw[e]at a
   have:=h zs (mem_of_getElem? e)
   simp only[Option.map_eq_map,Option.map_some]at a
   split at a<;>cases a
   ·simp;lia
   ·lia
 ·intro ys hy
  rcases mem_append.mp hy with hy|hy
  ·have:=h ys hy;lia
  ·rw[mem_singleton.mp hy];simp
theorem RM(ks:List (List Int))(r:List Int):(Aq ks r).length<=ks.length+1:=by
 unfold Aq
 split
 ·lia
 ·rw[length_append];simp
theorem Yn{tK tV:TE}{pk pv:pE}{k:Nat}(hi:Kl wi pi)(hg:L6 k g pg)(hK:A6 tK pk)(hV:A6 tV pv) :
  Dg (M1 wi g (Ju (Ho Kf "list" Ht (L5 (Cb k) tK (J6 B7)) (B8 tV B7)))) (L8 k pi pg pk pv):=λW ρ σ H D E ok hh r=>by
 obtain⟨u,h⟩:=hh
 refine hi W ρ σ H _ _ ok h λxs f st J H1 ⟨a6,a7,a9,I,h0,x,U⟩ s1 _ jS=>?_
 have jS:=jS a6
 have o:=ok.step s1
 obtain⟨w,hs,a,e2,aa,gF,gb,ga,vs,c1,c2,c3⟩:=o.slot k _ u
 subst e2
 have kl:k<ρ.length:=by
  rcases Nat.lt_or_ge k ρ.length with z|z
  ·exact z
  ·rw[getElem?_eq_none z]at u;cases u
 obtain⟨a2,N⟩:=Ok.aside o.frz r.noO u hs
 have a1:Ok ((W.frz ρ σ H1).put (BH a [])) (ρ.set k .emp) σ H1:=Ok.lessO (W:=W.frz ρ σ H1) (O:=λp=>p=a) (λp z=>z.elim id λz=>nomatch z) a2
 have M:∀p,Ac (ρ.set k .emp) σ p->¬BH a [] p:=λp z w=>w.elim (N p z) λw=>nomatch w
 have G0:Grp W.b H1 a [] [] []:=⟨c1,rfl,rfl,nodup_nil,nodup_nil,(λz=>nomatch z),(λj q ys e=>nomatch e)⟩
 refine⟨λi m σ' H'=>m=xs.length - i/\i<=xs.length/\∃ρ' ks gs xss,I i ρ' ks xss/\ρ'[k]?=some .emp/\σ'[k]?=some (some (.ref a))/\Ok ((W.frz ρ σ H1).put (BH a gs)) ρ' σ' H'/\(∀p,Ac ρ' σ' p->¬BH a gs p)/\Grp W.b H' a ks gs xss/\ks.length<=i/\(∀ys∈xss,ys.length<=i),
  ⟨xs.length,by simp,Nat.zero_le _,ρ.set k .emp,[],[],[],h0,getElem?_set_self kl,hs,a1,M,G0,Nat.le_refl _,λ_ z=>nomatch z⟩,?_⟩
 rintro i m σ' H' ⟨rfl,hi,ρ',ks,gs,xss,hI,B,A,l,T,G,b1,b2⟩
 have L:Ok (W.frz ρ σ H1) ρ' σ' H':=Ok.lessO (W:=W.frz ρ σ H1) (O':=W.O) (λp z=>absurd z (r.noO p)) l
 obtain⟨q1,q2,q3⟩:=jS W.O ρ' σ' H' ⟨rfl,L⟩ i
 by_cases s:i<xs.length
 ·refine .inr ⟨q1 s,λd H2=>∃c ks gs xss,I (i+1) c ks xss/\c[k]?=some .emp/\d[k]?=some (some (.ref a))/\Ok ((W.frz ρ σ H1).put (BH a gs)) c d H2/\(∀p,Ac c d p->¬BH a gs p)/\Grp W.b H2 a ks gs xss/\ks.length<=i+1/\(∀ys∈xss,ys.length<=i+1),
   λd H2 z=>⟨xs.length - (i+1),by lia,rfl,s,z⟩,λv H2 y=>?_⟩
  have hx:xs[i]?=some xs[i]:=by simp[s]
  obtain⟨Y,y2⟩:=q3 v H2 y _ hx
  have C:xs[i].imm=true:=H0.mp a7 _ (getElem_mem s)
  have a0:Ok W ρ' σ' H2:=(o.thaw L).step Y
  have y3:RF ((W.frz ρ σ H1).put (BH a gs)) ρ' σ' H' .fr H2 xs[i] v:=(y2.any a0).imm C
  have nb:∀p,BH a gs p->p≠W.b:=λp z=>(l.oo p z).2.2.1
  refine hg ((W.frz ρ σ H1).put (BH a gs)) ρ' σ' H' H2 _ .fr v _ _ l Y y3 C (x i ρ' ks xss _ hx hI) λc d e2 a4 es er eo=>?_
  exact Yl (W:=W.frz ρ σ H1) (n:=i) hK hV a4 (by rw[es];exact A) (λp z=>T p (eo p z)) (G.step Y l.bag nb) (by lia) b1 b2 e2 λrr z a8 H3 hM a3 Q G3=>⟨c,_,a8,_,hM,by rw[er];exact B,by rw[es];exact A,a3,Q,G3,by have:=RM ks rr;lia,Ym b2⟩
 ·have e:i=xs.length:=by lia
  subst e
  have a5:k<ρ'.length:=by
   rcases Nat.lt_or_ge k ρ'.length with z|z
   ·exact z
   ·rw[getElem?_eq_none z]at B;cases B
  exact .inl ⟨q2 (Nat.le_refl _),r.nx _ σ' H' (U ρ' ks xss hI) (o.thaw (Ok.ownBack (W:=W.frz ρ σ H1) l r.noO a5 A T G))⟩
section
variable{ι:Type}{Xs:ι->Cx}
theorem Yo{a d l:Expr}{k:Nat}{p1 j cp h f e r:Pos}{pk pv:pE}(M:∀i,(Xs i).K=Kf)(B:∀i,(Xs i).A.units+1<cLine)(D:∀i,PassesOwn (model (Xs i).prog (Xs i).w) (Xs i).A (Xs i).env (Xs i).xe)(I:∀i,(Xs i).calm=true)
  (hi:QI Xs tg a pi) (G:RK Xs k tg pg) (E:QE Xs d pk) (z:QE Xs l pv)
  (L:∀i,(Xs i).N[k]?=some x:=by intro _;rfl) (n:∀i,Cv (Xs i).env.scope x:=by intro _;trivial) (H:(x==("__debug__":Str))=false:=by decide) (q:(x==("__classdict__":Str))=false:=by decide)
  (m:∀i,M2 (Xs i) (.Name x p1) "setdefault" j d (.List [] h) cp:=by intro _;exact⟨rfl,rfl,rfl,rfl⟩)
  (p:(f.endLine==e.line)=true:=by rfl) (o:∀i,swapsWith (.Call (.Attribute (.Call (.Attribute (.Name x p1) "setdefault" j) [d,.List [] h] [] cp) "append" f) [l] [] e) none r.line (Xs i).env=pure false:=by intro _;rfl)
  (J:∀i,attributeBase (.Call (.Attribute (.Name x p1) "setdefault" j) [d,.List [] h] [] cp) "append" (Xs i).env (eval (.Call (.Attribute (.Name x p1) "setdefault" j) [d,.List [] h] [] cp) (Xs i).env)=eval (.Call (.Attribute (.Name x p1) "setdefault" j) [d,.List [] h] [] cp) (Xs i).env:=by intro _;rfl)
  (c:∀i,starEach [l] (Xs i).env=[(false,eval l (Xs i).env)]:=by intro _;rfl) (C:∀i,∀x,foldedSetIterable a (Xs i).env x=pure x:=by intro _ _;rfl) :
  QS Xs (.For tg a [.Expr (.Call (.Attribute (.Call (.Attribute (.Name x p1) "setdefault" j) [d,.List [] h] [] cp) "append" f) [l] [] e) r] [] pos) (L8 k pi pg pk pv):=by
 obtain⟨wi,y,v⟩:=hi
 obtain⟨g,Q,O⟩:=G
 obtain⟨U,k1,k2⟩:=E
 obtain⟨T,u,s⟩:=z
 refine⟨_,λi=>F1 (D i) (I i) (y i) (Q i) (Cc ?_) (C i),Yn (Kf:=Kf) v O k2 s⟩
 rw[<-M i]
 exact Jv (Hr PySem.F.plainAttrs_list PySem.F.slot_list_append PySem.F.type_list_append Hu (Yg (B i) (Ds (L i) (n i) H q) (k1 i) (F3 BA) (m i)) (Ap (u i) BA (c i)) (J i) (by rw[c i];rfl) p (c i) rfl) (o i)
end
end L2
namespace L2
open PySem PySem.Spec PyProof.Rows PySem.W
section
variable{qI:List (List AN×V)}
theorem Inv.freeze(I:Inv X qA σ H s)(e:H a=some (.dT qI)):∃o,Inv X qA σ (AD H a (.frz o (.dT qI))) s:=by
 obtain⟨z,hd,xs,rel,o,es,ep,h1,h2,f,d,c⟩:=(show A0 X.prog X.w H s.heap a (.dT qI)from I.hok a _ e)
 refine⟨o,GD (t':=s.toks) (h':=s.heap) I (by rw[e];exact True.intro) ⟨rfl,λ_ _=>rfl⟩ ⟨o,h1⟩ ⟨h1,z,hd,xs,Paired.mapP rel λp q w=>⟨w.1,?_,w.2.2⟩,o,es,ep,h1,h2,f,d,c⟩⟩
 rw[AL (Dr w.2.1 e (λz=>nomatch z))]
 exact w.2.1
def Yp(k:Nat)(t:TS):TS:=λD σ H=>∃p qI,σ[k]?=some (some (.ref p))/\H p=some (.dT qI)/\∀o,t D σ (AD H p (.frz o (.dT qI)))
theorem Yq{st:Stmt}{t:TS}(k:Nat)(h:PS X st t):PS X st (Yp k t):=by
 intro qA s σ H D I ⟨p,qI,_,e,q⟩
 obtain⟨o,a⟩:=I.freeze e
 exact h qA s σ _ D a (q o)
def En(d:Addr)(o:Obj)(qI:List (List AN×V)):It :=
 ⟨λi H=>H d=some (.frz o (.dT qI))/\i<qI.length,λi H v H'=>H'=H/\∃q k,v=.ref q/\(qI.map (·.1))[i]?=some k/\H q=some (.tup (k.map kV)),λi H=>H d=some (.frz o (.dT qI))/\qI.length<=i⟩
theorem L9{o:Obj}(a:A4 P' w H h)(e:H p=some (.frz o (.dT qI))) :
  ∃(es:Array DictEntry) (ep:Nat) (ps:List (Addr×List AN)),o.data=.dict es ep/\Bp h p es ep/\(p==sysModules)=false/\qI.length<=sizeLine/\ps.map (·.2)=qI.map (·.1)/\(∀q∈ps,H q.1=some (.tup (q.2.map kV)))/\es.toList.map (·.key)=ps.map λq=>Value.ref q.1:=by
 obtain⟨d,z,f,xs,rel,o',es,ep,h1,h2,c,g,_⟩:=(show A0 P' w H h p (.frz o (.dT qI))from a p _ e)
 rw[d]at h1
 cases h1
 exact⟨es,ep,xs.map λx=>(x.2.1,x.1),c,⟨o,d,h2,c⟩,f,z,(Gn rel).1,(Gn rel).2,by rw[g,map_map,map_map];rfl⟩
theorem Yr{P:Program}{K:Fg}(d it:Addr)(o:Obj)(es:Array DictEntry)(ep:Nat)(U:o.data=.dict es ep):Turn P w K tg (En d o qI) [it] it (λi h=>i<=es.size/\h.IsKeyIter it d i es.size ep) where
 mem:=by simp
 obj:=λi h st b j=>by
  have e:b=it:=by simpa using j
  subst e
  obtain⟨_,o,e,c,d⟩:=st
  exact⟨o,e,λv z=>by rw[d]at z;cases z⟩
 keep:=λi h h' st k=>by
  obtain⟨l,o,e,r⟩:=st
  exact⟨l,o,k it (by simp) o e,r⟩
 item:=by
  intro X D y G Y i qA s σ H E I p st B
  subst D y G
  obtain⟨C,hi⟩:=B
  obtain⟨Q,T,ps,a,x,A,hz,u,e2,q⟩:=L9 I.hok C
  rw[U]at a
  cases a
  obtain⟨O,N,f2,M,L,J⟩:=p it (by simp)
  have lp:ps.length=qI.length:=by have:=congrArg length u;simpa using this
  have le:es.size=ps.length:=by have:=congrArg length q;simpa using this
  have g:i<es.size:=by lia
  have f:i<ps.length:=by lia
  have ek:es[i].key=.ref ps[i].1:=by
   have:=congrArg (·[i]?) q
   simpa[g,f]using this
  refine Pd st.2 x g λh' n sb=>?_
  have I1:Inv X qA σ H { s with heap:=h' }:=I.turned (t':=s.toks) (λb o j e=>(sb.2 b j).trans e) O N M L J
  obtain⟨oi,e,c,dd⟩:=id n
  refine⟨_,rfl,HZ (s:={ s with heap:=h' }) e c dd (by decide) ⟨.ref ps[i].1,H,I1,by rw[ek];rfl,⟨rfl,ps[i].1,ps[i].2,rfl,?_,e2 _ (getElem_mem f)⟩,⟨g,n⟩,λb j=>(p b j).1⟩⟩
  rw[<-u]
  simp[f]
 done:=by
  intro X D y G Y i qA s σ H E I p st B
  subst D y G
  obtain⟨C,hi⟩:=B
  obtain⟨Q,T,ps,a,x,A,hz,u,e2,q⟩:=L9 I.hok C
  rw[U]at a
  cases a
  obtain⟨O,N,f2,M,L,J⟩:=p it (by simp)
  have lp:ps.length=qI.length:=by have:=congrArg length u;simpa using this
  have le:es.size=ps.length:=by have:=congrArg length q;simpa using this
  have ei:i=es.size:=by have:=st.1;lia
  subst ei
  exact Pe (I.ok.hd Y) st.2 x λh' eb=>⟨rfl,I.turned (t':=s.toks) (λb o j e=>eb b o j e) O N M L J⟩
 self:=λ_ _ _ _ _ st h=>wpAny_pyIter_keyiter st.2 h
def RN(tl:TE):TI:=λσ H R=>tl σ H λx H1=>∃a o qI,x=.ref a/\H1 a=some (.frz o (.dT qI))/\R (En a o qI) H1
theorem Ys{l:Expr}{tl:TE}(p:PE X l tl):PI X tg l (RN tl):=by
 intro qA s σ H R I h
 refine AH (p qA s σ H _ I h) λv c ⟨x,H1,d,j,n⟩=>?_
 obtain⟨a,o,qI,e,r,q⟩:=n
 subst e
 cases j
 obtain⟨es,ep,ps,g,i,f,_⟩:=L9 d.hok r
 refine Pc f i ?_
 refine⟨c.heap.objs.size,[c.heap.objs.size],_,_,H1,rfl,d.kept (t':=c.toks) λb o e=>Heap.get?_push_of_some _ e,Yr a _ o es ep g,⟨Nat.zero_le _,_,Heap.get?_push_size _ rfl,rfl,rfl⟩,λb u=>?_,q⟩
 have e:b=c.heap.objs.size:=by simpa using u
 subst e
 exact d.fpOk (Nat.le_refl _) (d.hok.fresh (Nat.le_refl _))
end
def RO(p:pE):pI:=λρ K=>p ρ λx f=>∃ks vs,x=.fT ks vs/\K (ks.map AJ) .fr (CF f)
def MA(k:Nat)(p:pS):pS:=λE ρ=>match ρ[k]? with
 |some (.own (.dT ks vs))=>p E (ρ.set k (.fr (.fT ks vs)))
 |_=>False
theorem Yt{o:Obj}(ok:Ok W ρ σ H)(r:RF W ρ σ Hs f H (.fT ks xs) (.ref p))(c:ks.length=vs.length)(z:H p=some (.frz o (.dT ((ks.map AV).zip vs)))) :
  C1 W (GU W ρ σ H) (En p o ((ks.map AV).zip vs)) (ks.map AJ) .fr/\(CF f=true->C1 W (GS W ρ σ H) (En p o ((ks.map AV).zip vs)) (ks.map AJ) .fr):=by
 have s:p≠W.b:=by
  obtain⟨q,us,j,d,_⟩:=r.any ok
  cases j
  exact d
 have u:((ks.map AV).zip vs).length=ks.length:=by rw[length_zip,length_map,<-c,Nat.min_self]
 have G:((ks.map AV).zip vs).map (·.1)=ks.map AV:=by
  rw[<-unzip_fst,unzip_zip]
  ·rw[length_map];exact c
 have h:∀O' ρ' σ' H',H' p=some (.frz o (.dT ((ks.map AV).zip vs)))->Bag H' W.b W.a->∀i,(i<(ks.map AJ).length->(En p o ((ks.map AV).zip vs)).go i H')/\((ks.map AJ).length<=i->(En p o ((ks.map AV).zip vs)).stop i H') /\
   ∀v g,(En p o ((ks.map AV).zip vs)).yld i H' v g->∀x,(ks.map AJ)[i]?=some x->Step W.b W.a H' g/\RF { W with O:=O' } ρ' σ' H' .fr g x v:=λO' ρ' σ' H' e E i=>by
  refine⟨λhi=>⟨e,by rw[u];simpa using hi⟩,λhi=>⟨e,by rw[u];simpa using hi⟩,λv g y x l=>?_⟩
  obtain⟨d,q,k,rfl,n,D⟩:=y
  subst d
  rw[G,getElem?_map]at n
  rw[getElem?_map]at l
  cases A:ks[i]? with
  |none=>rw[A]at l;cases l
  |some I =>
   rw[A]at n l
   cases n;cases l
   refine⟨Step.refl E,q,_,rfl,D,?_⟩
   exact AB.ints.mpr (by simp[AV,map_map,Function.comp_def,kV])
 refine⟨λO' ρ' σ' H' c i=>?_,λw O' ρ' σ' H' c i=>?_⟩
 ·obtain⟨J,rfl,rfl,B,st⟩:=c
  exact h _ _ _ H' (st.same p _ s z) st.bag i
 ·obtain⟨rfl,c⟩:=c
  have n:=GW ok c (GX w)
  have C:¬AC W ρ σ f p:=by
   cases f with
   |nw=>obtain⟨q,us,j,d,_⟩:=r.1;cases j;exact d
   |fr=>obtain⟨q,us,j,d,_⟩:=r;cases j;exact d
   |cl=>obtain⟨q,us,j,d,_⟩:=r;cases j;exact d
   |_=>simp[CF]at w
  exact h _ _ _ H' (n.1 p _ C z).2 c.bag i
section
variable{ι:Type}{Xs:ι->Cx}{a:Expr}{pa:pE}
theorem Yu(h:QE Xs a pa):QI Xs tg a (RO pa):=by
 obtain⟨t,h1,h2⟩:=h
 refine⟨RN t,λi=>Ys (h1 i),λW ρ σ H R K ok n q=>h2 W ρ σ H _ _ ok n λx f v H1 ⟨ks,xs,e,k1⟩ d g=>?_⟩
 subst e
 have c:=ok.step d
 obtain⟨p,vs,rfl,_,⟨o,l⟩,s,r⟩:=K9 c g
 have j:=Yt c g (s.trans r.length) l
 exact⟨p,o,_,rfl,l,q _ _ _ _ H1 k1 d j.1 j.2⟩
theorem Yv{st:Stmt}{p:pS}(k:Nat)(h:QS Xs st p):QS Xs st (MA k p):=by
 obtain⟨t,h1,h2⟩:=h
 refine⟨_,λi=>Yq k (h1 i),λW ρ σ H D E ok c r=>?_⟩
 unfold MA at c
 split at c
 ·rename_i ks xs e
  obtain⟨w,j,g,s,C,B,y,A,vs,x,v,u⟩:=ok.slot k _ e
  subst s
  refine⟨g,_,j,x,λo=>?_⟩
  have l:=D6 (o:=HO.frz o (.dT ((ks.map AV).zip vs))) ok ⟨k,_,e,j⟩ (f:=.fr) (.inr rfl)
  have d:=ok.mut (x':=.fT ks xs) (o:=HO.frz o (.dT ((ks.map AV).zip vs))) e j (λ_ z=>nomatch z) ⟨vs,⟨o,Af⟩,v,u.keep l.1 l.2⟩
  have a:=d.frzS (k:=k) r.noO
  have n:k<ρ.length:=by
   rcases Nat.lt_or_ge k ρ.length with z|z
   ·exact z
   ·rw[getElem?_eq_none z]at e;cases e
  have q:frzS k (ρ.set k (.own (.fT ks xs)))=ρ.set k (.fr (.fT ks xs)):=by
   unfold frzS
   rw[getElem?_set_self n]
   exact set_set ..
  rw[q]at a
  exact h2 W _ σ _ D E a c r
 ·exact c.elim
end
end L2
namespace L2
open PySem PySem.Spec PyProof.Rows PySem.W SeqAt
theorem MB:∀{us:List Value} {ns:List Int},IntsAre us ns->∀(j:Nat) (h:j<us.length),∃t,us[j]=.int (ns.getD j 0) t
 |_,_,.nil,j,h=>by simp at h
 |_,_,.cons n t r,0,h=>⟨t,rfl⟩
 |_,_,.cons n t r,j+1,h=>by
  obtain⟨u,e⟩:=MB r j (by simpa using h)
  exact⟨u,by simpa using e⟩
theorem RP:∀(ns ms:List Int),((List.range (min ns.length ms.length)).all (λj=>ns.getD j 0==ms.getD j 0)&&ns.length==ms.length)=decide (ns=ms)
 |[],[]=>rfl
 |[],_::_=>by simp
 |_::_,[]=>by simp
 |a::ns,b::ms=>by
  have c:=RP ns ms
  have e:min (a::ns).length (b::ms).length=min ns.length ms.length+1:=by simp[Nat.succ_min_succ]
  rw[e,range_succ_eq_map,all_cons,all_map]
  simp only[getD_cons_zero,Function.comp_def,getD_cons_succ,length_cons]
  have:((ns.length+1==ms.length+1):Bool)=(ns.length==ms.length):=by simp
  rw[this,Bool.and_assoc,c]
  by_cases h:a=b<;>simp[h]
theorem Yw{l b:Addr}{vs:List Value}{ms:List Int}(p:s.heap.IsTuple l us.toArray)(q:s.heap.IsTuple b vs.toArray)(hi:IntsAre us ns)(c:IntsAre vs ms)(y:A.units<cLine):EqAt A s (.ref l) (.ref b) (decide (ns=ms)):=by
 by_cases h:l=b
 ·subst h
  obtain⟨o,i,_,n,d⟩:=p
  obtain⟨o',u,_,w,a⟩:=q
  rw[i]at u
  cases u
  rw[d]at a
  have:us=vs:=by injection a with a _;exact toArray_inj a
  subst this
  have:ns=ms:=by
   clear d a
   induction hi generalizing ms with
   |nil=>cases c;rfl
   |cons n t r x=>cases c with|cons w t' v=>rw[x v]
  subst this
  rw[decide_eq_true rfl]
  exact EqAt.same _
 ·have l1:=hi.length
  have l2:=c.length
  have k:=RcAt.tuples (e:=λj=>ns.getD j 0==ms.getD j 0) p q y λj h1 h2=>by
   have h1:j<us.length:=by simpa using h1
   have h2:j<vs.length:=by simpa using h2
   obtain⟨t,i⟩:=MB hi j h1
   obtain⟨t',d⟩:=MB c j h2
   have g:us.toArray[j]=.int (ns.getD j 0) t:=by simpa using i
   have f:vs.toArray[j]=.int (ms.getD j 0) t':=by simpa using d
   rw[g,f]
   exact EqAt.int_int _ _ _ _
  rw[size_toArray,size_toArray,l1,l2,RP]at k
  exact EqAt.of_refs h k
def JL(h:Heap)(cf:List Int->Int)(ps:List (Addr×List Int)):Prop:=∀q∈ps,∃(r:Addr) (t:Tok) (us:List Value) (o:Obj) (n:Nat),h.get? q.1=some o/\o.cls=.type "tuple"/\o.data=.seq #[.ref r,.int (cf q.2) t] n/\h.IsTuple r us.toArray/\IntsAre us q.2
theorem Yx{ps:List (Addr×List Int)}{cf:List Int->Int}(i:A.units<cLine)(j:JL s.heap cf ps)(o:∀q∈ps,∀q'∈ps,q.1=q'.1->q.2=q'.2):Cmp (model prog w) A E s (tuples' false) DH (Cj ps) (·∈(pairsOf (rv ps)).toList) where
 ask:=λx y g f R st D h=>by
  rw[Iy]at g f
  obtain⟨p,n,rfl⟩:=mem_map.mp g
  obtain⟨q,l,rfl⟩:=mem_map.mp f
  rw[Ek o n,Ek o l]at h
  refine Lc D h λY Q a=>?_
  obtain⟨C,z,us,M,O,J,U,H,u,d⟩:=j p n
  obtain⟨B,v,vs,L,N,I,T,G,r,c⟩:=j q l
  refine kat_lt J H I G ?_
  show KatLex prog w A false (decide (2<2)) Q [(Value.ref C,Value.ref B),(.int (cf p.2) z,.int (cf q.2) v)] 0 s
  refine kat_cons (Yw u r d c i prog w _ _ ?_)
  by_cases e:p.2=q.2
  ·rw[decide_eq_true e]
   refine kat_yes (kat_cons (EqAt.int_int _ _ _ _ prog w _ _ ?_))
   rw[e,show(cf q.2==cf q.2)=true by simp]
   refine kat_yes (kat_nil ?_)
   rw[e]at a
   have:DH.blt q.2 q.2=false:=E8 _
   rw[this]at a
   exact a
  ·rw[decide_eq_false e]
   refine kat_no ?_
   exact kat_one _ _ (HT.lt_tupInts (E:=λ_ _=>False) u r (by simpa using d) (by simpa using c) i a)
theorem Yy{ps:List (Addr×List Int)}{cf:List Int->Int}(i:JL s.heap cf ps)(h2:¬ps.length<2):wpAny (model prog w) A (keyKind' (rv ps).toArray) (λκ' s'=>κ'=tuples' false/\s'=s) E s:=by
 have key:∀{l:List (Addr×List Int)},JL s.heap cf l->∃fs,KatTups s.heap (l.map λq=>Value.ref q.1) fs/\fs.length=l.length/\∀v∈fs,Looks (model prog w) s.heap (typeOf v) (.type "tuple"):=by
  intro l
  induction l with
  |nil=>exactλ_=>⟨[],.nil,rfl,λv g=>nomatch g⟩
  |cons q r f =>
   intro h
   obtain⟨fs,a,b,c⟩:=f λq j=>h q (mem_cons_of_mem _ j)
   obtain⟨d,B,us,C,D,z,y,u,⟨or,o,n,_⟩,G⟩:=h q mem_cons_self
   refine⟨.ref d::fs,.cons z y u (by simp) a,by simp[b],λx hx=>?_⟩
   rcases mem_cons.mp hx with rfl|hx
   ·rw[<-n]
    exact(Looks.ld o).andThen .now
   ·exact c x hx
 obtain⟨fs,e,H,p⟩:=key i
 exact kat_kind (T:=.type "tuple") e (by lia) p rfl ⟨rfl,rfl⟩
def RQ:List V->Hp->VK->Prop:=λxs H Q=>∃(p:Addr) (ps:List (Addr×List Int)) (cf:List Int->Int),xs=[.ref p]/\H p=some (.lst (Bx ps))/\(∀q∈ps,∃r,H q.1=some (.tup [.ref r,.int (cf q.2)])/\H r=some (.tup (q.2.map V.int)))/\ps.length<=16777216 /\
 ∀(l:Addr) (ps':List (Addr×List Int)),H l=none->ps'.Perm ps->Bb (ps'.map (·.2))->Q (.ref l) (AD H l (.lst (Bx ps')))
theorem Yz{ps:List (Addr×List Int)}{cf:List Int->Int}(d:∀q∈ps,∃r,H q.1=some (.tup [.ref r,.int (cf q.2)])/\H r=some (.tup (q.2.map V.int))):∀q∈ps,∀q'∈ps,q.1=q'.1->q.2=q'.2:=λq f q' c e=>by
 obtain⟨r,h1,a⟩:=d q f
 obtain⟨h,h2,g⟩:=d q' c
 rw[e,h2]at h1
 injection h1 with h1
 injection h1 with h1
 injection h1 with h1 _
 injection h1 with h1
 rw[<-h1,g]at a
 injection a with a
 injection a with a
 exact(Qf a).symm
theorem RR(I:Inv X qA σ H s){ps:List (Addr×List Int)}{cf:List Int->Int}(i:∀q∈ps,∃r,H q.1=some (.tup [.ref r,.int (cf q.2)])/\H r=some (.tup (q.2.map V.int))){h1:Heap}(k:∀b o,s.heap.get? b=some o->h1.get? b=some o):JL h1 cf ps:=λq j=>by
 obtain⟨r,y,x⟩:=i q j
 obtain⟨z,a,tt,_⟩:=I.tuple (.of y)
 obtain⟨o,w,v,h,u⟩:=tt
 obtain⟨us,e,f,_⟩:=I.tuple (.of x)
 obtain⟨c,p,n,g,l⟩:=f
 cases a with
 |cons x1 a =>
  cases a with
  |cons d a =>
   cases a
   cases x1
   obtain⟨t,rfl⟩:=d
   exact⟨r,t,us,o,h,k _ o w,v,u,⟨c,k _ c p,n,g,l⟩,E4 e⟩
theorem Y0{k:Nat}(w:Room k X.A):BP X (.builtin "sorted") RQ:=by
 intro qA s σ H xs us Q I r h
 obtain⟨p,ps,G,rfl,g,f,i,k⟩:=h
 obtain⟨u,rfl,l⟩:=r.one
 cases l
 obtain⟨qH,r,pl,n⟩:=I.list (.of g)
 have c:=K3 r
 subst c
 have d:∀a:List (Addr×List Int),a.Perm ps->Bb (a.map (·.2))->EP X qA σ Q (.ref (s.heap.objs.size+1)) { s with heap:=sortedAll s.heap (rv ps) (rv a).toArray }:=λa h1 h2=>by
  obtain⟨e,x⟩:=sortedAll_at s.heap (rv ps) (rv a).toArray
  refine⟨.ref (s.heap.objs.size+1),_,I.laid (t':=s.toks) (o:=.lst (Bx a)) (λb o q=>sortedAll_old q) (Nat.le_succ _) ⟨?_,_,e,IW a,x⟩,rfl,k _ a (I.hok.fresh (Nat.le_succ _)) h1 h2⟩
  rw[length_map,h1.length_eq,sizeLine_eq];exact i
 by_cases h2:ps.length<2
 ·refine PP pl.isList (by simpa using h2) (d ps (List.Perm.refl _) ?_)
  match ps,h2 with
  |[],_=>exact List.Pairwise.nil
  |[_],_=>exact pairwise_singleton _ _
 ·have j:=Yz f
  have D:=w.un
  refine Lb (κ:=tuples' false) (O:=DH) (ky:=Cj ps) pl.isList (by simpa using h2) (by simpa using i) (λC h1 _ k1=>Yy (s:={ s with heap:=h1 }) (RR I f k1) h2) (λC h1 E k1=>Yx (s:={ s with heap:=h1 }) (by lia) (RR I f k1) j) λst g v=>?_
  obtain⟨a,B,z,y⟩:=G5 j g v
  rw[y]
  exact d a B z
def MC:pC:=p1 λx f K=>∃(t:List (List Int×Int)) (cf:List Int->Int),x=.lst (t.map λq=>.tup [AJ q.1,.int q.2])/\t.length<=16777216/\(∀q∈t,q.2=cf q.1)/\∀t':List (List Int×Int),t'.Perm t->Bb (t'.map (·.1))->K (.lst (t'.map λq=>.tup [AJ q.1,.int q.2])) .nw
theorem RS{b:Addr}{Z:Addr->Prop}{H:Hp}:∀{t:List (List Int×Int)} {vs:List V},AB b Z H (t.map λq=>.tup [AJ q.1,.int q.2]) vs->∃ps:List (Addr×List Int×Int),vs=ps.map (λq=>V.ref q.1)/\ps.map (·.2)=t/\∀q∈ps,∃r,H q.1=some (.tup [.ref r,.int q.2.2])/\H r=some (.tup (q.2.1.map V.int))
 |[],vs,h=>⟨[],h,rfl,λq g=>nomatch g⟩
 |q::t,vs,h=>by
  obtain⟨v,r,rfl,⟨p,us,rfl,j,u,w,rfl,⟨p2,d,rfl,a,s⟩,c,f,rfl,o,n⟩,l⟩:=h
  cases(show f=[]from n)
  cases(show c=.int q.2 from o)
  rw[AB.ints.mp s]at a
  obtain⟨ps,rfl,e,i⟩:=RS l
  exact⟨(p,q)::ps,rfl,by rw[map_cons,e],λq' hq'=>by
   rcases mem_cons.mp hq' with rfl|hq'
   ·exact⟨p2,j,a⟩
   ·exact i q' hq'⟩
theorem RT{b:Addr}{Z:Addr->Prop}{H:Hp}:∀{ps:List (Addr×List Int)} {cf:List Int->Int},(∀q∈ps,∃r,H q.1=some (.tup [.ref r,.int (cf q.2)])/\H r=some (.tup (q.2.map V.int)))->AB b Z H ((ps.map λq=>(q.2,cf q.2)).map λq=>.tup [AJ q.1,.int q.2]) (Bx ps)
 |[],_,_=>rfl
 |q::ps,cf,h=>by
  obtain⟨r,h1,h2⟩:=h q (by simp)
  exact⟨_,_,rfl,⟨q.1,_,rfl,h1,_,_,rfl,⟨r,_,rfl,h2,AB.ints.mpr rfl⟩,_,_,rfl,rfl,rfl⟩,RT λq' a=>h q' (by simp[a])⟩
theorem Y1:CB RQ MC:=λW ρ σ Hs H Q K xs vs ok st r n q=>by
 unfold MC p1 at n
 split at n
 ·obtain⟨v,rfl,rv⟩:=r.one
  obtain⟨t,cf,rfl,d,j,w⟩:=n
  obtain⟨p,us,rfl,c,s⟩:=CI ok rv
  obtain⟨ps,rfl,e,u⟩:=RS s
  subst e
  have h:∀q∈ps.map (λq=>(q.1,q.2.1)),∃r,H q.1=some (.tup [.ref r,.int (cf q.2)])/\H r=some (.tup (q.2.map V.int)):=λq o=>by
   obtain⟨z,d,rfl⟩:=mem_map.mp o
   obtain⟨r,a,b⟩:=u z d
   exact⟨r,by rw[a,j z.2 (mem_map_of_mem d)],b⟩
  have x:(ps.map (·.2))=(ps.map (λq=>(q.1,q.2.1))).map λq=>(q.2,cf q.2):=by
   rw[map_map]
   refine map_congr_left λz d=>?_
   show z.2=(z.2.1,cf z.2.1)
   rw[<-j z.2 (mem_map_of_mem d)]
  refine⟨p,ps.map (λq=>(q.1,q.2.1)),cf,rfl,by rw[c];simp[Bx,map_map,Function.comp_def],h,by rw[length_map]at d ⊢;exact d,λl f i h1 h2=>q _ _ _ _ (w (f.map λq=>(q.2,cf q.2)) (by rw[x];exact h1.map _) (by rw[map_map];exact h2)) (Step.new ok.bag i) ?_⟩
  have:=RT (b:=W.b) (Z:=AC W ρ σ .nw) (H:=H) (ps:=f) (cf:=cf) λq o=>h q (h1.mem_iff.mp o)
  exact Ec (g:=.nw) ok st (by simp) (by simp) this i
 ·exact n.elim
end L2
namespace L2
open PySem PySem.Spec PyProof.Rows PySem.W
def Y2(t:TE)(i j:Nat):TS:=λD σ H=>t σ H λv H1=>D.nx ((σ.set i (some v)).set j (some v)) H1
def RU(p:pE)(i j:Nat):pS:=λE ρ=>p ρ λx _=>x.imm=true/\E.nx ((ρ.set i (.sh x)).set j (.sh x))
theorem Y3{y:Str}{e:Expr}{p1 p2:Pos}(c:X.N.Nodup)(hi:X.N[i]?=some x)(n:X.N[j]?=some y)(g:Bu X.env.scope x)(f:Bu X.env.scope y)(q:PE X e te)
  (l:(assignEach [.Name x p1,.Name y p2] X.env).map (·.2)=[assign (.Name x p1) X.env,assign (.Name y p2) X.env]) (hw:swappedStores [.Name x p1,.Name y p2] e X.env=pure none)
  (p:X.fn x=true\/X.env.scope.names.lookup x=some .local) (o:X.fn y=true\/X.env.scope.names.lookup y=some .local):PS X (.Assign [.Name x p1,.Name y p2] e pos) (Y2 te i j):=by
 intro qA s σ H D I h
 refine wpAny_Assign_two (AH (q qA s σ H _ I h) λv C ⟨z,H1,w,a,d⟩=>?_) l hw
 exact wpAny_assign_Name (Fu w c hi g a (λB u=>wpAny_assign_Name (Fu u c n f a (λA r=>⟨_,H1,r,d⟩) o)) p)
section
variable{ι:Type}{Xs:ι->Cx}{a:Expr}{pa:pE}{p1 p2:Pos}{y:Str}
theorem Y4(L:∀l,(Xs l).N.Nodup)(h:QE Xs a pa)(hi:∀l,(Xs l).N[i]?=some x:=by intro _;rfl)(G:∀l,(Xs l).N[j]?=some y:=by intro _;rfl)(A:∀l,Bu (Xs l).env.scope x:=by intro _;trivial)(w:∀l,Bu (Xs l).env.scope y:=by intro _;trivial)
  (B:∀l,(assignEach [.Name x p1,.Name y p2] (Xs l).env).map (·.2)=[assign (.Name x p1) (Xs l).env,assign (.Name y p2) (Xs l).env]:=by intro _;rfl) (hw:∀l,swappedStores [.Name x p1,.Name y p2] a (Xs l).env=pure none:=by intro _;rfl)
  (J:∀l,(Xs l).fn x=true\/(Xs l).env.scope.names.lookup x=some .local:=by intro _;trivial) (I:∀l,(Xs l).fn y=true\/(Xs l).env.scope.names.lookup y=some .local:=by intro _;trivial) :
  QS Xs (.Assign [.Name x p1,.Name y p2] a pos) (RU pa i j):=by
 obtain⟨t,h1,h2⟩:=h
 refine⟨_,λl=>Y3 (L l) (hi l) (G l) (A l) (w l) (h1 l) (B l) (hw l) (J l) (I l),λW ρ σ H D E ok C r=>h2 W ρ σ H _ _ ok C λz f v H1 ⟨d,k⟩ q g=>?_⟩
 have c:=ok.step q
 have s:RF W ρ σ H1 .fr H1 z v:=(g.any c).imm d
 obtain⟨p,O,n⟩:=Ok.set (k:=i) (K:=λρ'=>ρ'=ρ.set i (.sh z)) c (Step.refl c.bag) s (by unfold BL;rw[if_pos d])
 subst O
 have e:RF W (ρ.set i (.sh z)) (σ.set i (some v)) H1 .fr H1 z v:=(g.any c).imm d
 obtain⟨o,M,u⟩:=Ok.set (k:=j) (K:=λρ'=>ρ'=(ρ.set i (.sh z)).set j (.sh z)) n (Step.refl n.bag) e (by unfold BL;rw[if_pos d])
 subst M
 exact r.nx _ _ _ k u
theorem QE.weak{p m:pE}(h:QE Xs a p)(hw:∀ρ K,m ρ K->p ρ K):QE Xs a m:=let⟨t,h1,h2⟩:=h;⟨t,h1,λW ρ σ H Q K ok c q=>h2 W ρ σ H Q K ok (hw ρ K c) q⟩
end
theorem Y5{id:String}{b:Addr}{es:Array DictEntry}{i:Nat}{Q:Bool->Shared->Prop}(n:(a==sysModules)=false)(l:(b==sysModules)=false)(p:Bp s.heap a es ep)(o:Bp s.heap b #[] i)(h:Q es.isEmpty s) :
  wpAny (model prog w) A (Builtin.Dict.samePairs id a b) Q E s:=by
 obtain⟨r,d,_,e⟩:=p
 obtain⟨q,f,_,g⟩:=o
 unfold Builtin.Dict.samePairs Builtin.Dict.showsAll
 rw[if_neg (show¬(a==sysModules)=true by rw[n];exact Bool.false_ne_true),if_neg (show¬(b==sysModules)=true by rw[l];exact Bool.false_ne_true)]
 refine wB (wP (wB (wP ?_)))
 refine wB (wpAny_dictEntries d e ?_)
 dsimp only
 refine wB (wpAny_dictEntries f g ?_)
 by_cases c:es.size=0
 ·rw[if_neg (by simp[c])]
  refine wB (wpAny_dictEpoch d e ?_)
  have j:es=#[]:=Array.eq_empty_of_size_eq_zero c
  subst j
  refine wB ?_
  rw[Std.Legacy.Range.forIn_eq_forIn_range']
  simp only[Std.Legacy.Range.size,Nat.sub_zero,Nat.add_sub_cancel,Nat.div_one]
  exact wP (wP h)
 ·rw[if_pos (by simpa using c)]
  have:es.isEmpty=false:=by simpa[Array.isEmpty_iff_size_eq_zero]using c
  rw[this]at h
  exact wB (wpAny_rule (wP h))
theorem Y6{b:Addr}{es:Array DictEntry}{d:Nat}(i:(a==sysModules)=false)(g:(b==sysModules)=false)(c:Bp s.heap a es ep)(e:Bp s.heap b #[] d)(f:A.units<cLine)(h:Q (.bool (!es.isEmpty)) s) :
  wpAny (model prog w) A (compareOp .NotEq (.ref a) (.ref b)) Q E s:=by
 refine wpAny_richCompare_same_room (op:=.NotEq) c.typeIs e.typeIs PySem.F.slot_dict_ne (wpAny_call_entry PySem.F.slot_dict_ne c.typeIs PySem.F.entry_dict_ne ?_ (PySem.F.args_dict_ne_2 _ _)) f
 show wpAny _ _ (Builtin.Dict.dictSlotArgs "__ne__" ⟨[.ref a,.ref b],[]⟩ >>= _) _ _ s
 refine wB ?_
 unfold Builtin.Dict.dictSlotArgs
 refine wB (wpAny_notOrdered_dict c.typeIs ?_)
 show wpAny _ _ (pure (Value.ref a,Value.ref b)) _ _ s
 refine wP ?_
 refine wB (wpAny_isInstance (T:="dict") e.typeIs PySem.F.sub_dict_dict ?_)
 simp only[Bool.not_true,Bool.false_eq_true,if_false]
 refine wB (wP (wB (wP ?_)))
 refine wB (Y5 i g c e ?_)
 refine wP ⟨_,rfl,?_,?_⟩
 ·exactλx=>nomatch x
 ·simpa using h
def RV:R2:=λx y H Q=>∃a b qI,x=.ref a/\y=.ref b/\H a=some (.dT qI)/\H b=some (.dT [])/\Q (.bl (!qI.isEmpty)) H
theorem Y7{k:Nat}(r:Room k X.A):Av X (compareOp .NotEq) RV:=by
 intro qA s σ H x y v u Q I o n h
 obtain⟨a,b,qI,rfl,rfl,C,B,q⟩:=h
 cases o;cases n
 obtain⟨es,ep,ps,p,w,_,L,M,G⟩:=IZ I.hok C
 obtain⟨c,E,e,d,f,_,i,J,g⟩:=IZ I.hok B
 have z:c=#[]:=by
  have l:e=[]:=by simpa using congrArg length i
  subst l
  have j:c.toList=[]:=by simpa using g
  exact Array.toList_inj.mp (by simpa using j)
 subst z
 have D:es.isEmpty=qI.isEmpty:=by
  have l:=congrArg length L
  have j:=congrArg length G
  simp only[length_map,Array.length_toList]at l j
  rw[Bool.eq_iff_iff,Array.isEmpty_iff_size_eq_zero,isEmpty_iff_length_eq_zero]
  lia
 refine Y6 w f p d (by have:=r.un;lia) ?_
 rw[D]
 exact⟨.bl _,H,I,rfl,q⟩
def RW:p2:=λx _ y _ K=>∃ks vs,x=.dT ks vs/\y=.dT [] []/\K (.bl (!ks.isEmpty)) .fr
theorem Y8:A9 RV RW:=λW ρ σ Hs H Q K x y f h v u ok st d c i q=>by
 obtain⟨ks,vs,rfl,rfl,j⟩:=i
 obtain⟨p,us,rfl,_,s,r,o⟩:=Ef ok d
 obtain⟨g,a,rfl,_,n,z,w⟩:=Ef ok c
 refine⟨p,g,_,rfl,rfl,s,n,?_⟩
 have e:((ks.map AV).zip us).isEmpty=ks.isEmpty:=by
  have l:=r.trans o.length
  rw[Bool.eq_iff_iff,isEmpty_iff_length_eq_zero,isEmpty_iff_length_eq_zero,length_zip,length_map]
  lia
 rw[e]
 exact q _ _ _ H j (Step.refl ok.bag) Cz
end L2
namespace L2
open PySem
def Aj{α:Type}(f:α->List Int)(t:List α):List (List Int):=t.foldl (λks q=>Aq ks (f q)) []
section
variable{α:Type}{f:α->List Int}{g:α->P}
theorem RX(t:List α)(q:α):Aj f (t++[q])=Aq (Aj f t) (f q):=by unfold Aj;rw[foldl_append];rfl
theorem Y9{x:List Int}:x∈Aq ks r↔x∈ks\/x=r:=by
 unfold Aq
 split
 ·rename_i h
  exact⟨.inl,λz=>z.elim id λe=>e▸h⟩
 ·rw[mem_append,mem_singleton]
theorem ZA(h:ks.Nodup):(Aq ks r).Nodup:=by
 unfold Aq
 split
 ·exact h
 ·rename_i d
  exact nodup_append.mpr ⟨h,by simp,λa f b c e=>d (by simp at c;rw[<-c,<-e];exact f)⟩
theorem RY(t:List α):∀(ks:List (List Int)),(∀x,x∈t.foldl (λks q=>Aq ks (f q)) ks↔x∈ks\/∃q∈t,f q=x)/\(ks.Nodup->(t.foldl (λks q=>Aq ks (f q)) ks).Nodup):=by
 induction t with
 |nil=>intro ks;exact⟨λx=>by simp,id⟩
 |cons q t c =>
  intro ks
  obtain⟨a,b⟩:=c (Aq ks (f q))
  refine⟨λx=>?_,λh=>b (ZA h)⟩
  rw[foldl_cons,a,Y9]
  simp only[mem_cons,exists_eq_or_imp]
  constructor
  ·rintro((z|z)|z)
   ·exact .inl z
   ·exact .inr (.inl z.symm)
   ·exact .inr (.inr z)
  ·rintro(z|z|z)
   ·exact .inl (.inl z)
   ·exact .inl (.inr z.symm)
   ·exact .inr z
theorem HA{t:List α}{x:List Int}:x∈Aj f t↔∃q∈t,f q=x:=by
 have:=(RY (f:=f) t []).1 x
 simpa[Aj]using this
theorem Eo(t:List α):(Aj f t).Nodup:=(RY (f:=f) t []).2 nodup_nil
theorem RZ(t:List α):(Aj f t).length<=t.length:=by
 have:∀ks:List (List Int),(t.foldl (λks q=>Aq ks (f q)) ks).length<=ks.length+t.length:=by
  induction t with
  |nil=>intro ks;simp
  |cons q t c =>
   intro ks
   have a:=c (Aq ks (f q))
   have b:=RM ks (f q)
   rw[foldl_cons,length_cons];lia
 simpa[Aj]using this []
def AY(f:α->List Int)(t:List α)(r:List Int):List α:=t.filter λq=>decide (f q=r)
theorem MD(t:List α)(q:α)(r:List Int):AY f (t++[q]) r=if f q=r then AY f t r++[q]else AY f t r:=by
 unfold AY
 rw[filter_append,filter_cons,filter_nil]
 by_cases h:f q=r
 ·rw[if_pos h,if_pos (by simpa using h)]
 ·rw[if_neg h,if_neg (by simpa using h),append_nil]
theorem ZB(t:List α)(q:α):DS (Aj f t) ((Aj f t).map λr=>(AY f t r).map g) (f q) (g q)=(Aj f (t++[q])).map λr=>(AY f (t++[q]) r).map g:=by
 have d:=Eo (f:=f) t
 rw[RX]
 unfold DS
 by_cases h:f q∈Aj f t
 ·rw[if_pos h,show Aq (Aj f t) (f q)=Aj f t by unfold Aq;rw[if_pos h]]
  apply ext_getElem?
  intro i
  rw[getElem?_modify,getElem?_map,getElem?_map]
  cases e:(Aj f t)[i]? with
  |none=>rfl
  |some r =>
   simp only[Option.map_some,Option.map_eq_map]
   have hi:=(List.getElem?_eq_some_iff.mp e).1
   have c:=(List.getElem?_eq_some_iff.mp e).2
   rw[MD]
   by_cases a:f q=r
   ·have:(Aj f t).idxOf (f q)=i:=by rw[a,<-c];exact d.idxOf_getElem i hi
    rw[if_pos this,if_pos a,map_append];rfl
   ·have:(Aj f t).idxOf (f q)≠i:=λz=>a (by
     have h2:=getElem_idxOf (idxOf_lt_length_iff.mpr h)
     rw[<-c,<-h2];simp[z])
    rw[if_neg this,if_neg a]
 ·rw[if_neg h,show Aq (Aj f t) (f q)=Aj f t++[f q] by unfold Aq;rw[if_neg h],map_append]
  congr 1
  ·refine map_congr_left λr l=>?_
   rw[MD,if_neg (λz:f q=r=>h (z▸l))]
  ·rw[map_cons,map_nil,MD,if_pos rfl]
   have:AY f t (f q)=[]:=filter_eq_nil_iff.mpr λx j z=>h (HA.mpr ⟨x,j,by simpa using z⟩)
   rw[this];rfl
end
abbrev DT:=List Int×List Int×Int
def Ah:Tl->Tl->List DT
 |[],_=>[]
 |_::_,[]=>[]
 |(r,c)::f,(s,d)::g=>(r,s,min c d)::if c=d then Ah f g else if c<d then Ah f ((s,d - c)::g)else Ah ((r,c - d)::f) g
termination_by f g=>f.length+g.length
theorem ED(g:Tl):Ah [] g=[]:=by rw[Ah]
theorem Ep(f:Tl):Ah f []=[]:=by cases f<;>rw[Ah]
theorem ME(r:List Int)(c:Int)(f:Tl)(s:List Int)(d:Int)(g:Tl):Ah ((r,c)::f) ((s,d)::g)=(r,s,min c d)::if c=d then Ah f g else if c<d then Ah f ((s,d - c)::g)else Ah ((r,c - d)::f) g:=by rw[Ah]
abbrev Ps(t:Tl):Prop:=∀q∈t,0<q.2
theorem EE{M:Tl->Tl->Prop}(h1:∀g,M [] g)(h2:∀q f,M (q::f) [])(l:∀r f s c g,0<c->Ps f->Ps g->M f g->M ((r,c)::f) ((s,c)::g))
  (j:∀r c f s d g,0<c->c<d->Ps f->Ps g->M f ((s,d - c)::g)->M ((r,c)::f) ((s,d)::g)) (i:∀r c f s d g,0<d->d<c->Ps f->Ps g->M ((r,c - d)::f) g->M ((r,c)::f) ((s,d)::g)) :
  ∀(n:Nat) (f g:Tl),f.length+g.length<=n->Ps f->Ps g->M f g
 |0,f,g,p,_,_=>by
  have:f=[]:=eq_nil_of_length_eq_zero (by lia)
  subst this
  exact h1 g
 |n+1,[],g,_,_,_=>h1 g
 |n+1,q::f,[],_,_,_=>h2 q f
 |n+1,(r,c)::f,(s,d)::g,p,o,pg=>by
  have u:0<c:=o (r,c) (by simp)
  have v:0<d:=pg (s,d) (by simp)
  have h:Ps f:=λq hq=>o q (by simp[hq])
  have a:Ps g:=λq hq=>pg q (by simp[hq])
  simp only[length_cons]at p
  rcases Int.lt_trichotomy c d with e|e|e
  ·refine j r c f s d g u e h a (EE h1 h2 l j i n _ _ (by simp;lia) h λq hq=>?_)
   rcases mem_cons.mp hq with rfl|hq
   ·show 0<d - c;lia
   ·exact a q hq
  ·subst e
   exact l r f s c g u h a (EE h1 h2 l j i n _ _ (by lia) h a)
  ·refine i r c f s d g v e h a (EE h1 h2 l j i n _ _ (by simp;lia) (λq hq=>?_) a)
   rcases mem_cons.mp hq with rfl|hq
   ·show 0<c - d;lia
   ·exact h q hq
theorem Fa{s:List Int}{f g:Tl}{c:Int}:Ah ((r,c)::f) ((s,c)::g)=(r,s,c)::Ah f g:=by rw[ME,if_pos rfl,Int.min_self]
theorem Fb{s:List Int}{f g:Tl}{c d:Int}(h:c<d):Ah ((r,c)::f) ((s,d)::g)=(r,s,c)::Ah f ((s,d - c)::g):=by rw[ME,if_neg (by lia),if_pos h,Int.min_eq_left (by lia)]
theorem Fc{s:List Int}{f g:Tl}{c d:Int}(h:d<c):Ah ((r,c)::f) ((s,d)::g)=(r,s,d)::Ah ((r,c - d)::f) g:=by rw[ME,if_neg (by lia),if_neg (by lia),Int.min_eq_right (by lia)]
section
variable{f g:Tl}
theorem ZC(i:Ps f)(pg:Ps g):∀x∈Ah f g,0<x.2.2:=by
 refine EE (M:=λf g=>∀x∈Ah f g,0<x.2.2) (λg x hx=>by rw[ED]at hx;cases hx) (λq f x hx=>by rw[Ep]at hx;cases hx) (λr f s c g e _ _ a x hx=>?_) (λr c f s d g e h _ _ a x hx=>?_) (λr c f s d g e h _ _ a x hx=>?_) _ f g (Nat.le_refl _) i pg
 ·rw[Fa]at hx
  rcases mem_cons.mp hx with rfl|hx
  ·exact e
  ·exact a x hx
 ·rw[Fb h]at hx
  rcases mem_cons.mp hx with rfl|hx
  ·exact e
  ·exact a x hx
 ·rw[Fc h]at hx
  rcases mem_cons.mp hx with rfl|hx
  ·exact e
  ·exact a x hx
theorem JM(i:Ps f)(pg:Ps g):∀x∈Ah f g,x.1∈f.map (·.1)/\x.2.1∈g.map (·.1):=by
 refine EE (M:=λf g=>∀x∈Ah f g,x.1∈f.map (·.1)/\x.2.1∈g.map (·.1)) (λg x hx=>by rw[ED]at hx;cases hx) (λq f x hx=>by rw[Ep]at hx;cases hx) (λr f s c g e _ _ a x hx=>?_) (λr c f s d g e h _ _ a x hx=>?_) (λr c f s d g e h _ _ a x hx=>?_) _ f g (Nat.le_refl _) i pg
 ·rw[Fa]at hx
  rcases mem_cons.mp hx with rfl|hx
  ·simp
  ·have:=a x hx;exact⟨mem_cons_of_mem _ this.1,mem_cons_of_mem _ this.2⟩
 ·rw[Fb h]at hx
  rcases mem_cons.mp hx with rfl|hx
  ·simp
  ·have:=a x hx;exact⟨mem_cons_of_mem _ this.1,this.2⟩
 ·rw[Fc h]at hx
  rcases mem_cons.mp hx with rfl|hx
  ·simp
  ·have:=a x hx;exact⟨this.1,mem_cons_of_mem _ this.2⟩
theorem Ra(l:Ps f)(pg:Ps g):f≠[]->g≠[]->(Ah f g).length<f.length+g.length:=by
 refine EE (M:=λf g=>f≠[]->g≠[]->(Ah f g).length<f.length+g.length) (λg h=>absurd rfl h) (λq f _ h=>absurd rfl h) (λr f s c g i _ _ a _ _=>?_) (λr c f s d g i h _ _ a _ _=>?_) (λr c f s d g i h _ _ a _ _=>?_) _ f g (Nat.le_refl _) l pg
 ·rw[Fa]
  simp only[length_cons]
  by_cases e:f=[]
  ·rw[e,ED];simp
  ·by_cases j:g=[]
   ·rw[j,Ep];simp
   ·have:=a e j;lia
 ·rw[Fb h]
  simp only[length_cons]at a ⊢
  by_cases e:f=[]
  ·rw[e,ED];simp
  ·have:=a e (by simp);lia
 ·rw[Fc h]
  simp only[length_cons]at a ⊢
  by_cases e:g=[]
  ·rw[e,Ep];simp
  ·have:=a (by simp) e;lia
theorem ZD(i:Ps f)(pg:Ps g):(f.map (·.1)).Nodup->(g.map (·.1)).Nodup->((Ah f g).map λx=>(x.1,x.2.1)).Nodup:=by
 have key:∀{f g:Tl} {r s:List Int} {l:List DT},(∀x∈l,x.1∈f.map (·.1)/\x.2.1∈g.map (·.1))->(r∉f.map (·.1)\/s∉g.map (·.1))->(r,s)∉l.map λx=>(x.1,x.2.1):=λ{f g r s l} h v z=>by
  obtain⟨x,u,e⟩:=mem_map.mp z
  obtain⟨a,b⟩:=h x u
  cases e
  exact v.elim (λw=>w a) λw=>w b
 refine EE (M:=λf g=>(f.map (·.1)).Nodup->(g.map (·.1)).Nodup->((Ah f g).map λx=>(x.1,x.2.1)).Nodup) (λg _ _=>by rw[ED];exact nodup_nil) (λq f _ _=>by rw[Ep];exact nodup_nil) (λr f s c g p i pg j h1 h2=>?_) (λr c f s d g p h i pg j h1 h2=>?_) (λr c f s d g p h i pg j h1 h2=>?_) _ f g (Nat.le_refl _) i pg
 ·rw[Fa,map_cons]
  rw[map_cons,nodup_cons]at h1 h2
  exact nodup_cons.mpr ⟨key (JM i pg) (.inl h1.1),j h1.2 h2.2⟩
 ·have n:Ps ((s,d - c)::g):=λq hq=>by
   rcases mem_cons.mp hq with rfl|hq
   ·show 0<d - c;lia
   ·exact pg q hq
  rw[Fb h,map_cons]
  rw[map_cons,nodup_cons]at h1
  exact nodup_cons.mpr ⟨key (JM i n) (.inl h1.1),j h1.2 (by rw[map_cons]at h2 ⊢;exact h2)⟩
 ·have o:Ps ((r,c - d)::f):=λq hq=>by
   rcases mem_cons.mp hq with rfl|hq
   ·show 0<c - d;lia
   ·exact i q hq
  rw[Fc h,map_cons]
  rw[map_cons,nodup_cons]at h2
  exact nodup_cons.mpr ⟨key (JM o pg) (.inr h2.1),j (by rw[map_cons]at h1 ⊢;exact h1) h2.2⟩
theorem Cu(q:List Int×Int)(t:Tl):BX (q::t)=q.2+BX t:=by unfold BX;simp
theorem HB{t:Tl}(h:Ps t):0<=BX t/\(BX t=0->t=[]):=by
 induction t with
 |nil=>exact⟨by simp[BX],λ_=>rfl⟩
 |cons q t a =>
  have:=a λx c=>h x (by simp[c])
  have:=h q (by simp)
  rw[Cu]
  exact⟨by lia,λz=>by lia⟩
theorem Rb(e:List Int->Int)(i:Ps f)(pg:Ps g):BX f=BX g->((Ah f g).map λx=>e x.1 * x.2.2).sum=AX e f/\((Ah f g).map λx=>e x.2.1 * x.2.2).sum=AX e g:=by
 have j:∀q (t:Tl),AX e (q::t)=e q.1 * q.2+AX e t:=λq t=>by unfold AX;simp
 have w:AX e []=0:=rfl
 have l:=EE (M:=λf g=>Ps f->Ps g->BX f=BX g->((Ah f g).map λx=>e x.1 * x.2.2).sum=AX e f/\((Ah f g).map λx=>e x.2.1 * x.2.2).sum=AX e g) (λg _ pg h=>?_) (λq f i _ h=>?_) (λr f s c g v i pg n _ _ h=>?_) (λr c f s d g v u i pg n _ _ h=>?_) (λr c f s d g v u i pg n _ _ h=>?_) _ f g (Nat.le_refl _) i pg i pg
 ·exact l
 ·have:g=[]:=(HB pg).2 (by rw[<-h];rfl)
  subst this
  rw[ED];exact⟨rfl,rfl⟩
 ·have:q::f=[]:=(HB i).2 (by rw[h];rfl)
  cases this
 ·rw[Cu,Cu]at h
  obtain⟨a,b⟩:=n i pg (by simp only at h;lia)
  rw[Fa,map_cons,map_cons,sum_cons,sum_cons,a,b,j,j]
  exact⟨rfl,rfl⟩
 ·have o:Ps ((s,d - c)::g):=λq hq=>by
   rcases mem_cons.mp hq with rfl|hq
   ·show 0<d - c;lia
   ·exact pg q hq
  rw[Cu,Cu]at h
  obtain⟨a,b⟩:=n i o (by rw[Cu];simp only at h ⊢;lia)
  rw[Fb u,map_cons,map_cons,sum_cons,sum_cons,a,b,j,j,j]
  refine⟨rfl,?_⟩
  show e s * c+(e s * (d - c)+AX e g)=e s * d+AX e g
  rw[<-Int.add_assoc,<-Int.mul_add]
  congr 2
  lia
 ·have p:Ps ((r,c - d)::f):=λq hq=>by
   rcases mem_cons.mp hq with rfl|hq
   ·show 0<c - d;lia
   ·exact i q hq
  rw[Cu,Cu]at h
  obtain⟨a,b⟩:=n p pg (by rw[Cu];simp only at h ⊢;lia)
  rw[Fc u,map_cons,map_cons,sum_cons,sum_cons,a,b,j,j,j]
  refine⟨?_,rfl⟩
  show e r * d+(e r * (c - d)+AX e f)=e r * c+AX e f
  rw[<-Int.add_assoc,<-Int.mul_add]
  congr 2
  lia
end
abbrev Bg(qK qB qJ:List Str)(r s:List Int):List Int:=AM (qK++qB) (r++s) qJ
theorem Re{a b:List Str}{n:Str}(h:n∈a):idx (a++b) n=idx a n:=by
 have h2:=EA h
 unfold idx at h2 ⊢
 rw[findIdx_append,if_pos h2]
theorem ZE{a b:List Str}{n:Str}(h:n∉a):idx (a++b) n=idx b n+a.length:=by
 unfold idx
 have:¬a.findIdx (λx=>decide (x=n))<a.length:=λz=>by
  have:=findIdx_getElem (w:=z)
  simp only[decide_eq_true_eq]at this
  exact h (this▸getElem_mem _)
 rw[findIdx_append,if_neg this]
section
variable{less:List Str}{s:List Int}
theorem ZF(d:r.length=qK.length)(c:∀n∈less,n∈qK):AM (qK++qB) (r++s) less=AM qK r less:=by
 unfold AM
 refine map_congr_left λn a=>?_
 have h:=c n a
 have hi:=EA h
 rw[Re h,getD_eq_getElem?_getD,getElem?_append_left (by lia),<-getD_eq_getElem?_getD]
theorem ZG{ns:List Str}{r:List Int}{a b:List Str}{x:List Int}{y:List Int}(h:AM a x ns=AM b y ns){n:Str}(c:n∈ns):x.getD (idx a n) 0=y.getD (idx b n) 0:=by
 unfold AM at h
 exact(map_inj_left.mp h) n c
theorem ZH(a:r.length=qK.length)(d:∀n∈less,n∈qB)(e:AM qK r (Ao qK qB)=AM qB s (Ao qK qB)):AM (qK++qB) (r++s) less=AM qB s less:=by
 unfold AM
 refine map_congr_left λn c=>?_
 by_cases h:n∈qK
 ·have hi:=EA h
  rw[Re h,getD_eq_getElem?_getD,getElem?_append_left (by lia),<-getD_eq_getElem?_getD]
  exact ZG (r:=r) e (mem_filter.mpr ⟨h,by simpa using d n c⟩)
 ·rw[ZE h,getD_eq_getElem?_getD,getElem?_append_right (by lia),<-getD_eq_getElem?_getD,a,Nat.add_sub_cancel]
theorem ZI(nd:qK.Nodup)(a:r.length=qK.length)(c:∀n∈qK,n∈qJ):AM qJ (Bg qK qB qJ r s) qK=r:=by
 rw[JG c,ZF a (λ_ h=>h),Qy nd a]
theorem ZJ(nd:qB.Nodup)(d:r.length=qK.length)(c:s.length=qB.length)(a:∀n∈qB,n∈qJ)(e:AM qK r (Ao qK qB)=AM qB s (Ao qK qB)):AM qJ (Bg qK qB qJ r s) qB=s:=by
 rw[JG a,ZH d (λ_ h=>h) e,Qy nd c]
end
abbrev Ab(qK qB:List Str)(side:List Str):List Int×Int->List Int:=λq=>AM side q.1 (Ao qK qB)
def Bm(qK qB qJ:List Str)(t u:Tl):Tl:=(Aj (Ab qK qB qK) t).flatMap λk=>(Ah (AY (Ab qK qB qK) t k) (AY (Ab qK qB qB) u k)).map λx=>(Bg qK qB qJ x.1 x.2.1,x.2.2)
structure Agr(qK qB:List Str)(t u:Tl):Prop where
 nd:qK.Nodup
 ndo:qB.Nodup
 ta:Tal qK.length t
 tb:Tal qB.length u
 ag:Am qK t (Ao qK qB)=Am qB u (Ao qK qB)
section
variable{α:Type}{f:α->List Int}
theorem Er{t:List α}{k:List Int}{q:α}:q∈AY f t k↔q∈t/\f q=k:=by unfold AY;rw[mem_filter];simp
theorem Fd(t:List α)(k:List Int):(AY f t k).Sublist t:=filter_sublist
end
theorem DU(a:List Int->Int)(q:List Int×Int)(t:Tl):AX a (q::t)=a q.1 * q.2+AX a t:=by unfold AX;simp
theorem MF(a:List Int->Int)(f:List Int×Int->List Int){L:List (List Int)}(nd:L.Nodup):∀{t:Tl},(∀q∈t,f q∈L)->(L.map λk=>AX a (AY f t k)).sum=AX a t
 |[],_=>by
  have:∀L:List (List Int),(L.map λk=>AX a (AY f ([]:Tl) k)).sum=0:=λL=>by
   induction L with
   |nil=>rfl
   |cons k L d=>rw[map_cons,sum_cons,d];rfl
  rw[this];rfl
 |q::t,h=>by
  have d:=MF a f nd (t:=t) λx i=>h x (by simp[i])
  have e:∀k,AX a (AY f (q::t) k)=(if f q=k then a q.1 * q.2 else 0)+AX a (AY f t k):=λk=>by
   unfold AY
   rw[filter_cons]
   by_cases z:f q=k
   ·rw[if_pos (by simpa using z),if_pos z,DU]
   ·rw[if_neg (by simpa using z),if_neg z,Int.zero_add]
  simp only[e]
  rw[Ls,d,DU]
  congr 1
  have j:=h q (by simp)
  have g:∀(c:Int) (x:List Int) (L:List (List Int)),L.Nodup->(L.map λr=>if x=r then c else 0).sum=if x∈L then c else 0:=by
   intro c x L
   induction L with
   |nil=>intro _;simp
   |cons y L d =>
    intro nd
    simp only[nodup_cons]at nd
    rw[map_cons,sum_cons,d nd.2]
    by_cases e:x=y
    ·subst e;simp[nd.1]
    ·simp[e]
  rw[g _ _ _ nd,if_pos j]
theorem Rf(qK:List Str)(t:Tl)(qC:List Str)(k:List Int):BX (AY (λq=>AM qK q.1 qC) t k)=cnt (A5 qK t qC) k:=by
 induction t with
 |nil=>rfl
 |cons q t a =>
  have e:cnt (A5 qK (q::t) qC) k=(if AM qK q.1 qC=k then q.2 else 0)+cnt (A5 qK t qC) k:=by unfold cnt A5;simp
  rw[e,<-a]
  unfold AY
  rw[filter_cons]
  by_cases z:AM qK q.1 qC=k
  ·rw[if_pos (by simpa using z),if_pos z,Cu]
  ·rw[if_neg (by simpa using z),if_neg z,Int.zero_add]
section
variable{t u:Tl}
theorem Agr.tot(h:Agr qK qB t u)(k:List Int):BX (AY (Ab qK qB qK) t k)=BX (AY (Ab qK qB qB) u k):=by
 have e:∀(a:List Str) (t:Tl) (p:List Str),cnt (A5 a t p) k=cnt (Am a t p) k:=λa t p=>by rw[C7,Lq]
 rw[Rf,Rf,e,e,h.ag]
theorem Agr.pa(h:Agr qK qB t u)(k:List Int):Ps (AY (Ab qK qB qK) t k):=λq a=>h.ta.pos q (Er.mp a).1
theorem Agr.pb(h:Agr qK qB t u)(k:List Int):Ps (AY (Ab qK qB qB) u k):=λq a=>h.tb.pos q (Er.mp a).1
theorem JN{α:Type}{f:α->List Int}{t:List α}{k:List Int}:k∈Aj f t↔AY f t k≠[]:=by
 rw[HA]
 constructor
 ·rintro⟨q,a,e⟩ z
  have:q∈AY f t k:=Er.mpr ⟨a,e⟩
  rw[z]at this
  cases this
 ·intro z
  obtain⟨q,a⟩:=exists_mem_of_ne_nil _ z
  exact⟨q,(Er.mp a).1,(Er.mp a).2⟩
theorem Agr.both(h:Agr qK qB t u){k:List Int}:k∈Aj (Ab qK qB qK) t↔k∈Aj (Ab qK qB qB) u:=by
 rw[JN,JN]
 constructor
 ·intro z e
  refine z ((HB (h.pa k)).2 ?_)
  rw[h.tot,e];rfl
 ·intro z e
  refine z ((HB (h.pb k)).2 ?_)
  rw[<-h.tot,e];rfl
structure Mem3(qK qB:List Str)(t u:Tl)(k:List Int)(x:DT):Prop where
 a:x.1∈t.map (·.1)
 b:x.2.1∈u.map (·.1)
 la:x.1.length=qK.length
 lb:x.2.1.length=qB.length
 ka:AM qK x.1 (Ao qK qB)=k
 kb:AM qB x.2.1 (Ao qK qB)=k
 ps:0<x.2.2
theorem Agr.mem(h:Agr qK qB t u){k:List Int}{x:DT}(g:x∈Ah (AY (Ab qK qB qK) t k) (AY (Ab qK qB qB) u k)):Mem3 qK qB t u k x:=by
 obtain⟨a,b⟩:=JM (h.pa k) (h.pb k) x g
 obtain⟨q,c,f⟩:=mem_map.mp a
 obtain⟨p,d,e⟩:=mem_map.mp b
 have c:=Er.mp c
 have d:=Er.mp d
 exact⟨f▸mem_map_of_mem c.1,e▸mem_map_of_mem d.1,f▸h.ta.rows q c.1,e▸h.tb.rows p d.1,f▸c.2,e▸d.2,ZC (h.pa k) (h.pb k) x g⟩
structure Uni(qK qB qJ:List Str):Prop where
 nd:qJ.Nodup
 l:∀n∈qK,n∈qJ
 r:∀n∈qB,n∈qJ
 s:∀n∈qJ,n∈qK\/n∈qB
theorem Mem3.left{k:List Int}{x:DT}(m:Mem3 qK qB t u k x)(nd:qK.Nodup)(un:Uni qK qB qJ):AM qJ (Bg qK qB qJ x.1 x.2.1) qK=x.1:=ZI nd m.la un.l
theorem Mem3.right{k:List Int}{x:DT}(m:Mem3 qK qB t u k x)(nd:qB.Nodup)(un:Uni qK qB qJ):AM qJ (Bg qK qB qJ x.1 x.2.1) qB=x.2.1:=ZJ nd m.la m.lb un.r (m.ka.trans m.kb.symm)
theorem Mem3.key{k:List Int}{x:DT}(m:Mem3 qK qB t u k x)(nd:qK.Nodup)(un:Uni qK qB qJ):AM qJ (Bg qK qB qJ x.1 x.2.1) (Ao qK qB)=k:=by
 have:=JG (qK:=qJ) (qC:=qK) (less:=Ao qK qB) (r:=Bg qK qB qJ x.1 x.2.1) (Ck qK qB).1
 rw[<-this,m.left nd un,m.ka]
theorem Agr.rows(h:Agr qK qB t u)(un:Uni qK qB qJ):((Bm qK qB qJ t u).map (·.1)).Nodup:=by
 unfold Bm
 rw[map_flatMap]
 refine pairwise_flatMap.mpr ⟨λk _=>?_,?_⟩
 ·rw[map_map]
  have nd:=ZD (h.pa k) (h.pb k) (h.ta.nd.sublist ((Fd t k).map _)) (h.tb.nd.sublist ((Fd u k).map _))
  refine(pairwise_map.mpr ((pairwise_map.mp nd).imp_of_mem λ{x y} g f c e=>c ?_))
  have j:=h.mem g
  have i:=h.mem f
  have e:Bg qK qB qJ x.1 x.2.1=Bg qK qB qJ y.1 y.2.1:=e
  have o:=j.left h.nd un
  have n:=j.right h.ndo un
  rw[e,i.left h.nd un]at o
  rw[e,i.right h.ndo un]at n
  rw[o,n]
 ·refine(Eo t).imp_of_mem λ{k r} _ _ c=>?_
  intro z l q d p
  rw[map_map]at l d
  obtain⟨x,g,rfl⟩:=mem_map.mp l
  obtain⟨y,f,rfl⟩:=mem_map.mp d
  have e:Bg qK qB qJ y.1 y.2.1=Bg qK qB qJ x.1 x.2.1:=p.symm
  have a:=(h.mem g).key h.nd un
  rw[<-e,(h.mem f).key h.nd un]at a
  exact c a.symm
theorem MG(a:List Int->Int){α:Type}(F:α->Tl):∀l:List α,AX a (l.flatMap F)=(l.map λk=>AX a (F k)).sum
 |[]=>rfl
 |k::l=>by rw[flatMap_cons,Qt,MG a F l,map_cons,sum_cons]
theorem Agr.sums(h:Agr qK qB t u)(un:Uni qK qB qJ)(φ:List Int->Int):AX (λx=>φ (AM qJ x qK)) (Bm qK qB qJ t u)=AX φ t/\AX (λx=>φ (AM qJ x qB)) (Bm qK qB qJ t u)=AX φ u:=by
 unfold Bm
 rw[MG,MG]
 have a:∀k,AX (λx=>φ (AM qJ x qK)) ((Ah (AY (Ab qK qB qK) t k) (AY (Ab qK qB qB) u k)).map λx=>(Bg qK qB qJ x.1 x.2.1,x.2.2))=AX φ (AY (Ab qK qB qK) t k):=λk=>by
  rw[<-(Rb φ (h.pa k) (h.pb k) (h.tot k)).1]
  unfold AX
  rw[map_map]
  refine congrArg List.sum (map_congr_left λx c=>?_)
  show φ (AM qJ (Bg qK qB qJ x.1 x.2.1) qK) * x.2.2=_
  rw[(h.mem c).left h.nd un]
 have b:∀k,AX (λx=>φ (AM qJ x qB)) ((Ah (AY (Ab qK qB qK) t k) (AY (Ab qK qB qB) u k)).map λx=>(Bg qK qB qJ x.1 x.2.1,x.2.2))=AX φ (AY (Ab qK qB qB) u k):=λk=>by
  rw[<-(Rb φ (h.pa k) (h.pb k) (h.tot k)).2]
  unfold AX
  rw[map_map]
  refine congrArg List.sum (map_congr_left λx c=>?_)
  show φ (AM qJ (Bg qK qB qJ x.1 x.2.1) qB) * x.2.2=_
  rw[(h.mem c).right h.ndo un]
 simp only[a,b]
 exact⟨MF φ _ (Eo t) λq d=>HA.mpr ⟨q,d,rfl⟩,MF φ _ (Eo t) λq d=>h.both.mpr (HA.mpr ⟨q,d,rfl⟩)⟩
theorem Rg(t:Tl)(r:List Int):cnt t r=AX (λx=>if x=r then 1 else 0) t:=by
 unfold cnt AX
 refine congrArg List.sum (map_congr_left λq _=>?_)
 show _=(if q.1=r then 1 else 0) * q.2
 by_cases z:q.1=r
 ·rw[if_pos z,if_pos z,Int.one_mul]
 ·rw[if_neg z,if_neg z,Int.zero_mul]
theorem ZK(c:List Int->Int){a b:Tl}(h:a.Perm b):AX c a=AX c b:=by
 induction h with
 |nil=>rfl
 |cons q _ d=>rw[DU,DU,d]
 |swap q p _=>rw[DU,DU,DU,DU];lia
 |trans _ _ f e=>rw[f,e]
theorem Agr.shares(h:Agr qK qB t u)(un:Uni qK qB qJ){J:Tl}(a:J.Perm (Bm qK qB qJ t u)):Am qJ J qK=Bl t/\Am qJ J qB=Bl u:=by
 have wp:∀φ,AX φ J=AX φ (Bm qK qB qJ t u):=λφ=>ZK φ a
 constructor
 ·rw[C7]
  refine FY λr=>?_
  rw[EC,wp,Rg,<-(h.sums un _).1]
 ·rw[C7]
  refine FY λr=>?_
  rw[EC,wp,Rg,<-(h.sums un _).2]
end
end L2
namespace L2
def A8(f:Tl)(o:List Int)(a:Nat):Tl:=((f.map (·.1)).drop a).zip (o.drop a)
theorem JO(f:Tl):A8 f (f.map (·.2)) 0=f:=by
 unfold A8
 induction f with
 |nil=>rfl
 |cons q f a=>simp only[map_cons,drop_zero,zip_cons_cons]at a ⊢;rw[a]
theorem JP{f:Tl}{o:List Int}{a:Nat}{c:Int}(h1:f[a]?=some q)(h2:o[a]?=some c):A8 f o a=(q.1,c)::A8 f o (a+1):=by
 unfold A8
 have d:(f.map (·.1))[a]?=some q.1:=by rw[getElem?_map,h1];rfl
 have g:(f.map (·.1)).drop a=q.1::(f.map (·.1)).drop (a+1):=by
  have hi:=(List.getElem?_eq_some_iff.mp d).1
  rw[drop_eq_getElem_cons hi,(List.getElem?_eq_some_iff.mp d).2]
 have e:o.drop a=c::o.drop (a+1):=by
  have hi:=(List.getElem?_eq_some_iff.mp h2).1
  rw[drop_eq_getElem_cons hi,(List.getElem?_eq_some_iff.mp h2).2]
 rw[g,e,zip_cons_cons]
theorem Fe(f:Tl)(o:List Int)(a:Nat)(c:Int):A8 f (o.set a c) (a+1)=A8 f o (a+1):=by
 unfold A8
 rw[drop_set_of_lt (Nat.lt_succ_self a)]
theorem Rh{f:Tl}{o:List Int}{a:Nat}(h:f.length<=a):A8 f o a=[]:=by
 unfold A8
 rw[drop_eq_nil_of_le (by rw[length_map];exact h)];rfl
theorem ZL{f g:Tl}{i h:List Int}{a b:Nat}{p:List Int×Int}{c d:Int}(h1:f[a]?=some q)(h2:i[a]?=some c)(s:g[b]?=some p)(r:h[b]?=some d)(o:Ps (A8 f i a))(pg:Ps (A8 g h b)) :
  Ah (A8 f i a) (A8 g h b)=(q.1,p.1,min c d)::Ah (A8 f (i.set a (c - min c d)) (if c - min c d=0 then a+1 else a)) (A8 g (h.set b (d - min c d)) (if d - min c d=0 then b+1 else b)) /\
  Ps (A8 f (i.set a (c - min c d)) (if c - min c d=0 then a+1 else a))/\Ps (A8 g (h.set b (d - min c d)) (if d - min c d=0 then b+1 else b)):=by
 have l1:=(List.getElem?_eq_some_iff.mp h2).1
 have l2:=(List.getElem?_eq_some_iff.mp r).1
 rw[JP h1 h2]at o ⊢
 rw[JP s r]at pg ⊢
 have l:Ps (A8 f i (a+1)):=λx hx=>o x (by simp[hx])
 have j:Ps (A8 g h (b+1)):=λx hx=>pg x (by simp[hx])
 have v:∀n,A8 f (i.set a n) a=(q.1,n)::A8 f i (a+1):=λn=>by rw[JP h1 (getElem?_set_self l1),Fe]
 have u:∀n,A8 g (h.set b n) b=(p.1,n)::A8 g h (b+1):=λn=>by rw[JP s (getElem?_set_self l2),Fe]
 rcases Int.lt_trichotomy c d with e|e|e
 ·rw[Fb e,Int.min_eq_left (by lia),if_pos (by lia),if_neg (by lia),Fe,u]
  refine⟨rfl,l,λx hx=>?_⟩
  rcases mem_cons.mp hx with rfl|hx
  ·show 0<d - c;lia
  ·exact j x hx
 ·subst e
  rw[Fa,Int.min_self,if_pos (by lia),if_pos (by lia),Fe,Fe]
  exact⟨rfl,l,j⟩
 ·rw[Fc e,Int.min_eq_right (by lia),if_neg (by lia),if_pos (by lia),Fe,v]
  refine⟨rfl,λx hx=>?_,j⟩
  rcases mem_cons.mp hx with rfl|hx
  ·show 0<c - d;lia
  ·exact l x hx
theorem MH{f g:Tl}(a:Ps f)(pg:Ps g):(Ah f g).length<=f.length+g.length:=by
 by_cases h1:f=[]
 ·rw[h1,ED];simp
 ·by_cases h2:g=[]
  ·rw[h2,Ep];simp
  ·exact Nat.le_of_lt (Ra a pg h1 h2)
end L2
namespace L2
theorem EF{α:Type}(x:α)(r:List α):atI (x::r) 0=some x:=Bd (j:=0) rfl
theorem ZM{α:Type}(x y:α)(r:List α):atI (x::y::r) 1=some y:=Bd (j:=1) rfl
theorem MI{a:Nat}(h:a<n):Cf n (a:Int)=some a:=by unfold Cf;rw[if_pos (by lia),if_pos (by lia)];simp
theorem ZN(c d:Int):(if d<c then d else c)=min c d:=by
 by_cases h:d<c
 ·rw[if_pos h,Int.min_eq_right (by lia)]
 ·rw[if_neg h,Int.min_eq_left (by lia)]
end L2
namespace L2
open PySem
theorem MJ{κ:Type}[DecidableEq κ](F:κ->P):∀{ks:List κ} {k:κ},k∈ks->BV ks (ks.map F) k=some (F k)
 |k0::ks,k,h=>by
  rw[map_cons]
  unfold BV
  by_cases e:k0=k
  ·rw[if_pos e,e]
  ·rw[if_neg e]
   exact MJ F ((mem_cons.mp h).resolve_left (Ne.symm e))
def Bs(qK qB qJ:List Str)(t u:Tl)(k:List Int):Tl:=(Ah (AY (Ab qK qB qK) t k) (AY (Ab qK qB qB) u k)).map λx=>(Bg qK qB qJ x.1 x.2.1,x.2.2)
theorem Ri{t u:Tl}(h:Agr qK qB t u)(k:List Int):(Bs qK qB qJ t u k).length<=2000:=by
 unfold Bs
 rw[length_map]
 have a:=MH (h.pa k) (h.pb k)
 have b:=(Fd (f:=Ab qK qB qK) t k).length_le
 have c:=(Fd (f:=Ab qK qB qB) u k).length_le
 have d:=h.ta.few
 have e:=h.tb.few
 lia
theorem MK{qK qB qJ:List Str}{t u:Tl}(h:Agr qK qB t u):∀ks:List (List Int),(ks.flatMap (Bs qK qB qJ t u)).length<=2000 * ks.length
 |[]=>by simp
 |k::ks=>by
  rw[flatMap_cons,length_append,length_cons]
  have a:=Ri (qJ:=qJ) h k
  have b:=MK (qJ:=qJ) h ks
  lia
theorem HC(qK qB qJ:List Str)(t u:Tl):Bm qK qB qJ t u=(Aj (Ab qK qB qK) t).flatMap (Bs qK qB qJ t u):=rfl
theorem Ff{a:Tl}(h:(a.map (·.1)).Nodup):((Al a q).map (·.1)).Nodup:=LI h
theorem Rj{a:Tl}(nd:(a.map (·.1)).Nodup)(q:List Int×Int)(r:List Int):cnt (Al a q) r=cnt a r+if q.1=r then q.2 else 0:=by
 rw[G8 (Ff nd),JA,G8 nd]
def DV(t:Tl)(r:List Int)(m:Int)(f:List Int):Tl:=Ak (Al (Al t (r,-m)) (f,m))
theorem Rk{t:Tl}(nd:(t.map (·.1)).Nodup)(r:List Int)(m:Int)(f:List Int)(a:List Int->Int):AX a (DV t r m f)=AX a t+a r * (-m)+a f * m:=by
 have c:=Ff (q:=(f,m)) (Ff (q:=(r,-m)) nd)
 have e:AX a (DV t r m f)=AX a (t++[(r,-m),(f,m)]):=by
  unfold DV
  rw[Lr c,JE]
  refine Qv a λx=>?_
  rw[Rj (Ff nd),Rj nd,Xv]
  unfold cnt
  simp
  lia
 rw[e,Qt,DU,DU]
 show AX a t+(a r * -m+(a f * m+0))=_
 lia
structure Stir(n:Nat)(t:Tl):Prop extends Tal n t where
 rng:∀q∈t,∀x∈q.1,0<=x/\x<=9
 tot:BX t<=100000000000000
 len:t.length<=100
theorem ZO{t:Tl}(h:Ps t)(hq:q∈t):q.2<=BX t:=by
 induction t with
 |nil=>cases hq
 |cons p t c =>
  have e:=h p (by simp)
  have a:Ps t:=λx d=>h x (by simp[d])
  rw[Cu]
  rcases mem_cons.mp hq with rfl|hq
  ·have:=(HB a).1;lia
  ·have:=c a hq;lia
theorem ZP{t:Tl}(h:Stir n t)(d:q∈t){m:Int}(h1:1<=m)(h2:m<=q.2){f:List Int}(y:f.length=n)(w:∀x∈f,0<=x/\x<=9)(B:t.length<=90):Stir n (DV t q.1 m f)/\(DV t q.1 m f).length<=t.length+1:=by
 have A:=FU h.nd d
 have u:∀r,0<=(AW t r).getD 0:=λr=>by
  by_cases z:r∈t.map (·.1)
  ·obtain⟨p,g,rfl⟩:=mem_map.mp z
   rw[FU h.nd g]
   exact Int.le_of_lt (h.pos p g)
  ·rw[Iz z];simp
 have l1:(Al t (q.1,-m)).length=t.length:=by
  unfold Al BG;rw[if_pos (mem_map_of_mem d),length_map]
 have l2:(Al (Al t (q.1,-m)) (f,m)).length<=t.length+1:=by
  have:=Gr (Al t (q.1,-m)) f ((AW (Al t (q.1,-m)) f).getD 0+m)
  unfold Al at l1 this ⊢
  simp only at l1 this ⊢
  lia
 have j:∀p∈Al t (q.1,-m),p.1.length=n:=Gs h.rows (h.rows q d)
 have i:∀p∈Al (Al t (q.1,-m)) (f,m),p.1.length=n:=Gs j y
 have v:(DV t q.1 m f).length<=t.length+1:=Nat.le_trans (FP _) l2
 have l:=Ff (q:=(f,m)) (Ff (q:=(q.1,-m)) h.nd)
 have tl:Tal n (DV t q.1 m f):=by
  refine Lm (by lia) i l λr=>?_
  rw[JA,JA]
  have a:=u r
  simp only
  by_cases z:q.1=r
  ·subst z
   rw[A]at a ⊢
   simp only[Option.getD_some,if_true]at a ⊢
   split<;>lia
  ·rw[if_neg z]
   split<;>lia
 refine⟨{ toTal:=tl,rng:=λp g x c=>?_,tot:=?_,len:=by lia },v⟩
 ·have hm:=Ik g
  unfold Al at hm
  rw[Lg]at hm
  rcases hm with e|hm
  ·rw[e]at c
   exact w x c
  ·rw[Lg]at hm
   rcases hm with e|hm
   ·rw[e]at c
    exact h.rng q d x c
   ·obtain⟨s,o,e⟩:=mem_map.mp hm
    rw[<-e]at c
    exact h.rng s o x c
 ·rw[JF,Rk h.nd,<-JF]
  have:=h.tot
  lia
theorem ZQ{t:Tl}(h:Tal n t){m:Int}{f:List Int}(e:AM qK f qC=AM qK q.1 qC):Am qK (DV t q.1 m f) qC=Am qK t qC:=by
 rw[C7,C7]
 refine FY λs=>?_
 rw[EC,EC,Rk h.nd,e]
 have:∀a:Int,AX (λr=>if AM qK r qC=s then 1 else 0) t+a * -m+a * m=AX (λr=>if AM qK r qC=s then 1 else 0) t:=λa=>by
  rw[Int.mul_neg];lia
 exact this _
theorem Stir.settle{t:Tl}(h:Stir n t):Stir n (Ak t)/\Bl (Ak t)=Ak t/\∀qK qC,Am qK (Ak t) qC=Am qK t qC:=by
 have e:=Lr h.nd
 refine⟨⟨Lm h.few h.rows h.nd λr=>?_,λq a x c=>?_,?_,Nat.le_trans (FP t) h.len⟩,Xx h.nd,λqK qC=>?_⟩
 ·rw[<-G8 h.nd]
  exact Lj (λq a=>Int.le_of_lt (h.pos q a)) r
 ·obtain⟨p,d,e⟩:=mem_map.mp (Ik a)
  rw[<-e]at c
  exact h.rng p d x c
 ·rw[e,Qw];exact h.tot
 ·rw[e,C7,C7]
  refine FY λs=>?_
  rw[EC,EC,JE]
theorem ZR{t:Tl}{b:Int}(h:∀q∈t,q.2<=b):BX t<=t.length * b:=by
 induction t with
 |nil=>simp[BX]
 |cons q t a =>
  have:=h q (by simp)
  have:=a λx c=>h x (by simp[c])
  rw[Cu,length_cons,Int.natCast_add,Int.add_mul]
  lia
theorem Rl{t:Tl}(h:Drawn n t):Stir n t:=by
 have h1:=ZR λq a=>(h.cnt q a).2
 have h2:=h.len
 refine⟨⟨by lia,h.rows,λq a=>by have:=(h.cnt q a).1;lia,h.nd⟩,h.row,?_,by lia⟩
 have:(t.length:Int) * 1000000000000<=40 * 1000000000000:=Int.mul_le_mul_of_nonneg_right (by lia) (by decide)
 lia
theorem Rm(h:∀x∈r,0<=x/\x<=9):∀x∈AM qK r qC,0<=x/\x<=9:=λx a=>by
 unfold AM at a
 obtain⟨n,_,rfl⟩:=mem_map.mp a
 rw[getD_eq_getElem?_getD]
 cases e:r[idx qK n]? with
 |none=>simp
 |some y=>exact h y (mem_of_getElem? e)
theorem Ro{t:Tl}(h:q∈Am qK t qC):∃p∈t,q.1=AM qK p.1 qC:=by
 have h:=Ik h
 rw[JB]at h
 obtain⟨p,c,e⟩:=mem_map.mp h
 unfold A5 at c
 obtain⟨d,a,rfl⟩:=mem_map.mp c
 exact⟨d,a,e.symm⟩
theorem Stir.share{t:Tl}(h:Stir n t)(qK qC:List Str):Stir qC.length (Am qK t qC):=by
 refine⟨Ln (G7 h.toTal) h.few,λq a=>?_,?_,Nat.le_trans (Lo qK t qC) h.len⟩
 ·obtain⟨p,c,e⟩:=Ro a
  rw[e]
  exact Rm (h.rng p c)
 ·rw[C7,Qw,Xy];exact h.tot
theorem ZS{a b c d:List Str}(h1:a.Nodup)(h2:b.Nodup)(g:∀z,z∈a↔z∈c\/z∈d)(f:∀z,z∈b↔z∈c\/z∈d)(s1:DR a)(e:DR b):a=b :=
 Qq ((perm_ext_iff_of_nodup h1 h2).mpr λz=>(g z).trans (f z).symm) s1 e
theorem Uni.mem(h:Uni qK qB qJ)(z:Str):z∈qJ↔z∈qK\/z∈qB:=⟨h.s z,λw=>w.elim (h.l z) (h.r z)⟩
theorem ML{α:Type}(f:α->List Int):∀{L:List (List Int)},L.Nodup->∀t:List α,(L.map λk=>(AY f t k).length).sum<=t.length
 |L,c,[]=>by
  have:∀L:List (List Int),(L.map λk=>(AY f ([]:List α) k).length).sum=0:=λL=>by
   induction L with
   |nil=>rfl
   |cons k L g=>rw[map_cons,sum_cons,g];rfl
  rw[this];exact Nat.le_refl _
 |L,c,q::t=>by
  have g:=ML f c t
  have e:∀k,(AY f (q::t) k).length=(if f q=k then 1 else 0)+(AY f t k).length:=λk=>by
   unfold AY
   rw[filter_cons]
   by_cases z:f q=k
   ·rw[if_pos (by simpa using z),if_pos z,length_cons];lia
   ·rw[if_neg (by simpa using z),if_neg z];lia
  have h:∀(L:List (List Int)),L.Nodup->(L.map λk=>(if f q=k then 1 else 0)+(AY f t k).length).sum<=(if f q∈L then 1 else 0)+(L.map λk=>(AY f t k).length).sum:=by
   intro L
   induction L with
   |nil=>intro _;simp
   |cons y L d =>
    intro c
    simp only[nodup_cons]at c
    have a:=d c.2
    simp only[map_cons,sum_cons,mem_cons]
    by_cases z:f q=y
    ·have b:f q∉L:=λw=>c.1 (z▸w)
     rw[if_neg b]at a
     rw[if_pos z,if_pos (.inl z)];lia
    ·rw[if_neg z]
     by_cases b:f q∈L
     ·rw[if_pos b]at a
      rw[if_pos (.inr b)];lia
     ·rw[if_neg b]at a
      rw[if_neg (λw=>w.elim z b)];lia
  simp only[e]
  have a:=h L c
  rw[length_cons]
  split at a<;>lia
section
variable{t u J:Tl}
theorem Agr.few(h:Agr qK qB t u):(Bm qK qB qJ t u).length<=t.length+u.length:=by
 have a:∀L:List (List Int),(L.flatMap (Bs qK qB qJ t u)).length<=(L.map λk=>(AY (Ab qK qB qK) t k).length).sum+(L.map λk=>(AY (Ab qK qB qB) u k).length).sum:=λL=>by
  induction L with
  |nil=>simp
  |cons k L e =>
   rw[flatMap_cons,length_append,map_cons,map_cons,sum_cons,sum_cons]
   have b:=MH (h.pa k) (h.pb k)
   have c:(Bs qK qB qJ t u k).length=(Ah (AY (Ab qK qB qK) t k) (AY (Ab qK qB qB) u k)).length:=by unfold Bs;rw[length_map]
   lia
 have b:=a (Aj (Ab qK qB qK) t)
 have c:=ML (Ab qK qB qK) (Eo (f:=Ab qK qB qK) t) t
 have d:=ML (Ab qK qB qB) (Eo (f:=Ab qK qB qK) t) u
 rw[HC]
 lia
theorem Agr.at(h:Agr qK qB t u)(c:q∈Bm qK qB qJ t u):∃k x,k∈Aj (Ab qK qB qK) t/\x∈Ah (AY (Ab qK qB qK) t k) (AY (Ab qK qB qB) u k)/\q=(Bg qK qB qJ x.1 x.2.1,x.2.2):=by
 rw[HC]at c
 obtain⟨k,e,a⟩:=mem_flatMap.mp c
 unfold Bs at a
 obtain⟨x,d,rfl⟩:=mem_map.mp a
 exact⟨k,x,e,d,rfl⟩
theorem ZT{a b:List Int}(h:HT.lexLt b a=false)(c:a≠b):HT.lexLt a b=true:=by
 cases e:HT.lexLt a b with
 |true=>rfl
 |false=>exact absurd (E9 _ _ e h) c
theorem ZU{l:List (List Int)}(s:Bb l)(nd:l.Nodup):DQ l=true:=by
 rw[P7]
 intro k a b g f
 have d:=(List.getElem?_eq_some_iff.mp g)
 have c:=(List.getElem?_eq_some_iff.mp f)
 have p:=pairwise_iff_getElem.mp s k (k+1) d.1 c.1 (Nat.lt_succ_self k)
 rw[d.2,c.2]at p
 refine ZT p λe=>?_
 have:=(getElem_inj nd).mp (show l[k]'d.1=l[k+1]'c.1 by rw[d.2,c.2,e])
 lia
theorem Agr.tally(h:Agr qK qB t u)(un:Uni qK qB qJ)(rt:∀q∈t,∀x∈q.1,0<=x/\x<=9)(j:∀q∈u,∀x∈q.1,0<=x/\x<=9)(d:J.Perm (Bm qK qB qJ t u))(l:Bb (J.map (·.1))) :
  Ij qJ.length J=true/\(∀q∈J,q.1.length=qJ.length)/\(∀q∈J,0<q.2)/\(J.map (·.1)).Nodup/\∀q∈J,∀x∈q.1,0<=x/\x<=9:=by
 have nd:(J.map (·.1)).Nodup:=(d.map _).nodup_iff.mpr (h.rows un)
 have i:∀q∈J,q.1.length=qJ.length:=λq c=>by
  obtain⟨k,x,_,_,rfl⟩:=h.at (d.mem_iff.mp c)
  exact Lk _ _ _
 have ps:∀q∈J,0<q.2:=λq c=>by
  obtain⟨k,x,_,f,rfl⟩:=h.at (d.mem_iff.mp c)
  exact(h.mem f).ps
 have g:∀q∈J,∀x∈q.1,0<=x/\x<=9:=λq c=>by
  obtain⟨k,x,_,f,rfl⟩:=h.at (d.mem_iff.mp c)
  have m:=h.mem f
  refine Rm λy hy=>?_
  rcases mem_append.mp hy with hy|hy
  ·obtain⟨p,d,e⟩:=mem_map.mp m.a
   exact rt p d y (by rw[e];exact hy)
  ·obtain⟨p,d,e⟩:=mem_map.mp m.b
   exact j p d y (by rw[e];exact hy)
 refine⟨?_,i,ps,nd,g⟩
 unfold Ij
 rw[Bool.and_eq_true]
 refine⟨all_eq_true.mpr λq c=>?_,ZU l nd⟩
 rw[Bool.and_eq_true]
 refine⟨?_,decide_eq_true (by have:=ps q c;lia)⟩
 unfold DP
 rw[Bool.and_eq_true]
 exact⟨decide_eq_true (i q c),all_eq_true.mpr λx f=>decide_eq_true (g q c x f)⟩
theorem Rq{α g:Type}[DecidableEq α](F:α->List g)(p:g->Bool)(k:α):∀{L:List α},L.Nodup->(∀a∈L,∀x∈F a,p x=decide (a=k))->((L.flatMap F).filter p).length=if k∈L then(F k).length else 0
 |[],_,_=>rfl
 |y::L,c,h=>by
  simp only[nodup_cons]at c
  have i:=Rq F p k c.2 λa f=>h a (by simp[f])
  rw[flatMap_cons,filter_append,length_append,i]
  by_cases e:y=k
  ·subst e
   rw[filter_eq_self.mpr λx d=>by rw[h y (by simp) x d];simp,if_neg c.1,if_pos (by simp)]
   rfl
  ·rw[filter_eq_nil_iff.mpr λx d=>by rw[h y (by simp) x d];simpa using e]
   by_cases b:k∈L
   ·rw[if_pos b,if_pos (by simp[b])];simp
   ·rw[if_neg b,if_neg (by simp[b,Ne.symm e])];rfl
theorem Agr.count(h:Agr qK qB t u)(un:Uni qK qB qJ)(f:J.Perm (Bm qK qB qJ t u)){k:List Int}(a:k∈Aj (Ab qK qB qK) t) :
  (J.filter λq=>decide (AM qJ q.1 (Ao qK qB)=k)).length<(AY (Ab qK qB qK) t k).length+(AY (Ab qK qB qB) u k).length:=by
 have e:(J.filter λq=>decide (AM qJ q.1 (Ao qK qB)=k)).length=(Bs qK qB qJ t u k).length:=by
  rw[(f.filter _).length_eq,HC,Rq (Bs qK qB qJ t u) _ k (Eo t) λg _ x c=>?_,if_pos a]
  unfold Bs at c
  obtain⟨y,d,rfl⟩:=mem_map.mp c
  rw[(h.mem d).key h.nd un]
 rw[e]
 unfold Bs
 rw[length_map]
 exact Ra (h.pa k) (h.pb k) (JN.mp a) (JN.mp (h.both.mp a))
end
end L2
namespace L2
theorem B4{α:Type}(x y z:α)(r:List α):atI (x::y::z::r) 2=some z:=Bd (j:=2) rfl
end L2
namespace L2
open PySem
end L2
namespace L2
open PySem PyProof.Rows
theorem Rr{x:P}(h:x.imm=true):A2 x f=.nw:=by cases f<;>simp[A2,h]
theorem EG{k:Nat}{x:P}{K:List S->Prop}(h:x.imm=true)(q:K (ρ.set k (.sh x))):BL k x f ρ K:=by unfold BL;rw[if_pos h];exact q
theorem Rs{K:List S->Prop}(h:K ((ρ.set i (.sh (AJ q.1))).set j (.sh (.int q.2)))):EY [i,j] (Ay q) f ρ K:=⟨_,rfl,rfl,EG (C4 _) (EG rfl h)⟩
theorem ZV{x:P}(h:x.imm=true):EW x f=true:=by unfold EW;rw[h];rfl
theorem Rt(ns:List Str):(AK ns).imm=true:=by simp
theorem Ru(f:Fl)(r:List (List Int)):Bk f (r.map AJ)=.nw:=by unfold Bk;rw[if_pos (WU r)]
end L2
open PySem L2
local macro_rules
 |`(tactic| simp_arith only[$ls,*] $[$l:location]?)=>`(tactic| simp only[AS,GM,N4,N3,GZ,OX,OW,OY,GL,pK,FB,ID,OB,OC,OD,OE,OF,Ki,OP,ON,OM,OO,GP,BL,Oe,Kk,p1,Kp,Kq,Kr,CO,CT,L2.ST,Oo,P.isNon,Kn,Ko,Ou,Ku,FJ,O5,O6,K0,PD,PB,PC,IS,IT,IU,K2,PH,frzS,CF,N6,N7,Cs,A2,Fl.join,Fl.el,Fl.top,Bk,EW,EZ,C2,Ks,Kt,LA,PY,PZ,Pb,IX,Pl,QB,LN,Il,Ld,Lf,LP,QK,Pn,EY,GR,Ob,Oc,Xu,isEmpty_cons,isEmpty_nil,JK,RO,MA,RU,MC,RW,replicate,map_cons,map_nil,length_cons,length_nil,cons_append,nil_append,getElem?_cons_zero,getElem?_cons_succ,set_cons_zero,set_cons_succ,getElem?_nil,Option.getD_some,Option.getD_none,Nat.reduceAdd,Nat.reduceSub,Nat.sub_self,Nat.zero_add,if_true,if_false,Bool.false_eq_true,exists_eq_left,exists_eq_left',ite_self,exists_and_left,exists_and_right,exists_eq,exists_eq',exists_const,and_true,true_and,Option.some.injEq,P.int.injEq,P.str.injEq,P.bl.injEq,P.tup.injEq,P.lst.injEq,P.fT.injEq,List.cons.injEq,Prod.mk.injEq,ne_eq,reduceCtorEq,not_false_eq_true,decide_true,decide_false,Bool.true_or,Bool.or_true,Bool.false_or,Bool.or_false,Bool.and_true,Bool.true_and,Bool.and_false,Bool.false_and,Bool.not_true,Bool.not_false,Xl,Xm,Xo,Xp,Xq,Qr,Uu,Uv,Uw,Ux,Uy,Uz,U0,U1,U2,U3,Hz,IA,KU,U5,Wc,Po,C4,Ie,U6,U7,U8,U9,VA,VB,O7,O8,V6,V7,V8,V9,WA,WC,Wg,Pp,Wf,all_cons,all_nil,Gj,Ig,LD,Wh,Wj,Wk,Wl,Bool.not_eq_true',decide_eq_false_iff_not,decide_eq_true_eq,$ls,*] $[$l]?)
local macro_rules
 |`(tactic| simp_arith[$ls,*] $[$l:location]?)=>`(tactic| simp_arith only[Wm,Wn,Wo,Wp,length_map,exists_prop,and_assoc,forall_const,forall_eq,forall_eq_apply_imp_iff,$ls,*] $[$l]?)
namespace K
open PySem L2
def top(i:Nat):Stmt:=PySem.Challenge.pw_roomtally_k13_whole_two_rooms_have_one_c.main.body.getD i (.Pass ⟨0,0,0,0⟩)
abbrev JQ:Stmt:=top 6
theorem ZW:FnScope ["things"] ["things"] (AT JQ):=⟨rfl,rfl,rfl,nofun,rfl,nofun,nofun⟩
abbrev JR:Stmt:=top 7
theorem ZX:FnScope ["room","row"] ["room","row"] (AT JR):=⟨rfl,rfl,rfl,nofun,rfl,nofun,nofun⟩
abbrev JS:Stmt:=top 8
theorem ZY:FnScope ["part","room"] ["part","room"] (AT JS):=⟨rfl,rfl,rfl,nofun,rfl,nofun,nofun⟩
abbrev MM:Stmt:=top 9
theorem ZZ:FnScope ["one","other"] ["one","other"] (AT MM):=⟨rfl,rfl,rfl,nofun,rfl,nofun,nofun⟩
abbrev JT:Stmt:=top 10
theorem Za:FnScope ["one","other"] ["one","other"] (AT JT):=⟨rfl,rfl,rfl,nofun,rfl,nofun,nofun⟩
abbrev JU:Stmt:=top 11
theorem Zb:FnScope ["room","part"] ["room","part"] (AT JU):=⟨rfl,rfl,rfl,nofun,rfl,nofun,nofun⟩
abbrev JV:Stmt:=top 12
theorem Zd:FnScope ["row","spots"] ["row","spots"] (AT JV):=⟨rfl,rfl,rfl,nofun,rfl,nofun,nofun⟩
abbrev HD:Stmt:=top 14
theorem Ze:FnScope ["room","rows"] ["room","rows"] (AT HD):=⟨rfl,rfl,rfl,nofun,rfl,nofun,nofun⟩
abbrev JW:Stmt:=top 15
theorem JX:FnScope ["papers","counts","row","count"] ["papers"] (AT JW):=⟨rfl,rfl,rfl,nofun,rfl,nofun,nofun⟩
abbrev JY:Stmt:=top 16
theorem Rv:FnScope ["room","rows","part","spots"] ["room","rows","part"] (AT JY):=⟨rfl,rfl,rfl,nofun,rfl,nofun,nofun⟩
abbrev JZ:Stmt:=top 18
theorem HE:FnScope ["room","rows","other_room","other_rows","part","one","other","apart"] ["room","rows","other_room","other_rows"] (AT JZ):=⟨rfl,rfl,rfl,nofun,rfl,nofun,nofun⟩
abbrev MN:Stmt:=top 20
theorem HF:FnScope ["room","rows","part","spots","groups","row","count"] ["room","rows","part"] (AT MN):=⟨rfl,rfl,rfl,nofun,rfl,nofun,nofun⟩
abbrev HG:Stmt:=top 21
theorem EH:FnScope ["first","second","ones","others","found","at","by","many"] ["first","second"] (AT HG):=⟨rfl,rfl,rfl,nofun,rfl,nofun,nofun⟩
abbrev MO:Stmt:=top 22
theorem C8:FnScope ["room","rows","other_room","other_rows","row","part","ones","others","spots","found","key","one","other","many"] ["room","rows","other_room","other_rows"] (AT MO):=⟨rfl,rfl,rfl,nofun,rfl,nofun,nofun⟩
abbrev MP:Stmt:=top 24
theorem Fh:FnScope ["_law_bag_here","_law_many_here","_law_seed","_law_mixed","_law_drawn_here"] ["_law_bag_here","_law_many_here"] (AT MP):=⟨rfl,rfl,rfl,nofun,rfl,nofun,nofun⟩
abbrev Ja:Stmt:=top 25
theorem Zg:FnScope ["_law_counts"] ["_law_counts"] (AT Ja):=⟨rfl,rfl,rfl,nofun,rfl,nofun,nofun⟩
abbrev MQ:Stmt:=top 26
theorem Jb:FnScope ["_law_script","_law_salt","_law_one"] ["_law_script"] (AT MQ):=⟨rfl,rfl,rfl,nofun,rfl,nofun,nofun⟩
abbrev Jc:Stmt:=top 27
theorem Rw:FnScope ["_law_bag_here","_law_size","_law_letters"] ["_law_bag_here","_law_size"] (AT Jc):=⟨rfl,rfl,rfl,nofun,rfl,nofun,nofun⟩
abbrev MR:Stmt:=top 28
theorem EI:FnScope ["_law_bag_here","_law_many_here","_law_letters","_law_found","_law_start","_law_k","_law_word_here","_law_step"] ["_law_bag_here","_law_many_here"] (AT MR):=⟨rfl,rfl,rfl,nofun,rfl,nofun,nofun⟩
abbrev MS:Stmt:=top 29
theorem Zh:FnScope ["_law_bag_here"] ["_law_bag_here"] (AT MS):=⟨rfl,rfl,rfl,nofun,rfl,nofun,nofun⟩
abbrev Jd:Stmt:=top 30
theorem HH:FnScope ["_law_bag_here","_law_names_here","_law_many_here","_law_name","_law_mask"] ["_law_bag_here","_law_names_here"] (AT Jd):=⟨rfl,rfl,rfl,nofun,rfl,nofun,nofun⟩
abbrev Je:Stmt:=top 31
theorem Zi:FnScope ["_law_bag_here","_law_size","_law_base"] ["_law_bag_here","_law_size","_law_base"] (AT Je):=⟨rfl,rfl,rfl,nofun,rfl,nofun,nofun⟩
abbrev MT:Stmt:=top 32
theorem Zj:FnScope ["_law_bag_here"] ["_law_bag_here"] (AT MT):=⟨rfl,rfl,rfl,nofun,rfl,nofun,nofun⟩
abbrev MU:Stmt:=top 33
theorem Jf:FnScope ["_law_bag_here","_law_room","_law_counts","_law_base","_law_k"] ["_law_bag_here","_law_room"] (AT MU):=⟨rfl,rfl,rfl,nofun,rfl,nofun,nofun⟩
abbrev Jg:Stmt:=top 34
theorem Zk:FnScope ["_law_one","_law_other"] ["_law_one","_law_other"] (AT Jg):=⟨rfl,rfl,rfl,nofun,rfl,nofun,nofun⟩
abbrev Jh:Stmt:=top 35
theorem Zl:FnScope ["_law_room","_law_row","_law_part_here"] ["_law_room","_law_row","_law_part_here"] (AT Jh):=⟨rfl,rfl,rfl,nofun,rfl,nofun,nofun⟩
abbrev MV:Stmt:=top 36
theorem HI:FnScope ["_law_room","_law_rows","_law_part_here","_law_counts","_law_row","_law_count","_law_here"] ["_law_room","_law_rows","_law_part_here"] (AT MV):=⟨rfl,rfl,rfl,nofun,rfl,nofun,nofun⟩
abbrev MW:Stmt:=top 37
theorem Zm:FnScope ["_law_one","_law_other"] ["_law_one","_law_other"] (AT MW):=⟨rfl,rfl,rfl,nofun,rfl,nofun,nofun⟩
abbrev MX:Stmt:=top 38
theorem Zn:FnScope ["_law_found"] ["_law_found"] (AT MX):=⟨rfl,rfl,rfl,nofun,rfl,nofun,nofun⟩
abbrev Ji:Stmt:=top 39
theorem Zo:FnScope ["_law_found"] ["_law_found"] (AT Ji):=⟨rfl,rfl,rfl,nofun,rfl,nofun,nofun⟩
abbrev MY:Stmt:=top 40
theorem Rx:FnScope ["_law_found","_law_due","_law_k"] ["_law_found","_law_due"] (AT MY):=⟨rfl,rfl,rfl,nofun,rfl,nofun,nofun⟩
abbrev Jj:Stmt:=top 41
theorem Dp:FnScope ["_law_bag_here","_law_room","_law_rows","_law_part_here","_law_counts","_law_turn","_law_keys","_law_row","_law_many_here","_law_fresh","_law_at"] ["_law_bag_here","_law_room","_law_rows","_law_part_here"] (AT Jj):=⟨rfl,rfl,rfl,nofun,rfl,nofun,nofun⟩
abbrev EJ:Stmt:=top 42
theorem CW:FnScope ["_law_script","_law_bag_here","_law_names_here","_law_one","_law_other","_law_rows","_law_part_here","_law_left","_law_right","_law_found","_law_every","_law_here","_law_count","_law_many_here"] ["_law_script"] (AT EJ):=⟨rfl,rfl,rfl,nofun,rfl,nofun,nofun⟩
section
variable{b D:Addr}
structure StepD(b a D:Addr)(H H':Hp):Prop where
 bag:Bag H' b a
 same:∀p o,p≠b->p≠D->H p=some o->H' p=some o
 nb:D≠b
 na:D≠a
theorem StepD.new(h:Bag H b a)(n:H D=none):StepD b a D H (AD H D o) :=
 ⟨h.new n,λp u _ _ e=>by rw[AL (A3 e n)];exact e,h.nb n,h.na n⟩
theorem StepD.step(s:StepD b a D H H1)(t:Step b a H1 H2):StepD b a D H H2:=⟨t.bag,λp u c d e=>t.same p u c (s.same p u c d e),s.nb,s.na⟩
theorem StepD.put(s:StepD b a D H H1):StepD b a D H (AD H1 D o):=⟨s.bag.put s.nb s.na,λp u d c e=>by rw[AL c];exact s.same p u d c e,s.nb,s.na⟩
theorem StepD.out(s:StepD b a D H H1)(n:H D=none):Step b a H H1:=⟨s.bag,λp u c e=>s.same p u c (A3 e n) e⟩
end
def Jk(K:Fg):Sp:=λvs H Q _=>∃(a:Addr) (ns:List Int),vs=[.ref a]/\Au K H a (ns.map V.int)/\∀(b a':Addr) (H':Hp),H b=none->H a'=none->Bag H' b a'->CA H H'->Q (.ref b) H'
def Jl:Sp:=λvs H Q _=>∃(b a:Addr) (m:Int),vs=[.ref b,.int m]/\Bag H b a/\0<m/\m<2 ^ 64/\∀(r:Int) (H':Hp),0<=r->r<m->Step b a H H'->Q (.int r) H'
def Ry(x:Str):Prop:=∀c∈x.cps.toList,97<=c/\c<=122
def Rz:Sp:=λvs H Q _=>∃(b a:Addr) (n:Int),vs=[.ref b,.int n]/\Bag H b a/\0<=n/\n<=1000/\∀(x:Str) (H':Hp),(x.length:Int)=n->Ry x->Step b a H H'->Q (.str x) H'
section
variable{P:Program}{K:Fg}
structure TxtB(mg:Str->Option Value):Prop where
 b_len:mg "len"=none
 b_list:mg "list"=none
 b_range:mg "range"=none
 b_isinstance:mg "isinstance"=none
 b_bool:mg "bool"=none
 b_int:mg "int"=none
 b_tuple:mg "tuple"=none
 b_all:mg "all"=none
 b_any:mg "any"=none
 b_sorted:mg "sorted"=none
 b_set:mg "set"=none
 b_sum:mg "sum"=none
 b_dict:mg "dict"=none
 b_zip:mg "zip"=none
 b_min:mg "min"=none
 b_max:mg "max"=none
theorem R0(ns:List Int):Cq (ns.map V.int) none (some 63)=(ns.take 63).map V.int:=by
 unfold Cq
 rw[map_take]
 simp[HT.sIx]
theorem Zp(D:Az K mg "_law_bag" MQ)(T:TxtB mg):Fn P w K mg base "_law_bag" 1 ["_law_script"] (Jk K):=by
 refine GI D Jb (λ_ _ _ _ _ _ us U=>Dq U (λ_=>rfl)) (λvs H Q E h=>?_) (λf Y A q s H vs Q E hr h=>?_)
 ·obtain⟨a,ns,rfl,_⟩:=h;rfl
 ·obtain⟨a,ns,rfl,B,k⟩:=h
  refine⟨_,(Bi (B5 (i:=1) Jb.nd rfl (Or.inl rfl) (ER KP (by rfl) T.b_len nofun (Ap (F7 Hm (pv 0) F5 (F6 Ag)) BA)))
 (Bi (F1 PassesOwn.never rfl (M0 (F7 Hm (pv 0) F5 (F6 Ag))) (A1 (i:=2) Jb.nd rfl (Or.inl rfl))
 (Cc (B5 (i:=1) Jb.nd rfl (Or.inl rfl) (BQ EN (BQ Cn (BQ E1 (pv 1) Ag) (pv 2)) Ag))))
 (Cc (Ev (F3 (Ap (J8 E7 (by rfl) T.b_list nofun (Ap (F7 Hm (pv 0) F5 (F6 Ag)) BA)) (Ap Ag (Ap Ag (Ap (pv 1) BA))))))))),?_⟩
  refine⟨_,rfl,63,rfl,a,ns.map V.int,rfl,B,λp O=>?_⟩
  have I:CA H (AD H p (.lst (Cq (ns.map V.int) none (some 63)))):=λb o e=>by rw[AL (A3 e O)];exact e
  refine⟨p,_,rfl,Af,?_⟩
  refine⟨_,rfl,63,rfl,a,ns.map V.int,rfl,I.seq B,λp2 u=>?_⟩
  rw[R0]at *
  have N:CA H (AD (AD H p (.lst ((ns.take 63).map V.int))) p2 (.lst ((ns.take 63).map V.int))):=I.trans λb o e=>by rw[AL (A3 e u)];exact e
  refine⟨p2,rfl,⟨_,.of Af⟩,S6 (K:=K) (a:=p2) (xs:=(ns.take 63).map V.int) (λi σ H2=>∃(z:Int) (v:Option V),σ=[some (.ref a),some (.int z),v]/\CA H H2/\H2 p2=some (.lst ((ns.take 63).map V.int)))
   ⟨_,_,rfl,N,Af⟩ (λi σ H2 _ ⟨_,_,_,_,e⟩=>.of e) ?_ ?_⟩
  ·rintro i y σ H2 hi ⟨z,v,rfl,d,L⟩
   obtain⟨n,hn,rfl⟩:∃n,(ns.take 63)[i]?=some n/\y=V.int n:=by
    rw[getElem?_map]at hi
    cases e:(ns.take 63)[i]? with
    |none=>rw[e]at hi;cases hi
    |some n=>rw[e]at hi;exact⟨n,rfl,(oI hi).symm⟩
   simp[Da,Cd,Ez,rI,B6,Cb,tC,Du]
   exact⟨d,by simpa[map_take]using L⟩
  ·rintro σ H2 ⟨z,v,rfl,d,L⟩
   refine⟨_,rfl,63,rfl,a,ns.map V.int,rfl,d.seq B,λl r=>?_⟩
   refine⟨l,_,rfl,.inl Af,λg j=>⟨_,rfl,(by show 4<=sizeLine;decide),λb x=>?_⟩⟩
   rw[R0]at *
   have G:CA H2 (AD H2 l (.lst ((ns.take 63).map V.int))):=λb o e=>by rw[AL (A3 e r)];exact e
   have C:=G.trans (λb o e=>by rw[AL (A3 e j)];exact e:CA _ (AD (AD H2 l (.lst ((ns.take 63).map V.int))) g (.lst ((ns.take 63).map V.int))))
   have M:CA _ (AD (AD (AD H2 l (.lst ((ns.take 63).map V.int))) g (.lst ((ns.take 63).map V.int))) b (.lst [.ref g,.int 0,.int 0,.int z])):=λc o e=>by rw[AL (A3 e x)];exact e
   have J:g≠b:=A3 (o:=.lst ((ns.take 63).map V.int)) Af x
   refine k b g _ ((d.trans C).free x) ((d.trans G).free j) ⟨ns.take 63,0,0,z,Af,?_,Int.le_refl _,J⟩ ((d.trans C).trans M)
   rw[AL J,Af]
def Jm(b a:Addr)(m z:Int)(D:Ends)(H:Hp):Prop:=∀r i c,0<=i->D.rt (.int (r % m)) (AD H b (De a i c z))
abbrev HJ(b:Addr)(m:Int)(x y w:Option V):List (Option V):=[some (.ref b),some (.int m),x,y,w]
def R1(b a:Addr)(m z:Int):TS:=λD σ H=>∃i c x y w,σ=HJ b m x y w/\0<=i/\H b=some (De a i c z)/\Jm b a m z D H
def Zq(b a:Addr)(m z:Int)(ns:List Int):TS:=λD σ H=>∃i c s y w,σ=HJ b m (some (.int s)) y w/\0<=i/\H b=some (De a i c z)/\H a=some (.lst (ns.map V.int))/\Jm b a m z D H/\∀c,D.nx (HJ b m (some (.int s)) y w) (AD H b (De a i c z))
def Zr(b a:Addr)(m z:Int):TS:=λD σ H=>∃i c s y w,σ=HJ b m (some (.int s)) y w/\0<=i/\H b=some (De a i c z)/\Jm b a m z D H
theorem Zs(D:Az K mg "_law_pull" MP)(T:TxtB mg):Fn P w K mg base "_law_pull" 1 ["_law_bag_here","_law_many_here"] Jl:=by
 refine GI D Fh (λ_ _ _ _ _ _ us hl=>B0 hl (λ_ _=>rfl)) (λvs H Q E h=>?_) (λf a0 A M s H vs Q E hr h=>?_)
 ·obtain⟨b,a,m,rfl,_⟩:=h
  rfl
 ·obtain⟨b,a,m,rfl,⟨ns,i,c,z,g,ha,hi,I⟩,G,N,k⟩:=h
  have B:∀o,AD H b o a=some (HO.lst (map V.int ns)):=λo=>by rw[AL I];exact ha
  have J:∀r u l,0<=u->Q (V.int (r % m)) (AD H b (De a u l z)):=λr u l O =>
   k _ _ (Int.emod_nonneg _ (Int.ne_of_gt G)) (Int.emod_lt_of_pos _ G) ⟨⟨ns,u,l,z,Af,B _,O,I⟩,λp o hp e=>by rw[AL hp];exact e⟩
  refine⟨_,(Bi (Fw (E2 Hh (Bv CM (pv 0) Ag (λ_ _=>rfl)) Ag (BR _))
 (Bi (Mu (pv 0) Ag Ny Ag J1 F8)
 (Bi (B5 (i:=2) Fh.nd rfl (Or.inl rfl) (Bv CM (pv 0) Ag (λ_ _=>rfl)))
 (Bi (Fw (E2 Hh (Bv CM (pv 0) Ag (λ_ _=>rfl)) (ER KP (by rfl) T.b_len nofun (Ap (Bv CM (pv 0) Ag (λ_ _=>rfl)) BA)) (BR _))
 (Cc (B5 (i:=2) Fh.nd rfl (Or.inl rfl) (Bv CM (Bv CM (pv 0) Ag (λ_ _=>rfl)) (BQ M5 (Bv CM (pv 0) Ag (λ_ _=>rfl)) Ag) (λ_ _=>rfl))))
 Fv)
 (BY.weak (m:=(Zq b a m z ns)) (Bi (Fw (PW.pt (Mq (E2 M7 (Bv CM (pv 0) Ag (λ_ _=>rfl)) (ER KP (by rfl) T.b_len nofun (Ap (Bv CM (pv 0) Ag (λ_ _=>rfl)) BA)) (BR _)) (Mp (E2 J5 (pv 2) (BQ M6 Ag Ag) (BR _)))))
 (BY.weak (m:=(Zr b a m z)) (Bi (B5 (i:=3) Fh.nd rfl (Or.inl rfl) (BQ EN (BQ Cn (BQ Cn (BQ E1 (pv 2) Ag) (BQ E1 (Bv CM (pv 0) Ag (λ_ _=>rfl)) Ag)) Ag) Ag))
 (Bi (B5 (i:=3) Fh.nd rfl (Or.inl rfl) (BQ EN (BQ E1 (pv 3) (pv 3)) Ag))
 (Cc (Ev (BQ EN (BQ Nx (BQ EN (BQ E1 (BQ Cn (pv 3) (Bv CM (pv 0) Ag (λ_ _=>rfl))) Ag) Ag) Ag) (pv 1)))))) ?j)
 Fv)
 (Cc (J0 (pv 2) (Jz (pv 0) Ag F8)))) ?q))))
 Fv)
 (BY.weak (m:=(R1 b a m z)) (Bi (B5 (i:=4) Fh.nd rfl (Or.inl rfl) (BQ EN (Bv CM (pv 0) Ag (λ_ _=>rfl)) (pv 1)))
 (Bi (J0 (BQ Nx (Bv CM (pv 0) Ag (λ_ _=>rfl)) (pv 1)) (Jz (pv 0) Ag F8))
 (Cc (Ev (pv 4))))) ?Ml)),?C⟩
  case Ml =>
   rintro D σ H ⟨i,c,x,y,w,rfl,hi,g,d⟩
   refine⟨_,rfl,b,2,_,rfl,rfl,g,_,rfl,_,rfl,_,_,rfl,rfl,G,?_⟩
   refine⟨_,rfl,b,2,_,rfl,rfl,g,_,rfl,_,rfl,_,_,rfl,rfl,⟨G,N⟩,?_⟩
   exact⟨_,rfl,b,_,2,2,rfl,rfl,g,rfl,_,rfl,d c i (c / m) hi⟩
  case q =>
   rintro D σ H ⟨i,c,s,y,w,rfl,hi,g,ha,d,n⟩
   refine⟨_,rfl,b,1,_,rfl,rfl,g,_,rfl,_,rfl,b,0,_,rfl,rfl,g,_,rfl,_,_,rfl,ha,_,_,rfl,rfl,_,rfl,Bj (λ_=>?_) λ_=>?_⟩
   ·exact⟨i,c,s,y,w,rfl,hi,g,d⟩
   ·refine⟨_,rfl,_,_,rfl,rfl,⟨by decide,by decide,by decide⟩,_,_,rfl,rfl,_,rfl,Bj (λ_=>?_) λ_=>?_⟩
    ·exact⟨i,c,s,y,w,rfl,hi,g,d⟩
    ·exact⟨_,rfl,_,rfl,b,_,2,2,rfl,rfl,g,rfl,n s⟩
  case j =>
   rintro D σ H ⟨i,c,s,y,w,rfl,hi,g,d⟩
   have L:∀{x y:Int},y<2 ^ 64->0<=y->Du x y:=λh0 h1=>.inr ⟨by lia,h0⟩
   have p1:(0:Int)<2147483647:=by decide
   have p2:(0:Int)<2147483629:=by decide
   have p3:(0:Int)<998244353:=by decide
   have p4:(0:Int)<13:=by decide
   have p5:(13:Int)<2 ^ 64:=by decide
   refine⟨_,rfl,_,_,rfl,rfl,L (by decide) (by decide),?_⟩
   refine⟨_,rfl,b,1,_,rfl,rfl,g,_,rfl,_,_,rfl,rfl,L (by decide) (by decide),_,_,rfl,rfl,_,_,rfl,rfl,_,_,rfl,rfl,p1,?_⟩
   have r0:=Int.emod_nonneg (s * 48271+i * 16807+11) (b:=2147483647) (by decide)
   have r1:=Int.emod_lt_of_pos (s * 48271+i * 16807+11) (b:=2147483647) (by decide)
   refine⟨_,rfl,_,rfl,_,_,rfl,rfl,L (by show _ % _<_;lia) r0,_,_,rfl,rfl,p2,?_⟩
   refine⟨_,rfl,_,rfl,b,1,_,rfl,rfl,g,_,rfl,_,_,rfl,rfl,_,_,rfl,rfl,L (by decide) (by decide),_,_,rfl,rfl,p3,_,_,rfl,rfl,⟨p4,p5⟩,_,rfl,_,_,rfl,rfl,G,?_⟩
   have e:AD H b (De a i c z)=H:=funext λp=>by
    by_cases h:p=b
    ·rw[h,Af,g]
    ·rw[AL h]
   have d2:∀r,D.rt (.int (r % m)) H:=λr=>by
    have:=d r i c hi
    rw[e]at this
    exact this
   exact d2 _
  case C =>
   refine⟨_,rfl,b,2,_,rfl,rfl,g,_,rfl,_,_,rfl,rfl,_,rfl,Bj (λ_=>?_) λ_=>?_⟩
   ·refine⟨_,rfl,b,1,_,rfl,rfl,g,_,rfl,_,_,rfl,rfl,b,_,1,1,rfl,rfl,g,rfl,?_⟩
    have h1:0<=i+1:=by lia
    have dd:∀o,Jm b a m z { nx:=λx H'=>Q V.non H',rt:=Q } (AD H b o):=λo r u l h=>by rw[HV];exact J r u l h
    have nn:∀o i,0<=i->∀x y w l,R1 b a m z { nx:=λx H'=>Q V.non H',rt:=Q } (HJ b m x y w) (AD (AD H b o) b (De a i l z)):=λo i h x y w l=>⟨i,l,x,y,w,rfl,h,Af,by rw[HV];exact dd _⟩
    refine⟨_,rfl,b,3,_,rfl,rfl,Af,_,rfl,?_⟩
    refine⟨_,rfl,b,1,_,rfl,rfl,Af,_,rfl,_,rfl,b,0,_,rfl,rfl,Af,_,rfl,_,_,rfl,B _,_,_,rfl,rfl,_,rfl,Bj (λU=>?_) λ_=>?_⟩
    ·have U:i+1<=((ns.map V.int).length:Int):=of_decide_eq_true U
     rw[length_map]at U
     obtain⟨v,hv⟩:∃v,ns[i.toNat]?=some v:=⟨_,getElem?_eq_getElem (by lia)⟩
     have Y:atI (ns.map V.int) (i+1 - 1)=some (V.int v):=by
      rw[show i+1 - 1=((i.toNat:Nat):Int) by lia]
      exact Bd (by rw[getElem?_map,hv];rfl)
     refine⟨_,rfl,b,0,_,rfl,rfl,Af,_,rfl,_,rfl,b,1,_,rfl,rfl,Af,_,rfl,_,_,rfl,rfl,a,_,_,rfl,rfl,B _,_,Y,?_⟩
     exact⟨i+1,c,v,_,_,rfl,h1,Af,B _,dd _,λl=>nn _ _ h1 _ _ _ l⟩
    ·exact⟨i+1,c,z,_,_,rfl,h1,Af,B _,dd _,λl=>nn _ _ h1 _ _ _ l⟩
   ·exact⟨i,c,_,_,_,rfl,hi,g,J⟩
theorem Zt{i:Int}(a:0<=i)(h1:i<26):∃c:Nat,atI (Str.ofString "abcdefghijklmnopqrstuvwxyz").cps.toList i=some c/\97<=c/\c<=122:=by
 obtain⟨n,rfl⟩:=Int.eq_ofNat_of_zero_le a
 have h:n<26:=by lia
 have e:(Str.ofString "abcdefghijklmnopqrstuvwxyz").cps.toList=[97,98,99,100,101,102,103,104,105,106,107,108,109,110,111,112,113,114,115,116,117,118,119,120,121,122]:=by decide +kernel
 rw[e]
 have q:∀m:_root_.Fin 26,[97,98,99,100,101,102,103,104,105,106,107,108,109,110,111,112,113,114,115,116,117,118,119,120,121,122][m.val]?=some (97+m.val):=by decide +kernel
 exact⟨97+n,Bd (q ⟨n,h⟩),by lia,by lia⟩
theorem R3:∀cs:List Nat,(cs.map ((λx=>x.cps.toList) ∘ λc=>(⟨#[c]⟩:Str))).flatten=cs
 |[]=>rfl
 |x::r=>by simp[R3 r]
theorem Zu(D:Az K mg "_law_word" Jc)(T:TxtB mg)(L:Fn P w K mg base "_law_pull" 1 ["_law_bag_here","_law_many_here"] Jl):Fn P w K mg base "_law_word" 2 ["_law_bag_here","_law_size"] Rz:=by
 refine GI D Rw (λ_ _ _ _ _ _ us o=>B0 o (λ_ _=>rfl)) (λvs H Q E h=>?_) (λf a0 A v s H vs Q E O h=>?_)
 ·obtain⟨b,a,m,rfl,_⟩:=h
  rfl
 ·obtain⟨b,a,n,rfl,J,Y,U,k⟩:=h
  refine⟨_,(Bi (B5 (i:=2) Rw.nd rfl (Or.inr rfl) Jt)
 (Cc (Ev (Hr PySem.F.plainAttrs_str PySem.F.slot_str_join PySem.F.type_str_join Ui Jt (Ap (Nr (N:=["_law_bag_here","_law_size","_law_letters"]) (sc:=AT Jc) (N':=["_law_k","_law_letters","_law_bag_here"]) (qD:=[none,some 2,some 0]) ⟨rfl,nofun,nofun,nofun,nofun,rfl,nofun⟩ rfl (Hc (by rfl) T.b_range (Ap (pv 1) BA)) (Nm rfl) (λp=>(A1 (i:=0) (show List.Nodup (["_law_k","_law_letters","_law_bag_here"]:List Str) by decide +kernel) rfl (Or.inl rfl))) (λp=>Nl) (λp=>(Bv J9 (pv 1) (ET L (O.m) (by rfl) (Ap (pv 2) (Ap Ag BA))) (λ_ _=>rfl)))) BA))))),?_⟩
  refine⟨rfl,_,rfl,n,rfl,by lia,by lia,?_⟩
  refine Ug (Pv:=λD i ys H2=>∃cs:List Nat,ys=cs.map (λc=>V.str ⟨#[c]⟩)/\cs.length=i/\(∀c∈cs,97<=c/\c<=122)/\H2 D=some (.lst ys)/\StepD b a D H H2)
   (λD u=>⟨[],rfl,rfl,by simp,Af,StepD.new J u⟩) (λD i ys H2 _ _ ⟨cs,_,_,_,e,_⟩=>e) ?_ ?_
  ·rintro D u i ys H2 hi ⟨cs,rfl,o,G,g,st⟩
   refine⟨_,rfl,_,rfl,b,a,26,rfl,st.bag,by decide,by decide,λr H3 h0 h1 j=>?_⟩
   obtain⟨c,C,B,y⟩:=Zt h0 h1
   refine⟨_,r,c,rfl,rfl,nofun,C,?_⟩
   have I:D≠b:=J.nb u
   refine⟨j.same D _ I g,?_,cs++[c],by simp,by simp[o],?_,Af,(st.step j).put⟩
   ·rw[length_map,o];exact Dx (by lia)
   ·intro d hd
    rcases mem_append.mp hd with z|z
    ·exact G d z
    ·rw[mem_singleton.mp z];exact⟨B,y⟩
  ·rintro D ys H2 u ⟨cs,rfl,o,G,g,st⟩
   refine⟨⟨#[]⟩,D,cs.map (λc=>⟨#[c]⟩),rfl,rfl,.of (by rw[map_map];exact g),?_,?_⟩
   ·have e:∀l:List Nat,((l.map (λc=>(⟨#[c]⟩:Str))).map (·.length)).sum=l.length:=λl=>by
     induction l with
     |nil=>rfl
     |cons x r M=>simp only[map_cons,sum_cons,M,length_cons];show 1+r.length=_;lia
    rw[e,length_map]
    show cs.length+cs.length * 0<=_
    lia
   ·have e:(Txt.join ⟨#[]⟩ (cs.map (λc=>(⟨#[c]⟩:Str)))).cps.toList=cs:=by
     rw[Ul,map_map]
     exact R3 cs
    refine k _ H2 ?_ ?_ (st.out u)
    ·have z:(Txt.join ⟨#[]⟩ (cs.map (λc=>(⟨#[c]⟩:Str)))).cps.toList.length=cs.length:=by rw[e]
     have z2:(Txt.join ⟨#[]⟩ (cs.map (λc=>(⟨#[c]⟩:Str)))).length=cs.length:=by rw[<-z];exact Array.length_toList.symm
     lia
    ·intro c q
     rw[e]at q
     exact G c q
end
def Fi(x:Str):Prop:=1<=x.length/\x.length<=8/\Ry x
def R4:Sp:=λvs H Q _=>∃(b a:Addr) (n:Int),vs=[.ref b,.int n]/\Bag H b a/\0<=n/\n<=9 /\
 ∀(p:Addr) (xs:List Str) (H':Hp),H p=none->H' p=some (.lst (xs.map V.str))->(xs.length:Int)=n->(∀x∈xs,Fi x)->xs.Nodup->Step b a H H'->Q (.ref p) H'
theorem Zv(h:n<26):atI (Str.ofString "abcdefghijklmnopqrstuvwxyz").cps.toList (n:Int)=some (97+n):=by
 have e:(Str.ofString "abcdefghijklmnopqrstuvwxyz").cps.toList=[97,98,99,100,101,102,103,104,105,106,107,108,109,110,111,112,113,114,115,116,117,118,119,120,121,122]:=by decide +kernel
 rw[e]
 have q:∀m:_root_.Fin 26,[97,98,99,100,101,102,103,104,105,106,107,108,109,110,111,112,113,114,115,116,117,118,119,120,121,122][m.val]?=some (97+m.val):=by decide +kernel
 exact Bd (q ⟨n,h⟩)
def DW(pre:List Nat)(j:Nat):Str:=⟨(pre++[97+j]).toArray⟩
theorem Zw{pre:List Nat}(h:DW pre i=DW pre j):i=j:=by
 have e:pre++[97+i]=pre++[97+j]:=by
  have:=congrArg (λz:Str=>z.cps.toList) h
  simpa[DW]using this
 have:=append_cancel_left e
 simp at this
 exact this
theorem Zx{pre:List Nat}{xs:List Str}(g:xs.length<26)(h:∀j,j<26->DW pre j∈xs):False:=by
 have c:((List.range 26).map (DW pre)).Nodup:=by
  exact List.Pairwise.map (DW pre) (λi j a e=>a (Zw e)) nodup_range
 have sub:(List.range 26).map (DW pre) ⊆ xs:=λx d=>by
  obtain⟨j,f,rfl⟩:=mem_map.mp d
  exact h j (mem_range.mp f)
 have:=c.length_le_of_subset sub
 simp at this
 lia
section
variable{P:Program}{K:Fg}
theorem Zy:∀{r:Int},0<=r->r<4->∃k:Int,atI [V.int 0,V.int 0,V.int 3,V.int 7] r=some (V.int k)/\0<=k/\k<=7:=by
 intro r a h1
 obtain⟨n,rfl⟩:=Int.eq_ofNat_of_zero_le a
 have h:n=0\/n=1\/n=2\/n=3:=by lia
 rcases h with rfl|rfl|rfl|rfl
 ·exact⟨0,rfl,by decide,by decide⟩
 ·exact⟨0,rfl,by decide,by decide⟩
 ·exact⟨3,rfl,by decide,by decide⟩
 ·exact⟨7,rfl,by decide,by decide⟩
theorem Jn(p q:Str):(p++q).cps.toList=p.cps.toList++q.cps.toList:=Array.toList_append
theorem HK(p q:Str):(p++q).length=p.length+q.length:=Array.size_append
theorem Zz(D:Az K mg "_law_names" MR)(T:TxtB mg)(qO:Fn P w K mg base "_law_pull" 1 ["_law_bag_here","_law_many_here"] Jl)(qP:Fn P w K mg base "_law_word" 2 ["_law_bag_here","_law_size"] Rz):Fn P w K mg base "_law_names" 3 ["_law_bag_here","_law_many_here"] R4:=by
 refine GI D EI (λ_ _ _ _ _ _ us hl=>B0 hl (λ_ _=>rfl)) (λvs H Q E h=>?_) (λf ac A a0 s H vs Q E hr h=>?_)
 ·obtain⟨b,a,m,rfl,_⟩:=h
  rfl
 ·obtain⟨b,a,n,rfl,hb,ab,aa,k⟩:=h
  refine⟨_,(Bi (B5 (i:=2) EI.nd rfl (Or.inl rfl) Jt)
 (Bi (B5 (i:=3) EI.nd rfl (Or.inl rfl) (F3 BA))
 (Bi (B5 (i:=4) EI.nd rfl (Or.inl rfl) (ET qP (hr.m) (by rfl) (Ap (pv 0) (Ap (Bv CM (F3 (Ap Ag (Ap Ag (Ap Ag (Ap Ag BA))))) (ET qO (hr.m) (by rfl) (Ap (pv 0) (Ap Ag BA))) (λ_ _=>rfl)) BA))))
 (Bi (F1 PassesOwn.never rfl (Hc (by rfl) T.b_range (Ap (pv 1) BA)) (A1 (i:=5) EI.nd rfl (Or.inl rfl))
 (Bi (B5 (i:=6) EI.nd rfl (Or.inl rfl) (BQ NB (pv 4) (ET qP (hr.m) (by rfl) (Ap (pv 0) (Ap (BQ Cn Ag (ET qO (hr.m) (by rfl) (Ap (pv 0) (Ap (BQ M5 Ag (ER NU (by rfl) T.b_len nofun (Ap (pv 4) BA))) BA)))) BA)))))
 (Bi (F1 PassesOwn.never rfl (Hc (by rfl) T.b_range (Ap Ag BA)) (A1 (i:=7) EI.nd rfl (Or.inl rfl))
 (Cc (Fw (E2 Uo (pv 6) (pv 3) (by rfl))
 (Cc (B5 (i:=6) EI.nd rfl (Or.inl rfl) (BQ NB (F7 Nv (pv 6) F5 (F6 (S8 TD Ag))) (Bv J9 (pv 2) (pv 7) (λ_ _=>rfl)))))
 Fv)))
 (Cc (Jv (Hr PySem.F.plainAttrs_list PySem.F.slot_list_append PySem.F.type_list_append Hu (pv 3) (Ap (pv 6) BA)))))))
 (Cc (Ev (pv 3))))))),?_⟩
  refine⟨Nat.zero_le _,λp hp=>?_⟩
  have sp:=StepD.new (o:=.lst []) hb hp
  refine⟨_,rfl,(by show 4<=sizeLine;decide),λq hq=>?_⟩
  have a3:p≠q:=A3 (o:=.lst []) Af hq
  have sq:=sp.step (Step.new (o:=.lst [V.int 0,V.int 0,V.int 3,V.int 7]) sp.bag hq)
  have a1:=sp.bag.nb hq
  refine⟨_,rfl,b,a,4,rfl,sq.bag,by decide,by decide,λr H1 r0 r1 l=>?_⟩
  obtain⟨k0,hk,k1,k2⟩:=Zy r0 r1
  refine⟨q,r,_,rfl,rfl,l.same q _ a1 Af,_,hk,?_⟩
  refine⟨b,a,k0,rfl,l.bag,k1,by lia,λI H2 a9 a2 M=>?_⟩
  have u:=hb.nb hp
  have e2:H2 p=some (.lst []):=M.same p _ u (l.same p _ u (by rw[AL a3,Af]))
  have s2:StepD b a p H H2:=(sq.step l).step M
  have a7:I.length<=7:=by lia
  refine⟨_,rfl,n,rfl,by lia,by lia,M3 (lo:=0) (n:=n.toNat) (λi σ U=>∃(xs:List Str) (v5 v6 v:Option V),σ=[some (.ref b),some (.int n),some (.str (Str.ofString "abcdefghijklmnopqrstuvwxyz")),some (.ref p),some (.str I),v5,v6,v] /\
   U p=some (.lst (xs.map V.str))/\xs.length=i/\(∀x∈xs,Fi x)/\xs.Nodup/\StepD b a p H U) ⟨[],_,_,_,rfl,e2,rfl,by simp,nodup_nil,s2⟩ ?_ ?_⟩
  ·rintro i σ U hi ⟨xs,v5,v6,v,rfl,e3,hl,hg,nd,Y⟩
   refine⟨_,rfl,_,rfl,_,rfl,_,rfl,I,rfl,Nat.le_of_lt (Dx (by lia)),_,_,rfl,rfl,?_⟩
   refine⟨b,a,_,rfl,Y.bag,by lia,by lia,λr2 H4 a5 a4 B=>?_⟩
   refine⟨_,_,rfl,rfl,b,a,_,rfl,B.bag,by lia,by lia,λw1 H5 a8 N L=>?_⟩
   refine⟨_,_,rfl,rfl,Nat.le_of_lt (Dx (by lia)),?_⟩
   have e5:H5 p=some (.lst (xs.map V.str)):=L.same p _ u (B.same p _ u e3)
   have s5:StepD b a p H H5:=(Y.step B).step L
   have g0:Fi (I++w1):=by
    refine⟨by rw[HK];lia,by rw[HK];lia,λc O=>?_⟩
    rw[Jn]at O
    rcases mem_append.mp O with z|z
    ·exact a2 c z
    ·exact N c z
   generalize I++w1=d at g0
   refine⟨26,rfl,by decide,by decide,M3 (lo:=0) (n:=26) (λs σ H6=>H6=H5/\∃(x:Str) (v:Option V),σ=[some (.ref b),some (.int n),some (.str (Str.ofString "abcdefghijklmnopqrstuvwxyz")),some (.ref p),some (.str I),some (.int (0+(i:Int))),some (.str x),v] /\
    Fi x/\x.cps.toList.take (x.length - 1)=d.cps.toList.take (d.length - 1)/\(x∉xs\/((0<s->x=DW (d.cps.toList.take (d.length - 1)) (s - 1))/\∀j,j+1<s->DW (d.cps.toList.take (d.length - 1)) j∈xs)))
    ⟨rfl,d,_,rfl,g0,rfl,.inr ⟨λz=>absurd z (Nat.lt_irrefl _),λj z=>absurd z (Nat.not_lt_zero _)⟩⟩ ?_ ?_⟩
   ·rintro t σ H6 ht ⟨rfl,x,v,rfl,J,e,C⟩
    refine⟨_,rfl,_,rfl,x,p,xs,rfl,rfl,.inl e5,_,rfl,?_⟩
    refine Bj (λg=>?_) (λg=>?_)
    ·have g:x∈xs:=of_decide_eq_true g
     obtain⟨i1,i2⟩:=C.resolve_left λz=>z g
     have G:0<x.length:=J.1
     have a6:=J.2.1
     refine⟨_,rfl,1,rfl,-1,rfl,x,rfl,Nat.le_of_lt (Dx (by lia)),?_⟩
     refine⟨_,rfl,_,rfl,_,_,_,rfl,rfl,nofun,(by rw[Int.zero_add];exact Zv ht),?_⟩
     have es:(Txt.slice x none (some (-1))).cps.toList=d.cps.toList.take (d.length - 1):=by rw[KR G,e]
     have el:(Txt.slice x none (some (-1))).length=x.length - 1:=by
      have z:(Txt.slice x none (some (-1))).cps.toList.length=(Txt.slice x none (some (-1))).length:=Array.length_toList
      have z2:x.cps.toList.length=x.length:=Array.length_toList
      rw[<-z,KR G,length_take]
      lia
     have lc:(⟨#[97+t]⟩:Str).length=1:=rfl
     refine⟨_,_,rfl,rfl,Nat.le_of_lt (Dx (by rw[el,lc];lia)),rfl,_,_,rfl,⟨?_,?_,?_⟩,?_,.inr ⟨λ_=>?_,λj hj=>?_⟩⟩
     ·rw[HK,lc];lia
     ·rw[HK,lc,el];lia
     ·intro c O
      rw[Jn]at O
      rcases mem_append.mp O with z|z
      ·rw[KR G]at z
       exact J.2.2 c (mem_of_mem_take z)
      ·have z:c=97+t:=by simpa using z
       lia
     ·rw[HK,lc,Jn,es]
      have z3:(d.cps.toList.take (d.length - 1)).length=x.length - 1:=by rw[<-es];exact Array.length_toList.trans el
      rw[el,take_append_of_le_length (by lia),take_of_length_le (by lia)]
     ·refine PyProof.Rows.ext_toList ?_
      rw[Jn,es]
      simp[DW]
     ·by_cases z:j+1<t
      ·exact i2 j z
      ·have z':j=t - 1:=by lia
       have z0:0<t:=by lia
       rw[z',<-i1 z0]
       exact g
    ·have g:x∉xs:=λz=>g (decide_eq_true z)
     exact⟨rfl,x,_,rfl,J,e,.inl g⟩
   ·rintro σ H6 ⟨rfl,x,v,rfl,J,e,C⟩
    have hx:x∉xs:=by
     intro g
     obtain⟨i1,i2⟩:=C.resolve_left λz=>z g
     refine Zx (pre:=d.cps.toList.take (d.length - 1)) (xs:=xs) (by lia) λj hj=>?_
     by_cases z:j+1<26
     ·exact i2 j z
     ·have z':j=25:=by lia
      rw[z',<-i1 (by decide)]
      exact g
    refine⟨_,rfl,.inl ⟨rfl,_,.of e5⟩,_,rfl,p,_,_,rfl,rfl,e5,by rw[length_map];exact Dx (by lia),?_⟩
    refine⟨xs++[x],_,_,_,rfl,?_,by simp[hl],?_,?_,s5.put⟩
    ·rw[Af];simp
    ·intro y hy
     rcases mem_append.mp hy with z|z
     ·exact hg y z
     ·rw[mem_singleton.mp z];exact J
    ·exact Ni nd hx
  ·rintro σ U ⟨xs,v5,v6,v,rfl,e3,hl,hg,nd,Y⟩
   exact⟨_,rfl,k p xs U hp e3 (by lia) hg nd (Y.out hp)⟩
end
def C9:pF:=λxs K=>∃m,xs=[.bag,.int m]/\0<m/\m<2 ^ 64/\∀r,0<=r->r<m->K (.int r)
def MZ:pF:=λxs K=>∃n,xs=[.bag,.int n]/\0<=n/\n<=9/\∀ns:List Str,(ns.length:Int)=n->(∀x∈ns,Fi x)->ns.Nodup->K (.lst (ns.map P.str))
section
variable{K:Fg}
theorem R5{b:Addr}{m:Int}(r:AB b (λp=>p=b) H [.bag,.int m] vs):vs=[.ref b,.int m]:=by
 obtain⟨v,t,rfl,h1,u,a,rfl,h2,c⟩:=r
 rw[show v=_ from h1,show u=_ from h2,show a=_ from c]
theorem Z0(G:Fn P' w K mg base "_law_pull" 1 ["_law_bag_here","_law_many_here"] Jl):Fn P' w K mg base "_law_pull" 1 ["_law_bag_here","_law_many_here"] (AQ C9):=G.imp λvs H Q E h=>by
 obtain⟨b,a,xs,j,f,r,⟨m,rfl,i,h1,e⟩,g⟩:=h
 exact⟨b,a,m,R5 r,f,i,h1,λr H' d c st=>g _ _ H' (e r d c) st rfl⟩
theorem Z1(G:Fn P' w K mg base "_law_names" 3 ["_law_bag_here","_law_many_here"] R4):Fn P' w K mg base "_law_names" 3 ["_law_bag_here","_law_many_here"] (AQ MZ):=G.imp λvs H Q E h=>by
 obtain⟨b,a,xs,o,j,r,⟨m,rfl,n,h1,g⟩,l⟩:=h
 exact⟨b,a,m,R5 r,j,n,h1,λp ns H' c e f i d st=>l _ _ H' (g ns f i d) st ⟨p,_,rfl,λz=>z c,e,AB.strs.mpr rfl⟩⟩
end
def Jo(K:Fg):Sp:=λvs H Q _=>∃(a:Addr) (ns:List Int),vs=[.ref a]/\Au K H a (ns.map V.int)/\∀H',Q (.bl true) H'
theorem Z2{b a:Addr}{v:Option V}(c:Bag H b a):Ok ⟨b,a,H,λ_=>none,λ_=>False⟩ (.emp::.sh .bag::replicate n .emp) (v::some (.ref b)::replicate n none) H where
 bag:=c
 fb:=rfl
 old:=λ_ _ _ e=>e
 frm:=λ_ _ e=>nomatch e
 oo:=λ_ z=>z.elim
 len:=by simp
 slot:=λi s e=>by
  match i with
  |0=>cases e;exact⟨v,rfl,trivial⟩
  |1=>cases e;exact⟨_,rfl,_,rfl,rfl⟩
  |i+2 =>
   simp only[getElem?_cons_succ,getElem?_replicate]at e
   split at e
   ·cases e
    rename_i hi
    exact⟨none,by simp only[getElem?_cons_succ,getElem?_replicate,if_pos hi],trivial⟩
   ·cases e
 uniq:=λi j x y h=>by
  exfalso
  match i with
  |0=>cases h
  |1=>cases h
  |i+2 =>
   simp only[getElem?_cons_succ,getElem?_replicate]at h
   split at h
   ·cases h
   ·cases h
theorem Z3{K:Fg}{c:Stmt}{qF:List Stmt}{p:pS}(l:PS X c (Da (F4 (Jk K) [] E0 (B8 (Cb 0) B7)) (Cd 1)))(h:Aw (λ_:Unit=>X) qF p)
  (i:p { nx:=λ_=>False,rt:=λx=>x=.bl true } (.emp::.sh .bag::replicate n .emp)) :
  ∃t,BY X (c::qF) t/\∀(a:Addr) (ns:List Int) (H:Hp) (Q:VK),Au K H a (ns.map V.int)->(∀H',Q (.bl true) H')->t { nx:=λ_ H'=>Q .non H',rt:=Q } (some (.ref a)::none::replicate n none) H:=by
 obtain⟨t,f,d⟩:=h
 refine⟨_,Bi l (f ()),λa ns H Q j k=>⟨_,rfl,a,ns,rfl,j,λb q H1 nb na B o=>?_⟩⟩
 refine d _ _ _ H1 _ _ (Z2 (n:=n) B) i ⟨λ_ _ _ e=>e.elim,λx v H' e g=>?_,λ_ _ _ e=>e.elim,λ_ _ _ e=>e.elim,λ_ z=>z,λ_ _ _ e=>e.elim⟩
 subst e
 rw[show v=.bl true from g.2.2]
 exact k H'
end K
namespace K
open PySem L2
section
variable{K:Fg}
theorem R6{n:Int}(a:0<=n):Dh 0 n.toNat=(List.range n.toNat).map λ(k:Nat)=>P.int (0+k):=rfl
theorem Z4(D:Az K mg "_law_answers" Je)(T:TxtB mg)(g:Fn P' w K mg base "_law_pull" 1 ["_law_bag_here","_law_many_here"] (AQ C9)):Fn P' w K mg base "_law_answers" 2 ["_law_bag_here","_law_size","_law_base"] (AQ P2):=by
 refine BD D Zi (λ_ _ _ _ _ _ us c=>Fs c (λ_ _ _=>rfl)) (λxs K h=>?_) (by decide) (λv p A a s H E j=>⟨_,(Ad (Ar (BU (λ_=>Cw) C3 (λ_=>T.b_tuple) nofun (AA (Bw (N:=["_law_bag_here","_law_size","_law_base"]) (sc:=AT Je) (N':=["_law_k","_law_bag_here","_law_base"]) (qD:=[none,some 0,some 2]) ⟨rfl,nofun,nofun,nofun,nofun,rfl,nofun⟩ (by decide) (λ_=>rfl) (FF (λ_=>T.b_range) (AA (qv 1) AE)) (CN (k:=0) rfl (λ_=>show List.Nodup (["_law_k","_law_bag_here","_law_base"]:List Str) by decide +kernel)) CH (AZ (λ_=>g) (λ_=>j.m) (AA (qv 1) (AA (qv 2) AE)))) AE)))),λxs K h=>?_⟩)
 ·obtain⟨_,_,rfl,_⟩:=h;rfl
 ·obtain⟨n,b,rfl,o,h1,u,q,h⟩:=h
  simp_arith only[AS]
  refine⟨by lia,by lia,by rw[D1];lia,?_⟩
  rw[R6 o]
  refine A7.rel P.int (λ_ x=>0<=x/\x<b) (λk _ M l=>⟨b,rfl,u,q,λr f e=>l r _ ⟨f,e⟩⟩) (λ_=>rfl) (λbs d=>?_)
  have c:=d.length
  rw[length_range]at c
  simp_arith only[AS]
  exact h bs (by lia) λx i=>let⟨_,_,z⟩:=d.mem x i;z
theorem Z5{a b c d:Int}{r:Int}(e:0<=r)(h1:r<4):atI [P.int a,P.int b,P.int c,P.int d] r=some (.int (if r=0 then a else if r=1 then b else if r=2 then c else d)):=by
 obtain⟨n,rfl⟩:=Int.eq_ofNat_of_zero_le e
 have h:n=0\/n=1\/n=2\/n=3:=by lia
 rcases h with rfl|rfl|rfl|rfl<;>rfl
theorem Z6(D:Az K mg "_law_many" MT)(T:TxtB mg)(e:Fn P' w K mg base "_law_pull" 1 ["_law_bag_here","_law_many_here"] (AQ C9)):Fn P' w K mg base "_law_many" 2 ["_law_bag_here"] (AQ P3):=by
 refine BD D Zj (λ_ _ _ _ _ _ us j=>Dq j (λ_=>rfl)) (λxs K h=>?_) (by decide) (λo l A c s H E f=>⟨_,(Ad (Ar (B2 (λ_=>Cn) Eb Aa (AZ (λ_=>e) (λ_=>f.m) (AA (qv 0) (AA (BC (λ_=>BE) BF (GN (AA Aa (AA Aa (AA Aa (AA (B2 (λ_=>M6) Vj Aa Aa) AE))))) (AZ (λ_=>e) (λ_=>f.m) (AA (qv 0) (AA Aa AE))) (λ_ _=>rfl)) AE)))))),λxs K h=>?_⟩)
 ·obtain⟨rfl,_⟩:=h;rfl
 ·obtain⟨rfl,h⟩:=h
  simp_arith only[Hg]
  refine⟨by decide,4,rfl,by decide,by decide,λr i g=>?_⟩
  simp_arith only[AS]
  refine⟨_,Z5 i g,?_⟩
  have a:(10:Int) ^ (12:Int).toNat=1000000000000:=by decide
  refine⟨_,rfl,?_,?_,λz n d=>?_⟩
  ·rw[a];split<;>(try split)<;>(try split)<;>decide
  ·rw[a];split<;>(try split)<;>(try split)<;>decide
  ·simp_arith only[AS]
   refine h _ (by lia) ?_
   rw[a]at d
   have:z<1000000000000:=by
    revert d
    split
    ·intro;lia
    ·split
     ·intro;lia
     ·split<;>intro<;>lia
   lia
def Es:pF:=λxs K=>∃t,xs=[Bz t]/\t.length<=100000/\(∃n,∀q∈t,q.1.length=n)/\K (AO (Ak t))
theorem Z7(D:Az K mg "_law_settled" Ja)(T:TxtB mg):Fn P' w K mg base "_law_settled" 1 ["_law_counts"] (AQ Es):=by
 refine BD D Zg (λ_ _ _ _ _ _ us p=>Dq p (λ_=>rfl)) (λxs K h=>?_) (by decide) (λC B A g s H E a=>?_)
 ·obtain⟨_,rfl,_⟩:=h;rfl
 ·have l:=Dw a
  refine⟨_,(Ad (Ar (Bw (N:=["_law_counts"]) (sc:=AT Ja) (N':=["_law_row","_law_counts"]) (qD:=[none,some 0]) ⟨rfl,nofun,nofun,nofun,nofun,rfl,nofun⟩ (by decide) (λ_=>rfl) (CG (λ_=>rfl) (BS (λ_=>(Qh a)) Qi (λ_=>T.b_sorted) nofun (AA (BU (λ_=>(Ia rfl)) Ic (λ_=>T.b_list) nofun (AA (qv 0) AE)) AE))) (CN (k:=0) rfl (λ_=>show List.Nodup (["_law_row","_law_counts"]:List Str) by decide +kernel)) (Ea (Bf (λ_=>(D4 a)) D5 (Eh (λ_=>l) (qv 1) (qv 0) (λ_ _=>rfl)) Aa (BR _))) (DI (AA (qv 0) (AA (Eh (λ_=>l) (qv 1) (qv 0) (λ_ _=>rfl)) AE)))))),λxs K h=>?_⟩
  obtain⟨t,rfl,p,j,h⟩:=h
  simp_arith only[AS]
  obtain⟨n,j⟩:=j
  refine⟨t.map (·.1),rfl,by rw[length_map];lia,⟨n,λr a=>by obtain⟨q,v,rfl⟩:=mem_map.mp a;exact j q v⟩,λf i u=>?_⟩
  ·have o:f.length=t.length:=by rw[i.length_eq,length_map]
   have e:=P0 i u
   simp_arith only[length_map]
   refine⟨by lia,?_⟩
   have get:∀r∈f,BV (t.map (·.1)) (t.map λq=>P.int q.2) r=some (.int ((AW t r).getD 0)):=λr a=>by
    rw[FN]
    have x:r∈t.map (·.1):=i.mem_iff.mp a
    obtain⟨c,y⟩:=P1 x
    rw[y];rfl
   refine A7.filter (λr=>decide ((AW t r).getD 0≠0)) (λr=>Ay (r,(AW t r).getD 0)) (λr _ _=>by simp) (λr a M d=>?_) ?_
   ·simp_arith only[AS]
    refine⟨_,get r a,?_⟩
    have d:=d .nw
    simp_arith only[AS]
    refine Bj (λz=>?_) (λz=>?_)
    ·rw[if_pos (by simpa using z)]at d
     exact⟨_,get r a,d⟩
    ·rw[if_neg (by simpa using z)]at d
     exact d
   ·simp_arith only[AS]
    rw[e]
    have:((CQ (t.map (·.1))).filter λr=>decide ((AW t r).getD 0≠0)).map (λr=>Ay (r,(AW t r).getD 0))=(Ak t).map Ay:=by
     unfold Ak;rw[map_map];rfl
    have h':=h
    rw[show AO (Ak t)=.lst _ from congrArg P.lst this.symm]at h'
    exact h'
theorem Z8{a0 a1 a2 a3 a4 a5 a6 a7 a8 a9:Int}{r:Int}(a:0<=r)(h1:r<10):∃c,atI [P.int a0,.int a1,.int a2,.int a3,.int a4,.int a5,.int a6,.int a7,.int a8,.int a9] r=some (.int c)/\c∈[a0,a1,a2,a3,a4,a5,a6,a7,a8,a9]:=by
 obtain⟨n,rfl⟩:=Int.eq_ofNat_of_zero_le a
 have h:n=0\/n=1\/n=2\/n=3\/n=4\/n=5\/n=6\/n=7\/n=8\/n=9:=by lia
 rcases h with rfl|rfl|rfl|rfl|rfl|rfl|rfl|rfl|rfl|rfl<;>exact⟨_,rfl,by simp⟩
theorem Z9{a b c d:Int}{r:Int}(e:0<=r)(h1:r<4):∃k,atI [P.int a,P.int b,P.int c,P.int d] r=some (.int k)/\k∈[a,b,c,d]:=by
 obtain⟨n,rfl⟩:=Int.eq_ofNat_of_zero_le e
 have h:n=0\/n=1\/n=2\/n=3:=by lia
 rcases h with rfl|rfl|rfl|rfl<;>exact⟨_,rfl,by simp⟩
def AAA:pS:=λE ρ=>∃qK t bs v,ρ=[.sh .bag,.sh (AK qK),.own (Bz t),.sh (.int bs),v]/\qK.length<=9/\t.length<100/\0<bs/\bs<=10/\∀(r:List Int) (c:Int),r.length=qK.length->(∀x∈r,0<=x/\x<=9)->1<=c->c<=1000000000000->E.nx [.sh .bag,.sh (AK qK),.own (Bz (BG t r c)),.sh (.int bs),v]
def AAB:pS:=λE ρ=>∃qK bs,ρ=[.sh .bag,.sh (AK qK),.own (.dT [] []),.sh (.int bs),.emp]/\qK.length<=9/\0<bs/\bs<=10/\∀t v,Drawn qK.length t->E.nx [.sh .bag,.sh (AK qK),.own (Bz t),.sh (.int bs),v]
theorem AAC(D:Az K mg "_law_drawn" MU)(T:TxtB mg)(C:Fn P' w K mg base "_law_pull" 1 ["_law_bag_here","_law_many_here"] (AQ C9))(M:Fn P' w K mg base "_law_answers" 2 ["_law_bag_here","_law_size","_law_base"] (AQ P2))
  (L:Fn P' w K mg base "_law_many" 2 ["_law_bag_here"] (AQ P3)) (J:Fn P' w K mg base "_law_settled" 1 ["_law_counts"] (AQ Es)):Fn P' w K mg base "_law_drawn" 3 ["_law_bag_here","_law_room"] (AQ LL):=by
 refine BD D Jf (λ_ _ _ _ _ _ us l=>B0 l (λ_ _=>rfl)) (λxs K h=>?_) (by decide) (λfa aa A q s H E f=>?_)
 ·obtain⟨_,rfl,_⟩:=h;rfl
 ·have N:=Dw f
  refine⟨_,(AU (Ax (k:=2) (λ_=>Jf.nd) Gm)
 (AU (Ax (k:=3) (λ_=>Jf.nd) (BC (λ_=>BE) BF (GN (AA Aa (AA Aa (AA Aa (AA Aa AE))))) (AZ (λ_=>C) (λ_=>f.m) (AA (qv 0) (AA Aa AE))) (λ_ _=>rfl)))
 (AU (QS.weak (m:=AAB) (DM (λ_=>PassesOwn.never) (λ_=>rfl) (FF (λ_=>T.b_range) (AA (BC (λ_=>BE) BF (GN (AA Aa (AA Aa (AA Aa (AA Aa (AA Aa (AA Aa (AA Aa (AA Aa (AA Aa (AA Aa AE))))))))))) (AZ (λ_=>C) (λ_=>f.m) (AA (qv 0) (AA Aa AE))) (λ_ _=>rfl)) AE)) (FE (k:=4) (λ_=>Jf.nd))
 (Aw.weak (m:=AAA) (Ad (IY (k:=2) (λ_=>N) (AZ (λ_=>M) (λ_=>f.m) (AA (qv 0) (AA (BS (λ_=>Cg) Ch (λ_=>T.b_len) nofun (AA (qv 1) AE)) (AA (qv 3) AE)))) (AZ (λ_=>L) (λ_=>f.m) (AA (qv 0) AE)))) ?j)) ?g)
 (Ad (Ar (AZ (λ_=>J) (λ_=>f.m) (AA (qv 2) AE))))))),λxs K h=>?_⟩
  case j =>
   intro E ρ h
   obtain⟨qK,t,bs,v,rfl,l,ht,n,I,h⟩:=h
   simp_arith only[AS]
   refine⟨rfl,λc c1 c2=>?_⟩
   simp_arith only[AS]
   refine⟨_,_,rfl,by lia,by rw[length_map];lia,n,by lia,λr f y=>?_⟩
   simp_arith only[length_map]at f ⊢
   refine⟨by lia,?_⟩
   rw[Ii]
   exact h r c (by lia) (λx u=>by have:=y x u;lia) c1 c2
  case g =>
   intro E ρ h
   obtain⟨qK,bs,rfl,l,n,I,h⟩:=h
   simp_arith only[AS]
   refine⟨10,rfl,by decide,by decide,λr p o=>?_⟩
   obtain⟨G,Q,z⟩:=Z8 (a0:=3) (a1:=2) (a2:=1) (a3:=0) (a4:=5) (a5:=8) (a6:=12) (a7:=4) (a8:=2) (a9:=40) p o
   have c0:0<=G/\G<=40:=by simp at z;(omega)
   refine⟨_,Q,?_⟩
   simp_arith only[AS]
   refine⟨by lia,by lia,λi ρ=>∃t v,ρ=[.sh .bag,.sh (AK qK),.own (Bz t),.sh (.int bs),v]/\DrawnI qK.length i t,⟨[],_,rfl,DrawnI.nil⟩,λi ρ' x y B=>?_,λρ' B=>?_⟩
   ·obtain⟨t,v,rfl,e⟩:=B
    obtain⟨hi,rfl⟩:=GY y
    simp_arith only[AS]
    exact⟨qK,t,bs,_,rfl,l,by have:=e.len;lia,n,I,λr c h1 h2 h3 Y=>⟨BG t r c,⟨_,rfl⟩,e.put h1 h2 h3 Y⟩⟩
   ·obtain⟨t,v,rfl,e⟩:=B
    rw[D1]at e
    exact h t v (e.out (by lia))
  ·obtain⟨qK,rfl,l,h⟩:=h
   simp_arith only[AS]
   refine⟨4,rfl,by decide,by decide,λr p o=>?_⟩
   obtain⟨bs,U,O⟩:=Z9 (a:=2) (b:=2) (c:=3) (d:=10) p o
   have n:0<bs/\bs<=10:=by simp at O;lia
   refine⟨_,U,?_⟩
   simp_arith only[AS]
   refine⟨qK,bs,rfl,l,n.1,n.2,λt v e=>?_⟩
   simp_arith only[AS]
   exact⟨t,rfl,by have:=e.len;lia,⟨_,e.rows⟩,h t e⟩
theorem HL(a:List (List Int×Int))(r:List Int):(BV (a.map (·.1)) (a.map λq=>P.int q.2) r).getD (.int 0)=.int ((AW a r).getD 0):=by
 rw[FN];cases AW a r<;>rfl
theorem HM(t:List (List Int×Int)):P.imms (t.map λq=>P.int q.2)=true:=by
 have:=IA (t.map (·.2))
 simpa[map_map,Function.comp_def]using this
def Ma:pF:=λxs K=>∃qC qK,xs=[AK qC,AK qK]/\qC.length<=100/\K (.bl (qC.all λn=>decide (n∈qK)))
theorem AAD(D:Az K mg "within" JS)(T:TxtB mg):Fn P' w K mg base "within" 1 ["part","room"] (AQ Ma):=by
 refine BD D ZY (λ_ _ _ _ _ _ us c=>B0 c (λ_ _=>rfl)) (λxs K h=>?_) (by decide) (λg f A a s H E d=>⟨_,(Ad (Ar (BS (λ_=>(GH rfl)) Gh (λ_=>T.b_all) nofun (AA (Bw (N:=["part","room"]) (sc:=AT JS) (N':=["name","room"]) (qD:=[none,some 1]) ⟨rfl,nofun,nofun,nofun,nofun,rfl,nofun⟩ (by decide) (λ_=>rfl) (DL (λ_=>rfl) (qv 0)) (CN (k:=0) rfl (λ_=>show List.Nodup (["name","room"]:List Str) by decide +kernel)) CH (KY (λ_=>(IQ d)) IR (qv 0) (qv 1) (by rfl))) AE)))),λxs K h=>?_⟩)
 ·obtain⟨_,_,rfl,_⟩:=h;rfl
 ·obtain⟨qC,qK,rfl,c,h⟩:=h
  simp_arith[AS]
  refine⟨by lia,A7.map (λn=>.bl (decide (n∈qK))) (λ_ _=>rfl) (λn _ M e=>?_) ?_⟩
  ·simp_arith[K1]
   exact e _
  ·refine⟨qC.map λn=>decide (n∈qK),by rw[map_map];rfl,?_⟩
   rw[all_map]
   exact h
def Fj:pF:=λxs K=>∃one qE,xs=[AK one,AK qE]/\one.length<=100/\K (AK (Ao one qE))
theorem AAE(D:Az K mg "common" JT)(T:TxtB mg):Fn P' w K mg base "common" 1 ["one","other"] (AQ Fj):=by
 refine BD D Za (λ_ _ _ _ _ _ us d=>B0 d (λ_ _=>rfl)) (λxs K h=>?_) (by decide) (λi g A c s H E f=>⟨_,(Ad (Ar (BU (λ_=>Cw) C3 (λ_=>T.b_tuple) nofun (AA (Bw (N:=["one","other"]) (sc:=AT JT) (N':=["name","other"]) (qD:=[none,some 1]) ⟨rfl,nofun,nofun,nofun,nofun,rfl,nofun⟩ (by decide) (λ_=>rfl) (DL (λ_=>rfl) (qv 0)) (CN (k:=0) rfl (λ_=>show List.Nodup (["name","other"]:List Str) by decide +kernel)) (Ea (Bf (λ_=>(IQ f)) IR (qv 0) (qv 1) (by rfl))) (qv 0)) AE)))),λxs K h=>?_⟩)
 ·obtain⟨_,_,rfl,_⟩:=h;rfl
 ·obtain⟨one,e,rfl,d,h⟩:=h
  simp_arith[AS]
  refine⟨by lia,A7.filter (λn=>decide (n∈e)) P.str (λ_ _ _=>rfl) (λn _ M a=>?_) ?_⟩
  ·simp_arith[K1]
   have a:=a .cl
   refine Bj (λz=>?_) (λz=>?_)
   ·rw[if_pos (by simpa using z)]at a;exact a
   ·rw[if_neg (by simpa using z)]at a;exact a
  ·simp_arith[AS]
   exact h
theorem AAF(D:Az K mg "_law_both" Jg)(T:TxtB mg):Fn P' w K mg base "_law_both" 1 ["_law_one","_law_other"] (AQ Fj):=by
 refine BD D Zk (λ_ _ _ _ _ _ us d=>B0 d (λ_ _=>rfl)) (λxs K h=>?_) (by decide) (λi g A c s H E f=>⟨_,(Ad (Ar (BU (λ_=>Cw) C3 (λ_=>T.b_tuple) nofun (AA (Bw (N:=["_law_one","_law_other"]) (sc:=AT Jg) (N':=["_law_name","_law_other"]) (qD:=[none,some 1]) ⟨rfl,nofun,nofun,nofun,nofun,rfl,nofun⟩ (by decide) (λ_=>rfl) (DL (λ_=>rfl) (qv 0)) (CN (k:=0) rfl (λ_=>show List.Nodup (["_law_name","_law_other"]:List Str) by decide +kernel)) (Ea (Bf (λ_=>(IQ f)) IR (qv 0) (qv 1) (by rfl))) (qv 0)) AE)))),λxs K h=>?_⟩)
 ·obtain⟨_,_,rfl,_⟩:=h;rfl
 ·obtain⟨one,e,rfl,d,h⟩:=h
  simp_arith[AS]
  refine⟨by lia,A7.filter (λn=>decide (n∈e)) P.str (λ_ _ _=>rfl) (λn _ M a=>?_) ?_⟩
  ·simp_arith[K1]
   have a:=a .cl
   refine Bj (λz=>?_) (λz=>?_)
   ·rw[if_pos (by simpa using z)]at a;exact a
   ·rw[if_neg (by simpa using z)]at a;exact a
  ·simp_arith[AS]
   exact h
def Fk:pF:=λxs K=>∃qK r qC,xs=[AK qK,AJ r,AK qC]/\qC.length<=100/\r.length=qK.length/\(∀n∈qC,n∈qK)/\K (AJ (AM qK r qC))
theorem AAG(D:Az K mg "_law_row_of" Jh)(T:TxtB mg):Fn P' w K mg base "_law_row_of" 1 ["_law_room","_law_row","_law_part_here"] (AQ Fk):=by
 refine BD D Zl (λ_ _ _ _ _ _ us f=>Fs f (λ_ _ _=>rfl)) (λxs K h=>?_) (by decide) (λo j A a s H E l=>⟨_,(Ad (Ar (BU (λ_=>Cw) C3 (λ_=>T.b_tuple) nofun (AA (Bw (N:=["_law_room","_law_row","_law_part_here"]) (sc:=AT Jh) (N':=["_law_name","_law_row","_law_room"]) (qD:=[none,some 1,some 0]) ⟨rfl,nofun,nofun,nofun,nofun,rfl,nofun⟩ (by decide) (λ_=>rfl) (DL (λ_=>rfl) (qv 2)) (CN (k:=0) rfl (λ_=>show List.Nodup (["_law_name","_law_row","_law_room"]:List Str) by decide +kernel)) CH (BC (λ_=>BE) BF (qv 1) (QC (qv 2) (qv 0)) (λ_ _=>rfl))) AE)))),λxs K h=>?_⟩)
 ·obtain⟨_,_,_,rfl,_⟩:=h;rfl
 ·obtain⟨qK,r,qC,rfl,f,g,c,h⟩:=h
  simp_arith[AS]
  refine⟨by lia,A7.map (λn=>.int (r.getD (idx qK n) 0)) (λ_ _=>rfl) (λn d M i=>?_) ?_⟩
  ·simp_arith[AS]
   have hi:=EA (c n d)
   refine⟨idx qK n,(D9 (c n d)).1,(D9 (c n d)).2,.int (r.getD (idx qK n) 0),Bd ?_,i _⟩
   rw[getElem?_map,getD_eq_getElem?_getD,getElem?_eq_getElem (by lia)];rfl
  ·simp_arith[AS]
   have e:AJ (AM qK r qC)=.tup (qC.map λn=>P.int (r.getD (idx qK n) 0)):=by
    show P.tup ((qC.map _).map _)=_
    rw[map_map];rfl
   rw[e]at h
   exact h
def Fm:pF:=λxs K=>∃qK qC,xs=[AK qK,AK qC]/\qC.length<=100/\(∀n∈qC,n∈qK)/\K (.lst ((qC.map (idx qK)).map λ(j:Nat)=>.int (j:Int)))
theorem AAH(D:Az K mg "places" JU)(T:TxtB mg)(f:Fn P' w K mg base "within" 1 ["part","room"] (AQ Ma)):Fn P' w K mg base "places" 2 ["room","part"] (AQ Fm):=by
 refine BD D Zb (λ_ _ _ _ _ _ us e=>B0 e (λ_ _=>rfl)) (λxs K h=>?_) (by decide) (λo l A c s H E g=>⟨_,(AU (CD (DK (DJ (AZ (λ_=>f) (λ_=>g.m) (AA (qv 1) (AA (qv 0) AE)))))
 (Ad OQ)
 CC)
 (Ad (Ar (Bw (N:=["room","part"]) (sc:=AT JU) (N':=["name","room"]) (qD:=[none,some 0]) ⟨rfl,nofun,nofun,nofun,nofun,rfl,nofun⟩ (by decide) (λ_=>rfl) (DL (λ_=>rfl) (qv 1)) (CN (k:=0) rfl (λ_=>show List.Nodup (["name","room"]:List Str) by decide +kernel)) CH (QC (qv 1) (qv 0)))))),λxs K h=>?_⟩)
 ·obtain⟨_,_,rfl,_⟩:=h;rfl
 ·obtain⟨qK,qC,rfl,e,d,h⟩:=h
  have i:(qC.all λn=>decide (n∈qK))=true:=all_eq_true.mpr λn a=>decide_eq_true (d n a)
  simp_arith[Ma,i]
  refine⟨by lia,by lia,A7.map (λn=>.int (idx qK n:Int)) (λ_ _=>rfl) (λn a M j=>?_) ?_⟩
  ·simp_arith[AS]
   exact⟨idx qK n,(D9 (d n a)).1,(D9 (d n a)).2,j _⟩
  ·simp_arith[AS]
   rw[map_map]at h
   exact h
def Fo:pF:=λxs K=>∃(r:List Int) (js:List Nat),xs=[AJ r,.lst (js.map λ(j:Nat)=>.int (j:Int))]/\js.length<=100/\(∀j∈js,j<r.length)/\K (AJ (js.map λ(j:Nat)=>r.getD j 0))
theorem AAI(D:Az K mg "picked" JV)(T:TxtB mg):Fn P' w K mg base "picked" 1 ["row","spots"] (AQ Fo):=by
 refine BD D Zd (λ_ _ _ _ _ _ us d=>B0 d (λ_ _=>rfl)) (λxs K h=>?_) (by decide) (λo l A a s H E n=>⟨_,(Ad (Ar (BU (λ_=>Cw) C3 (λ_=>T.b_tuple) nofun (AA (Bw (N:=["row","spots"]) (sc:=AT JV) (N':=["spot","row"]) (qD:=[none,some 0]) ⟨rfl,nofun,nofun,nofun,nofun,rfl,nofun⟩ (by decide) (λ_=>rfl) (CG (λ_=>rfl) (qv 1)) (CN (k:=0) rfl (λ_=>show List.Nodup (["spot","row"]:List Str) by decide +kernel)) CH (BC (λ_=>BE) BF (qv 1) (qv 0) (λ_ _=>rfl))) AE)))),λxs K h=>?_⟩)
 ·obtain⟨_,_,rfl,_⟩:=h;rfl
 ·obtain⟨r,c,rfl,d,g,h⟩:=h
  simp_arith[AS]
  refine⟨by lia,A7.map (λ(j:Nat)=>.int (r.getD j 0)) (λ_ _=>rfl) (λj f M i=>?_) ?_⟩
  ·simp_arith[AS]
   refine⟨.int (r.getD j 0),Bd ?_,i _⟩
   rw[getElem?_map,getD_eq_getElem?_getD,getElem?_eq_getElem (g j f)];rfl
  ·simp_arith[AS]
   have e:AJ (c.map λ(j:Nat)=>r.getD j 0)=.tup (c.map λ(j:Nat)=>P.int (r.getD j 0)):=by
    show P.tup ((c.map _).map _)=_
    rw[map_map];rfl
   rw[e]at h
   exact h
def Mb:pF:=λxs K=>∃t,xs=[AO t]/\t.length<=100000/\(∃n,∀q∈t,q.1.length=n)/\K (AO (Dm (BW t)))
def AAJ:pS:=λE ρ=>∃x a r c,ρ=[x,.own (Bz a),.sh (AJ r),.sh (.int c)]/\a.length<=100000/\E.nx [x,.own (Bz (Al a (r,c))),.sh (AJ r),.sh (.int c)]
def AAK:pS:=λE ρ=>∃t,ρ=[.sh (AO t),.own (.dT [] []),.emp,.emp]/\t.length<=100000/\∀v1 v2,E.nx [.sh (AO t),.own (Bz (BW t)),v1,v2]
theorem AAL(D:Az K mg "summed" JW)(T:TxtB mg):Fn P' w K mg base "summed" 1 ["papers"] (AQ Mb):=by
 refine BD D JX (λ_ _ _ _ _ _ us y=>Dq y (λ_=>rfl)) (λxs K h=>?_) (by decide) (λfa a1 A C s H E d=>?_)
 ·obtain⟨_,rfl,_⟩:=h;rfl
 ·have B:=Dw d
  refine⟨_,(AU (Ax (k:=1) (λ_=>JX.nd) Gm)
 (AU (QS.weak (m:=AAK) (Ed 0 (DM (λ_=>PassesOwn.never) (λ_=>rfl) (CG (λ_=>rfl) (qv 0)) (IF (ks:=[2,3]) (λ_=>rfl) (λ_=>rfl) (λ_=>(BI (A1 (i:=2) JX.nd rfl (Or.inl rfl)) (BI (A1 (i:=3) JX.nd rfl (Or.inl rfl)) Ce))) rfl)
 (Aw.weak (m:=AAJ) (Ad (IY (k:=1) (λ_=>B) (qv 2) (B2 (λ_=>Cn) Eb (Gk (λ_=>B) (qv 1) (qv 2) Aa) (qv 3)))) ?g))) ?f)
 (Ad (Ar (Bw (N:=["papers","counts","row","count"]) (sc:=AT JW) (N':=["row","counts"]) (qD:=[none,some 1]) ⟨rfl,nofun,nofun,nofun,nofun,rfl,nofun⟩ (by decide) (λ_=>rfl) (CG (λ_=>rfl) (BS (λ_=>(XV rfl d)) XW (λ_=>T.b_sorted) nofun (AA (qv 1) AE))) (CN (k:=0) rfl (λ_=>show List.Nodup (["row","counts"]:List Str) by decide +kernel)) (Ea (Bf (λ_=>M7) Vl (Eh (λ_=>B) (qv 1) (qv 0) (λ_ _=>rfl)) Aa (BR _))) (DI (AA (qv 0) (AA (Eh (λ_=>B) (qv 1) (qv 0) (λ_ _=>rfl)) AE)))))))),λxs K h=>?_⟩
  case g =>
   rintro E ρ ⟨x,a,r,c,rfl,y,h⟩
   simp_arith[HM,HL]
   refine⟨by lia,?_⟩
   rw[Ii]
   exact h
  case f =>
   rintro E ρ ⟨t,rfl,y,h⟩
   simp_arith[AS]
   refine⟨λi ρ=>∃o l,ρ=[.sh (AO t),.own (Bz ((t.take i).foldl Al [])),o,l],⟨_,_,rfl⟩,λi ρ' x O L=>?_,λρ' L=>?_⟩
   ·obtain⟨o,l,rfl⟩:=L
    rw[getElem?_map]at O
    obtain⟨q,G,rfl⟩:=Option.map_eq_some_iff.mp O
    simp_arith[AS]
    have v:=JC (t.take i) []
    have a0:(t.take i).length<=t.length:=by rw[length_take];lia
    refine⟨_,_,q.1,q.2,rfl,by simp at v;lia,.sh (AJ q.1),.sh (.int q.2),?_⟩
    rw[take_add_one,G,foldl_append]
    rfl
   ·obtain⟨o,l,rfl⟩:=L
    have:=h o l
    rw[take_of_length_le (Nat.le_refl _)]
    exact this
  ·obtain⟨t,rfl,y,J,h⟩:=h
   simp_arith[AS]
   refine⟨t,rfl,y,λo l=>?_⟩
   simp_arith[AS]
   obtain⟨n,J⟩:=J
   have v:(BW t).length<=t.length:=by have:=JC t [];simp only[length_nil,Nat.zero_add]at this;exact this
   refine⟨(BW t).map (·.1),⟨_,rfl⟩,by rw[length_map];lia,⟨n,λr d=>by obtain⟨q,G,rfl⟩:=mem_map.mp d;exact Li J q G⟩,λp I U=>?_⟩
   ·have Q:p.length=(BW t).length:=by rw[I.length_eq,length_map]
    have e:=P0 I U
    generalize BW t=u at *
    refine⟨by lia,?_⟩
    have get:∀r∈p,BV (u.map (·.1)) (u.map λq=>P.int q.2) r=some (.int ((AW u r).getD 0)):=λr d=>by
     rw[FN]
     have Y:r∈u.map (·.1):=I.mem_iff.mp d
     obtain⟨c,hc⟩:=P1 Y
     rw[hc];rfl
    refine A7.filter (λr=>decide (0<(AW u r).getD 0)) (λr=>Ay (r,(AW u r).getD 0)) (λr _ _=>by simp) (λr d M j=>?_) ?_
    ·simp_arith[get r d]
     have j:=j .nw
     refine Bj (λz=>?_) (λz=>?_)
     ·rw[if_pos (by simpa using z)]at j;exact j
     ·rw[if_neg (by simpa using z)]at j;exact j
    ·simp_arith[AS]
     rw[e]
     have e2:((CQ (u.map (·.1))).filter λr=>decide (0<(AW u r).getD 0)).map (λr=>Ay (r,(AW u r).getD 0))=(Dm u).map Ay:=by
      unfold Dm;rw[map_map];rfl
     rw[e2]
     exact h
def R7:pF:=λxs K=>∃qK t qC,xs=[AK qK,AO t,AK qC]/\Sh qK t qC/\K (AO (Dm (BW (A5 qK t qC))))
theorem AAM(D:Az K mg "shared" JY)(T:TxtB mg)(r:Fn P' w K mg base "places" 2 ["room","part"] (AQ Fm))(o:Fn P' w K mg base "picked" 1 ["row","spots"] (AQ Fo))(l:Fn P' w K mg base "summed" 1 ["papers"] (AQ Mb)):Fn P' w K mg base "shared" 3 ["room","rows","part"] (AQ R7):=by
 refine BD D Rv (λ_ _ _ _ _ _ us v=>Fs v (λ_ _ _=>rfl)) (λxs K h=>?_) (by decide) (λB y A d s H E f=>⟨_,(AU (Ax (k:=3) (λ_=>Rv.nd) (AZ (λ_=>r) (λ_=>f.m) (AA (qv 0) (AA (qv 2) AE))))
 (Ad (Ar (AZ (λ_=>l) (λ_=>f.m) (AA (Bw (N:=["room","rows","part","spots"]) (sc:=AT JY) (N':=["row","count","spots"]) (qD:=[none,none,some 3]) ⟨rfl,nofun,nofun,nofun,nofun,rfl,nofun⟩ (by decide) (λ_=>rfl) (CG (λ_=>rfl) (qv 1)) (D2 (i:=0) (j:=1) rfl rfl (λ_=>rfl) (λ_=>rfl) (λ_=>(BI (A1 (i:=0) (show List.Nodup (["row","count","spots"]:List Str) by decide +kernel) rfl (Or.inl rfl)) (BI (A1 (i:=1) (show List.Nodup (["row","count","spots"]:List Str) by decide +kernel) rfl (Or.inl rfl)) Ce)))) CH (DI (AA (AZ (λ_=>o) (λ_=>f.m) (AA (qv 0) (AA (qv 2) AE))) (AA (qv 1) AE)))) AE))))),λxs K h=>?_⟩)
 ·obtain⟨_,_,_,rfl,_⟩:=h;rfl
 ·obtain⟨qK,t,qC,rfl,a,h⟩:=h
  simp_arith[Fm,Fo,Mb]
  have h1:=a.len
  have h2:=a.few
  refine⟨by lia,a.sub,?_⟩
  refine⟨by lia,A7.map (λq=>Ay (AM qK q.1 qC,q.2)) (λ_ _=>Ie _) (λq g M c=>?_) ?_⟩
  ·simp_arith[AS]
   have c:=c .nw
   have e:AM qK q.1 qC=(qC.map (idx qK)).map λ(j:Nat)=>q.1.getD j 0:=by unfold AM;rw[map_map];rfl
   rw[e]at c
   refine⟨qC.map (idx qK),rfl,by rw[length_map];lia,λj x=>?_,c⟩
   obtain⟨n,u,rfl⟩:=mem_map.mp x
   rw[a.rows q g]
   exact EA (a.sub n u)
  ·simp_arith[AS]
   refine⟨A5 qK t qC,by unfold A5;rw[map_map];rfl,by unfold A5;rw[length_map];lia,⟨qC.length,λq g=>?_⟩,h⟩
   obtain⟨p,z,rfl⟩:=mem_map.mp g
   exact Lk _ _ _
def Fp:pF:=λxs K=>∃qK t qC,xs=[AK qK,AO t,AK qC]/\Sh qK t qC/\K (AO (Am qK t qC))
def AAN:pS:=λE ρ=>∃qK t qC a r c x,ρ=[.sh (AK qK),.sh (AO t),.sh (AK qC),.own (Bz a),.sh (AJ r),.sh (.int c),x]/\a.length<=100000/\qC.length<=100/\r.length=qK.length/\(∀n∈qC,n∈qK)/\∀y,E.nx [.sh (AK qK),.sh (AO t),.sh (AK qC),.own (Bz (Al a (AM qK r qC,c))),.sh (AJ r),.sh (.int c),y]
def AAO:pS:=λE ρ=>∃qK t qC,ρ=[.sh (AK qK),.sh (AO t),.sh (AK qC),.own (.dT [] []),.emp,.emp,.emp]/\Sh qK t qC/\∀x y z,E.nx [.sh (AK qK),.sh (AO t),.sh (AK qC),.own (Bz (BW (A5 qK t qC))),x,y,z]
theorem AAP(D:Az K mg "_law_portion" MV)(T:TxtB mg)(N:Fn P' w K mg base "_law_row_of" 1 ["_law_room","_law_row","_law_part_here"] (AQ Fk))(O:Fn P' w K mg base "_law_settled" 1 ["_law_counts"] (AQ Es)):Fn P' w K mg base "_law_portion" 2 ["_law_room","_law_rows","_law_part_here"] (AQ Fp):=by
 refine BD D HI (λ_ _ _ _ _ _ us L=>Fs L (λ_ _ _=>rfl)) (λxs K h=>?_) (by decide) (λfa Y A l s H E o=>?_)
 ·obtain⟨_,_,_,rfl,_⟩:=h;rfl
 ·have I:=Dw o
  refine⟨_,(AU (Ax (k:=3) (λ_=>HI.nd) Gm)
 (AU (QS.weak (m:=AAO) (Ed 1 (DM (λ_=>PassesOwn.never) (λ_=>rfl) (CG (λ_=>rfl) (qv 1)) (IF (ks:=[4,5]) (λ_=>rfl) (λ_=>rfl) (λ_=>(BI (A1 (i:=4) HI.nd rfl (Or.inl rfl)) (BI (A1 (i:=5) HI.nd rfl (Or.inl rfl)) Ce))) rfl)
 (Aw.weak (m:=AAN) (AU (Ax (k:=6) (λ_=>HI.nd) (AZ (λ_=>N) (λ_=>o.m) (AA (qv 0) (AA (qv 4) (AA (qv 2) AE)))))
 (Ad (IY (k:=3) (λ_=>I) (qv 6) (B2 (λ_=>Cn) Eb (Gk (λ_=>I) (qv 3) (qv 6) Aa) (qv 5))))) ?g))) ?d)
 (Ad (Ar (AZ (λ_=>O) (λ_=>o.m) (AA (qv 3) AE)))))),λxs K h=>?_⟩
  case g =>
   rintro E ρ ⟨qK,t,qC,a,r,c,x,rfl,L,Q,n,j,h⟩
   simp_arith[Fk,HM,HL]
   refine⟨Q,n,j,by lia,?_⟩
   rw[Ii]
   exact h _
  case d =>
   rintro E ρ ⟨qK,t,qC,rfl,f,h⟩
   simp_arith[AS]
   refine⟨λi ρ=>∃x y z,ρ=[.sh (AK qK),.sh (AO t),.sh (AK qC),.own (Bz ((A5 qK (t.take i) qC).foldl Al [])),x,y,z],⟨_,_,_,rfl⟩,λi ρ' x G u=>?_,λρ' u=>?_⟩
   ·obtain⟨C,B,v,rfl⟩:=u
    rw[getElem?_map]at G
    obtain⟨q,J,rfl⟩:=Option.map_eq_some_iff.mp G
    simp_arith[AS]
    have p:=JC (A5 qK (t.take i) qC) []
    have U:(A5 qK (t.take i) qC).length<=t.length:=by unfold A5;rw[length_map,length_take];lia
    have M:=f.few
    refine⟨qK,t,qC,_,q.1,q.2,_,rfl,by simp at p;lia,f.len,f.rows q (mem_of_getElem? J),f.sub,λy=>⟨.sh (AJ q.1),.sh (.int q.2),y,?_⟩⟩
    have e:A5 qK (t.take (i+1)) qC=A5 qK (t.take i) qC++[(AM qK q.1 qC,q.2)]:=by
     unfold A5
     rw[take_add_one,J,map_append];rfl
    rw[e,foldl_append]
    rfl
   ·obtain⟨C,B,v,rfl⟩:=u
    have:=h C B v
    rw[take_of_length_le (Nat.le_refl _)]
    exact this
  ·obtain⟨qK,t,qC,rfl,f,h⟩:=h
   simp_arith[AS]
   refine⟨qK,t,qC,rfl,f,λx y z=>?_⟩
   simp_arith[AS]
   have M:=f.few
   exact⟨_,rfl,Nat.le_trans (Lh _) (by rw[Ll];exact M),⟨_,Li (Ql qK t qC)⟩,h⟩
end
end K
namespace K
open PySem L2
section
variable{K:Fg}
def Mc:pF:=λxs K=>xs=[.bag]/\∀ns:List Str,1<=ns.length->ns.length<=6->ns.Nodup->(∀x∈ns,Fi x)->PyProof.Rows.sortedS ns=true->K (AK ns)
theorem AAQ(D:Az K mg "_law_questions" MS)(T:TxtB mg)(i:Fn P' w K mg base "_law_pull" 1 ["_law_bag_here","_law_many_here"] (AQ C9))(g:Fn P' w K mg base "_law_names" 3 ["_law_bag_here","_law_many_here"] (AQ MZ)):Fn P' w K mg base "_law_questions" 4 ["_law_bag_here"] (AQ Mc):=by
 refine BD D Zh (λ_ _ _ _ _ _ us e=>Dq e (λ_=>rfl)) (λxs K h=>?_) (by decide) (λy p A a s H E d=>⟨_,(Ad (Ar (BU (λ_=>Cw) C3 (λ_=>T.b_tuple) nofun (AA (BS (λ_=>(Um trivial)) Vo (λ_=>T.b_sorted) nofun (AA (AZ (λ_=>g) (λ_=>d.m) (AA (qv 0) (AA (B2 (λ_=>Cn) Eb Aa (AZ (λ_=>i) (λ_=>d.m) (AA (qv 0) (AA Aa AE)))) AE))) AE)) AE)))),λxs K h=>?_⟩)
 ·obtain⟨rfl,_⟩:=h;rfl
 ·obtain⟨rfl,h⟩:=h
  simp_arith[C9,MZ]
  refine⟨by decide,by decide,λr u q=>⟨by lia,by lia,λns v o j=>⟨by lia,λf c n=>?_⟩⟩⟩
  have e:=c.length_eq
  exact h f (by lia) (by lia) (c.nodup_iff.mpr j) (λx l=>o x (c.mem_iff.mp l)) n
def Md:pF:=λxs K=>∃ns,xs=[.bag,AK ns]/\ns.length<=9/\∀qC:List Str,qC.Sublist ns->K (AK qC)
def AAR:pS:=λE ρ=>∃ns m x,ρ=[.sh .bag,.sh (AK ns),.sh (.int m),x,.emp]/\0<=m/\m<=1000/\E.nx [.sh .bag,.sh (AK ns),.sh (.int (m * 2)),x,.emp]
def AAS:pS:=λE ρ=>∃ns,ρ=[.sh .bag,.sh (AK ns),.sh (.int 1),.emp,.emp]/\ns.length<=9/\∀x,E.nx [.sh .bag,.sh (AK ns),.sh (.int ((2 ^ ns.length:Nat):Int)),x,.emp]
theorem R8(h:n<=9):1<=2 ^ n/\2 ^ n<=512:=by
 refine⟨Nat.one_le_two_pow,?_⟩
 exact Nat.pow_le_pow_right (by decide:0<2) h
theorem AAT(D:Az K mg "_law_part" Jd)(T:TxtB mg)(C:Fn P' w K mg base "_law_pull" 1 ["_law_bag_here","_law_many_here"] (AQ C9)):Fn P' w K mg base "_law_part" 2 ["_law_bag_here","_law_names_here"] (AQ Md):=by
 refine BD D HH (λ_ _ _ _ _ _ us f=>B0 f (λ_ _=>rfl)) (λxs K h=>?_) (by decide) (λfa Q A g s H E B=>⟨_,(AU (Ax (k:=2) (λ_=>HH.nd) Aa)
 (AU (QS.weak (m:=AAS) (Ed 1 (DM (λ_=>PassesOwn.never) (λ_=>rfl) (DL (λ_=>rfl) (qv 1)) (FE (k:=3) (λ_=>HH.nd))
 (Aw.weak (m:=AAR) (Ad (Ax (k:=2) (λ_=>HH.nd) (B2 (λ_=>E1) Vh (qv 2) Aa))) ?c))) ?a)
 (AU (Ax (k:=4) (λ_=>HH.nd) (AZ (λ_=>C) (λ_=>B.m) (AA (qv 0) (AA (qv 2) AE))))
 (Ad (Ar (BU (λ_=>Cw) C3 (λ_=>T.b_tuple) nofun (AA (Bw (N:=["_law_bag_here","_law_names_here","_law_many_here","_law_name","_law_mask"]) (sc:=AT Jd) (N':=["_law_at","_law_names_here","_law_mask"]) (qD:=[none,some 1,some 4]) ⟨rfl,nofun,nofun,nofun,nofun,rfl,nofun⟩ (by decide) (λ_=>rfl) (FF (λ_=>T.b_range) (AA (BS (λ_=>Cg) Ch (λ_=>T.b_len) nofun (AA (qv 1) AE)) AE)) (CN (k:=0) rfl (λ_=>show List.Nodup (["_law_at","_law_names_here","_law_mask"]:List Str) by decide +kernel)) (Ea (Bf (λ_=>(IM B)) IN (B2 (λ_=>EN) Vi (B2 (λ_=>TB) Vk (qv 2) (qv 0)) Aa) Aa (BR _))) (BC (λ_=>BE) BF (qv 1) (qv 0) (λ_ _=>rfl))) AE))))))),λxs K h=>?_⟩)
 case c =>
  rintro E ρ ⟨ns,m,x,rfl,m0,m1,h⟩
  simp_arith[Du]
  exact⟨.inl ⟨by lia,by lia⟩,h⟩
 case a =>
  rintro E ρ ⟨ns,rfl,f,h⟩
  simp_arith[AS]
  refine⟨λi ρ=>i<=ns.length/\∃x,ρ=[.sh .bag,.sh (AK ns),.sh (.int ((2 ^ i:Nat):Int)),x,.emp],⟨Nat.zero_le _,_,rfl⟩,λi ρ' x y u=>?_,λρ' u=>?_⟩
  ·obtain⟨hi,x,rfl⟩:=u
   rw[getElem?_map]at y
   obtain⟨q,I,rfl⟩:=Option.map_eq_some_iff.mp y
   have O:i<ns.length:=(List.getElem?_eq_some_iff.mp I).1
   have J:=R8 (n:=i) (by lia)
   simp_arith[AS]
   refine⟨ns,_,_,rfl,by lia,by lia,by lia,.sh (.str q),?_⟩
   rw[Nat.pow_succ,Int.natCast_mul]
   rfl
  ·obtain⟨hi,x,rfl⟩:=u
   exact h x
 ·obtain⟨_,rfl,_⟩:=h;rfl
 ·obtain⟨ns,rfl,f,h⟩:=h
  simp_arith[AS]
  refine⟨ns,rfl,f,λx=>?_⟩
  have J:=R8 f
  simp_arith[C9]
  refine⟨by lia,by lia,λr Y U=>⟨by lia,by lia,by rw[D1];lia,?_⟩⟩
  rw[R6 (by lia)]
  refine A7.filter (λk:Nat=>decide (r / 2 ^ k % 2=1)) (λk=>P.str (ns.getD k ⟨#[]⟩)) (λ_ _ _=>rfl) (λk L M d=>?_) ?_
  ·have o:k<ns.length:=by have:=mem_range.mp L;lia
   simp_arith[Int.zero_add,Int.toNat_natCast]
   have d:=d .cl
   refine⟨by lia,by decide,Bj (λz=>?_) (λz=>?_)⟩
   ·rw[if_pos (by simpa using z)]at d
    refine⟨_,Bd (j:=k) (v:=.str (ns.getD k ⟨#[]⟩)) ?_,d⟩
    rw[getElem?_map,getD_eq_getElem?_getD,getElem?_eq_getElem o];rfl
   ·rw[if_neg (by simpa using z)]at d
    exact d
  ·simp_arith[AS]
   have e:ns=(List.range ns.length).map λk=>ns.getD k ⟨#[]⟩:=by
    apply ext_getElem?
    intro i
    rw[getElem?_map]
    by_cases hi:i<ns.length
    ·rw[getElem?_range hi,getElem?_eq_getElem hi,Option.map_some,getD_eq_getElem?_getD,getElem?_eq_getElem hi];rfl
    ·rw[getElem?_eq_none (by lia),getElem?_eq_none (by rw[length_range];lia)];rfl
   have G:(((List.range ns.length).filter λk=>decide (r / 2 ^ k % 2=1)).map λk=>ns.getD k ⟨#[]⟩).Sublist ns:=by
    have:=(filter_sublist (p:=λk:Nat=>decide (r / 2 ^ k % 2=1)) (l:=List.range ns.length)).map λk=>ns.getD k ⟨#[]⟩
    rw[<-e]at this
    exact this
   have:=h _ G
   rw[AK,map_map]at this
   exact this
def HN:pF:=λxs K=>∃i,xs=[.int i]/\K (.bl true)
theorem AAU(D:Az K mg "_law_whole" MX)(T:TxtB mg):Fn P' w K mg base "_law_whole" 1 ["_law_found"] (AQ HN):=by
 refine BD D Zn (λ_ _ _ _ _ _ us c=>Dq c (λ_=>rfl)) (λxs K h=>?_) (by decide) (λf d A a s H E e=>⟨_,(Ad (Ar (OK (FK (n:="int") (by simp) (λ_=>rfl) (λ_=>T.b_isinstance) (λ_=>T.b_int) nofun (qv 0)) (OH (VH (FK (n:="bool") (by simp) (λ_=>rfl) (λ_=>T.b_isinstance) (λ_=>T.b_bool) nofun (qv 0))))))),λxs K h=>?_⟩)
 ·obtain⟨_,rfl,_⟩:=h;rfl
 ·obtain⟨i,rfl,h⟩:=h
  simp_arith[AS]
  exact h
def Mf:pF:=λxs K=>∃r,xs=[AJ r]/\r.length<=100/\K (.bl true)
theorem AAV(D:Az K mg "_law_tuple" Ji)(T:TxtB mg)(d:Fn P' w K mg base "_law_whole" 1 ["_law_found"] (AQ HN)):Fn P' w K mg base "_law_tuple" 2 ["_law_found"] (AQ Mf):=by
 refine BD D Zo (λ_ _ _ _ _ _ us c=>Dq c (λ_=>rfl)) (λxs K h=>?_) (by decide) (λi g A a s H E e=>⟨_,(AU (CD (DK (DJ (FK (n:="tuple") (by simp) (λ_=>rfl) (λ_=>T.b_isinstance) (λ_=>T.b_tuple) nofun (qv 0))))
 (Ad (Ar Cy))
 CC)
 (Ad (Ar (BS (λ_=>(GH rfl)) Gh (λ_=>T.b_all) nofun (AA (Bw (N:=["_law_found"]) (sc:=AT Ji) (N':=["_law_one"]) (qD:=[none]) ⟨rfl,nofun,nofun,nofun,nofun,rfl,nofun⟩ (by decide) (λ_=>rfl) (DL (λ_=>rfl) (qv 0)) (CN (k:=0) rfl (λ_=>show List.Nodup (["_law_one"]:List Str) by decide +kernel)) CH (AZ (λ_=>d) (λ_=>e.m) (AA (qv 0) AE))) AE))))),λxs K h=>?_⟩)
 ·obtain⟨_,rfl,_⟩:=h;rfl
 ·obtain⟨r,rfl,c,h⟩:=h
  simp_arith[HN]
  refine⟨by lia,A7.map (λ_=>.bl true) (λ_ _=>rfl) (λx _ M f=>?_) ?_⟩
  ·simp_arith[AS]
   exact f _
  ·refine⟨r.map λ_=>true,by rw[map_map];rfl,?_⟩
   rw[all_map,show r.all (id ∘ λ_=>true)=true by simp]
   exact h
def Mg:pF:=λxs K=>∃t:Tl,xs=[AO t,AO t]/\t.length<=1000/\(∀q∈t,q.1.length<=100)/\K (.bl true)
def AAW:pS:=λE ρ=>∃(t:Tl) (k:Nat),ρ=[.sh (AO t),.sh (AO t),.sh (.int k)]/\k<t.length/\(∀q∈t,q.1.length<=100)/\E.nx [.sh (AO t),.sh (AO t),.sh (.int k)]
def AAX:pS:=λE ρ=>∃(t:Tl),ρ=[.sh (AO t),.sh (AO t),.emp]/\t.length<=1000/\(∀q∈t,q.1.length<=100)/\∀x,E.nx [.sh (AO t),.sh (AO t),x]
theorem AAY{t:Tl}(h:n<t.length):atI (t.map Ay) (n:Int)=some (Ay t[n]):=Bd (by rw[getElem?_map,getElem?_eq_getElem h];rfl)
theorem AAZ{α:Type}(x:α)(r:List α):atI (x::r) 0=some x:=Bd (j:=0) rfl
theorem AAa{α:Type}(x y:α)(r:List α):atI (x::y::r) 1=some y:=Bd (j:=1) rfl
theorem AAb(q:List Int×Int):AI (Ay q) (Ay q)=true:=(Gi (LG q) (LG q)).mpr rfl
theorem AAc(D:Az K mg "_law_same" MY)(T:TxtB mg)(i:Fn P' w K mg base "_law_tuple" 2 ["_law_found"] (AQ Mf))(l:Fn P' w K mg base "_law_whole" 1 ["_law_found"] (AQ HN)):Fn P' w K mg base "_law_same" 3 ["_law_found","_law_due"] (AQ Mg):=by
 refine BD D Rx (λ_ _ _ _ _ _ us p=>B0 p (λ_ _=>rfl)) (λxs K h=>?_) (by decide) (λu q A e s H E a=>⟨_,(AU (CD (QW.pt (EV (DK (DJ (FK (n:="list") (by simp) (λ_=>rfl) (λ_=>T.b_isinstance) (λ_=>T.b_list) nofun (qv 0)))) (GO (Bf (λ_=>(D4 a)) D5 (BS (λ_=>Cg) Ch (λ_=>T.b_len) nofun (AA (qv 0) AE)) (BS (λ_=>Cg) Ch (λ_=>T.b_len) nofun (AA (qv 1) AE)) (BR _)))))
 (Ad (Ar Cy))
 CC)
 (AU (QS.weak (m:=AAX) (DM (λ_=>PassesOwn.never) (λ_=>rfl) (FF (λ_=>T.b_range) (AA (BS (λ_=>Cg) Ch (λ_=>T.b_len) nofun (AA (qv 1) AE)) AE)) (FE (k:=2) (λ_=>Rx.nd))
 (Aw.weak (m:=AAW) (AU (CD (QW.pt (EV (DK (DJ (FK (n:="tuple") (by simp) (λ_=>rfl) (λ_=>T.b_isinstance) (λ_=>T.b_tuple) nofun (BC (λ_=>BE) BF (qv 0) (qv 2) (λ_ _=>rfl))))) (GO (Bf (λ_=>(D4 a)) D5 (BS (λ_=>Cg) Ch (λ_=>T.b_len) nofun (AA (BC (λ_=>BE) BF (qv 0) (qv 2) (λ_ _=>rfl)) AE)) Aa (BR _)))))
 (Ad (Ar Cy))
 CC)
 (Ad (CD (QW.pt (EV (DK (DJ (AZ (λ_=>i) (λ_=>a.m) (AA (BC (λ_=>BE) BF (BC (λ_=>BE) BF (qv 0) (qv 2) (λ_ _=>rfl)) Aa (λ_ _=>rfl)) AE)))) (EV (DK (DJ (AZ (λ_=>l) (λ_=>a.m) (AA (BC (λ_=>BE) BF (BC (λ_=>BE) BF (qv 0) (qv 2) (λ_ _=>rfl)) Aa (λ_ _=>rfl)) AE)))) (GO (Bf (λ_=>(D4 a)) D5 (BC (λ_=>BE) BF (qv 0) (qv 2) (λ_ _=>rfl)) (BC (λ_=>BE) BF (qv 1) (qv 2) (λ_ _=>rfl)) (BR _))))))
 (Ad (Ar Cy))
 CC))) ?d)) ?c)
 (Ad (Ar Cy)))),λxs K h=>?_⟩)
 case d =>
  rintro E ρ ⟨t,k,rfl,g,a,h⟩
  have:=a _ (getElem_mem g)
  simp_arith[Mf,HN,AAY g,AAZ,AAa,AAb]
  exact⟨by lia,h⟩
 case c =>
  rintro E ρ ⟨t,rfl,l1,a,h⟩
  simp_arith[AS]
  refine⟨by lia,by lia,λj ρ=>∃(x:S),ρ=[.sh (AO t),.sh (AO t),x],⟨_,rfl⟩,λj ρ' x o f=>?_,λρ' f=>?_⟩
  ·obtain⟨x1,rfl⟩:=f
   obtain⟨r,rfl⟩:=GY o
   simp_arith[AS]
   exact⟨t,j,by rw[Int.zero_add],by lia,a,⟨_,rfl⟩⟩
  ·obtain⟨x1,rfl⟩:=f
   exact h x1
 ·obtain⟨_,rfl,_⟩:=h;rfl
 ·obtain⟨t,rfl,l1,a,h⟩:=h
  simp_arith[AS]
  refine⟨t,rfl,l1,a,λx=>?_⟩
  simp_arith[AS]
  exact h
def R9:pF:=λxs K=>∃qK t qB u,xs=[AK qK,AO t,AK qB,AO u]/\qK.length<=100/\qB.length<=100/\Tal qK.length t/\Tal qB.length u/\K (Xh (G6 (Am qK t (Ao qK qB)) (Am qB u (Ao qK qB))))
theorem AAd(D:Az K mg "bar" JZ)(T:TxtB mg)(p:Fn P' w K mg base "common" 1 ["one","other"] (AQ Fj))(j:Fn P' w K mg base "shared" 3 ["room","rows","part"] (AQ R7)):Fn P' w K mg base "bar" 4 ["room","rows","other_room","other_rows"] (AQ R9):=by
 refine BD D HE (λ_ _ _ _ _ _ us q=>Jq q (λ_ _ _ _=>rfl)) (λxs K h=>?_) (by decide) (λG B A i s H E d=>?_)
 ·obtain⟨_,_,_,_,rfl,_⟩:=h;rfl
 ·have l:=Dw d
  refine⟨_,(AU (Ax (k:=4) (λ_=>HE.nd) (AZ (λ_=>p) (λ_=>d.m) (AA (qv 0) (AA (qv 2) AE))))
 (AU (Ax (k:=5) (λ_=>HE.nd) (BU (λ_=>(Ip rfl d)) Iq (λ_=>T.b_dict) nofun (AA (AZ (λ_=>j) (λ_=>d.m) (AA (qv 0) (AA (qv 1) (AA (qv 4) AE)))) AE)))
 (AU (Ax (k:=6) (λ_=>HE.nd) (BU (λ_=>(Ip rfl d)) Iq (λ_=>T.b_dict) nofun (AA (AZ (λ_=>j) (λ_=>d.m) (AA (qv 2) (AA (qv 3) (AA (qv 4) AE)))) AE)))
 (AU (IJ (k:=7) (λ_=>HE.nd) (N:=["room","rows","other_room","other_rows","part","one","other","apart"]) (sc:=AT JZ) (N':=["row","one","other"]) (qD:=[none,some 5,some 6]) ⟨rfl,nofun,nofun,nofun,nofun,rfl,nofun⟩ (by decide) (λ_=>rfl) (CG (λ_=>rfl) (B2 (λ_=>Gd) Gf (BU (λ_=>(Ia rfl)) Ic (λ_=>T.b_list) nofun (AA (qv 5) AE)) (BU (λ_=>(Ia rfl)) Ic (λ_=>T.b_list) nofun (AA (qv 6) AE)))) (CN (k:=0) rfl (λ_=>show List.Nodup (["row","one","other"]:List Str) by decide +kernel)) (Ea (Bf (λ_=>(D4 d)) D5 (Gk (λ_=>l) (qv 1) (qv 0) Aa) (Gk (λ_=>l) (qv 2) (qv 0) Aa) (BR _))) (qv 0))
 (Ad (Ar (XC (λ_=>rfl) (λ_=>d) (λ_=>T.b_min) (qv 7) N5))))))),λxs K h=>?_⟩
  obtain⟨qK,t,qB,u,rfl,l1,l2,g,c,h⟩:=h
  have C:=FX qK qB
  have y:Dm (BW (A5 qK t (Ao qK qB)))=Am qK t (Ao qK qB):=Qn (G7 g)
  have v:Dm (BW (A5 qB u (Ao qK qB)))=Am qB u (Ao qK qB):=Qn (G7 c)
  have o:Tal (Ao qK qB).length (Am qK t (Ao qK qB)):=Ln (G7 g) g.few
  have n:Tal (Ao qK qB).length (Am qB u (Ao qK qB)):=Ln (G7 c) c.few
  have J:=o.few
  have I:=n.few
  refine⟨qK,qB,rfl,by lia,EG (Rt _) ⟨qK,t,_,rfl,El g (by lia) (Ck _ _).1,?_⟩⟩
  rw[y]
  refine⟨_,rfl,by lia,?_⟩
  rw[JD o.nd]
  refine⟨qB,u,_,rfl,El c (by lia) (Ck _ _).2,?_⟩
  rw[v]
  refine⟨_,rfl,by lia,?_⟩
  rw[JD n.nd]
  generalize Am qK t (Ao qK qB)=a at *
  generalize Am qB u (Ao qK qB)=b at *
  refine⟨by rw[length_map,length_map,length_map,length_map];lia,_,rfl,by rw[Ru,Ru];nofun,by rw[length_append,length_map,length_map,length_map,length_map];lia,?_⟩
  rw[<-map_append]
  refine A7.filter (λr=>decide ((AW a r).getD 0≠(AW b r).getD 0)) AJ (λ_ _ _=>C4 _) (λr _ M f=>EG (C4 _) ⟨⟨rfl,λ_ h=>nomatch h⟩,_,Gj r,HM _,rfl,⟨rfl,λ_ h=>nomatch h⟩,_,Gj r,HM _,rfl,?_⟩) ?_
  ·have f:=f .cl
   rw[HL,HL]
   refine⟨⟨rfl,rfl⟩,_,rfl,Bj (λz=>?_) (λz=>?_)⟩<;>rw[Ig]at z
   ·rw[if_pos (by simpa using z)]at f;exact f
   ·rw[if_neg (by simpa using z)]at f;exact f
  ·unfold G6 Lp at h
   refine⟨_,rfl,rfl,λz=>⟨rfl,?_⟩,λx r e=>⟨ZV (C4 _),?_⟩⟩
   ·rw[z]at h;exact h
   ·rw[e,Xg]at h;exact h
def HP:pF:=λxs K=>∃one qE,xs=[AK one,AK qE]/\one.length<=20/\qE.length<=20/\∀ss:List Str,ss.Nodup->(∀z,z∈ss↔z∈one\/z∈qE)->DR ss->K (AK ss)
theorem AAe(D:Az K mg "united" MM)(T:TxtB mg):Fn P' w K mg base "united" 1 ["one","other"] (AQ HP):=by
 refine BD D ZZ (λ_ _ _ _ _ _ us i=>B0 i (λ_ _=>rfl)) (λxs K h=>?_) (by decide) (λn j A a s H E l=>⟨_,(Ad (Ar (BU (λ_=>Cw) C3 (λ_=>T.b_tuple) nofun (AA (RJ (λ_=>⟨rfl,rfl⟩) (λ_=>rfl) (λ_=>T.b_sorted) (λ_=>T.b_set) (AA (B2 (λ_=>Gd) Gf (qv 0) (qv 1)) AE)) AE)))),λxs K h=>?_⟩)
 ·obtain⟨_,_,rfl,_⟩:=h;rfl
 ·obtain⟨one,d,rfl,l1,l2,h⟩:=h
  simp_arith[AS]
  exact⟨by lia,one++d,.inr (by rw[map_append]),by rw[length_append];lia,λc e g f=>h c e (λz=>(g z).trans mem_append) f⟩
theorem AAf(D:Az K mg "_law_all" MW)(T:TxtB mg):Fn P' w K mg base "_law_all" 1 ["_law_one","_law_other"] (AQ HP):=by
 refine BD D Zm (λ_ _ _ _ _ _ us i=>B0 i (λ_ _=>rfl)) (λxs K h=>?_) (by decide) (λn j A a s H E l=>⟨_,(Ad (Ar (BU (λ_=>Cw) C3 (λ_=>T.b_tuple) nofun (AA (RJ (λ_=>⟨rfl,rfl⟩) (λ_=>rfl) (λ_=>T.b_sorted) (λ_=>T.b_set) (AA (B2 (λ_=>Gd) Gf (BU (λ_=>E7) Gg (λ_=>T.b_list) nofun (AA (qv 0) AE)) (BU (λ_=>E7) Gg (λ_=>T.b_list) nofun (AA (qv 1) AE))) AE)) AE)))),λxs K h=>?_⟩)
 ·obtain⟨_,_,rfl,_⟩:=h;rfl
 ·obtain⟨one,d,rfl,l1,l2,h⟩:=h
  simp_arith[AS]
  exact⟨by lia,one++d,.inl (by rw[map_append]),by rw[length_append];lia,λc e g f=>h c e (λz=>(g z).trans mem_append) f⟩
end
end K
namespace K
open PySem L2
section
variable{K:Fg}
def SA:pF:=λxs K=>∃qK t qC,xs=[AK qK,AO t,AK qC]/\Sh qK t qC/\K (.dT (Aj (λq=>AM qK q.1 qC) t) ((Aj (λq=>AM qK q.1 qC) t).map λr=>AO (AY (λq=>AM qK q.1 qC) t r)))
abbrev HQ(qK:List Str)(t:Tl)(qC:List Str)(a b c:S):List S:=[.sh (AK qK),.sh (AO t),.sh (AK qC),.own (.lst ((qC.map (idx qK)).map λ(j:Nat)=>.int (j:Int))),a,b,c]
def AAg:pS:=λE ρ=>∃qK t qC,ρ=HQ qK t qC (.own (.dT [] [])) .emp .emp/\Sh qK t qC/\∀b c,E.nx (HQ qK t qC (.own (.dT (Aj (λq=>AM qK q.1 qC) t) ((Aj (λq=>AM qK q.1 qC) t).map λr=>AO (AY (λq=>AM qK q.1 qC) t r)))) b c)
def AAh:pE:=λρ K=>∃qK t qC a r c,ρ=HQ qK t qC a (.sh (AJ r)) c/\Sh qK t qC/\r.length=qK.length/\K (AJ (AM qK r qC)) .nw
def AAi:pE:=λρ K=>∃qK t qC a r c,ρ=HQ qK t qC a (.sh (AJ r)) (.sh (.int c))/\K (Ay (r,c)) .nw
theorem AAj(D:Az K mg "grouped" MN)(T:TxtB mg)(J:Fn P' w K mg base "places" 2 ["room","part"] (AQ Fm))(I:Fn P' w K mg base "picked" 1 ["row","spots"] (AQ Fo)):Fn P' w K mg base "grouped" 3 ["room","rows","part"] (AQ SA):=by
 refine BD D HF (λ_ _ _ _ _ _ us y=>Fs y (λ_ _ _=>rfl)) (λxs K h=>?_) (by decide) (λU Q A u s H E v=>?_)
 ·obtain⟨_,_,_,rfl,_⟩:=h;rfl
 ·have L:=Dw v
  refine⟨_,(AU (Ax (k:=3) (λ_=>HF.nd) (AZ (λ_=>J) (λ_=>v.m) (AA (qv 0) (AA (qv 2) AE))))
 (AU (Ax (k:=4) (λ_=>HF.nd) Gm)
 (AU (QS.weak (m:=AAg) (Ed 1 (Yo (Kf:=K) (k:=4) (λ_=>rfl) (λ_=>L) (λ_=>PassesOwn.never) (λ_=>rfl) (CG (λ_=>rfl) (qv 1)) (Yk 4 (ks:=[5,6]) (λ_=>rfl) (λ_=>rfl) (λ_=>(BI (A1 (i:=5) HF.nd rfl (Or.inl rfl)) (BI (A1 (i:=6) HF.nd rfl (Or.inl rfl)) Ce))) rfl) (QE.weak (m:=AAh) (AZ (λ_=>I) (λ_=>v.m) (AA (qv 5) (AA (qv 3) AE))) ?p) (QE.weak (m:=AAi) (DI (AA (qv 5) (AA (qv 6) AE))) ?o))) ?l)
 (Ad (Ar (qv 4)))))),λxs K h=>?_⟩
  case p =>
   rintro ρ K ⟨qK,t,qC,a,r,c,rfl,d,y,h⟩
   have h1:=d.len
   simp_arith[Fo]
   have e:AM qK r qC=(qC.map (idx qK)).map λ(j:Nat)=>r.getD j 0:=by unfold AM;rw[map_map];rfl
   rw[e]at h
   refine⟨qC.map (idx qK),rfl,by rw[length_map];lia,λj N=>?_,h⟩
   obtain⟨n,M,rfl⟩:=mem_map.mp N
   rw[y]
   exact EA (d.sub n M)
  case o =>
   rintro ρ K ⟨qK,t,qC,a,r,c,rfl,h⟩
   simp_arith[AS]
   exact h
  case l =>
   rintro E ρ ⟨qK,t,qC,rfl,d,h⟩
   have h2:=d.few
   simp_arith[L8]
   refine⟨by lia,λi ρ ks xss=>∃b c,ρ=HQ qK t qC .emp b c/\ks=Aj (λq=>AM qK q.1 qC) (t.take i)/\xss=ks.map λr=>(AY (λq=>AM qK q.1 qC) (t.take i) r).map Ay,⟨_,_,rfl,rfl,rfl⟩,λi ρ' ks xss x B z=>?_,λρ' ks xss z=>?_⟩
   ·obtain⟨b,c,rfl,rfl,rfl⟩:=z
    rw[getElem?_map]at B
    obtain⟨q,C,rfl⟩:=Option.map_eq_some_iff.mp B
    simp_arith[AS]
    refine⟨qK,t,qC,_,q.1,_,rfl,d,d.rows q (mem_of_getElem? C),?_⟩
    simp_arith[AS]
    refine⟨qK,t,qC,_,q.1,q.2,rfl,?_⟩
    simp_arith[AS]
    rw[take_add_one,C]
    have G:=RX (f:=λq:List Int×Int=>AM qK q.1 qC) (t.take i) q
    have O:=ZB (f:=λq:List Int×Int=>AM qK q.1 qC) (g:=Ay) (t.take i) q
    exact⟨G.symm,by rw[O];show _=map _ (Aq _ _);rw[<-G];rfl⟩
   ·obtain⟨b,c,rfl,rfl,rfl⟩:=z
    simp_arith[AS]
    have e:((Aj (λq=>AM qK q.1 qC) t).map λr=>(AY (λq=>AM qK q.1 qC) t r).map Ay).map P.lst=(Aj (λq=>AM qK q.1 qC) t).map λr=>AO (AY (λq=>AM qK q.1 qC) t r):=by rw[map_map];rfl
    rw[take_of_length_le (Nat.le_refl _),e]
    exact h b c
  ·obtain⟨qK,t,qC,rfl,d,h⟩:=h
   have h1:=d.len
   simp_arith[Fm]
   refine⟨by lia,d.sub,qK,t,qC,rfl,d,λb c=>?_⟩
   simp_arith[AS]
   exact h
end
end K
namespace K
open PySem L2
section
variable{K:Fg}
abbrev HR(x:DT):P:=.tup [AJ x.1,AJ x.2.1,.int x.2.2]
def SB:pF:=λxs K=>∃f g:Tl,xs=[AO f,AO g]/\f.length<=1000/\g.length<=1000/\Ps f/\Ps g/\K (.lst ((Ah f g).map HR))
abbrev Fq(f g:Tl)(o1 o2:List Int)(fd:List DT)(a b:Nat)(m:S):List S:=[.sh (AO f),.sh (AO g),.own (.lst (o1.map .int)),.own (.lst (o2.map .int)),.own (.lst (fd.map HR)),.sh (.int (a:Int)),.sh (.int (b:Int)),m]
def AAk:pS:=λE ρ=>∃f g o1 o2 fd a b m q p c d,ρ=Fq f g o1 o2 fd a b m/\f[a]?=some q/\g[b]?=some p/\o1[a]?=some c/\o2[b]?=some d/\fd.length<=100000/\∀m',E.nx (Fq f g (o1.set a (c - min c d)) (o2.set b (d - min c d)) (fd++[(q.1,p.1,min c d)]) (if c - min c d=0 then a+1 else a) (if d - min c d=0 then b+1 else b) m')
def AAl:pS:=λE ρ=>∃f g:Tl,ρ=[.sh (AO f),.sh (AO g),.own (.lst ((f.map (·.2)).map .int)),.own (.lst ((g.map (·.2)).map .int)),.emp,.emp,.emp,.emp]/\f.length<=1000/\g.length<=1000/\Ps f/\Ps g/\E.rt (.lst ((Ah f g).map HR))
def AAm:pS:=λE ρ=>∃f g:Tl,ρ=Fq f g (f.map (·.2)) (g.map (·.2)) [] 0 0 .emp/\f.length<=1000/\g.length<=1000/\Ps f/\Ps g/\E.rt (.lst ((Ah f g).map HR))
structure CoI(f g:Tl)(o1 o2:List Int)(fd:List DT)(a b:Nat):Prop where
 l1:o1.length=f.length
 l2:o2.length=g.length
 pa:Ps (A8 f o1 a)
 pb:Ps (A8 g o2 b)
 la:a<=f.length
 lb:b<=g.length
 eq:fd++Ah (A8 f o1 a) (A8 g o2 b)=Ah f g
theorem AAn(D:Az K mg "corners" HG)(T:TxtB mg):Fn P' w K mg base "corners" 1 ["first","second"] (AQ SB):=by
 refine BD D EH (λ_ _ _ _ _ _ us hl=>B0 hl (λ_ _=>rfl)) (λxs K h=>?_) (by decide) (λfa a1 A a0 s H E hr=>⟨_,(AU (IJ (k:=2) (λ_=>EH.nd) (N:=["first","second","ones","others","found","at","by","many"]) (sc:=AT HG) (N':=["row","count"]) (qD:=[none,none]) ⟨rfl,nofun,nofun,nofun,nofun,rfl,nofun⟩ (by decide) (λ_=>rfl) (CG (λ_=>rfl) (qv 0)) (D2 (i:=0) (j:=1) rfl rfl (λ_=>rfl) (λ_=>rfl) (λ_=>(BI (A1 (i:=0) (show List.Nodup (["row","count"]:List Str) by decide +kernel) rfl (Or.inl rfl)) (BI (A1 (i:=1) (show List.Nodup (["row","count"]:List Str) by decide +kernel) rfl (Or.inl rfl)) Ce)))) CH (qv 1))
 (AU (IJ (k:=3) (λ_=>EH.nd) (N:=["first","second","ones","others","found","at","by","many"]) (sc:=AT HG) (N':=["row","count"]) (qD:=[none,none]) ⟨rfl,nofun,nofun,nofun,nofun,rfl,nofun⟩ (by decide) (λ_=>rfl) (CG (λ_=>rfl) (qv 1)) (D2 (i:=0) (j:=1) rfl rfl (λ_=>rfl) (λ_=>rfl) (λ_=>(BI (A1 (i:=0) (show List.Nodup (["row","count"]:List Str) by decide +kernel) rfl (Or.inl rfl)) (BI (A1 (i:=1) (show List.Nodup (["row","count"]:List Str) by decide +kernel) rfl (Or.inl rfl)) Ce)))) CH (qv 1))
 (Aw.weak (m:=AAl) (AU (Ax (k:=4) (λ_=>EH.nd) (GN AE))
 (AU (Y4 (i:=5) (j:=6) (λ_=>EH.nd) Aa)
 (Aw.weak (m:=AAm) (AU (VT (λ_=>PassesOwn.never) (QW.pt (VG (Bf (λ_=>J5) Oj (qv 5) (BS (λ_=>Cg) Ch (λ_=>T.b_len) nofun (AA (qv 0) AE)) (BR _)) (VF (Bf (λ_=>J5) Oj (qv 6) (BS (λ_=>Cg) Ch (λ_=>T.b_len) nofun (AA (qv 1) AE)) (BR _)))))
 (Aw.weak (m:=AAk) (AU (Ax (k:=7) (λ_=>EH.nd) (BS (λ_=>(TL rfl)) Wu (λ_=>T.b_min) nofun (AA (BC (λ_=>BE) BF (qv 2) (qv 5) (λ_ _=>rfl)) (AA (BC (λ_=>BE) BF (qv 3) (qv 6) (λ_ _=>rfl)) AE))))
 (AU (PJ (k:=4) (λ_=>rfl) (DI (AA (BC (λ_=>BE) BF (BC (λ_=>BE) BF (qv 0) (qv 5) (λ_ _=>rfl)) Aa (λ_ _=>rfl)) (AA (BC (λ_=>BE) BF (BC (λ_=>BE) BF (qv 1) (qv 6) (λ_ _=>rfl)) Aa (λ_ _=>rfl)) (AA (qv 7) AE)))))
 (AU (PL (k:=2) (λ_=>Mv) (qv 5) (qv 7))
 (AU (PL (k:=3) (λ_=>Mv) (qv 6) (qv 7))
 (AU (CD (Bf (λ_=>(IM hr)) IN (BC (λ_=>BE) BF (qv 2) (qv 5) (λ_ _=>rfl)) Aa (BR _))
 (Ad (PM (k:=5) (λ_=>J1) (λ_=>EH.nd) Aa))
 CC)
 (Ad (CD (Bf (λ_=>(IM hr)) IN (BC (λ_=>BE) BF (qv 3) (qv 6) (λ_ _=>rfl)) Aa (BR _))
 (Ad (PM (k:=6) (λ_=>J1) (λ_=>EH.nd) Aa))
 CC))))))) ?y))
 (Ad (Ar (qv 4)))) ?L))) ?O))),λxs K h=>?_⟩)
 case y =>
  rintro E ρ ⟨f,g,o,n,fd,a,b,m,q,p,c,d,rfl,h1,h2,G,C,hl,h⟩
  have I:atI (o.map P.int) (a:Int)=some (.int c):=Bd (by rw[getElem?_map,G];rfl)
  have e2:atI (n.map P.int) (b:Int)=some (.int d):=Bd (by rw[getElem?_map,C];rfl)
  have e3:atI (f.map Ay) (a:Int)=some (Ay q):=Bd (by rw[getElem?_map,h1];rfl)
  have e4:atI (g.map Ay) (b:Int)=some (Ay p):=Bd (by rw[getElem?_map,h2];rfl)
  have i1:=(List.getElem?_eq_some_iff.mp G).1
  have i2:=(List.getElem?_eq_some_iff.mp C).1
  have s1:∀x:Int,(o.map P.int).set a (.int x)=(o.set a x).map P.int:=λx=>by rw[map_set]
  have Y:∀x:Int,(n.map P.int).set b (.int x)=(n.set b x).map P.int:=λx=>by rw[map_set]
  have t1:∀x:Int,atI ((o.set a x).map P.int) (a:Int)=some (.int x):=λx=>Bd (by rw[getElem?_map,getElem?_set_self i1];rfl)
  have t2:∀x:Int,atI ((n.set b x).map P.int) (b:Int)=some (.int x):=λx=>Bd (by rw[getElem?_map,getElem?_set_self i2];rfl)
  have u1:(o.map P.int)[a]?=some (.int c):=by rw[getElem?_map,G];rfl
  have u2:(n.map P.int)[b]?=some (.int d):=by rw[getElem?_map,C];rfl
  have mn:(if d<c then d else c)=min c d:=by rw[ZN]
  have tp:A2 (P.tup [AJ q.1,AJ p.1,.int (if d<c then d else c)]) (Cs [(AJ q.1,.cl),(AJ p.1,.cl),(.int (if d<c then d else c),.cl)])=.nw:=Rr (by simp)
  refine⟨_,I,_,e2,_,e3,_,EF _ _,_,e4,_,EF _ _,rfl,tp,by rw[length_map];lia,?_⟩
  refine⟨_,_,_,rfl,MI (by rw[length_map];exact i1),u1,_,rfl,_,_,_,rfl,MI (by rw[length_map];exact i2),u2,_,rfl,?_⟩
  rw[mn,s1,Y]
  refine⟨_,t1 _,⟨rfl,rfl⟩,_,rfl,?_⟩
  have u:=h (.sh (.int (min c d)))
  unfold Fq at u
  rw[map_append]at u
  have Q:∀{x:Int},AI (.int x) (.int 0)=true->x=0:=λ{x} h=>by rw[Ig]at h;exact of_decide_eq_true h
  have U:∀{x:Int},¬AI (.int x) (.int 0)=true->x≠0:=λ{x} h z=>h (by rw[Ig];exact decide_eq_true z)
  refine Bj (λr=>⟨_,rfl,_,t2 _,⟨rfl,rfl⟩,_,rfl,Bj (λl=>⟨_,rfl,?_⟩) λl=>?_⟩) λr=>⟨_,t2 _,⟨rfl,rfl⟩,_,rfl,Bj (λl=>⟨_,rfl,?_⟩) λl=>?_⟩
  ·rw[if_pos (Q r),if_pos (Q l)]at u;exact u
  ·rw[if_pos (Q r),if_neg (U l)]at u;exact u
  ·rw[if_neg (U r),if_pos (Q l)]at u;exact u
  ·rw[if_neg (U r),if_neg (U l)]at u;exact u
 case O =>
  rintro E ρ ⟨f,g,rfl,l1,l2,B,pg,h⟩
  exact⟨rfl,rfl,f,g,rfl,l1,l2,B,pg,h⟩
 case L =>
  rintro E ρ ⟨f,g,rfl,l1,l2,B,pg,h⟩
  refine⟨λm ρ=>∃o n fd a b v,ρ=Fq f g o n fd a b v/\CoI f g o n fd a b/\m=(f.length - a)+(g.length - b),⟨_,_,_,[],0,0,_,rfl,⟨by simp,by simp,by rw[JO];exact B,by rw[JO];exact pg,Nat.zero_le _,Nat.zero_le _,by rw[JO,JO];rfl⟩,rfl⟩,?_⟩
  rintro m ρ' ⟨o,n,fd,a,b,v,rfl,ok,rfl⟩
  have hl:fd.length<=2000:=by
   have I:=congrArg length ok.eq
   have e2:=MH B pg
   rw[length_append]at I
   lia
  have J:Ah (A8 f o a) (A8 g n b)=[]->E.rt (.lst (fd.map HR)):=λz=>by
   have I:=ok.eq
   rw[z,append_nil]at I
   rw[I]
   exact h
  refine⟨trivial,_,rfl,Bj (λr=>⟨trivial,_,rfl,Bj (λl=>?_) (λl=>⟨rfl,J ?_⟩)⟩) (λr=>⟨rfl,J ?_⟩)⟩
  ·have r:=of_decide_eq_true r
   have l:=of_decide_eq_true l
   rw[length_map]at r l
   have h1:f[a]?=some f[a]:=getElem?_eq_getElem (by lia)
   have h2:g[b]?=some g[b]:=getElem?_eq_getElem (by lia)
   have G:o[a]?=some (o[a]'(by have:=ok.l1;lia)):=getElem?_eq_getElem (by have:=ok.l1;lia)
   have C:n[b]?=some (n[b]'(by have:=ok.l2;lia)):=getElem?_eq_getElem (by have:=ok.l2;lia)
   obtain⟨s1,Y,s3⟩:=ZL h1 G h2 C ok.pa ok.pb
   generalize (o[a]'(by have:=ok.l1;lia))=c at *
   generalize (n[b]'(by have:=ok.l2;lia))=d at *
   have cd:c - min c d=0\/d - min c d=0:=by lia
   refine⟨λρ=>∃v,ρ=Fq f g (o.set a (c - min c d)) (n.set b (d - min c d)) (fd++[(f[a].1,g[b].1,min c d)]) (if c - min c d=0 then a+1 else a) (if d - min c d=0 then b+1 else b) v,λρ2 hρ=>?_,f,g,o,n,fd,a,b,v,f[a],g[b],c,d,rfl,h1,h2,G,C,by lia,λm'=>⟨m',rfl⟩⟩
   obtain⟨v',rfl⟩:=hρ
   refine⟨_,?_,_,_,_,_,_,_,rfl,⟨by rw[length_set];exact ok.l1,by rw[length_set];exact ok.l2,Y,s3,by split<;>lia,by split<;>lia,?_⟩,rfl⟩
   ·rcases cd with z|z
    ·rw[if_pos z];split<;>lia
    ·rw[if_pos z];split<;>lia
   ·rw[append_assoc,singleton_append,<-s1]
    exact ok.eq
  ·have l:¬(b:Int)<((g.map Ay).length:Int):=λz=>l (decide_eq_true z)
   rw[length_map]at l
   rw[Rh (f:=g) (by lia),Ep]
  ·have r:¬(a:Int)<((f.map Ay).length:Int):=λz=>r (decide_eq_true z)
   rw[length_map]at r
   rw[Rh (f:=f) (by lia),ED]
 ·obtain⟨_,_,rfl,_⟩:=h;rfl
 ·obtain⟨f,g,rfl,l1,l2,B,pg,h⟩:=h
  have e:∀t:Tl,(t.map λq=>P.int q.2)=(t.map (·.2)).map P.int:=λt=>by rw[map_map];rfl
  refine⟨_,rfl,nofun,by rw[length_map];lia,A7.map (λq:List Int×Int=>.int q.2) (λ_ _=>rfl) (λq _ M hM=>Rs (hM _)) ?_⟩
  refine⟨_,rfl,nofun,by rw[length_map];lia,A7.map (λq:List Int×Int=>.int q.2) (λ_ _=>rfl) (λq _ M hM=>Rs (hM _)) ?_⟩
  rw[e,e]
  exact⟨f,g,rfl,l1,l2,B,pg,h⟩
end
end K
namespace K
open PySem L2
section
variable{K:Fg}
def Mj:pF:=λxs K=>∃qK t qB u,xs=[AK qK,AO t,AK qB,AO u]/\qK.length<=20/\qB.length<=20/\Agr qK qB t u/\∀qJ,Uni qK qB qJ->DR qJ->∀J,J.Perm (Bm qK qB qJ t u)->Bb (J.map (·.1))->K (AO J)
abbrev HS(qK qB side:List Str)(t:Tl):P:=.fT (Aj (Ab qK qB side) t) ((Aj (Ab qK qB side) t).map λr=>AO (AY (Ab qK qB side) t r))
abbrev Mk(qK qB side:List Str)(t:Tl):P:=.dT (Aj (Ab qK qB side) t) ((Aj (Ab qK qB side) t).map λr=>AO (AY (Ab qK qB side) t r))
abbrev AAo(qK qB qJ:List Str):P:=.lst ((qJ.map (idx (qK++qB))).map λ(j:Nat)=>.int (j:Int))
abbrev DX(qK:List Str)(t:Tl)(qB:List Str)(u:Tl)(qJ:List Str)(a:S)(fd:Tl)(k x y m:S):List S:=[.sh (AK qK),.sh (AO t),.sh (AK qB),.sh (AO u),.sh .non,.sh (AK (Ao qK qB)),a,.own (Mk qK qB qB u),.own (AAo qK qB qJ),.own (AO fd),k,x,y,m]
structure JoOk(qK:List Str)(t:Tl)(qB:List Str)(u:Tl)(qJ:List Str):Prop where
 l1:qK.length<=20
 l2:qB.length<=20
 ag:Agr qK qB t u
 un:Uni qK qB qJ
 lu:qJ.length<=40
def AAp:pS:=λE ρ=>∃qK t qB u qJ,JoOk qK t qB u qJ/\ρ=DX qK t qB u qJ (.own (Mk qK qB qK t)) [] .emp .emp .emp .emp/\∀J,J.Perm (Bm qK qB qJ t u)->Bb (J.map (·.1))->E.rt (AO J)
def AAq:pS:=λE ρ=>∃qK t qB u qJ,JoOk qK t qB u qJ/\ρ=DX qK t qB u qJ (.own (Mk qK qB qK t)) [] .emp .emp .emp .emp/\∀k x y m,E.nx (DX qK t qB u qJ (.fr (HS qK qB qK t)) (Bm qK qB qJ t u) k x y m)
def AAr:pS:=λE ρ=>∃qK t qB u qJ fd k x y m,JoOk qK t qB u qJ/\k∈Aj (Ab qK qB qK) t/\fd.length<=10000000/\ρ=DX qK t qB u qJ (.fr (HS qK qB qK t)) fd (.sh (AJ k)) x y m/\∀x y m,E.nx (DX qK t qB u qJ (.fr (HS qK qB qK t)) (fd++Bs qK qB qJ t u k) (.sh (AJ k)) x y m)
def AAs:pS:=λE ρ=>∃qK t qB u qJ a fd k r s c,JoOk qK t qB u qJ/\r.length=qK.length/\s.length=qB.length/\fd.length<=10010000/\ρ=DX qK t qB u qJ a fd k (.sh (AJ r)) (.sh (AJ s)) (.sh (.int c))/\E.nx (DX qK t qB u qJ a (fd++[(Bg qK qB qJ r s,c)]) k (.sh (AJ r)) (.sh (AJ s)) (.sh (.int c)))
theorem AAt(D:Az K mg "joined" MO)(T:TxtB mg)(z7:Fn P' w K mg base "bar" 4 ["room","rows","other_room","other_rows"] (AQ R9))(z5:Fn P' w K mg base "common" 1 ["one","other"] (AQ Fj))(Y:Fn P' w K mg base "grouped" 3 ["room","rows","part"] (AQ SA))(qU:Fn P' w K mg base "places" 2 ["room","part"] (AQ Fm))(z9:Fn P' w K mg base "united" 1 ["one","other"] (AQ HP))(zA:Fn P' w K mg base "corners" 1 ["first","second"] (AQ SB))(qV:Fn P' w K mg base "picked" 1 ["row","spots"] (AQ Fo)):Fn P' w K mg base "joined" 5 ["room","rows","other_room","other_rows"] (AQ Mj):=by
 refine BD D C8 (λ_ _ _ _ _ _ us U=>Jq U (λ_ _ _ _=>rfl)) (λxs K h=>?_) (by decide) (λfa a0 A Q s H E d=>?_)
 ·obtain⟨_,_,_,_,rfl,_⟩:=h;rfl
 ·have hu:=Dw d
  refine⟨_,(AU (Ax (k:=4) (λ_=>C8.nd) (AZ (λ_=>z7) (λ_=>d.m) (AA (qv 0) (AA (qv 1) (AA (qv 2) (AA (qv 3) AE))))))
 (AU (CD (Bf (λ_=>TH) Vn (qv 4) N5 (BR _))
 (Ad OQ)
 CC)
 (AU (Ax (k:=5) (λ_=>C8.nd) (AZ (λ_=>z5) (λ_=>d.m) (AA (qv 0) (AA (qv 2) AE))))
 (AU (Ax (k:=6) (λ_=>C8.nd) (AZ (λ_=>Y) (λ_=>d.m) (AA (qv 0) (AA (qv 1) (AA (qv 5) AE)))))
 (AU (Ax (k:=7) (λ_=>C8.nd) (AZ (λ_=>Y) (λ_=>d.m) (AA (qv 2) (AA (qv 3) (AA (qv 5) AE)))))
 (AU (Ax (k:=8) (λ_=>C8.nd) (AZ (λ_=>qU) (λ_=>d.m) (AA (B2 (λ_=>Gd) Gf (qv 0) (qv 2)) (AA (AZ (λ_=>z9) (λ_=>d.m) (AA (qv 0) (AA (qv 2) AE))) AE))))
 (AU (Ax (k:=9) (λ_=>C8.nd) (GN AE))
 (Aw.weak (m:=AAp) (AU (QS.weak (m:=AAq) (Yv 6 (DM (λ_=>PassesOwn.never) (λ_=>rfl) (Yu (qv 6)) (FE (k:=10) (λ_=>C8.nd))
 (Aw.weak (m:=AAr) (Ad (DM (λ_=>PassesOwn.never) (λ_=>rfl) (CG (λ_=>rfl) (AZ (λ_=>zA) (λ_=>d.m) (AA (Eh (λ_=>hu) (qv 6) (qv 10) (λ_ _=>rfl)) (AA (Eh (λ_=>hu) (qv 7) (qv 10) (λ_ _=>rfl)) AE)))) (IF (ks:=[11,12,13]) (λ_=>rfl) (λ_=>rfl) (λ_=>(BI (A1 (i:=11) C8.nd rfl (Or.inl rfl)) (BI (A1 (i:=12) C8.nd rfl (Or.inl rfl)) (BI (A1 (i:=13) C8.nd rfl (Or.inl rfl)) Ce)))) rfl)
 (Aw.weak (m:=AAs) (Ad (PJ (k:=9) (λ_=>rfl) (DI (AA (AZ (λ_=>qV) (λ_=>d.m) (AA (B2 (λ_=>Gd) Gf (qv 11) (qv 12)) (AA (qv 8) AE))) (AA (qv 13) AE))))) ?v))) ?z))) ?o)
 (Ad (Ar (BS (λ_=>(Y0 d)) Y1 (λ_=>T.b_sorted) nofun (AA (qv 9) AE))))) ?N)))))))),λxs K h=>?_⟩
  case v =>
   rintro E ρ ⟨qK,t,qB,u,qJ,a,fd,k,r,s,c,ok,d,hs,U,rfl,h⟩
   have l1:=ok.l1
   have l2:=ok.l2
   have lu:=ok.lu
   have e:Bg qK qB qJ r s=(qJ.map (idx (qK++qB))).map λ(j:Nat)=>(r++s).getD j 0:=by unfold Bg AM;rw[map_map];rfl
   rw[e]at h
   refine⟨⟨IA _,IA _⟩,by rw[length_map,length_map];lia,r++s,qJ.map (idx (qK++qB)),by rw[show AJ (r++s)=.tup (r.map P.int++s.map P.int) by rw[<-map_append]];rfl,by rw[length_map];lia,λj hj=>?_,rfl,Rr (Ie (_,_)),by rw[length_map];lia,?_⟩
   ·obtain⟨n,g,rfl⟩:=mem_map.mp hj
    have:=EA (mem_append.mpr (ok.un.s n g))
    rw[length_append]at this ⊢
    lia
   ·have e2:∀q:List Int×Int,AO (fd++[q])=P.lst (fd.map Ay++[Ay q]):=λq=>by show P.lst ((fd++[q]).map Ay)=_;rw[map_append];rfl
    unfold DX at h
    rw[e2]at h
    exact h
  case z =>
   rintro E ρ ⟨qK,t,qB,u,qJ,fd,k,x,y,m,ok,hk,U,rfl,h⟩
   have g1:=MJ (λr=>AO (AY (Ab qK qB qK) t r)) hk
   have g2:=MJ (λr=>AO (AY (Ab qK qB qB) u r)) (ok.ag.both.mp hk)
   have s1:=(Fd (f:=Ab qK qB qK) t k).length_le
   have s2:=(Fd (f:=Ab qK qB qB) u k).length_le
   have f1:=ok.ag.ta.few
   have f2:=ok.ag.tb.few
   have wl:=Ri (qJ:=qJ) ok.ag k
   refine⟨_,_,Gj k,g1,_,_,Gj k,g2,_,_,rfl,by lia,by lia,ok.ag.pa k,ok.ag.pb k,_,rfl,rfl,λi ρ=>∃x y m,ρ=DX qK t qB u qJ (.fr (HS qK qB qK t)) (fd++(Bs qK qB qJ t u k).take i) (.sh (AJ k)) x y m,⟨_,_,_,by rw[take_zero,append_nil]⟩,λi ρ' x M p=>?_,λρ' p=>?_⟩
   ·obtain⟨x1,G,L,rfl⟩:=p
    rw[getElem?_map]at M
    obtain⟨q,O,rfl⟩:=Option.map_eq_some_iff.mp M
    have mq:=ok.ag.mem (mem_of_getElem? O)
    refine⟨_,rfl,rfl,EG (C4 _) (EG (C4 _) ?_)⟩
    refine⟨qK,t,qB,u,qJ,_,_,_,q.1,q.2.1,q.2.2,ok,mq.la,mq.lb,?_,rfl,.sh (AJ q.1),.sh (AJ q.2.1),.sh (.int q.2.2),?_⟩
    ·rw[length_append,length_take];lia
    ·have e3:(Bs qK qB qJ t u k)[i]?=some (Bg qK qB qJ q.1 q.2.1,q.2.2):=by unfold Bs;rw[getElem?_map,O];rfl
     rw[take_add_one,e3,append_assoc]
     rfl
   ·obtain⟨x1,G,L,rfl⟩:=p
    have:=h x1 G L
    rw[take_of_length_le (by unfold Bs;rw[length_map,length_map];exact Nat.le_refl _)]
    exact this
  case o =>
   rintro E ρ ⟨qK,t,qB,u,qJ,ok,rfl,h⟩
   have tl:=ok.ag.ta.few
   have gl:=RZ (f:=Ab qK qB qK) t
   refine⟨_,_,rfl,rfl,λi ρ=>∃k x y m,ρ=DX qK t qB u qJ (.fr (HS qK qB qK t)) (((Aj (Ab qK qB qK) t).take i).flatMap (Bs qK qB qJ t u)) k x y m,⟨_,_,_,_,rfl⟩,λi ρ' x M p=>?_,λρ' p=>?_⟩
   ·obtain⟨k,x1,G,L,rfl⟩:=p
    rw[getElem?_map]at M
    obtain⟨r,d,rfl⟩:=Option.map_eq_some_iff.mp M
    refine EG (C4 _) ?_
    have fl:=MK (qJ:=qJ) ok.ag ((Aj (Ab qK qB qK) t).take i)
    have tk:((Aj (Ab qK qB qK) t).take i).length<=(Aj (Ab qK qB qK) t).length:=by rw[length_take];lia
    refine⟨qK,t,qB,u,qJ,_,r,_,_,_,ok,mem_of_getElem? d,by lia,rfl,λx y m=>⟨.sh (AJ r),x,y,m,?_⟩⟩
    rw[take_add_one,d]
    simp only[Option.toList_some,flatMap_append,flatMap_cons,flatMap_nil,append_nil]
   ·obtain⟨k,x1,G,L,rfl⟩:=p
    rw[length_map,take_of_length_le (Nat.le_refl _),<-HC]
    exact h k x1 G L
  case N =>
   rintro E ρ ⟨qK,t,qB,u,qJ,ok,rfl,h⟩
   refine⟨qK,t,qB,u,qJ,ok,rfl,λk x y m=>?_⟩
   have I:=ok.ag.rows ok.un
   have fl:=MK (qJ:=qJ) ok.ag (Aj (Ab qK qB qK) t)
   have gl:=RZ (f:=Ab qK qB qK) t
   have tl:=ok.ag.ta.few
   rw[<-HC]at fl
   exact⟨Bm qK qB qJ t u,λr=>(AW (Bm qK qB qJ t u) r).getD 0,rfl,by lia,λq O=>by show q.2=(AW (Bm qK qB qJ t u) q.1).getD 0;rw[FU I O];rfl,λJ h1 h2=>⟨rfl,h J h1 h2⟩⟩
  ·obtain⟨qK,t,qB,u,rfl,l1,l2,C,h⟩:=h
   have eb:G6 (Am qK t (Ao qK qB)) (Am qB u (Ao qK qB))=none:=by rw[C.ag];exact Xf _
   have cl:=FX qK qB
   refine⟨qK,t,qB,u,rfl,by lia,by lia,C.ta,C.tb,?_⟩
   rw[eb]
   refine⟨rfl,_,rfl,qK,qB,rfl,by lia,EG (Rt _) ⟨qK,t,_,rfl,El C.ta (by lia) (Ck _ _).1,qB,u,_,rfl,El C.tb (by lia) (Ck _ _).2,⟨KU _,KU _⟩,by rw[length_map,length_map];lia,qK,qB,rfl,l1,l2,λss I B hs=>⟨qK++qB,ss,by rw[show AK (qK++qB)=.tup (qK.map P.str++qB.map P.str) by rw[<-map_append]];rfl,?_,λn g=>mem_append.mpr ((B n).mp g),?_⟩⟩⟩
   ·have:=I.length_le_of_subset (l₂:=qK++qB) λn g=>mem_append.mpr ((B n).mp g)
    rw[length_append]at this
    lia
   ·have un:Uni qK qB ss:=⟨I,λn g=>(B n).mpr (.inl g),λn g=>(B n).mpr (.inr g),λn g=>(B n).mp g⟩
    have:=I.length_le_of_subset (l₂:=qK++qB) λn g=>mem_append.mpr ((B n).mp g)
    rw[length_append]at this
    exact⟨rfl,qK,t,qB,u,ss,⟨l1,l2,C,un,by lia⟩,rfl,h ss un hs⟩
end
end K
namespace K
open PySem L2
section
variable{K:Fg}
def Jp:pF:=λxs K=>∃qK t qC,xs=[.bag,AK qK,AO t,AK qC]/\qK.length<=9/\qK.Nodup/\(∀n∈qC,n∈qK)/\qC.length<=20/\t.length<=50/\Stir qK.length t/\∀t',Stir qK.length t'->Bl t'=t'->Am qK t' qC=Am qK t qC->K (AO t')
structure StOk(qK:List Str)(qC:List Str):Prop where
 l:qK.length<=9
 nd:qK.Nodup
 sub:∀n∈qC,n∈qK
 lp:qC.length<=20
abbrev CY(qK:List Str)(t:Tl)(qC:List Str)(c:Tl)(u a b m f k:S):List S:=[.sh .bag,.sh (AK qK),.sh (AO t),.sh (AK qC),.own (Bz c),u,a,b,m,f,k]
def AAu:pS:=λE ρ=>∃qK t qC,StOk qK qC/\t.length<=50/\Stir qK.length t/\ρ=CY qK t qC t .emp .emp .emp .emp .emp .emp/\∀c u a b m f k,Stir qK.length c->Am qK c qC=Am qK t qC->E.nx (CY qK t qC c u a b m f k)
def AAv:pS:=λE ρ=>∃qK t qC c u a b m f k,StOk qK qC/\c.length<=80/\Stir qK.length c/\ρ=CY qK t qC c u a b m f k/\∀c' a b m f k,Stir qK.length c'->c'.length<=c.length+1->Am qK c' qC=Am qK c qC->E.nx (CY qK t qC c' u a b m f k)
def AAw:pS:=λE ρ=>∃qK t qC c u a q m,∃f:List Int,∃k,StOk qK qC/\c.length<=80/\Stir qK.length c/\q∈c/\1<=m/\m<=q.2/\f.length=qK.length/\(∀x∈f,0<=x/\x<=9)/\ρ=CY qK t qC c u a (.sh (AJ q.1)) (.sh (.int m)) (.own (.lst (f.map .int))) k/\∀c' a b m f k,Stir qK.length c'->c'.length<=c.length+1->Am qK c' qC=Am qK c qC->E.nx (CY qK t qC c' u a b m f k)
def AAx:pS:=λE ρ=>∃qK t qC c u a,∃q:List Int,∃m,∃f:List Int,∃k,StOk qK qC/\q.length=qK.length/\(∀x∈q,0<=x/\x<=9)/\f.length=qK.length/\(∀x∈f,0<=x/\x<=9)/\ρ=CY qK t qC c u a (.sh (AJ q)) m (.own (.lst (f.map .int))) k/\∀(f':List Int) k,f'.length=qK.length->(∀x∈f',0<=x/\x<=9)->AM qK f' qC=AM qK q qC->E.nx (CY qK t qC c u a (.sh (AJ q)) m (.own (.lst (f'.map .int))) k)
def AAy:pS:=λE ρ=>∃qK t qC c u a,∃q:List Int,∃m,∃f:List Int,∃i:Nat,StOk qK qC/\q.length=qK.length/\f.length=qK.length/\i<qK.length/\ρ=CY qK t qC c u a (.sh (AJ q)) m (.own (.lst (f.map .int))) (.sh (.int (i:Int)))/\E.nx (CY qK t qC c u a (.sh (AJ q)) m (.own (.lst ((if qK.getD i ⟨#[]⟩∈qC then f.set i (q.getD i 0)else f).map .int))) (.sh (.int (i:Int))))
def AAz:pS:=λE ρ=>∃qK t qC c u a q m,∃f:List Int,∃k,StOk qK qC/\c.length<=80/\Stir qK.length c/\q∈c/\1<=m/\m<=q.2/\f.length=qK.length/\(∀x∈f,0<=x/\x<=9)/\AM qK f qC=AM qK q.1 qC/\ρ=CY qK t qC c u a (.sh (AJ q.1)) (.sh (.int m)) (.own (.lst (f.map .int))) k/\∀c' a b m f k,Stir qK.length c'->c'.length<=c.length+1->Am qK c' qC=Am qK c qC->E.nx (CY qK t qC c' u a b m f k)
def AA0(qK:List Str)(t:Tl)(qC:List Str)(c:Tl)(u a:S)(q:List Int)(m:S)(i:Nat)(ρ:List S):Prop:=∃(f':List Int) (k:S),ρ=CY qK t qC c u a (.sh (AJ q)) m (.own (.lst (f'.map .int))) k/\f'.length=qK.length/\(∀x∈f',0<=x/\x<=9)/\∀j,j<i->j<qK.length->qK.getD j ⟨#[]⟩∈qC->f'.getD j 0=q.getD j 0
def AA1(qK:List Str)(t:Tl)(qC:List Str)(i:Nat)(ρ:List S):Prop:=∃c u a b m f k,ρ=CY qK t qC c u a b m f k/\Stir qK.length c/\c.length<=50+i/\Am qK c qC=Am qK t qC
theorem AA2(D:Az K mg "_law_stirred" Jj)(T:TxtB mg)(qO:Fn P' w K mg base "_law_pull" 1 ["_law_bag_here","_law_many_here"] (AQ C9))(qS:Fn P' w K mg base "_law_settled" 1 ["_law_counts"] (AQ Es)):Fn P' w K mg base "_law_stirred" 2 ["_law_bag_here","_law_room","_law_rows","_law_part_here"] (AQ Jp):=by
 refine BD D Dp (λ_ _ _ _ _ _ us hl=>Jq hl (λ_ _ _ _=>rfl)) (λxs K h=>?_) (by decide) (λfa a7 A a5 s H E g=>?_)
 ·obtain⟨_,_,_,rfl,_⟩:=h;rfl
 ·have hu:=Dw g
  refine⟨_,(AU (Ax (k:=4) (λ_=>Dp.nd) (BU (λ_=>(Ip rfl g)) Iq (λ_=>T.b_dict) nofun (AA (qv 2) AE)))
 (AU (QS.weak (m:=AAu) (DM (λ_=>PassesOwn.never) (λ_=>rfl) (FF (λ_=>T.b_range) (AA (AZ (λ_=>qO) (λ_=>g.m) (AA (qv 0) (AA Aa AE))) AE)) (FE (k:=5) (λ_=>Dp.nd))
 (Aw.weak (m:=AAv) (Ad (CD (Bf (λ_=>(Y7 g)) Y8 (qv 4) Gm (BR _))
 (AU (Ax (k:=6) (λ_=>Dp.nd) (BS (λ_=>(Qh g)) Qi (λ_=>T.b_sorted) nofun (AA (BU (λ_=>(Ia rfl)) Ic (λ_=>T.b_list) nofun (AA (qv 4) AE)) AE)))
 (AU (Ax (k:=7) (λ_=>Dp.nd) (BC (λ_=>BE) BF (qv 6) (AZ (λ_=>qO) (λ_=>g.m) (AA (qv 0) (AA (BS (λ_=>Cg) Ch (λ_=>T.b_len) nofun (AA (qv 6) AE)) AE))) (λ_ _=>rfl)))
 (AU (Ax (k:=8) (λ_=>Dp.nd) (B2 (λ_=>Cn) Eb Aa (AZ (λ_=>qO) (λ_=>g.m) (AA (qv 0) (AA (Eh (λ_=>hu) (qv 4) (qv 7) (λ_ _=>rfl)) AE)))))
 (AU (IJ (k:=9) (λ_=>Dp.nd) (N:=["_law_bag_here","_law_room","_law_rows","_law_part_here","_law_counts","_law_turn","_law_keys","_law_row","_law_many_here","_law_fresh","_law_at"]) (sc:=AT Jj) (N':=["_law_name","_law_bag_here"]) (qD:=[none,some 0]) ⟨rfl,nofun,nofun,nofun,nofun,rfl,nofun⟩ (by decide) (λ_=>rfl) (DL (λ_=>rfl) (qv 1)) (CN (k:=0) rfl (λ_=>show List.Nodup (["_law_name","_law_bag_here"]:List Str) by decide +kernel)) CH (AZ (λ_=>qO) (λ_=>g.m) (AA (qv 1) (AA Aa AE))))
 (Aw.weak (m:=AAw) (AU (QS.weak (m:=AAx) (DM (λ_=>PassesOwn.never) (λ_=>rfl) (FF (λ_=>T.b_range) (AA (BS (λ_=>Cg) Ch (λ_=>T.b_len) nofun (AA (qv 1) AE)) AE)) (FE (k:=10) (λ_=>Dp.nd))
 (Aw.weak (m:=AAy) (Ad (CD (Bf (λ_=>(IQ g)) IR (BC (λ_=>BE) BF (qv 1) (qv 10) (λ_ _=>rfl)) (qv 3) (by rfl))
 (Ad (WM (k:=9) (qv 10) (BC (λ_=>BE) BF (qv 7) (qv 10) (λ_ _=>rfl))))
 CC)) ?Q)) ?G)
 (Aw.weak (m:=AAz) (AU (Wx (k:=4) (λ_=>hu) (λ_=>Wv) (qv 7) (qv 8))
 (AU (IY (k:=4) (λ_=>hu) (BU (λ_=>Cw) C3 (λ_=>T.b_tuple) nofun (AA (qv 9) AE)) (B2 (λ_=>Cn) Eb (Gk (λ_=>hu) (qv 4) (BU (λ_=>Cw) C3 (λ_=>T.b_tuple) nofun (AA (qv 9) AE)) Aa) (qv 8)))
 (Ad (Ax (k:=4) (λ_=>Dp.nd) (BU (λ_=>(Ip rfl g)) Iq (λ_=>T.b_dict) nofun (AA (AZ (λ_=>qS) (λ_=>g.m) (AA (qv 4) AE)) AE)))))) ?o)) ?v)))))
 CC)) ?U)) ?I)
 (Ad (Ar (AZ (λ_=>qS) (λ_=>g.m) (AA (qv 4) AE)))))),λxs K h=>?_⟩
  case Q =>
   rintro E ρ ⟨qK,t,qC,c,u,a,q,m,f,i,ok,d,L,hi,rfl,h⟩
   have g1:qK[i]?=some (qK.getD i ⟨#[]⟩):=by rw[getD_eq_getElem?_getD,getElem?_eq_getElem hi];rfl
   have a1:atI (qK.map P.str) (i:Int)=some (.str (qK.getD i ⟨#[]⟩)):=Bd (by rw[getElem?_map,g1];rfl)
   have g2:q[i]?=some (q.getD i 0):=by rw[getD_eq_getElem?_getD,getElem?_eq_getElem (by lia)];rfl
   have a2:atI (q.map P.int) (i:Int)=some (.int (q.getD i 0)):=Bd (by rw[getElem?_map,g2];rfl)
   have a3:∀n:Str,((qC.map P.str).any λy=>AI y (.str n))=decide (n∈qC):=λn=>by
    rw[Bool.eq_iff_iff,any_eq_true,decide_eq_true_iff]
    constructor
    ·rintro⟨y,hy,e⟩
     obtain⟨z,hz,rfl⟩:=mem_map.mp hy
     rw[LD,decide_eq_true_iff]at e
     exact e▸hz
    ·exactλJ=>⟨.str n,mem_map_of_mem J,by rw[LD];simp⟩
   have a4:Cf f.length (i:Int)=some i:=MI (by lia)
   simp_arith[a1,a2,a3,a4]
   refine Bj (λz=>?_) (λz=>?_)
   ·rw[if_pos z]at h
    rw[<-map_set]
    exact h
   ·rw[if_neg z]at h
    exact h
  case G =>
   rintro E ρ ⟨qK,t,qC,c,u,a,q,m,f,k,ok,d,rq,L,rf,rfl,h⟩
   have lr:=ok.l
   simp_arith[AS]
   refine⟨by lia,by lia,AA0 qK t qC c u a q m,⟨f,k,rfl,L,rf,λj hj=>absurd hj (Nat.not_lt_zero j)⟩,λi ρ' x B O=>?_,λρ' O=>?_⟩
   ·obtain⟨f',k',rfl,l1,C,e1⟩:=O
    obtain⟨hi,rfl⟩:=GY B
    have hi:i<qK.length:=by lia
    simp_arith[AS]
    refine⟨qK,t,qC,c,u,a,q,m,f',i,ok,d,l1,hi,by simp only[Int.zero_add],_,_,rfl,?_,?_,?_⟩
    ·split
     ·rw[length_set];exact l1
     ·exact l1
    ·intro x B
     split at B
     ·rcases mem_or_eq_of_mem_set B with B|rfl
      ·exact C x B
      ·have g2:q[i]?=some (q.getD i 0):=by rw[getD_eq_getElem?_getD,getElem?_eq_getElem (by lia)];rfl
       exact rq _ (mem_of_getElem? g2)
     ·exact C x B
    ·intro j hj a6 hm
     by_cases e:j=i
     ·subst e
      rw[if_pos hm,getD_eq_getElem?_getD,getElem?_set_self (by lia)];rfl
     ·have:=e1 j (by lia) a6 hm
      split
      ·rw[getD_eq_getElem?_getD,getElem?_set_ne (by lia),<-getD_eq_getElem?_getD];exact this
      ·exact this
   ·obtain⟨f',k',rfl,l1,C,e1⟩:=O
    rw[D1]at e1
    refine h f' k' l1 C ?_
    unfold AM
    refine map_congr_left λn J=>?_
    have hm:=ok.sub n J
    have hl:=EA hm
    refine e1 _ (by lia) hl ?_
    rw[getD_eq_getElem?_getD,(D9 hm).1]
    exact J
  case o =>
   rintro E ρ ⟨qK,t,qC,c,u,a,q,m,f,k,ok,Y,st,d,m1,m2,L,rf,sh,rfl,h⟩
   have dg:BV (c.map (·.1)) (c.map λq=>P.int q.2) q.1=some (.int q.2):=by rw[FN,FU st.nd d];rfl
   obtain⟨so,sl⟩:=ZP st d m1 m2 L rf (by lia)
   have ea:BG c q.1 (q.2 - m)=Al c (q.1,-m):=by unfold Al;rw[FU st.nd d];rfl
   have la:(Al c (q.1,-m)).length<=c.length+1:=Gr _ _ _
   have ra:∀p∈Al c (q.1,-m),p.1.length=qK.length:=Gs st.rows (st.rows q d)
   simp_arith[Es,dg,Ii,ea,HL,HM]
   have l2:(Al (Al c (q.1,-m)) (f,m)).length<=c.length+2:=by
    have:=Gr (Al c (q.1,-m)) f ((AW (Al c (q.1,-m)) f).getD 0+m)
    unfold Al at la this ⊢
    simp only at la this ⊢
    lia
   refine⟨by lia,by lia,Al (Al c (q.1,-m)) (f,m),rfl,by lia,⟨qK.length,Gs ra L⟩,?_,?_⟩
   ·have:=so.len
    show(DV c q.1 m f).length<_
    lia
   ·have e:Gv (Ak (Al (Al c (q.1,-m)) (f,m)))=DV c q.1 m f:=JD so.nd
    rw[e]
    exact h _ _ _ _ _ _ so sl (ZQ st.toTal sh)
  case v =>
   rintro E ρ ⟨qK,t,qC,c,u,a,q,m,f,k,ok,Y,st,d,m1,m2,L,rf,rfl,h⟩
   simp_arith[AS]
   exact⟨qK,t,qC,c,u,a,q.1,_,f,k,ok,st.rows q d,st.rng q d,L,rf,rfl,λf' k h1 h2 h3=>⟨qK,t,qC,c,u,a,q,m,f',k,ok,Y,st,d,m1,m2,h1,h2,h3,rfl,h⟩⟩
  case U =>
   rintro E ρ ⟨qK,t,qC,c,u,a,b,m,f,k,ok,Y,st,rfl,h⟩
   have lr:=ok.l
   simp_arith[C9]
   refine⟨_,⟨_,rfl⟩,?_⟩
   by_cases ce:c=[]
   ·subst ce
    rw[if_neg (by simp)]
    exact h [] _ _ _ _ _ st (by lia) rfl
   ·have cp:0<c.length:=length_pos_iff.mpr ce
    rw[if_pos (by cases c with|nil=>exact absurd rfl ce|cons _ _=>rfl)]
    refine⟨by lia,⟨qK.length,λr g=>by obtain⟨q,d,rfl⟩:=mem_map.mp g;exact st.rows q d⟩,λa0 hp hs=>?_⟩
    have ln:a0.length=c.length:=by rw[hp.length_eq,length_map]
    refine⟨by lia,by lia,λr r0 C=>?_⟩
    obtain⟨n,rfl⟩:=Int.eq_ofNat_of_zero_le r0
    have J:n<a0.length:=by lia
    obtain⟨q,d,e⟩:=mem_map.mp (hp.mem_iff.mp (getElem_mem J))
    have dg:BV (c.map (·.1)) (c.map λq=>P.int q.2) q.1=some (.int q.2):=by rw[FN,FU st.nd d];rfl
    have qp:=st.pos q d
    have qt:=ZO st.pos d
    have tt:=st.tot
    refine⟨AJ q.1,Bd (by rw[getElem?_map,getElem?_eq_getElem J,<-e];rfl),?_⟩
    simp_arith[dg]
    refine⟨by lia,by lia,λmm m0 m1=>⟨by lia,A7.rel (as:=qK) (enc:=P.str) P.int (λ_ x=>0<=x/\x<3) (λs _ M hM=>⟨by decide,by decide,λr r0 C=>hM r _ ⟨r0,C⟩⟩) (λ_=>rfl) (λbs he=>?_)⟩⟩
    simp_arith[AS]
    refine⟨qK,t,qC,c,u,_,q,1+mm,bs,k,ok,Y,st,d,by lia,by lia,he.length.symm,λx B=>?_,rfl,h⟩
    obtain⟨s,_,e⟩:=he.mem x B
    lia
  case I =>
   rintro E ρ ⟨qK,t,qC,ok,lt,st,rfl,h⟩
   simp_arith[C9]
   refine⟨by decide,by decide,λr r0 C=>⟨by lia,by lia,AA1 qK t qC,⟨t,_,_,_,_,_,_,rfl,st,by lia,rfl⟩,λi ρ' x B O=>?_,λρ' O=>?_⟩⟩
   ·obtain⟨c,u,a,b,m,f,k,rfl,sc,Y,ec⟩:=O
    obtain⟨hi,rfl⟩:=GY B
    simp_arith[AS]
    exact⟨qK,t,qC,c,_,a,b,m,f,k,ok,by lia,sc,rfl,λc' a b m f k h1 h2 h3=>⟨c',_,_,_,_,_,_,rfl,h1,by lia,h3.trans ec⟩⟩
   ·obtain⟨c,u,a,b,m,f,k,rfl,sc,Y,ec⟩:=O
    exact h c u a b m f k sc ec
  ·obtain⟨qK,t,qC,rfl,l9,nd,sub,lp,lt,st,h⟩:=h
   simp_arith[Es,JD st.nd]
   refine⟨by lia,qK,t,qC,⟨l9,nd,sub,lp⟩,lt,st,rfl,λc u a b m f k sc ec=>?_⟩
   simp_arith[Es]
   obtain⟨x1,x2,x3⟩:=sc.settle
   have:=sc.len
   exact⟨c,rfl,by lia,⟨qK.length,sc.rows⟩,h _ x1 x2 ((x3 qK qC).trans ec)⟩
end
end K
namespace K
open PySem L2
section
variable{K:Fg}
structure Txt(mg:Str->Option Value):Prop extends TxtB mg where
 g_HIGHEST_ANSWER:∃t,mg "HIGHEST_ANSWER"=some (.int 9 t)
theorem AA3(D:Az K mg "is_row" JR)(T:Txt mg):Fn P' w K mg base "is_row" 1 ["room","row"] (AQ P5):=by
 refine BD D ZX (λ_ _ _ _ _ _ us d=>B0 d (λ_ _=>rfl)) (λxs K h=>?_) (by decide) (λg f A c s H E e=>⟨_,(AU (CD (Bf (λ_=>(D4 e)) D5 (BS (λ_=>Cg) Ch (λ_=>T.b_len) nofun (AA (qv 1) AE)) (BS (λ_=>Cg) Ch (λ_=>T.b_len) nofun (AA (qv 0) AE)) (BR _))
 (Ad (Ar Cy))
 CC)
 (Ad (Ar (BS (λ_=>(GH rfl)) Gh (λ_=>T.b_all) nofun (AA (Bw (N:=["room","row"]) (sc:=AT JR) (N':=["answer"]) (qD:=[none]) ⟨rfl,nofun,nofun,nofun,nofun,rfl,nofun⟩ (by decide) (λ_=>rfl) (DL (λ_=>rfl) (qv 1)) (CN (k:=0) rfl (λ_=>show List.Nodup (["answer"]:List Str) by decide +kernel)) CH (VJ (λ_=>Hh) Ol (λ_=>Hh) Ol Aa (qv 0) (VD (λ_=>T.g_HIGHEST_ANSWER)))) AE))))),λxs K h=>?_⟩)
 ·obtain⟨_,_,rfl,_⟩:=h;rfl
 ·obtain⟨qK,r,rfl,d,h⟩:=h
  simp_arith only[length_map]
  unfold DP at h
  refine Bj (λz=>?_) (λz=>?_)
  ·rw[decide_eq_false (by lia),Bool.false_and]at h
   exact h
  ·rw[decide_eq_true (by lia),Bool.true_and]at h
   refine⟨by lia,A7.map (λx=>.bl (decide (0<=x/\x<=9))) (λ_ _=>rfl) (λx _ M a=>?_) ?_⟩
   ·simp_arith only[AS]
    have a:=a .fr
    refine Bj (λz=>?_) (λz=>?_)
    ·rw[show decide (0<=x/\x<=9)=decide (x<=9)from decide_eq_decide.mpr (by lia)]at a
     exact a
    ·rw[decide_eq_false (by lia)]at a
     exact a
   ·refine⟨r.map λx=>decide (0<=x/\x<=9),by rw[map_map];rfl,?_⟩
    rw[all_map]
    exact h
theorem SC:∀rs:List (List Int),DQ rs=((rs.zip (rs.drop 1)).map λq=>HT.lexLt q.1 q.2).all id
 |[]=>rfl
 |[_]=>rfl
 |a::b::r=>by
  have:=SC (b::r)
  simp only[drop_succ_cons,drop_zero,zip_cons_cons,map_cons,all_cons,id]at this ⊢
  rw[DQ,this]
theorem Ml{α:Type}(xs:List α):cut xs (some 1) none=xs.drop 1:=by
 unfold cut
 cases xs with
 |nil=>simp
 |cons a r=>
  rw[show HT.sIx (a::r).length 0 (some 1)=1 by simp[HT.sIx];try lia,show HT.sIx (a::r).length (a::r).length none=(a::r).length by simp[HT.sIx]]
  simp
theorem AA4(D:Az K mg "rises" JQ)(T:TxtB mg):Fn P' w K mg base "rises" 1 ["things"] (AQ P6):=by
 refine BD D ZW (λ_ _ _ _ _ _ us c=>Dq c (λ_=>rfl)) (λxs K h=>?_) (by decide) (λn l A a s H E f=>⟨_,(Ad (Ar (BS (λ_=>(GH rfl)) Gh (λ_=>T.b_all) nofun (AA (Bw (N:=["things"]) (sc:=AT JQ) (N':=["low","high"]) (qD:=[none,none]) ⟨rfl,nofun,nofun,nofun,nofun,rfl,nofun⟩ (by decide) (λ_=>rfl) (Wa (λ_=>rfl) (λ_=>T.b_zip) (qv 0) (WJ (λ_=>rfl) (qv 0) (WH Aa) WG)) (D2 (i:=0) (j:=1) rfl rfl (λ_=>rfl) (λ_=>rfl) (λ_=>(BI (A1 (i:=0) (show List.Nodup (["low","high"]:List Str) by decide +kernel) rfl (Or.inl rfl)) (BI (A1 (i:=1) (show List.Nodup (["low","high"]:List Str) by decide +kernel) rfl (Or.inl rfl)) Ce)))) CH (KY (λ_=>(WX f)) WZ (qv 0) (qv 1) (BR _))) AE)))),λxs K h=>?_⟩)
 ·obtain⟨_,rfl,_⟩:=h;rfl
 ·obtain⟨rs,rfl,c,h⟩:=h
  simp_arith only[AS]
  rw[Ml,<-map_drop]
  have e:∀xs ys:List (List Int),zipWith D7 (xs.map AJ) (ys.map AJ)=(xs.zip ys).map λq=>D7 (AJ q.1) (AJ q.2):=λxs=>by
   induction xs with
   |nil=>intro ys;rfl
   |cons x xs d=>intro ys;cases ys with
    |nil=>rfl
    |cons y ys=>simp only[map_cons,zipWith_cons_cons,zip_cons_cons,d]
  rw[e,length_map,length_zip]
  refine⟨Po _,by lia,A7.map (λq=>.bl (HT.lexLt q.1 q.2)) (λ_ _=>rfl) (λq _ M g=>?_) ?_⟩
  ·simp_arith only[D7]
   exact g .fr
  ·refine⟨(rs.zip (rs.drop 1)).map λq=>HT.lexLt q.1 q.2,by rw[map_map];rfl,?_⟩
   rw[<-SC]
   exact h
theorem AA5(D:Az K mg "is_tally" HD)(T:TxtB mg)(n:Fn P' w K mg base "is_row" 1 ["room","row"] (AQ P5))(l:Fn P' w K mg base "rises" 1 ["things"] (AQ P6)):Fn P' w K mg base "is_tally" 2 ["room","rows"] (AQ LM):=by
 refine BD D Ze (λ_ _ _ _ _ _ us g=>B0 g (λ_ _=>rfl)) (λxs K h=>?_) (by decide) (λu r A c s H E d=>⟨_,(AU (CD (DK (DJ (BS (λ_=>(GH rfl)) Gh (λ_=>T.b_all) nofun (AA (Bw (N:=["room","rows"]) (sc:=AT HD) (N':=["row","count","room"]) (qD:=[none,none,some 0]) ⟨rfl,nofun,nofun,nofun,nofun,rfl,nofun⟩ (by decide) (λ_=>rfl) (CG (λ_=>rfl) (qv 1)) (D2 (i:=0) (j:=1) rfl rfl (λ_=>rfl) (λ_=>rfl) (λ_=>(BI (A1 (i:=0) (show List.Nodup (["row","count","room"]:List Str) by decide +kernel) rfl (Or.inl rfl)) (BI (A1 (i:=1) (show List.Nodup (["row","count","room"]:List Str) by decide +kernel) rfl (Or.inl rfl)) Ce)))) CH (OK (AZ (λ_=>n) (λ_=>d.m) (AA (qv 2) (AA (qv 0) AE))) (OH (KY (λ_=>M8) Om (qv 1) Aa (BR _))))) AE))))
 (Ad (Ar Cy))
 CC)
 (Ad (Ar (AZ (λ_=>l) (λ_=>d.m) (AA (Bw (N:=["room","rows"]) (sc:=AT HD) (N':=["row","count"]) (qD:=[none,none]) ⟨rfl,nofun,nofun,nofun,nofun,rfl,nofun⟩ (by decide) (λ_=>rfl) (CG (λ_=>rfl) (qv 1)) (D2 (i:=0) (j:=1) rfl rfl (λ_=>rfl) (λ_=>rfl) (λ_=>(BI (A1 (i:=0) (show List.Nodup (["row","count"]:List Str) by decide +kernel) rfl (Or.inl rfl)) (BI (A1 (i:=1) (show List.Nodup (["row","count"]:List Str) by decide +kernel) rfl (Or.inl rfl)) Ce)))) CH (qv 0)) AE))))),λxs K h=>?_⟩)
 ·obtain⟨_,_,rfl,_⟩:=h;rfl
 ·obtain⟨qK,t,rfl,g,o,h⟩:=h
  simp_arith only[length_map]
  refine⟨by lia,A7.map (λq=>.bl (DP qK.length q.1&&decide (1<=q.2))) (λ_ _=>rfl) (λq f M a=>?_) ?_⟩
  ·simp_arith only[AS]
   refine⟨qK,q.1,rfl,o q f,?_⟩
   have a:=a .fr
   cases e:DP qK.length q.1
   ·rw[e,Bool.false_and]at a
    simp_arith only[AS]
    exact a
   ·rw[e,Bool.true_and]at a
    simp_arith only[AS]
    exact a
  ·refine⟨t.map λq=>DP qK.length q.1&&decide (1<=q.2),by rw[map_map];rfl,?_⟩
   unfold Ij at h
   rw[all_map]
   have p:t.all (id ∘ λq:List Int×Int=>DP qK.length q.1&&decide (1<=q.2))=t.all λq=>DP qK.length q.1&&decide (1<=q.2):=rfl
   rw[p]
   cases e:t.all λq=>DP qK.length q.1&&decide (1<=q.2)
   ·rw[e,Bool.false_and]at h
    simp only[if_true]
    exact h
   ·rw[e,Bool.true_and]at h
    simp only[Bool.true_eq_false,if_false]
    refine⟨by lia,A7.map (λq=>AJ q.1) (λ_ _=>C4 _) (λq f M a=>?_) ?_⟩
    ·simp_arith only[AS]
     exact a _
    ·refine⟨t.map (·.1),by rw[map_map];rfl,by rw[length_map];lia,h⟩
end
end K
namespace K
open PySem L2
section
variable{K:Fg}
theorem AA6{c:Stmt}{qF:List Stmt}{p:pS}{Q:VK}(g:PS X c (Da (F4 (Jk K) [] E0 (B8 (Cb 0) B7)) (Cd 1)))(d:Aw (λ_:Unit=>X) qF p)
  (e:p { nx:=λ_=>False,rt:=λx=>x=.bl true } (.emp::.sh .bag::replicate n .emp)) (f:Au K H a (ns.map V.int)) (k:∀H',Q (.bl true) H') :
  ∃t,BY X (c::qF) t/\t { nx:=λ_ H'=>Q .non H',rt:=Q } (some (.ref a)::none::replicate n none) H:=by
 obtain⟨t,h1,h2⟩:=Z3 (n:=n) g d e
 exact⟨t,h1,h2 a ns H Q f k⟩
structure LwOk(one qE:List Str)(t u:Tl):Prop where
 l1:one.length<=6
 l2:qE.length<=6
 ag:Agr one qE t u
 st:Stir one.length t
 su:Stir qE.length u
 ct:Bl t=t
 cu:Bl u=u
structure LwJ(one qE qJ:List Str)(t u J:Tl):Prop extends LwOk one qE t u where
 un:Uni one qE qJ
 su':DR qJ
 pj:J.Perm (Bm one qE qJ t u)
 sj:Bb (J.map (·.1))
structure LwD(ns one qE:List Str)(rows:Tl):Prop where
 n:Nms ns
 s1:one.Sublist ns
 s2:qE.Sublist ns
 d:Drawn ns.length rows
def AA7:pS:=λE ρ=>E.rt (.bl true)/\∃ns one qE rows,LwD ns one qE rows/\ρ=[.emp,.sh .bag,.sh (AK ns),.sh (AK one),.sh (AK qE),.own (AO (Ak rows)),.sh (AK (Ao one qE)),.emp,.emp,.emp,.emp,.emp,.emp,.emp]
def AA8:pS:=λE ρ=>E.rt (.bl true)/\∃ns one qE rows t,LwD ns one qE rows/\Stir one.length t/\Bl t=t/\Am one t (Ao one qE)=Am ns (Ak rows) (Ao one qE)/\ρ=[.emp,.sh .bag,.sh (AK ns),.sh (AK one),.sh (AK qE),.own (AO (Ak rows)),.sh (AK (Ao one qE)),.own (AO t),.emp,.emp,.emp,.emp,.emp,.emp]
def AA9:pS:=λE ρ=>E.rt (.bl true)/\∃ns one qE rows t u,LwOk one qE t u/\ρ=[.emp,.sh .bag,.sh (AK ns),.sh (AK one),.sh (AK qE),.own (AO rows),.sh (AK (Ao one qE)),.own (AO t),.own (AO u),.emp,.emp,.emp,.emp,.emp]
def Mm:pS:=λE ρ=>E.rt (.bl true)/\∃ns one qE rows t u qJ J,LwJ one qE qJ t u J/\ρ=[.emp,.sh .bag,.sh (AK ns),.sh (AK one),.sh (AK qE),.own (AO rows),.sh (AK (Ao one qE)),.own (AO t),.own (AO u),.own (AO J),.sh (AK qJ),.emp,.emp,.emp]
def ABA:pS:=λE ρ=>Mm E ρ
def ABB:pS:=λE ρ=>Mm E ρ
abbrev HU(ns one qE:List Str)(rows t u:Tl)(qJ:List Str)(J:Tl)(a b c:S):List S:=[.emp,.sh .bag,.sh (AK ns),.sh (AK one),.sh (AK qE),.own (AO rows),.sh (AK (Ao one qE)),.fr (AO t),.fr (AO u),.fr (AO J),.sh (AK qJ),a,b,c]
def cntK(qK:List Str)(qF:Tl)(qC:List Str)(h:List Int):Nat:=(qF.filter λq=>decide (AM qK q.1 qC=h)).length
def ABC:pE:=λρ K=>∃qK qF h qC,ρ=[.sh (AK qK),.fr (AO qF),.sh (AJ h),.sh (AK qC)]/\qF.length<=1000/\(∀q∈qF,q.1.length=qK.length)/\qC.length<=100/\(∀n∈qC,n∈qK)/\K (.int (cntK qK qF qC h:Nat)) .fr
def ABD:pS:=λE ρ=>∃ns one qE rows t u qJ J h c,∃x y z:Nat,x<y+z/\ρ=HU ns one qE rows t u qJ J (.sh (AJ h)) c (.own (.lst [.int (x:Int),.int (y:Int),.int (z:Int)]))/\∀v,E.nx (HU ns one qE rows t u qJ J (.sh (AJ h)) c v)
theorem LwJ.ulen{one qE:List Str}{t u J:Tl}(h:LwJ one qE qJ t u J):qJ.length<=12:=by
 have:=h.un.nd.length_le_of_subset (l₂:=one++qE) λn hn=>mem_append.mpr (h.un.s n hn)
 rw[length_append]at this
 have:=h.l1
 have:=h.l2
 lia
theorem LwJ.jlen{one qE:List Str}{t u J:Tl}(h:LwJ one qE qJ t u J):J.length<=1000:=by
 have a:=h.ag.few (qJ:=qJ)
 have b:=h.pj.length_eq
 have:=h.st.len
 have:=h.su.len
 lia
def ABE:pS:=λE ρ=>∃ns one qE rows t u qJ J h c v,LwJ one qE qJ t u J/\h∈Aj (Ab one qE one) t/\ρ=HU ns one qE rows t u qJ J (.sh (AJ h)) c v/\∀v,E.nx (HU ns one qE rows t u qJ J (.sh (AJ h)) c v)
theorem ABF{f:Addr}(F:Fun K "law" "law" EJ f fd)(T:TxtB mg)(zD:Fn P' w K mg base "_law_bag" 1 ["_law_script"] (Jk K))(zE:Fn P' w K mg base "_law_questions" 4 ["_law_bag_here"] (AQ Mc))(zF:Fn P' w K mg base "_law_part" 2 ["_law_bag_here","_law_names_here"] (AQ Md))(zG:Fn P' w K mg base "_law_drawn" 3 ["_law_bag_here","_law_room"] (AQ LL))(zH:Fn P' w K mg base "_law_both" 1 ["_law_one","_law_other"] (AQ Fj))(zI:Fn P' w K mg base "_law_stirred" 2 ["_law_bag_here","_law_room","_law_rows","_law_part_here"] (AQ Jp))
  (zJ:Fn P' w K mg base "_law_portion" 2 ["_law_room","_law_rows","_law_part_here"] (AQ Fp)) (qX:Fn P' w K mg base "_law_row_of" 1 ["_law_room","_law_row","_law_part_here"] (AQ Fk)) (zK:Fn P' w K mg base "_law_all" 1 ["_law_one","_law_other"] (AQ HP)) (zL:Fn P' w K mg base "_law_same" 3 ["_law_found","_law_due"] (AQ Mg)) (zM:Fn P' w K mg base "is_tally" 2 ["room","rows"] (AQ LM)) (zN:Fn P' w K mg base "joined" 5 ["room","rows","other_room","other_rows"] (AQ Mj)):FnOk P' w K mg base DF 6 f fd ["_law_script"] (Jo K):=by
 refine F.ok CW (λvs H Q E h=>?_) (λaa A a8 s H vs Q E o h=>?_)
 ·obtain⟨a,ns,rfl,_⟩:=h;rfl
 ·obtain⟨a,ns,rfl,hS,k⟩:=h
  refine AA6 (n:=12) (B5 (i:=1) CW.nd rfl (Or.inl rfl) (ET zD (o.m) (by rfl) (Ap (pv 0) BA))) (AU (Ax (k:=2) (λ_=>CW.nd) (AZ (λ_=>zE) (λ_=>o.m) (AA (qv 1) AE)))
 (AU (Ax (k:=3) (λ_=>CW.nd) (AZ (λ_=>zF) (λ_=>o.m) (AA (qv 1) (AA (qv 2) AE))))
 (AU (Ax (k:=4) (λ_=>CW.nd) (AZ (λ_=>zF) (λ_=>o.m) (AA (qv 1) (AA (qv 2) AE))))
 (AU (Ax (k:=5) (λ_=>CW.nd) (AZ (λ_=>zG) (λ_=>o.m) (AA (qv 1) (AA (qv 2) AE))))
 (AU (Ax (k:=6) (λ_=>CW.nd) (AZ (λ_=>zH) (λ_=>o.m) (AA (qv 3) (AA (qv 4) AE))))
 (Aw.weak (m:=AA7) (AU (Ax (k:=7) (λ_=>CW.nd) (AZ (λ_=>zI) (λ_=>o.m) (AA (qv 1) (AA (qv 3) (AA (AZ (λ_=>zJ) (λ_=>o.m) (AA (qv 2) (AA (qv 5) (AA (qv 3) AE)))) (AA (qv 6) AE))))))
 (Aw.weak (m:=AA8) (AU (Ax (k:=8) (λ_=>CW.nd) (AZ (λ_=>zI) (λ_=>o.m) (AA (qv 1) (AA (qv 4) (AA (AZ (λ_=>zJ) (λ_=>o.m) (AA (qv 2) (AA (qv 5) (AA (qv 4) AE)))) (AA (qv 6) AE))))))
 (Aw.weak (m:=AA9) (AU (Ax (k:=9) (λ_=>CW.nd) (AZ (λ_=>zN) (λ_=>o.m) (AA (qv 3) (AA (BU (λ_=>E7) Gg (λ_=>T.b_list) nofun (AA (qv 7) AE)) (AA (qv 4) (AA (BU (λ_=>E7) Gg (λ_=>T.b_list) nofun (AA (qv 8) AE)) AE))))))
 (AU (Ax (k:=10) (λ_=>CW.nd) (AZ (λ_=>zK) (λ_=>o.m) (AA (qv 3) (AA (qv 4) AE))))
 (Aw.weak (m:=Mm) (AU (CD (QW.pt (EV (DK (DJ (FK (n:="list") (by simp) (λ_=>rfl) (λ_=>T.b_isinstance) (λ_=>T.b_list) nofun (qv 9)))) (EV (DK (DJ (AZ (λ_=>zM) (λ_=>o.m) (AA (qv 10) (AA (qv 9) AE))))) (GO (DK (DJ (AZ (λ_=>zL) (λ_=>o.m) (AA (qv 9) (AA (BU (λ_=>E7) Gg (λ_=>T.b_list) nofun (AA (qv 9) AE)) AE)))))))))
 (Ad (Ar Cy))
 CC)
 (Aw.weak (m:=ABA) (AU (CD (QW.pt (EV (Bf (λ_=>(D4 o)) D5 (AZ (λ_=>zJ) (λ_=>o.m) (AA (qv 10) (AA (qv 9) (AA (qv 3) AE)))) (qv 7) (BR _)) (GO (Bf (λ_=>(D4 o)) D5 (AZ (λ_=>zJ) (λ_=>o.m) (AA (qv 10) (AA (qv 9) (AA (qv 4) AE)))) (qv 8) (BR _)))))
 (Ad (Ar Cy))
 CC)
 (Aw.weak (m:=ABB) (AU (Ed 8 (Ed 7 (Ed 9 (DM (λ_=>PassesOwn.never) (λ_=>rfl) (CG (λ_=>rfl) (AZ (λ_=>zJ) (λ_=>o.m) (AA (qv 3) (AA (qv 7) (AA (qv 6) AE))))) (IF (ks:=[11,12]) (λ_=>rfl) (λ_=>rfl) (λ_=>(BI (A1 (i:=11) CW.nd rfl (Or.inr rfl)) (BI (A1 (i:=12) CW.nd rfl (Or.inl rfl)) Ce))) rfl)
 (Aw.weak (m:=ABE) (AU (Yc (k:=13) (λ_=>CW.nd) (N:=["_law_script","_law_bag_here","_law_names_here","_law_one","_law_other","_law_rows","_law_part_here","_law_left","_law_right","_law_found","_law_every","_law_here","_law_count","_law_many_here"]) (sc:=AT EJ) (N':=["_law_room","_law_rest","_law_here","_law_part_here"]) (qD:=[none,none,some 11,some 6]) ⟨rfl,nofun,nofun,nofun,nofun,rfl,nofun⟩ (by decide) (λ_=>rfl) (DL (λ_=>rfl) (DI (AA (DI (AA (qv 10) (AA (qv 9) AE))) (AA (DI (AA (qv 3) (AA (qv 7) AE))) (AA (DI (AA (qv 4) (AA (qv 8) AE))) AE))))) (D2 (i:=0) (j:=1) rfl rfl (λ_=>rfl) (λ_=>rfl) (λ_=>(BI (A1 (i:=0) (show List.Nodup (["_law_room","_law_rest","_law_here","_law_part_here"]:List Str) by decide +kernel) rfl (Or.inr rfl)) (BI (A1 (i:=1) (show List.Nodup (["_law_room","_law_rest","_law_here","_law_part_here"]:List Str) by decide +kernel) rfl (Or.inl rfl)) Ce)))) CH (QE.weak (m:=ABC) (BS (λ_=>Cg) Ch (λ_=>T.b_len) nofun (AA (Bw (N:=["_law_room","_law_rest","_law_here","_law_part_here"]) (sc:=⟨.function,[(Str.ofString ".0",.local),(Str.ofString "_law_room",.cell),(Str.ofString "_law_rest",.local),(Str.ofString "len",.globalImplicit),(Str.ofString "_law_here",.cell),(Str.ofString "_law_part_here",.cell)],false,false,[]⟩) (N':=["_law_row","_law_count","_law_here","_law_room","_law_part_here"]) (qD:=[none,none,some 2,some 0,some 3]) ⟨rfl,nofun,nofun,nofun,nofun,rfl,nofun⟩ (by decide) (λ_=>rfl) (CG (λ_=>rfl) (qv 1)) (D2 (i:=0) (j:=1) rfl rfl (λ_=>rfl) (λ_=>rfl) (λ_=>(BI (A1 (i:=0) (show List.Nodup (["_law_row","_law_count","_law_here","_law_room","_law_part_here"]:List Str) by decide +kernel) rfl (Or.inl rfl)) (BI (A1 (i:=1) (show List.Nodup (["_law_row","_law_count","_law_here","_law_room","_law_part_here"]:List Str) by decide +kernel) rfl (Or.inl rfl)) Ce)))) (Ea (Bf (λ_=>(IM o)) IN (AZ (λ_=>qX) (λ_=>o.m) (AA (qv 3) (AA (qv 0) (AA (qv 4) AE)))) (qv 2) (BR _))) Aa) AE)) ?C))
 (Aw.weak (m:=ABD) (Ad (CD (Bf (λ_=>M8) Om (BC (λ_=>BE) BF (qv 13) Aa (λ_ _=>rfl)) (B2 (λ_=>Cn) Eb (BC (λ_=>BE) BF (qv 13) Aa (λ_ _=>rfl)) (BC (λ_=>BE) BF (qv 13) Aa (λ_ _=>rfl))) (BR _))
 (Ad (Ar Cy))
 CC)) ?D)) ?a1)))))
 (Ad (Ar Cy))) ?Y)) ?a0)) ?a4))) ?a5)) ?a6)) ?a7)))))) ?a3 hS k
  case a3 =>
   simp_arith[Mc,Md,LL,Fj]
   intro ns n1 n2 nd hg hs
   refine⟨by lia,λone h1=>⟨by lia,λg h2=>⟨by lia,λrows d=>⟨?_,rfl,ns,one,g,rows,⟨⟨n1,n2,nd,Qp hs⟩,h1,h2,d⟩,rfl⟩⟩⟩⟩
   have:=h1.length_le
   lia
  case a7 =>
   rintro E ρ ⟨B,ns,one,g,rows,d,rfl⟩
   simp_arith[Fp,Jp]
   have st:=(Rl d.d).settle.1
   have l1:=d.s1.length_le
   have ln:=d.n.len
   have lc:=FX one g
   have ls:=Lo ns (Ak rows) one
   have lr:=FP rows
   have ld:=d.d.len
   refine⟨El st.toTal (by lia) (λn G=>d.s1.subset G),by lia,d.n.nd.sublist d.s1,(Ck one g).1,by lia,by lia,st.share ns one,λt' h1 h2 h3=>⟨B,ns,one,g,rows,t',d,h1,h2,?_,rfl⟩⟩
   rw[h3]
   exact Qx _ (Ck one g).1
  case a6 =>
   rintro E ρ ⟨B,ns,one,g,rows,t,d,a2,ct,sh,rfl⟩
   simp_arith[Fp,Jp]
   have st:=(Rl d.d).settle.1
   have l0:=d.s1.length_le
   have l1:=d.s2.length_le
   have ln:=d.n.len
   have lc:=FX one g
   have ls:=Lo ns (Ak rows) g
   have lr:=FP rows
   have ld:=d.d.len
   refine⟨El st.toTal (by lia) (λn G=>d.s2.subset G),by lia,d.n.nd.sublist d.s2,(Ck one g).2,by lia,by lia,st.share ns g,λt' h1 h2 h3=>⟨B,ns,one,g,Ak rows,t,t',⟨by lia,by lia,⟨d.n.nd.sublist d.s1,d.n.nd.sublist d.s2,a2.toTal,h1.toTal,?_⟩,a2,h1,ct,h2⟩,rfl⟩⟩
   rw[sh,h3]
   exact(Qx _ (Ck one g).2).symm
  case C =>
   rintro ρ K ⟨qK,qF,h,qC,rfl,l1,l2,l3,l4,hK⟩
   simp_arith[Fk]
   refine⟨by lia,A7.filter (λq=>decide (AM qK q.1 qC=h)) (λ_=>.int 1) (λ_ _ _=>rfl) (λq U M L=>?_) ?_⟩
   ·simp_arith[Fk]
    have L:=L .fr
    refine⟨l3,l2 q U,l4,Bj (λz=>?_) (λz=>?_)⟩
    ·rw[if_pos (by simpa using z)]at L;exact L
    ·rw[if_neg (by simpa using z)]at L;exact L
   ·simp_arith[AS]
    exact hK
  case a5 =>
   rintro E ρ ⟨B,ns,one,g,rows,t,u,ok,rfl⟩
   simp_arith[Mj,HP]
   have l1:=ok.l1
   have l2:=ok.l2
   refine⟨by lia,by lia,ok.ag,λqJ un su J I hs=>⟨by lia,by lia,λss nd hm a9=>?_⟩⟩
   have e:=ZS nd un.nd hm un.mem a9 su
   subst e
   exact⟨B,ns,one,g,rows,t,u,_,J,{ toLwOk:=ok,un:=un,su':=su,pj:=I,sj:=hs },rfl⟩
  case a4 =>
   rintro E ρ ⟨B,ns,one,g,rows,t,u,qJ,J,ok,rfl⟩
   simp_arith[LM,Mg]
   have ul:=ok.ulen
   obtain⟨y1,O,y3,y4,y5⟩:=ok.ag.tally ok.un ok.st.rng ok.su.rng ok.pj ok.sj
   have jl:=ok.jlen
   refine⟨by lia,λq U=>by rw[O q U];lia,?_⟩
   rw[y1,if_neg (by simp)]
   exact⟨by lia,λq U=>by rw[O q U];lia,B,ns,one,g,rows,t,u,qJ,J,ok,rfl⟩
  case a0 =>
   rintro E ρ ⟨B,ns,one,g,rows,t,u,qJ,J,ok,rfl⟩
   simp_arith[Fp]
   have l1:=ok.l1
   have l2:=ok.l2
   have jl:=ok.jlen
   obtain⟨y1,O,y3,y4,y5⟩:=ok.ag.tally ok.un ok.st.rng ok.su.rng ok.pj ok.sj
   obtain⟨s1,s2⟩:=ok.ag.shares ok.un ok.pj
   refine⟨⟨by lia,ok.un.l,by lia,O⟩,?_⟩
   rw[s1,ok.ct,if_neg (by simp)]
   refine⟨⟨by lia,ok.un.r,by lia,O⟩,?_⟩
   rw[s2,ok.cu,if_neg (by simp)]
   exact⟨B,ns,one,g,rows,t,u,qJ,J,ok,rfl⟩
  case Y =>
   rintro E ρ ⟨B,ns,one,g,rows,t,u,qJ,J,ok,rfl⟩
   simp_arith[Fp]
   have l1:=ok.l1
   have lc:=FX one g
   refine⟨El ok.st.toTal (by lia) (Ck one g).1,λi ρ=>∃a b c,ρ=HU ns one g rows t u qJ J a b c,⟨_,_,_,rfl⟩,λi ρ' x hx hI=>?_,λρ' hI=>B⟩
   obtain⟨a,b,c,rfl⟩:=hI
   rw[getElem?_map]at hx
   obtain⟨q,U,rfl⟩:=Option.map_eq_some_iff.mp hx
   simp_arith[AS]
   obtain⟨p,I,e⟩:=Ro (mem_of_getElem? U)
   exact⟨ns,one,g,rows,t,u,qJ,J,q.1,_,_,ok,HA.mpr ⟨p,I,e.symm⟩,rfl,λv=>⟨_,_,_,rfl⟩⟩
  case D =>
   rintro E ρ ⟨ns,one,g,rows,t,u,qJ,J,h,c,x,y,z,lt,rfl,G⟩
   simp_arith[EF,ZM,B4]
   rw[if_neg (by lia)]
   exact G _
  case a1 =>
   rintro E ρ ⟨ns,one,g,rows,t,u,qJ,J,h,c,v,ok,hh,rfl,G⟩
   simp_arith[AS]
   have l1:=ok.l1
   have l2:=ok.l2
   have ul:=ok.ulen
   have jl:=ok.jlen
   have lc:=FX one g
   have lt:=ok.st.len
   have lu:=ok.su.len
   obtain⟨y1,O,y3,y4,y5⟩:=ok.ag.tally ok.un ok.st.rng ok.su.rng ok.pj ok.sj
   have key:∀p∈[(qJ,J),(one,t),(g,u)],p.2.length<=1000/\(∀q∈p.2,q.1.length=p.1.length)/\∀n∈Ao one g,n∈p.1:=λp I=>by
    simp only[mem_cons,not_mem_nil,or_false]at I
    rcases I with rfl|rfl|rfl
    ·exact⟨by simpa using jl,O,λn G=>ok.un.l n ((Ck one g).1 n G)⟩
    ·exact⟨by show t.length<=1000;lia,ok.st.rows,(Ck one g).1⟩
    ·exact⟨by show u.length<=1000;lia,ok.su.rows,(Ck one g).2⟩
   refine⟨by decide,A7.map (as:=[(qJ,J),(one,t),(g,u)]) (enc:=λp:List Str×Tl=>.tup [AK p.1,AO p.2]) (λp=>.int (cntK p.1 p.2 (Ao one g) h:Nat)) (λ_ _=>rfl) (λp I M L=>?_) ?_⟩
   ·simp_arith[AS]
    obtain⟨k1,k2,k3⟩:=key p I
    exact⟨p.1,p.2,h,Ao one g,rfl,k1,k2,by lia,k3,L _⟩
   ·simp_arith[AS]
    refine⟨ns,one,g,rows,t,u,qJ,J,h,c,_,_,_,?_,rfl,G⟩
    exact ok.ag.count ok.un ok.pj hh
end
abbrev AF(K:Fg)(n:Str)(st:Stmt):Prop:=∃(a:Addr) (od an:Option Addr) (sl:Array (Option Value)) (oc kV dc pm cd ct:Value),PySem.W.nsIn K mainGlobals n=some (some (.ref a))/\K.lookup a=some ⟨oc,od,.func (PySem.W.fnOf n n (Dd st) (Cr st) (AT st) .none kV dc pm an cd ct),sl⟩/\PySem.W.codeIn K cd n=true/\PySem.W.keepIn K (.ref a)=true
abbrev Bt(K:Fg)(n:Str):Prop:=PySem.W.nsIn K mainGlobals n=some none
theorem AF.of{K:Fg}{n:Str}{st:Stmt}{od an:Option Addr}{sl:Array (Option Value)}{oc kV f pm c ct:Value}(h1:PySem.W.nsIn K mainGlobals n=some (some (.ref a)))(h2:K.lookup a=some ⟨oc,od,.func (PySem.W.fnOf n n (Dd st) (Cr st) (AT st) .none kV f pm an c ct),sl⟩)(e:PySem.W.codeIn K c n=true)(d:PySem.W.keepIn K (.ref a)=true):AF K n st:=⟨_,_,_,_,_,_,_,_,_,_,h1,h2,e,d⟩
theorem AF.at{K:Fg}{n:Str}{st:Stmt}(p:AF K n st)(X:K.In h)(G:h.Ns mainGlobals mg):Az K mg n st:=by
 obtain⟨_,_,_,_,_,_,_,_,_,_,h1,h2,c,a⟩:=p
 exact⟨_,_,Nh (st:=st) h2 c a,PySem.W.mg_of X G h1⟩
theorem all_mk{l:PySem.W.OpenLaw}{K:Fg}{fa:Addr}(X:K.In h)(G:h.Ns mainGlobals mg)(hfa:mg "law"=some (.ref fa))
  {u_HIGHEST_ANSWER:Tok} (d0:AF K "rises" JQ) (d1:AF K "is_row" JR) (d2:AF K "within" JS) (d3:AF K "united" MM) (d4:AF K "common" JT) (d5:AF K "places" JU) (d6:AF K "picked" JV) (d7:AF K "is_tally" HD) (d8:AF K "summed" JW) (d9:AF K "shared" JY) (d10:AF K "bar" JZ) (d11:AF K "grouped" MN) (d12:AF K "corners" HG) (d13:AF K "joined" MO) (d14:AF K "_law_bag" MQ) (d15:AF K "_law_pull" MP) (d16:AF K "_law_word" Jc) (d17:AF K "_law_names" MR) (d18:AF K "_law_questions" MS) (d19:AF K "_law_part" Jd) (d20:AF K "_law_answers" Je) (d21:AF K "_law_many" MT) (d22:AF K "_law_settled" Ja) (d23:AF K "_law_drawn" MU) (d24:AF K "_law_both" Jg) (d25:AF K "_law_row_of" Jh) (d26:AF K "_law_portion" MV) (d27:AF K "_law_all" MW) (d28:AF K "_law_whole" MX) (d29:AF K "_law_tuple" Ji) (d30:AF K "_law_same" MY) (d31:AF K "_law_stirred" Jj) (d32:AF K "law" EJ) (hb_len:Bt K "len") (hb_list:Bt K "list") (hb_range:Bt K "range") (hb_isinstance:Bt K "isinstance") (hb_bool:Bt K "bool") (hb_int:Bt K "int") (hb_tuple:Bt K "tuple") (hb_all:Bt K "all") (hb_any:Bt K "any") (hb_sorted:Bt K "sorted") (hb_set:Bt K "set") (hb_sum:Bt K "sum") (hb_dict:Bt K "dict") (hb_zip:Bt K "zip") (hb_min:Bt K "min") (hb_max:Bt K "max") (hg_HIGHEST_ANSWER:PySem.W.nsIn K mainGlobals "HIGHEST_ANSWER"=some (some (.int 9 u_HIGHEST_ANSWER))) :
  ∃fd:FuncData,(∀(s:Shared) (v:Value),BindsTo s fd ⟨[v],[]⟩ [("_law_script",v)])/\∀base:Heap,K.In base->base.Ns mainGlobals mg->FnOk l.prog w K mg base DF 6 fa fd ["_law_script"] (Jo K):=by
 obtain⟨aff,odf,anf,slf,ocf,kVf,dcf,pmf,cdf,ctf,h1f,h2f,h3f,h4f⟩:=d32
 have V_HIGHEST_ANSWER:=PySem.W.mg_of X G hg_HIGHEST_ANSWER
 have e:=hfa.symm.trans (PySem.W.mg_of X G h1f)
 cases e
 have TT:Txt mg:={ b_len:=PySem.W.mg_none_of X G hb_len,b_list:=PySem.W.mg_none_of X G hb_list,b_range:=PySem.W.mg_none_of X G hb_range,b_isinstance:=PySem.W.mg_none_of X G hb_isinstance,b_bool:=PySem.W.mg_none_of X G hb_bool,b_int:=PySem.W.mg_none_of X G hb_int,b_tuple:=PySem.W.mg_none_of X G hb_tuple,b_all:=PySem.W.mg_none_of X G hb_all,b_any:=PySem.W.mg_none_of X G hb_any,b_sorted:=PySem.W.mg_none_of X G hb_sorted,b_set:=PySem.W.mg_none_of X G hb_set,b_sum:=PySem.W.mg_none_of X G hb_sum,b_dict:=PySem.W.mg_none_of X G hb_dict,b_zip:=PySem.W.mg_none_of X G hb_zip,b_min:=PySem.W.mg_none_of X G hb_min,b_max:=PySem.W.mg_none_of X G hb_max,g_HIGHEST_ANSWER:=⟨_,V_HIGHEST_ANSWER⟩ }
 have T:TxtB mg:=TT.toTxtB
 refine⟨PySem.W.fnOf "law" "law" (Dd EJ) (Cr EJ) (AT EJ) .none kVf dcf pmf anf cdf ctf,λs v=>.of_eq rfl,λbase _ _=>?_⟩
 have Gpull:=Zs (P:=l.prog) (w:=w) (base:=base) (d15.at X G) T
 have GpullP:=Z0 Gpull
 have Gset:=Z7 (P':=l.prog) (w:=w) (base:=base) (d22.at X G) T
 have Gq:=AAQ (d18.at X G) T GpullP (Z1 (Zz (d17.at X G) T Gpull (Zu (d16.at X G) T Gpull)))
 have Gdrawn:=AAC (d23.at X G) T GpullP (Z4 (d20.at X G) T GpullP) (Z6 (d21.at X G) T GpullP) Gset
 have Gro:=AAG (P':=l.prog) (w:=w) (base:=base) (d25.at X G) T
 have Gwh:=AAU (P':=l.prog) (w:=w) (base:=base) (d28.at X G) T
 have Gpl:=AAH (d5.at X G) T (AAD (P':=l.prog) (w:=w) (base:=base) (d2.at X G) T)
 have Gpi:=AAI (P':=l.prog) (w:=w) (base:=base) (d6.at X G) T
 have Gsh:=AAM (d9.at X G) T Gpl Gpi (AAL (d8.at X G) T)
 have Gcm:=AAE (P':=l.prog) (w:=w) (base:=base) (d4.at X G) T
 have Gjo:=AAt (d13.at X G) T (AAd (d10.at X G) T Gcm Gsh) Gcm (AAj (d11.at X G) T Gpl Gpi) Gpl (AAe (d3.at X G) T) (AAn (d12.at X G) T) Gpi
 exact ABF (Nh (st:=EJ) h2f h3f h4f) T (Zp (d14.at X G) T) Gq (AAT (d19.at X G) T GpullP) Gdrawn (AAF (d24.at X G) T) (AA2 (d31.at X G) T GpullP Gset) (AAP (d26.at X G) T Gro Gset) Gro (AAf (d27.at X G) T) (AAc (d30.at X G) T (AAV (d29.at X G) T Gwh) Gwh) (AA5 (d7.at X G) T (AA3 (d1.at X G) TT) (AA4 (d0.at X G) T)) Gjo
theorem walk{l:PySem.W.OpenLaw}{q:Program}{loose:List Str}{XP:(Str->Option Value)->Heap->Prop}{YP:World->Heap->Prop}{d:DefRec}{K:Params->Fg}(hn:l.most=some 63)(hdf:d.params.defaults=[])
  (hY:∀(w:World) (h:Heap),YP w h->(K w.params).In h)
  (F:∀(w:World) (mg:Str->Option Value) (fa:Addr) (h:Heap),(K w.params).In h->h.Ns mainGlobals mg->mg d.name=some (.ref fa) ->
   ∃fd:FuncData,(∀(s:Shared) (u:Value),BindsTo s fd ⟨[u],[]⟩ [("_law_script",u)])/\∀base:Heap,(K w.params).In base->base.Ns mainGlobals mg->FnOk l.prog w (K w.params) mg base DF 6 fa fd ["_law_script"] (Jo (K w.params))) :
  PySem.W.WalkO q loose XP YP l.row.toRowW d [] (λf vs=>PySem.call f vs) :=
 L2.walk_of (n:=63) (k:=6) (x:="_law_script") (CX:=λ_=>DF) (sp:=λw=>Jo (K w.params)) hn (by decide) hdf ⟨rfl,by decide,by decide⟩ hY F (λ_ _ a ns hl _ hS=>⟨a,ns,rfl,hS,λ_=>rfl⟩) λ_ _ _ _ _ z=>z
end K
structure PySem.W.Fast:Prop where(tw10001749230622078776 tw10009686849197416173 tw10243243698625495595 tw10261773445205834653 tw10286131301886785195 tw10612849381181890807 tw1062207327182040352 tw10647126633924222531 tw10695356865817433505 tw10708077401575144476 tw10716621668925028280 tw1101536916835896308 tw1116230161764507354 tw1118050780600020464 tw11204573704411524456 tw11258592531881973522 tw11260025811517274509 tw11304916937248905363 tw11350556076880798481 tw11395544166342450433 tw11401826966554337472 tw11435084627743656606 tw11460083986816536019 tw11539544496665873913 tw11543496821371713289 tw11564613195045669700 tw1166216731547573872 tw11700449604252650596 tw1177320370202065703 tw11808223534716103004 tw11904637407246904968 tw11935984082463098506 tw12091580200523266625 tw12237547171045598565 tw12292840632527436995 tw12335673380679112242 tw12338618704604560775 tw12367179099518092909 tw12402703235817519331 tw12539221757507750635 tw12542298100448560866 tw12723546487281260750 tw12786319221975011060 tw12869735779406549293 tw12872414497534475379 tw12889032896736505671 tw1311763218418882069 tw1312043656925585214 tw1317321750998789672 tw13245288617067403125 tw13293236316111177027 tw13324471449911479026 tw13531643319944420417 tw13629165843957213205 tw13822053095996909661 tw13876842852976597778 tw13889177612535328367 tw13902786696844680174 tw140513101505678305 tw14286853133770385713 tw14309336732623796830 tw14330931296787989676 tw14473268288419628421 tw14517747678935683539 tw14525754021064307544 tw14655514734941682645 tw14678723999665069717 tw1473346220549062273 tw14769427723802570088 tw14880613170996218557 tw14971750479076896816 tw15003044848895811879 tw1501436353798418691 tw15046314773182061874 tw15071967732665590463 tw15127741412057267664 tw1513177160453473304 tw15154391971494018997 tw15167340401675673265 tw15176221795901554052 tw1526100991351364330 tw15429192974694558949 tw1543299056158369649 tw15535192591271871076 tw15580399314554952483 tw15643570241173871054 tw15780325917123378260 tw15808124683188531690 tw15808136266298046927 tw15837566846317897623 tw15881820067048767833 tw15998172226861542503 tw16010037081985936414 tw16059050544165483792 tw16118302827160956317 tw16404247787989809176 tw16489943442108570343 tw16521481849960574680 tw16546392577039914999 tw16550406555384537926 tw16669240597373773478 tw16684848794253121758 tw16690459073401789409 tw16941203277227758 tw16956245179616956411 tw170437607404385038 tw17089863615738803138 tw17103160601348611534 tw17353516220913728879 tw17474732454460598965 tw17546679981308269017 tw17571871183427984671 tw17632520961401050755 tw17711703233047384144 tw17863349548165043363 tw17948179426403632726 tw17953458230484113125 tw18045500330507343624 tw18073557819335669225 tw18147382362714659703 tw18233175691627379522 tw18265863261340133951 tw18363654461013053124 tw18368065917753508310 tw1929227076452695825 tw1942881779071885994 tw2420636910840724651 tw2438898253859774184 tw2467350405336702628 tw2497892208218511351 tw2631957790016585906 tw272060457702420441 tw2805645237099699691 tw2809832550320535753 tw2984087017403917297 tw3155566566452375716 tw3170481118548086111 tw333472888597148062 tw3707093018532086700 tw3721426375180682262 tw3734439264830371656 tw3883333284092590565 tw3904850166653310650 tw3961706826602459984 tw3981381224198825754 tw4072076862798086815 tw4100047598869016697 tw4204402822452821593 tw4344532929092267407 tw4429879666719308110 tw4590724803150255474 tw4596161031972005048 tw4758791533016244601 tw4909652092794123937 tw4981983089582156293 tw502074777484383540 tw5136280816146946448 tw5179949886139664574 tw5190853008055696624 tw5391119767646113124 tw5464090845567204563 tw549592455003486219 tw5505948974268366558 tw5765495309964441170 tw5782624992454948361 tw5919524100965777470 tw5991563106964041795 tw6056594667656918457 tw6088397613474605502 tw612732731579015866 tw6138436019399298629 tw6138620606741048811 tw6227058458842358470 tw6237738630978698378 tw6289792046313968452 tw630845832823505717 tw6314524338426713510 tw6343117001053461691 tw6436695552652167919 tw6642047630438667462 tw6720454194160122650 tw6756056191727259803 tw6805415374681004508 tw6869595421045888650 tw6910161800478526894 tw6941961304276664964 tw6945964571311295262 tw7091308074486983651 tw7123744465008604524 tw7435289553967118930 tw7557763431319963290 tw7645050979743155815 tw7648442079988831056 tw7659890387796700979 tw7668855751315041062 tw7733672650579320679 tw8012692107807103573 tw8045681047244454892 tw8093475424853419768 tw8243233817357317646 tw840161131743160923 tw8444164228151973730 tw8576240921535307409 tw8629768321335711757 tw864679475880355158 tw8703928491143306384 tw870590060897893010 tw8872924537864991392 tw8877299329091193093 tw8886958566847859589 tw889893200876209181 tw8958166843423666507 tw9073606893107014393 tw9102313342243619672 tw9134235045557646610 tw9148096810074550896 tw9164385934887158528 tw9169581156288231360 tw9287333753914779069 tw9399398452457938114 tw9466185590809963927 tw9565870952640175670 tw9601189296732268195 tw9659757635958539920 tw966225899750060894 tw9663153447513547785 tw9823511779387022193 tw9910193363031373845 tw9937938932827376990:True)
open PySem PySem.W PyProof.Rows
set_option maxRecDepth 100000 in
set_option maxHeartbeats 0 in
theorem PySem.Challenge.cw_roomtally_k13_whole_two_rooms_have_one_c_holds : PySem.Challenge.rw_roomtally_k13_whole_two_rooms_have_one_c.Holds := by
  w_on; o_law; k_head; (case hw => w_witness2)
  k_fill
  refine K.walk (l := PySem.Challenge.rw_roomtally_k13_whole_two_rooms_have_one_c) rfl rfl (λw h Y => PySem.W.kIn_of Y) ?F
  case F =>
    intro w mg fa h KX G hmg
    refine' K.all_mk KX G hmg ?_ ?_ ?_ ?_ ?_ ?_ ?_ ?_ ?_ ?_ ?_ ?_ ?_ ?_ ?_ ?_ ?_ ?_ ?_ ?_ ?_ ?_ ?_ ?_ ?_ ?_ ?_ ?_ ?_ ?_ ?_ ?_ ?_ ?_ ?_ ?_ ?_ ?_ ?_ ?_ ?_ ?_ ?_ ?_ ?_ ?_ ?_ ?_ ?_ ?hg_HIGHEST_ANSWER
    (case hg_HIGHEST_ANSWER => k_is)
    all_goals first|exact K.AF.of (by k_is) (by k_is) (by k_is) (by k_is)|(show _=_;k_is)
