import PyProof.Rows.All
import Wide.All
import OpenK.AllK
import Wide.FinOn
import Lean
import PyProof.EqAt
import PyProof.EqKinds
import PyProof.TupleCall
import PyProof.NeKinds
import PyProof.Draws
import PyProof.ZipIter
import KE.KSortTup
import PyProof.DictWalks
import KE.KDictList
import KE.KDictSum
import PyProof.AttrMissSeq
import PyProof.MinMaxWalk
import PyProof.Rows.SortRuns
import PyProof.Rows.SortKey
import PyProof.ExcBaseAll.ValueError
import OpenK.KOwn
import PyProof.InstStoreFacts
import PyProof.ExcInit
import PyProof.RulesDel
import PyProof.RulesAs
import KE.KItemsList
import PyProof.SetRoads
import PyProof.WalksMore
import PyProof.Rows.SetFrom
import PyProof.IsRules
import PyProof.Cells
import PyProof.ListRange
import PyProof.ListTruth
import KE.KEqDict
import KE.KRevIter
import PySem.Challenge.RW_roomtally_k38_deeds_written_and_read
set_option Elab.async false
set_option linter.all false
set_option compiler.extract_closed false
set_option maxRecDepth 100000
set_option maxHeartbeats 4000000
open PySem List
abbrev VS:=Value->Shared->Prop
abbrev oI:=@Option.some.inj
abbrev Fg:=PySem.W.Frag
local macro_rules
 |`(nofun)=>`(by decide +kernel)
variable{fd:FuncData}{ps N:List Str}{us:List Value}{x qual:Str}{u v' u':Value}{a it p l1 l2:Addr}{h h' base:Heap}{w:World}{qA:List (Addr×Obj)}{s:Shared}{t' i j n lo m:Nat}{A:Around}{E Q:VS}{pos pos' qI qH tp:Pos}{st:SortSt}{c tg:Expr}{es elts:List Expr}{r ns:List Int}{mg:Str->Option Value}{scope:Scope}{prog P':Program}{qE:Array Value}{env:Env}{q:List Int×Int}{qB:List (Option Nat)}{Z:Addr->Prop}{Kf:Fg}{O:KeyOrd}{qD:Array Keyed}
abbrev wB:=@PySem.wpAny_bind
abbrev wP:=@PySem.wpAny_pure
local macro_rules
 |`(tactic| trivial)=>`(tactic| first|exact .inl rfl|exact .inr rfl|exact .inr (.inl rfl)|exact .inr (.inr rfl)|assumption)
namespace L2
open PySem PySem.Spec PyProof.Rows
theorem BD(h:us.length=1)(k:∀a,bindArgs fd ⟨[a],[]⟩=pure (ps.zip [a])):bindArgs fd ⟨us,[]⟩=pure (ps.zip us):=by
 cases us with
 |nil=>cases h
 |cons a l=>cases l with
  |nil=>exact k a
  |cons _ _=>cases h
theorem C5(h:us.length=2)(k:∀a b,bindArgs fd ⟨[a,b],[]⟩=pure (ps.zip [a,b])):bindArgs fd ⟨us,[]⟩=pure (ps.zip us):=by
 rcases us with _|⟨a,_|⟨b,_|⟨_,_⟩⟩⟩<;>first|exact k _ _|cases h
theorem Ob(h:us.length=3)(k:∀a b c,bindArgs fd ⟨[a,b,c],[]⟩=pure (ps.zip [a,b,c])):bindArgs fd ⟨us,[]⟩=pure (ps.zip us):=by
 rcases us with _|⟨a,_|⟨b,_|⟨c,_|⟨_,_⟩⟩⟩⟩<;>first|exact k _ _ _|cases h
theorem of_len4(h:us.length=4)(k:∀a b c d,bindArgs fd ⟨[a,b,c,d],[]⟩=pure (ps.zip [a,b,c,d])):bindArgs fd ⟨us,[]⟩=pure (ps.zip us):=by
 rcases us with _|⟨a,_|⟨b,_|⟨c,_|⟨d,_|⟨_,_⟩⟩⟩⟩⟩<;>first|exact k _ _ _ _|cases h
noncomputable abbrev AO:=Sum Int Str
noncomputable def EA:AO->Value->Bool
 |.inl k,v=>Value.isInt k v
 |.inr x,v=>Value.isStrOf x v
noncomputable def Oc(w:World):AO->Int
 |.inl k=>hashInt k
 |.inr x=>hashStr w x
theorem C6:∀{k:AO} {v:Value},EA k v=true->(∃i t,k=Sum.inl i/\v=Value.int i t)\/(∃x t,k=Sum.inr x/\v=Value.str x t)
 |.inl i,v,h=>by
  obtain⟨t,e⟩:=Value.isInt_shape (k:=i) (v:=v) h
  exact .inl ⟨i,t,rfl,e⟩
 |.inr x,v,h=>by
  obtain⟨t,e⟩:=Value.isStrOf_shape (x:=x) (v:=v) h
  exact .inr ⟨x,t,rfl,e⟩
theorem Od(i:Int)(t:Tok):EA (.inl i) (.int i t)=true:=by simp[EA,Value.isInt]
theorem Oe(x:Str)(t:Tok):EA (.inr x) (.str x t)=true:=by simp[EA,Value.isStrOf]
theorem Og(a b:Int):decide ((Sum.inl a:AO)=Sum.inl b)=(a==b):=by
 by_cases e:a=b
 ·subst e;simp
 ·have h:¬(Sum.inl a:AO)=Sum.inl b:=λq=>e (Sum.inl.inj q)
  rw[decide_eq_false h]
  exact(beq_eq_false_iff_ne.mpr e).symm
theorem Oh(a b:Str):decide ((Sum.inr a:AO)=Sum.inr b)=decide (a=b):=by
 by_cases e:a=b
 ·subst e;simp
 ·have h:¬(Sum.inr a:AO)=Sum.inr b:=λq=>e (Sum.inr.inj q)
  rw[decide_eq_false h,decide_eq_false e]
theorem Oi(a:Int)(b:Str):decide ((Sum.inl a:AO)=Sum.inr b)=false:=decide_eq_false (λq=>nomatch q)
theorem Oj(a:Str)(b:Int):decide ((Sum.inr a:AO)=Sum.inl b)=false:=decide_eq_false (λq=>nomatch q)
noncomputable def B9(prog:Program)(w:World):PySem.KeyKind prog w AO where
 is:=EA
 hash:=Oc w
 inj:=λv a b ha hb=>by
  rcases C6 ha with⟨i,t,rfl,rfl⟩|⟨x,t,rfl,rfl⟩
  ·rcases C6 hb with⟨j,u,rfl,e⟩|⟨y,u,rfl,e⟩
   ·injection e with e1 _;rw[e1]
   ·exact nomatch e
  ·rcases C6 hb with⟨j,u,rfl,e⟩|⟨y,u,rfl,e⟩
   ·exact nomatch e
   ·injection e with e1 _;rw[e1]
 byValue:=λk v h=>by
  rcases C6 h with⟨i,t,rfl,rfl⟩|⟨x,t,rfl,rfl⟩<;>rfl
 pyHash:=λhv h=>by
  rcases C6 hv with⟨i,t,rfl,rfl⟩|⟨x,t,rfl,rfl⟩
  ·exact wpAny_pyHash_int h
  ·exact wpAny_pyHash_str h
 eqBool:=λhu hv h=>by
  rcases C6 hu with⟨i,t,rfl,rfl⟩|⟨x,t,rfl,rfl⟩
  ·rcases C6 hv with⟨j,u,rfl,rfl⟩|⟨y,u,rfl,rfl⟩
   ·rw[Og]at h;exact wpAny_eqBool_int h
   ·rw[Oi]at h;exact SeqAt.EqAt.int_str i t y u _ _ _ _ h
  ·rcases C6 hv with⟨j,u,rfl,rfl⟩|⟨y,u,rfl,rfl⟩
   ·rw[Oj]at h;exact SeqAt.EqAt.str_int x t j u _ _ _ _ h
   ·rw[Oh]at h;exact wpAny_eqBool_str h
 «strs»:=λk x t v h=>by
  rcases C6 h with⟨i,u,rfl,e⟩|⟨y,u,rfl,e⟩
  ·exact nomatch e
  ·injection e with e1 _
   subst e1
   cases v<;>rfl
theorem Ol(prog:Program)(w:World)(i:Int)(t:Tok):(B9 prog w).is (.inl i) (.int i t)=true:=Od i t
theorem Om(prog:Program)(w:World)(x:Str)(t:Tok):(B9 prog w).is (.inr x) (.str x t)=true:=Oe x t
inductive V where
 |non|bl (b:Bool)|int (i:Int)|str (x:Str)|byt (b:Array UInt8)|flt (b:UInt64)|ref (a:Addr)|ty (n:String)
 deriving DecidableEq
def AI:V->Value->Prop
 |.non,u=>u=Value.none
 |.bl b,u=>u=Value.bool b
 |.int i,u=>∃t,u=Value.int i t
 |.str x,u=>∃t,u=Value.str x t
 |.byt b,u=>∃t,u=Value.bytes b t
 |.flt b,u=>∃t,u=Value.float b t
 |.ref a,u=>u=Value.ref a
 |.ty n,u=>u=Value.type n
noncomputable abbrev AM:List V->List Value->Prop:=Paired AI
theorem AM.length{xs:List V}(r:AM xs us):xs.length=us.length:=Paired.length r
theorem AM.get:∀{xs:List V} {us:List Value} {i:Nat} {x:V},AM xs us->xs[i]?=some x->∃u,us[i]?=some u/\AI x u
 |_,_,_,_,.nil,e=>by simp at e
 |_,_,0,_,.cons r _,e=>by simp at e;subst e;exact⟨_,rfl,r⟩
 |_,_,i+1,x,.cons _ t,e=>by
  obtain⟨u,h1,h2⟩:=AM.get (i:=i) (x:=x) t (by simpa using e)
  exact⟨u,by simpa using h1,h2⟩
theorem AM.set{x:V}{u:Value}(r:AI x u):∀{xs:List V} {us:List Value} (i:Nat),AM xs us->AM (xs.set i x) (us.set i u)
 |_,_,_,.nil=>.nil
 |_,_,0,.cons _ t=>.cons r t
 |_,_,i+1,.cons q t=>.cons q (AM.set r i t)
theorem AM.append:∀{xs ys:List V} {us ws:List Value},AM xs us->AM ys ws->AM (xs++ys) (us++ws)
 |_,_,_,_,.nil,s=>s
 |_,_,_,_,.cons r t,s=>.cons r (AM.append t s)
theorem AM.take:∀{xs:List V} {us:List Value} (n:Nat),AM xs us->AM (xs.take n) (us.take n)
 |_,_,0,_=>.nil
 |_,_,_+1,.nil=>.nil
 |_,_,n+1,.cons r t=>.cons r (AM.take n t)
theorem AM.drop:∀{xs:List V} {us:List Value} (n:Nat),AM xs us->AM (xs.drop n) (us.drop n)
 |_,_,0,r=>r
 |_,_,_+1,.nil=>.nil
 |_,_,n+1,.cons _ t=>AM.drop n t
def Ce:Option V->Option Value->Prop
 |some v,some u=>AI v u
 |none,none=>True
 |_,_=>False
noncomputable def KV{κ:Type}:List (κ×V)->List (κ×Value)->Prop:=Paired λ(p:κ×V) (q:κ×Value)=>p.1=q.1/\AI p.2 q.2
noncomputable def kV:AO->V
 |.inl i=>.int i
 |.inr x=>.str x
inductive HO where
 |lst (xs:List V)
 |tup (xs:List V)
 |dK (qF:List (AO×V))|dT (qF:List (List AO×V))
 |set (S:Int->Bool) (n:Nat)
 |ins (C dx:Addr) (fs:List (Str×V))
 |own (x:Addr)
 |xd (fs:List (Str×V))
 |met (f x:Addr)
 |rng (lo hi:Int)
 |frz (o:Obj) (u:HO)
 |tbl (ps:Array Value)
 |ext (φ:Heap->Prop)
noncomputable abbrev Hp:=Addr->Option HO
noncomputable def AE(H:Hp)(a:Addr)(o:HO):Hp:=λb=>if b=a then some o else H b
theorem Al{H:Hp}{o:HO}:AE H a o a=some o:=by unfold AE;rw[if_pos rfl]
theorem AV{H:Hp}{b:Addr}{o:HO}(h:b≠a):AE H a o b=H b:=by unfold AE;rw[if_neg h]
theorem KN{H:Hp}{o u:HO}:AE (AE H a o) a u=AE H a u:=by
 funext b;unfold AE;split<;>rfl
theorem Hg{H:Hp}{b:Addr}{o u:HO}(h:H a=some o)(h':H b=some u)(d:o≠u):a≠b:=by
 intro e;subst e;rw[h]at h';exact d (oI h')
theorem A7{H:Hp}{b:Addr}{o:HO}(h:H a=some o)(h':H b=none):a≠b:=by
 intro e;subst e;rw[h]at h';cases h'
def Cf(h:Heap)(a:Addr)(items:Array Value):Prop:=∃o,h.get? a=some o/\o.cls=.type "tuple"/\(∃n,o.data=.seq items n)/\o.dict=none
theorem Cf.tup{items:Array Value}(x:Cf h a items):IsTup h a items:=let⟨o,e,c,d,_⟩:=x;⟨o,e,c,d⟩
theorem Cf.new(h:Heap)(items:Array Value):Cf (h.push { cls:=.type "tuple",data:=.seq items }) h.objs.size items:=⟨_,Heap.get?_push_size _ rfl,rfl,⟨_,rfl⟩,rfl⟩
section
variable(P:Program)(w:World)
def Az(H:Hp)(h:Heap)(a:Addr):HO->Prop
 |.lst xs=>xs.length<=sizeLine/\∃(qE:List Value) (n:Nat),AM xs qE/\h.get? a=some { cls:=.type "list",data:=.seq qE.toArray n }
 |.tup xs=>xs.length<=sizeLine/\∃qE:List Value,AM xs qE/\Cf h a qE.toArray
 |.dK qF=>qF.length<=sizeLine/\(a==sysModules)=false/\∃vs,KV qF vs/\h.DictOf (B9 P w) a vs
 |.dT qF=>qF.length<=sizeLine/\(a==sysModules)=false/\∃xs:List (List AO×Addr×Value),
   Paired (λ(p:List AO×V) (q:List AO×Addr×Value)=>p.1=q.1/\H q.2.1=some (.tup (p.1.map kV))/\AI p.2 q.2.2) qF xs /\
   ∃o es ep,h.get? a=some o/\o.ExactDict/\o.data=.dict es ep/\es.toList=xs.map (entryOfKey (tupleKind (B9 P w)))/\(xs.map (·.1)).Nodup
 |.set S n=>h.SetOf (intKind P w) a S n
 |.ins C dx fs=>H dx=some (.own a)/\fs.length<=1000/\dx≠a/\h.get? a=some (PySem.W.instObj C dx) /\
   ∃mA,h.Ns1 dx mA/\(∀f,Ce (fs.lookup f) (mA f))/\PySem.Within mA (fs.map (·.1))
 |.own _=>∃o,h.get? a=some o
 |.xd fs=>∃mA,h.Ns1 a mA/\∀f,Ce (fs.lookup f) (mA f)
 |.rng lo hi=>∃t u v,h.get? a=some { cls:=.type "range",data:=.fields #[.int lo t,.int hi u,.int 1 v] }
 |.frz o u=>h.get? a=some o/\Az H h a u
 |.tbl ps=>h.get? a=some { cls:=.none,data:=.fields ps }
 |.met f x=>h.get? a=some (PySem.W.methodObj (.ref f) (.ref x))
 |.ext φ=>φ h/\(∃o,h.get? a=some o)/\∀h1 h2:Heap,φ h1->(∀o,h1.get? a=some o->h2.get? a=some o)->φ h2
def Ar(H:Hp)(h:Heap):Prop:=∀a o,H a=some o->Az P w H h a o
end
section
variable{P:Program}{H H':Hp}{o:HO}
theorem Az.lt(x:Az P w H h a o):a<h.objs.size:=by
 cases o with
 |lst xs=>obtain⟨_,_,_,_,e⟩:=x;exact Heap.lt_size e
 |tup xs=>obtain⟨_,_,_,p⟩:=x;exact p.tup.lt
 |dK qF=>obtain⟨_,_,_,_,o,_,_,e,_⟩:=x;exact Heap.lt_size e
 |dT qF=>obtain⟨_,_,_,_,o,_,_,e,_⟩:=x;exact Heap.lt_size e
 |set S n=>obtain⟨o,_,_,_,e,_⟩:=x;exact Heap.lt_size e
 |ins C dx fs=>obtain⟨_,_,_,e,_⟩:=x;exact Heap.lt_size e
 |own y=>obtain⟨_,e⟩:=x;exact Heap.lt_size e
 |xd fs=>obtain⟨_,⟨_,_,_,e,_⟩,_⟩:=x;exact Heap.lt_size e
 |rng lo hi=>obtain⟨_,_,_,e⟩:=x;exact Heap.lt_size e
 |frz ob u=>obtain⟨e,_⟩:=x;exact Heap.lt_size e
 |tbl ps=>exact Heap.lt_size (show h.get? a=some _ from x)
 |met f y=>exact Heap.lt_size (show h.get? a=some _ from x)
 |ext φ=>obtain⟨_,⟨_,e⟩,_⟩:=x;exact Heap.lt_size e
theorem Paired.mapP{α β:Type}{F G:α->β->Prop}:∀{l₁:List α} {l₂:List β},Paired F l₁ l₂->(∀a b,F a b->G a b)->Paired G l₁ l₂
 |_,_,.nil,_=>.nil
 |_,_,.cons r t,f=>.cons (f _ _ r) (Paired.mapP t f)
theorem Az.stay(x:Az P w H h a o)(k:∀b u,(b=a\/H b=some (.own a))->h.get? b=some u->h'.get? b=some u)
  (ho:∀b,H b=some (.own a)->H' b=some (.own a)) (ht:∀b xs,H b=some (.tup xs)->H' b=some (.tup xs)):Az P w H' h' a o:=by
 induction o with
 |lst xs=>obtain⟨z,qE,n,r,e⟩:=x;exact⟨z,qE,n,r,k _ _ (.inl rfl) e⟩
 |tup xs=>obtain⟨z,qE,r,ob,e,c⟩:=x;exact⟨z,qE,r,ob,k _ _ (.inl rfl) e,c⟩
 |dK qF=>obtain⟨z,y,vs,r,ob,es,ep,e,c⟩:=x;exact⟨z,y,vs,r,ob,es,ep,k _ _ (.inl rfl) e,c⟩
 |dT qF =>
  obtain⟨z,y,xs,r,ob,es,ep,e,c⟩:=x
  exact⟨z,y,xs,Paired.mapP r λp q z=>⟨z.1,ht _ _ z.2.1,z.2.2⟩,ob,es,ep,k _ _ (.inl rfl) e,c⟩
 |set S n=>obtain⟨ob,es,ep,t,e,c⟩:=x;exact⟨ob,es,ep,t,k _ _ (.inl rfl) e,c⟩
 |ins C dx fs =>
  obtain⟨d,z,ne,e,mA,⟨od,es,ep,e2,c⟩,r⟩:=x
  exact⟨ho _ d,z,ne,k _ _ (.inl rfl) e,mA,⟨od,es,ep,k _ _ (.inr d) e2,c⟩,r⟩
 |own y=>obtain⟨ob,e⟩:=x;exact⟨ob,k _ _ (.inl rfl) e⟩
 |xd fs=>obtain⟨mA,⟨od,es,ep,e,c⟩,r⟩:=x;exact⟨mA,⟨od,es,ep,k _ _ (.inl rfl) e,c⟩,r⟩
 |rng lo hi=>obtain⟨t,u,v,e⟩:=x;exact⟨t,u,v,k _ _ (.inl rfl) e⟩
 |frz ob u ih=>obtain⟨e,q⟩:=x;exact⟨k _ _ (.inl rfl) e,ih q⟩
 |tbl ps =>
  have e:h.get? a=some { cls:=.none,data:=.fields ps }:=x
  show h'.get? a=some { cls:=.none,data:=.fields ps }
  exact k a _ (.inl rfl) e
 |met f y =>
  have e:h.get? a=some (PySem.W.methodObj (.ref f) (.ref y)):=x
  show h'.get? a=some (PySem.W.methodObj (.ref f) (.ref y))
  exact k a _ (.inl rfl) e
 |ext φ=>obtain⟨p,⟨o,e⟩,st⟩:=x;exact⟨st _ _ p λo q=>k _ _ (.inl rfl) q,⟨o,k _ _ (.inl rfl) e⟩,st⟩
theorem Ar.lt(x:Ar P w H h)(e:H a=some o):a<h.objs.size:=(x a o e).lt
theorem Ar.fresh(x:Ar P w H h)(e:h.objs.size<=a):H a=none:=by
 cases q:H a with
 |none=>rfl
 |some u=>exact absurd (Nat.lt_of_lt_of_le (x.lt q) e) (Nat.lt_irrefl _)
theorem Ar.kept(x:Ar P w H h)(k:∀b u,h.get? b=some u->h'.get? b=some u):Ar P w H h':=λa o e =>
 (x a o e).stay (λb u _ q=>k b u q) (λ_ q=>q) λ_ _ q=>q
theorem Ar.laid(x:Ar P w H h)(k:∀b u,h.get? b=some u->h'.get? b=some u)(hp:h.objs.size<=a)(new:Az P w (AE H a o) h' a o):Ar P w (AE H a o) h':=λb u e=>by
 have hn:=x.fresh hp
 by_cases hb:b=a
 ·subst hb;rw[Al]at e;cases e;exact new
 ·rw[AV hb]at e
  exact(x b u e).stay (λc v _ q=>k c v q) (λc q=>by rw[AV (A7 q hn)];exact q) λc xs q=>by rw[AV (A7 q hn)];exact q
end
def Rd(H:Hp)(a:Addr)(u:HO):Prop:=H a=some u\/∃o,H a=some (.frz o u)
theorem Rd.ok{P:Program}{H:Hp}{u:HO}(r:Rd H a u)(x:Ar P w H h):Az P w H h a u:=by
 rcases r with r|⟨o,r⟩
 ·exact x a u r
 ·obtain⟨_,q⟩:=x a _ r
  exact q
def Ep:Option HO->Prop
 |some (.lst _)=>True
 |some (.dK _)=>True
 |some (.dT _)=>True
 |some (.set _ _)=>True
 |some (.ins _ _ _)=>True
 |some (.ext _)=>True
 |_=>False
section
variable{P:Program}{H:Hp}{x e:Addr}{o':HO}
theorem Ar.write(ok:Ar P w H h)(mu:Ep (H x))(he:e=x\/H e=some (.own x))(k:∀b u,b≠e->h.get? b=some u->h'.get? b=some u)(heo:∃u,h'.get? e=some u)
  (new:Az P w (AE H x o') h' x o'):Ar P w (AE H x o') h':=λb u q=>by
 have nown:∀c y,H c=some (.own y)->c≠x:=λc y r z=>by subst z;rw[r]at mu;exact mu
 have ntup:∀c xs,H c=some (.tup xs)->c≠x:=λc xs r z=>by subst z;rw[r]at mu;exact mu
 by_cases hb:b=x
 ·subst hb;rw[Al]at q;cases q;exact new
 ·rw[AV hb]at q
  by_cases hbe:b=e
  ·have q':H b=some (.own x):=by
    rcases he with z|z
    ·exact absurd (hbe.trans z) hb
    ·rw[hbe];exact z
   rw[q]at q';cases q'
   obtain⟨v,hv⟩:=heo
   exact⟨v,by rw[hbe];exact hv⟩
  ·refine(ok b u q).stay (λc v hc r=>k c v ?_ r) (λc r=>by rw[AV (nown c b r)];exact r) λc xs r=>by rw[AV (ntup c xs r)];exact r
   rcases hc with rfl|hc
   ·exact hbe
   ·rintro rfl
    rcases he with z|z
    ·exact nown c b hc z
    ·rw[hc]at z;cases z;exact hb rfl
end
structure Un(fs ex:List Addr)(H H':Hp)(h h':Heap):Prop where
 keep:∀b o,h.get? b=some o->H b=none->b∉fs->b∉ex->h'.get? b=some o
 slot:∀b o,h.get? b=some o->H b=none->b∈fs->b∉ex->∃sl,h'.get? b=some { o with slots:=sl }
 free:∀b o,h.get? b=some o->H b=none->b∉ex->H' b=none
 there:∀b o,h.get? b=some o->b∉ex->∃o',h'.get? b=some o'
 tups:∀b xs,H b=some (.tup xs)->H' b=some (.tup xs)
 frzs:∀b o u,H b=some (.frz o u)->H' b=some (.frz o u)
 tbls:∀b ps,H b=some (.tbl ps)->∃more,H' b=some (.tbl (ps++more))
section
variable{fs fs' ex ex':List Addr}{H H1 H2:Hp}{h1 h2:Heap}{x e:Addr}{o:HO}
theorem Un.any(u:Un fs ex H H1 h h1){b:Addr}{ob:Obj}(q:h.get? b=some ob)(n:H b=none)(hx:b∉ex):∃sl,h1.get? b=some { ob with slots:=sl }:=by
 by_cases hb:b∈fs
 ·exact u.slot b ob q n hb hx
 ·exact⟨ob.slots,u.keep b ob q n hb hx⟩
theorem Un.trans(a:Un fs ex H H1 h h1)(b:Un fs ex H1 H2 h1 h2):Un fs ex H H2 h h2 where
 keep:=λc ob q n hc hx=>b.keep c ob (a.keep c ob q n hc hx) (a.free c ob q n hx) hc hx
 slot:=λc ob q n hc hx=>by
  obtain⟨sl,e1⟩:=a.slot c ob q n hc hx
  obtain⟨sl',e2⟩:=b.slot c _ e1 (a.free c ob q n hx) hc hx
  exact⟨sl',e2⟩
 free:=λc ob q n hx=>by
  obtain⟨o',e1⟩:=a.there c ob q hx
  exact b.free c o' e1 (a.free c ob q n hx) hx
 there:=λc ob q hx=>by
  obtain⟨o',e1⟩:=a.there c ob q hx
  exact b.there c o' e1 hx
 tups:=λc xs q=>b.tups c xs (a.tups c xs q)
 frzs:=λc ob xs q=>b.frzs c ob xs (a.frzs c ob xs q)
 tbls:=λc ps q=>by
  obtain⟨m1,e1⟩:=a.tbls c ps q
  obtain⟨m2,e2⟩:=b.tbls c _ e1
  exact⟨m1++m2,by rw[e2,Array.append_assoc]⟩
theorem Un.kept(k:∀b u,h.get? b=some u->h'.get? b=some u):Un fs ex H H h h' :=
 ⟨λb ob q _ _ _=>k b ob q,λb ob q _ _ _=>⟨ob.slots,k b ob q⟩,λ_ _ _ n _=>n,λb ob q _=>⟨ob,k b ob q⟩,λ_ _ q=>q,λ_ _ _ q=>q,λ_ ps q=>⟨#[],by rw[q];simp⟩⟩
theorem Un.refl:Un fs ex H H h h:=Un.kept λ_ _ q=>q
theorem Un.laid(k:∀b u,h.get? b=some u->h'.get? b=some u)(hp:h.objs.size<=a)(hn:H a=none):Un fs ex H (AE H a o) h h' where
 keep:=λb u q _ _ _=>k b u q
 slot:=λb u q _ _ _=>⟨u.slots,k b u q⟩
 free:=λb u q n _=>by rw[AV (Nat.ne_of_lt (Nat.lt_of_lt_of_le (Heap.lt_size q) hp))];exact n
 there:=λb u q _=>⟨u,k b u q⟩
 tups:=λb xs q=>by rw[AV (A7 q hn)];exact q
 frzs:=λb u xs q=>by rw[AV (A7 q hn)];exact q
 tbls:=λb ps q=>⟨#[],by rw[AV (A7 q hn),q];simp⟩
theorem Un.write(mu:Ep (H x))(he:e=x\/H e=some (.own x))(k:∀b u,b≠e->h.get? b=some u->h'.get? b=some u)(heo:∃u,h'.get? e=some u):Un fs ex H (AE H x o) h h':=by
 have hx:∀b,H b=none->b≠x:=λb n z=>by subst z;rw[n]at mu;exact mu
 have hb:∀b,H b=none->b≠e:=λb n z=>by
  subst z
  rcases he with r|r
  ·exact hx b n r
  ·rw[n]at r;cases r
 have hm:∀b u,H b=some u->¬Ep (some u)->b≠x:=λb u q nm z=>by subst z;rw[q]at mu;exact nm mu
 refine⟨λb u q n _ _=>k b u (hb b n) q,λb u q n _ _=>⟨u.slots,k b u (hb b n) q⟩,λb u q n _=>by rw[AV (hx b n)];exact n,λb u q _=>?_,
  λb xs q=>by rw[AV (hm b _ q λz=>z)];exact q,λb u xs q=>by rw[AV (hm b _ q λz=>z)];exact q,λb ps q=>⟨#[],by rw[AV (hm b _ q λz=>z),q];simp⟩⟩
 by_cases hbe:b=e
 ·subst hbe;exact heo
 ·exact⟨u,k b u hbe q⟩
end
noncomputable def Ff(h:Heap)(H:Hp):List Addr:=(List.range h.objs.size).filter λa=>(H a).isSome
noncomputable def C7(h:Heap)(H:Hp):Heap:=PySem.W.hideAll h (Ff h H)
theorem Oo(h:Heap)(H:Hp):(C7 h H).objs.size=h.objs.size:=PySem.W.hideAll_size _ _
theorem Op{H:Hp}{b:Addr}{o:Obj}(e:h.get? b=some o)(n:H b=none):(C7 h H).get? b=some o :=
 PySem.W.hideAll_get _ e λhm=>by
  have q:(H b).isSome=true:=(mem_filter.mp hm).2
  rw[n]at q;simp at q
theorem Oq{H:Hp}{b:Addr}{o:Obj}(e:(C7 h H).get? b=some o):h.get? b=some o/\H b=none:=by
 have e':h.get? b=some o:=PySem.W.of_hideAll (Ff h H) e
 refine⟨e',?_⟩
 cases q:H b with
 |none=>rfl
 |some x =>
  have hm:b∈Ff h H:=mem_filter.mpr ⟨mem_range.mpr (Heap.lt_size e'),by simp[q]⟩
  have z:(C7 h H).get? b=none:=PySem.W.hideAll_none (Ff h H) hm
  rw[z]at e;cases e
noncomputable def Os(g h:Heap)(L:Addr):List (Addr×Obj):=(List.range h.objs.size).filterMap λa=>if a=L\/(g.get? a).isSome=true then none else(h.get? a).map λo=>(a,o)
noncomputable def qC(g h:Heap)(L d:Addr):List (Addr×Obj):=(Os g h L).filter λp=>decide (p.1≠d)
structure Mod(K:Fg)(mg:Str->Option Value)(base:Heap):Prop where
 kin:K.In base
 glob:base.Ns mainGlobals mg
 blt:∃mb,base.Ns builtinsNs mb/\∀x:Str,x≠"__name__"->mb x=bootBuiltins x
 nolimit:base.NoLimit
structure Cx where
 prog:Program
 w:World
 K:Fg
 mg:Str->Option Value
 base:Heap
 A:Around
 N:List Str
 s₀:Shared
 H₀:Hp
 env:Env
 outer:List Env
 stack:List Env
 ex:List Addr
 fn:Str->Bool
 calm:Bool
 pn:List (Addr×Obj)
 xe:VS
end L2
variable{H H' H1 H2 Hs:L2.Hp}{o:L2.HO}{X:L2.Cx}{v:L2.V}{vs:List L2.V}
namespace L2
open PySem PySem.Spec PyProof.Rows
noncomputable def CA(l:List Env):List Addr:=l.filterMap (·.frame)
noncomputable abbrev Cx.fs(X:Cx):List Addr:=CA X.outer
def EB(sc:Scope)(x:Str):Prop:=sc.names.lookup x=some .local\/sc.names.lookup x=some .cell\/sc.names.lookup x=some .free
def DQ(sc:Scope)(x:Str):Prop:=sc.names.lookup x=some .local\/sc.names.lookup x=some .cell
def Ot(env:Env)(h:Heap)(m:Str->Option Value)(x:Str)(u:Value):Prop :=
 (env.kindOf x=some .local/\m x=some u)\/((env.kindOf x=some .cell\/env.kindOf x=some .free)/\∃c,env.cells.lookup x=some c/\h.IsCell c (some u))
structure Cx.Ok(X:Cx):Prop where
 mod:Mod X.K X.mg X.base
 kind:X.env.scope.kind=.function
 glob:X.env.globals=mainGlobals
 blt:X.env.builtins=builtinsNs
 above:X.s₀.heap.objs.size<=X.env.locals
 inj:∀x y c,X.env.cells.lookup x=some c->X.env.cells.lookup y=some c->x=y
 has:∀x,(X.env.kindOf x=some .cell\/X.env.kindOf x=some .free)->∃c,X.env.cells.lookup x=some c
 cab:∀x c,X.fn x=true->X.env.cells.lookup x=some c->X.s₀.heap.objs.size<=c
 hd:X.calm=true->X.A.handled=none
 frames:X.A.frames=some X.stack
 stk:X.stack=X.outer\/(X.stack=X.env::X.outer/\X.env.frame=some X.env.locals)
 exf:∀b∈X.ex,b≠X.env.locals/\∀x c,X.env.cells.lookup x=some c->c≠b
 bs:∀b o,X.base.get? b=some o->X.s₀.heap.get? b=some o/\X.H₀ b=none
 bsz:X.base.objs.size<=X.s₀.heap.objs.size
 noex:∀b o,X.base.get? b=some o->b∉X.ex
 exfs:∀b∈X.ex,b∉X.fs
 funs:X.s₀.heap.FunFrames X.base X.outer
 frf:∀b∈X.fs,X.H₀ b=none
structure Inv(X:Cx)(qA:List (Addr×Obj))(σ:List (Option V))(H:Hp)(s:Shared):Prop where
 ok:X.Ok
 os:s.os=X.s₀.os
 bare:AllBare s.gens
 base:Un X.fs X.ex X.H₀ H X.s₀.heap s.heap
 loc:∃m,s.heap.Ns X.env.locals m/\∀(i:Nat) (x:Str) (v:V),X.N[i]?=some x->σ[i]?=some (some v)->EB X.env.scope x->∃u,AI v u/\Ot X.env s.heap m x u
 cell:∀x c,X.env.cells.lookup x=some c->∃v,s.heap.IsCell c v
 free:H X.env.locals=none
 freeC:∀x c,X.env.cells.lookup x=some c->H c=none
 pin:∀p∈X.pn++qA,s.heap.get? p.1=some p.2/\H p.1=none/\p.1≠X.env.locals/\p.1∉X.fs/\∀v,p.2.data≠.cell v
 hok:Ar X.prog X.w H s.heap
 len:σ.length=X.N.length
section
variable{σ:List (Option V)}
theorem Cx.Ok.nofr(ok:X.Ok){b:Addr}{o:Obj}(e:X.base.get? b=some o):b∉X.fs:=λhb=>by
 have:=(ok.funs.mem hb).1
 rw[e]at this;cases this
theorem Inv.bs(I:Inv X qA σ H s):∀b o,X.base.get? b=some o->s.heap.get? b=some o/\H b=none:=λb o e =>
 ⟨I.base.keep b o (I.ok.bs b o e).1 (I.ok.bs b o e).2 (I.ok.nofr e) (I.ok.noex b o e),I.base.free b o (I.ok.bs b o e).1 (I.ok.bs b o e).2 (I.ok.noex b o e)⟩
theorem Inv.bk(I:Inv X qA σ H s):∀b o,X.base.get? b=some o->s.heap.get? b=some o:=λb o e=>(I.bs b o e).1
theorem Inv.mod(I:Inv X qA σ H s):Mod X.K X.mg X.base:=I.ok.mod
theorem Inv.kIn(I:Inv X qA σ H s):X.K.In s.heap:=I.ok.mod.kin.keeps I.bk
theorem Inv.lt(I:Inv X qA σ H s):X.env.locals<s.heap.objs.size:=let⟨_,hn,_⟩:=I.loc;hn.lt
theorem Inv.sz(I:Inv X qA σ H s):X.s₀.heap.objs.size<=s.heap.objs.size:=Nat.le_trans I.ok.above (Nat.le_of_lt I.lt)
theorem Inv.nofs(I:Inv X qA σ H s)(h:s.heap.objs.size<=a):a∉X.fs:=λhb=>by
 obtain⟨_,o,ho,_⟩:=I.ok.funs.mem hb
 exact absurd (Nat.lt_of_lt_of_le (Heap.lt_size ho) (Nat.le_trans I.sz h)) (Nat.lt_irrefl _)
theorem Inv.cne(I:Inv X qA σ H s):∀x c,X.env.cells.lookup x=some c->c≠X.env.locals:=λx c e z=>by
 obtain⟨v,o,ho,hd⟩:=I.cell x c e
 obtain⟨m,⟨o',es,ep,ho',hd',_⟩,_⟩:=I.loc
 rw[z,ho']at ho;cases ho;rw[hd']at hd;cases hd
theorem Inv.funs(I:Inv X qA σ H s):s.heap.FunFrames X.base X.outer:=by
 have all:∀(l:List Env),(∀b∈CA l,b∈X.fs)->X.s₀.heap.FunFrames X.base l->s.heap.FunFrames X.base l:=by
  intro l
  induction l with
  |nil=>intro _ _;trivial
  |cons env r ih =>
   intro hs hl
   obtain⟨hk,⟨L,o,hf,hn,ho,hd⟩,hr⟩:=hl
   have hL:L∈X.fs:=hs L (by unfold CA;rw[filterMap_cons,hf];exact mem_cons_self)
   obtain⟨sl,e⟩:=I.base.slot L o ho (I.ok.frf L hL) hL λz=>I.ok.exfs L z hL
   exact⟨hk,⟨L,_,hf,hn,e,hd⟩,ih (λb hb=>hs b (by unfold CA;rw[filterMap_cons,hf];exact mem_cons_of_mem _ hb)) hr⟩
 exact all X.outer (λ_ hb=>hb) I.ok.funs
theorem Inv.stack(I:Inv X qA σ H s):s.heap.FunFrames X.base X.stack:=by
 rcases I.ok.stk with e|⟨e,hf⟩
 ·rw[e];exact I.funs
 ·rw[e]
  obtain⟨m,hn,_⟩:=I.loc
  refine .cons (by rw[I.ok.kind];decide) hf hn ?_ I.funs
  exact Heap.get?_none_of_le (Nat.le_trans I.ok.bsz I.ok.above)
theorem Inv.stkSub(I:Inv X qA σ H s):∀b∈CA X.stack,b∈X.env.locals::X.fs:=λb hb=>by
 rcases I.ok.stk with e|⟨e,hf⟩
 ·rw[e]at hb;exact mem_cons_of_mem _ hb
 ·rw[e]at hb
  unfold CA at hb
  rw[filterMap_cons,hf]at hb
  exact hb
theorem Inv.stkFree(I:Inv X qA σ H s):∀b∈CA X.stack,H b=none:=λb hb=>by
 rcases mem_cons.mp (I.stkSub b hb)with e|hb
 ·rw[e];exact I.free
 ·obtain⟨_,o,ho,_⟩:=I.ok.funs.mem hb
  exact I.base.free b o ho (I.ok.frf b hb) λz=>I.ok.exfs b z hb
theorem Inv.step{g':Array GenState}{d':Drawn}{ch:List Addr}(I:Inv X qA σ H s)
  (hch:∀b∈ch,(b∈X.ex\/X.s₀.heap.objs.size<=b)/\b≠X.env.locals/\(∀x c,X.env.cells.lookup x=some c->c≠b)/\∀p∈X.pn++qA,p.1≠b)
  (keep:∀b o,b≠X.env.locals->b∉X.fs->b∉ch->s.heap.get? b=some o->H b=none->h'.get? b=some o)
  (slot:∀b o,b≠X.env.locals->b∈X.fs->b∉ch->s.heap.get? b=some o->H b=none->∃sl,h'.get? b=some { o with slots:=sl }) (free:∀b o,b∉ch->s.heap.get? b=some o->H b=none->H' b=none)
  (there:∀b o,b∉ch->s.heap.get? b=some o->∃o',h'.get? b=some o')
  (tups:∀b xs,H b=some (.tup xs)->H' b=some (.tup xs)) (frzs:∀b o u,H b=some (.frz o u)->H' b=some (.frz o u)) (tbls:∀b ps,H b=some (.tbl ps)->∃more,H' b=some (.tbl (ps++more)))
  (ns:∀m,s.heap.Ns X.env.locals m->h'.Ns X.env.locals m) (hok:Ar X.prog X.w H' h') (hg:AllBare g') :
  Inv X qA σ H' { s with heap:=h',gens:=g',drawn:=d',toks:=t' }:=by
 have neL:∀b o,X.s₀.heap.get? b=some o->b≠X.env.locals:=λb o e=>Nat.ne_of_lt (Nat.lt_of_lt_of_le (Heap.lt_size e) I.ok.above)
 have neC:∀b o,X.s₀.heap.get? b=some o->b∉X.ex->b∉ch:=λb o e hx hb=>by
  rcases(hch b hb).1 with z|z
  ·exact hx z
  ·exact absurd (Nat.lt_of_lt_of_le (Heap.lt_size e) z) (Nat.lt_irrefl _)
 have cellK:∀x c,X.env.cells.lookup x=some c->∀v,s.heap.IsCell c v->h'.IsCell c v:=λx c e v ⟨o,ho,hd⟩=>by
  have nch:c∉ch:=λz=>(hch c z).2.2.1 x c e rfl
  by_cases hc:c∈X.fs
  ·obtain⟨sl,q⟩:=slot c o (I.cne x c e) hc nch ho (I.freeC x c e)
   exact⟨_,q,hd⟩
  ·exact⟨o,keep c o (I.cne x c e) hc nch ho (I.freeC x c e),hd⟩
 refine⟨I.ok,I.os,hg,⟨λb o e n hb hx=>?_,λb o e n hb hx=>?_,λb o e n hx=>?_,λb o e hx=>?_,λb xs e=>tups b xs (I.base.tups b xs e),λb o xs e=>frzs b o xs (I.base.frzs b o xs e),λb ps e=>?_⟩,?_,λx c e=>?_,?_,λx c e=>?_,λp hp=>?_,hok,I.len⟩
 ·exact keep b o (neL b o e) hb (neC b o e hx) (I.base.keep b o e n hb hx) (I.base.free b o e n hx)
 ·obtain⟨sl,e1⟩:=I.base.slot b o e n hb hx
  obtain⟨sl',e2⟩:=slot b _ (neL b o e) hb (neC b o e hx) e1 (I.base.free b o e n hx)
  exact⟨sl',e2⟩
 ·obtain⟨o',e1⟩:=I.base.there b o e hx
  exact free b o' (neC b o e hx) e1 (I.base.free b o e n hx)
 ·obtain⟨o',e1⟩:=I.base.there b o e hx
  exact there b o' (neC b o e hx) e1
 ·obtain⟨m1,e1⟩:=I.base.tbls b ps e
  obtain⟨m2,e2⟩:=tbls b _ e1
  exact⟨m1++m2,by rw[e2,Array.append_assoc]⟩
 ·obtain⟨m,hn,hl⟩:=I.loc
  refine⟨m,ns m hn,λi x v e1 e2 e3=>?_⟩
  obtain⟨u,r,l⟩:=hl i x v e1 e2 e3
  refine⟨u,r,?_⟩
  rcases l with l|⟨k,c,e,z⟩
  ·exact .inl l
  ·exact .inr ⟨k,c,e,cellK x c e _ z⟩
 ·obtain⟨v,z⟩:=I.cell x c e
  exact⟨v,cellK x c e v z⟩
 ·obtain⟨m,⟨o,_,_,ho,_⟩,_⟩:=I.loc
  exact free _ o (λz=>(hch _ z).2.1 rfl) ho I.free
 ·obtain⟨v,o,ho,hd⟩:=I.cell x c e
  exact free c o (λz=>(hch c z).2.2.1 x c e rfl) ho (I.freeC x c e)
 ·obtain⟨e,n,ne,nf,d⟩:=I.pin p hp
  have nch:p.1∉ch:=λz=>(hch p.1 z).2.2.2 p hp rfl
  exact⟨keep p.1 p.2 ne nf nch e n,free p.1 p.2 nch e n,ne,nf,d⟩
theorem Inv.un(I:Inv X qA σ H s)(u:Un X.fs [] H H' s.heap h')(hok:Ar X.prog X.w H' h'):Inv X qA σ H' { s with heap:=h',toks:=t' }:=by
 obtain⟨m,⟨o,es,ep,ho,r⟩,_⟩:=id I.loc
 obtain⟨sl,hL⟩:=u.any ho I.free (by simp)
 exact I.step (g':=s.gens) (d':=s.drawn) (ch:=[]) (λ_ z=>nomatch z) (λb o _ hb _ e n=>u.keep b o e n hb (by simp)) (λb o _ hb _ e n=>u.slot b o e n hb (by simp)) (λb o _ e n=>u.free b o e n (by simp)) (λb o _ e=>u.there b o e (by simp)) u.tups u.frzs u.tbls (λm' hm=>by
  obtain⟨o',es',ep',ho',r'⟩:=hm
  rw[ho]at ho';cases ho'
  exact⟨_,es',ep',hL,r'⟩) hok I.bare
theorem Inv.call{g':Array GenState}{d':Drawn}{ch:List Addr}(I:Inv X qA σ H s)(u:Un (CA X.stack) ch H H' s.heap h')(hok:Ar X.prog X.w H' h')(hg:AllBare g')
  (hch:∀b∈ch,(b∈X.ex\/X.s₀.heap.objs.size<=b)/\b≠X.env.locals/\(∀x c,X.env.cells.lookup x=some c->c≠b)/\∀p∈X.pn++qA,p.1≠b) :
  Inv X qA σ H' { s with heap:=h',gens:=g',drawn:=d',toks:=t' }:=by
 obtain⟨m,⟨o,es,ep,ho,r⟩,_⟩:=id I.loc
 obtain⟨sl,hL⟩:=u.any ho I.free λz=>(hch _ z).2.1 rfl
 exact I.step (ch:=ch) hch (λb o hL hb hc e n=>u.keep b o e n (λz=>(mem_cons.mp (I.stkSub b z)).elim hL hb) hc) (λb o _ _ hc e n=>u.any e n hc) (λb o hc e n=>u.free b o e n hc) (λb o hc e=>u.there b o e hc) u.tups u.frzs u.tbls (λm' hm=>by
  obtain⟨o',es',ep',ho',r'⟩:=hm
  rw[ho]at ho';cases ho'
  exact⟨_,es',ep',hL,r'⟩) hok hg
theorem Inv.turned(I:Inv X qA σ H s)(k:∀b o,b≠it->s.heap.get? b=some o->h'.get? b=some o)(hn:H it=none)(hL:it≠X.env.locals)
  (h1:it∈X.ex\/X.s₀.heap.objs.size<=it) (h2:∀x c,X.env.cells.lookup x=some c->c≠it) (h3:∀p∈X.pn++qA,p.1≠it):Inv X qA σ H { s with heap:=h',toks:=t' }:=by
 have nit:∀b u,H b=some u->b≠it:=λb u e z=>by rw[z,hn]at e;cases e
 refine I.step (g':=s.gens) (d':=s.drawn) (ch:=[it]) (λb hb=>?_) (λb o _ _ hc e _=>k b o (λz=>hc (by simp[z])) e) (λb o _ _ hc e _=>⟨o.slots,k b o (λz=>hc (by simp[z])) e⟩) (λ_ _ _ _ n=>n)
  (λb o hc e=>⟨o,k b o (λz=>hc (by simp[z])) e⟩) (λ_ _ e=>e) (λ_ _ _ e=>e) (λb ps e=>⟨#[],by rw[e];simp⟩) (λm hm=>?_) (λb u e=>?_) I.bare
 ·have e:b=it:=by simpa using hb
  subst e
  exact⟨h1,hL,h2,h3⟩
 ·obtain⟨o,es,ep,ho,r⟩:=hm
  exact⟨o,es,ep,k _ o (Ne.symm hL) ho,r⟩
 ·refine(I.hok b u e).stay (λc v hc q=>k c v ?_ q) (λ_ q=>q) λ_ _ q=>q
  rcases hc with z|z
  ·rw[z];exact nit b u e
  ·exact nit c _ z
theorem Inv.tok(I:Inv X qA σ H s)(t:Nat):Inv X qA σ H { s with toks:=t }:=I.un (h':=s.heap) (t':=t) Un.refl I.hok
theorem Inv.kept(I:Inv X qA σ H s)(k:∀b u,s.heap.get? b=some u->h'.get? b=some u):Inv X qA σ H { s with heap:=h',toks:=t' }:=I.un (Un.kept k) (I.hok.kept k)
theorem Inv.laid(I:Inv X qA σ H s)(k:∀b u,s.heap.get? b=some u->h'.get? b=some u)(hp:s.heap.objs.size<=a)(new:Az X.prog X.w (AE H a o) h' a o) :
  Inv X qA σ (AE H a o) { s with heap:=h',toks:=t' }:=I.un (Un.laid k hp (I.hok.fresh hp)) (I.hok.laid k hp new)
theorem Inv.write{x e:Addr}(I:Inv X qA σ H s)(mu:Ep (H x))(he:e=x\/H e=some (.own x))(k:∀b u,b≠e->s.heap.get? b=some u->h'.get? b=some u)(heo:∃u,h'.get? e=some u)
  (new:Az X.prog X.w (AE H x o) h' x o):Inv X qA σ (AE H x o) { s with heap:=h',toks:=t' }:=I.un (Un.write mu he k heo) (I.hok.write mu he k heo new)
theorem Inv.weak{σ':List (Option V)}(I:Inv X qA σ H s)(hl:σ'.length=σ.length)(w:∀(i:Nat) v,σ'[i]?=some (some v)->σ[i]?=some (some v)):Inv X qA σ' H s :=
 ⟨I.ok,I.os,I.bare,I.base,let⟨m,hn,hl'⟩:=I.loc;⟨m,hn,λi x v e1 e2 e3=>hl' i x v e1 (w i v e2) e3⟩,I.cell,I.free,I.freeC,I.pin,I.hok,hl.trans I.len⟩
theorem Inv.pins_of{pins':List (Addr×Obj)}(I:Inv X qA σ H s)(h:∀p∈pins',s.heap.get? p.1=some p.2/\H p.1=none/\p.1≠X.env.locals/\p.1∉X.fs/\∀v,p.2.data≠.cell v):Inv X pins' σ H s :=
 ⟨I.ok,I.os,I.bare,I.base,I.loc,I.cell,I.free,I.freeC,λp hp=>(mem_append.mp hp).elim (λz=>I.pin p (mem_append_left _ z)) (h p),I.hok,I.len⟩
theorem KO(hN:N.Nodup)(a:N[i]?=some x)(b:N[j]?=some x):i=j:=by
 obtain⟨h1,e1⟩:=List.getElem?_eq_some_iff.mp a
 obtain⟨h2,e2⟩:=List.getElem?_eq_some_iff.mp b
 exact(getElem_inj hN).mp (e1.trans e2.symm)
theorem Ou{M:Model}{Q:Unit->Shared->Prop}(I:Inv X qA σ H s)(hN:X.N.Nodup)(hi:X.N[i]?=some x)(hx:DQ X.env.scope x)(r:AI v u)
  (h:∀s',Inv X qA (σ.set i (some v)) H s'->(∃a,Heap.SameBut a s.heap s'.heap/\(a=X.env.locals\/X.env.cells.lookup x=some a))->Q () s') (hf:X.fn x=true\/X.env.scope.names.lookup x=some .local:=by trivial):wpAny M A (storeName X.env x u) Q E s:=by
 obtain⟨m,hn,hl⟩:=id I.loc
 have hcls:(X.env.scope.kind==.class||(X.env.scope.kind==.module&&X.env.locals != X.env.globals))=false:=by rw[I.ok.kind];rfl
 have hiσ:i<σ.length:=by rw[I.len];exact(List.getElem?_eq_some_iff.mp hi).1
 have cne:=I.cne
 have tracked:∀{a:Addr} {h':Heap},(∃o,s.heap.get? a=some o/\H a=none)->Heap.SameBut a s.heap h'->Ar X.prog X.w H h':=λ{a h'} ha hs b ob e=>by
  obtain⟨_,_,hfree⟩:=ha
  refine(I.hok b ob e).stay (λc w' hc q=>(hs.2 c ?_).trans q) (λ_ q=>q) λ_ _ q=>q
  rintro rfl
  rcases hc with rfl|hc
  ·rw[hfree]at e;cases e
  ·rw[hfree]at hc;cases hc
 rcases hx with hk|hk
 ·refine wpAny_storeName_local hk hn (λh' hn' hs=>?_) hcls
  obtain⟨oL,_,_,hoL,_⟩:=id hn
  refine h _ ⟨I.ok,I.os,I.bare,⟨λb o e n hb hx=>?_,λb o e n hb hx=>?_,I.base.free,λb o e hx=>?_,I.base.tups,I.base.frzs,I.base.tbls⟩,⟨_,hn',λj y v' e1 e2 e3=>?_⟩,λy c e=>?_,I.free,I.freeC,λp hp=>?_,tracked ⟨oL,hoL,I.free⟩ hs,by simpa using I.len⟩ ⟨_,hs,.inl rfl⟩
  ·exact(hs.2 b (Nat.ne_of_lt (Nat.lt_of_lt_of_le (Heap.lt_size e) I.ok.above))).trans (I.base.keep b o e n hb hx)
  ·obtain⟨sl,e1⟩:=I.base.slot b o e n hb hx
   exact⟨sl,(hs.2 b (Nat.ne_of_lt (Nat.lt_of_lt_of_le (Heap.lt_size e) I.ok.above))).trans e1⟩
  ·obtain⟨o',e1⟩:=I.base.there b o e hx
   exact⟨o',(hs.2 b (Nat.ne_of_lt (Nat.lt_of_lt_of_le (Heap.lt_size e) I.ok.above))).trans e1⟩
  ·by_cases hj:j=i
   ·subst hj
    rw[hi]at e1;cases e1
    rw[getElem?_set_self hiσ]at e2
    cases e2
    exact⟨u,r,.inl ⟨hk,by simp⟩⟩
   ·rw[getElem?_set_ne (Ne.symm hj)]at e2
    obtain⟨u',r',q⟩:=hl j y v' e1 e2 e3
    refine⟨u',r',?_⟩
    rcases q with⟨k,e⟩|⟨k,c,e,z⟩
    ·refine .inl ⟨k,?_⟩
     have:y≠x:=λe=>hj (KO hN e1 (e▸hi))
     simp[this,e]
    ·exact .inr ⟨k,c,e,z.sameBut hs (cne y c e)⟩
  ·obtain⟨w',z⟩:=I.cell y c e
   exact⟨w',z.sameBut hs (cne y c e)⟩
  ·obtain⟨e,n,ne,nf,d⟩:=I.pin p hp
   exact⟨(hs.2 p.1 ne).trans e,n,ne,nf,d⟩
 ·have hfn:X.fn x=true:=by
   rcases hf with z|z
   ·exact z
   ·rw[z]at hk;cases hk
  obtain⟨c,hc⟩:=I.ok.has x (.inl hk)
  obtain⟨w',z⟩:=I.cell x c hc
  refine wpAny_storeName_cell I.ok.kind hk hc z (λh' hc' hs=>?_)
  obtain⟨oc,hoc,hocd⟩:=id z
  refine h { s with heap:=h' } ⟨I.ok,I.os,I.bare,⟨λb o e n hb hx=>?_,λb o e n hb hx=>?_,I.base.free,λb o e hx=>?_,I.base.tups,I.base.frzs,I.base.tbls⟩,⟨m,hn.sameBut hs (Ne.symm (cne x c hc)),λj y v' e1 e2 e3=>?_⟩,λy c' e=>?_,I.free,I.freeC,λp hp=>?_,tracked ⟨oc,hoc,I.freeC x c hc⟩ hs,by simpa using I.len⟩ ⟨c,hs,.inr hc⟩
  ·exact(hs.2 b (Nat.ne_of_lt (Nat.lt_of_lt_of_le (Heap.lt_size e) (I.ok.cab x c hfn hc)))).trans (I.base.keep b o e n hb hx)
  ·obtain⟨sl,e1⟩:=I.base.slot b o e n hb hx
   exact⟨sl,(hs.2 b (Nat.ne_of_lt (Nat.lt_of_lt_of_le (Heap.lt_size e) (I.ok.cab x c hfn hc)))).trans e1⟩
  ·obtain⟨o',e1⟩:=I.base.there b o e hx
   exact⟨o',(hs.2 b (Nat.ne_of_lt (Nat.lt_of_lt_of_le (Heap.lt_size e) (I.ok.cab x c hfn hc)))).trans e1⟩
  ·by_cases hj:j=i
   ·subst hj
    rw[hi]at e1;cases e1
    rw[getElem?_set_self hiσ]at e2
    cases e2
    exact⟨u,r,.inr ⟨.inl hk,c,hc,hc'⟩⟩
   ·rw[getElem?_set_ne (Ne.symm hj)]at e2
    obtain⟨u',r',q⟩:=hl j y v' e1 e2 e3
    refine⟨u',r',?_⟩
    rcases q with q|⟨k,c',e,z'⟩
    ·exact .inl q
    ·refine .inr ⟨k,c',e,z'.sameBut hs ?_⟩
     rintro rfl
     exact hj (KO hN e1 (I.ok.inj _ _ _ e hc▸hi))
  ·by_cases hcc:c'=c
   ·subst hcc;exact⟨_,hc'⟩
   ·obtain⟨w2,z2⟩:=I.cell y c' e
    exact⟨w2,z2.sameBut hs hcc⟩
  ·obtain⟨e,n,ne,nf,d⟩:=I.pin p hp
   refine⟨(hs.2 p.1 ?_).trans e,n,ne,nf,d⟩
   intro q
   rw[q,hoc]at e
   have q':oc=p.2:=oI e
   exact d w' (by rw[<-q'];exact hocd)
theorem KP{M:Model}{Q:Unit->Shared->Prop}(I:Inv X qA σ H s)(hN:X.N.Nodup)(hi:X.N[i]?=some x)(hx:DQ X.env.scope x)(r:AI v u)
  (h:∀s',Inv X qA (σ.set i (some v)) H s'->Q () s') (hf:X.fn x=true\/X.env.scope.names.lookup x=some .local:=by trivial):wpAny M A (storeName X.env x u) Q E s :=
 Ou I hN hi hx r (λs' I' _=>h s' I') hf
theorem Inv.call'{s':Shared}{ch:List Addr}(I:Inv X qA σ H s)(ho:s'.os=s.os)(u:Un (CA X.stack) ch H H' s.heap s'.heap)(hok:Ar X.prog X.w H' s'.heap)(hg:AllBare s'.gens)
  (hch:∀b∈ch,(b∈X.ex\/X.s₀.heap.objs.size<=b)/\b≠X.env.locals/\(∀x c,X.env.cells.lookup x=some c->c≠b)/\∀p∈X.pn++qA,p.1≠b):Inv X qA σ H' s':=by
 obtain⟨h',g',d',t',o'⟩:=s'
 have e:o'=s.os:=ho
 subst e
 exact I.call (g':=g') (t':=t') (d':=d') u hok hg hch
end
noncomputable abbrev XK:=Value->Option Addr->Hp->Prop
noncomputable abbrev St:=List (Option V)
noncomputable abbrev VK:=V->Hp->Prop
noncomputable abbrev TE:=St->Hp->VK->Prop
end L2
variable{σ σ':L2.St}{ta tb te:L2.TE}
namespace L2
open PySem PySem.Spec PyProof.Rows
noncomputable abbrev TT:=St->Hp->(Bool->Hp->Prop)->Prop
noncomputable abbrev TA:=St->Hp->(List V->Hp->Prop)->Prop
structure Ends where
 nx:St->Hp->Prop
 rt:VK
 bk:St->Hp->Prop:=λ_ _=>False
 ct:St->Hp->Prop:=λ_ _=>False
noncomputable abbrev TS:=Ends->St->Hp->Prop
def EP(X:Cx)(qA:List (Addr×Obj))(σ:St)(Q:VK)(u:Value)(s':Shared):Prop:=∃v H',Inv X qA σ H' s'/\AI v u/\Q v H'
def TP(X:Cx)(qA:List (Addr×Obj))(σ:St)(Q:Bool->Hp->Prop)(b:Bool)(s':Shared):Prop:=∃H',Inv X qA σ H' s'/\Q b H'
def AP(X:Cx)(qA:List (Addr×Obj))(σ:St)(Q:List V->Hp->Prop)(us:List Value)(s':Shared):Prop:=∃vs H',Inv X qA σ H' s'/\AM vs us/\Q vs H'
def SP(X:Cx)(qA:List (Addr×Obj))(D:Ends)(f:Flow)(s':Shared):Prop :=
 match f with
 |.next=>∃σ' H',Inv X qA σ' H' s'/\D.nx σ' H'
 |.brk=>∃σ' H',Inv X qA σ' H' s'/\D.bk σ' H'
 |.cont=>∃σ' H',Inv X qA σ' H' s'/\D.ct σ' H'
 |.ret u=>∃v σ' H',Inv X qA σ' H' s'/\AI v u/\D.rt v H'
def PE(X:Cx)(e:Expr)(t:TE):Prop :=
 ∀(qA:List (Addr×Obj)) (s:Shared) (σ:St) (H:Hp) (Q:VK),Inv X qA σ H s->t σ H Q->wpAny (model X.prog X.w) X.A (eval e X.env) (EP X qA σ Q) X.xe s
def PT(X:Cx)(e:Expr)(t:TT):Prop :=
 ∀(qA:List (Addr×Obj)) (s:Shared) (σ:St) (H:Hp) (Q:Bool->Hp->Prop),Inv X qA σ H s->t σ H Q->wpAny (model X.prog X.w) X.A (isTrue e X.env (eval e X.env)) (TP X qA σ Q) X.xe s
def PW(X:Cx)(e:Expr)(t:TT):Prop :=
 ∀(whole:Sem Value) (qA:List (Addr×Obj)) (s:Shared) (σ:St) (H:Hp) (Q:Bool->Hp->Prop),Inv X qA σ H s->t σ H Q->wpAny (model X.prog X.w) X.A (isTrue e X.env whole) (TP X qA σ Q) X.xe s
theorem PW.pt{e:Expr}{t:TT}(h:PW X e t):PT X e t:=h _
def PA(X:Cx)(es:List Expr)(t:TA):Prop :=
 ∀(pos:Pos) (qA:List (Addr×Obj)) (s:Shared) (σ:St) (H:Hp) (Q:List V->Hp->Prop),Inv X qA σ H s->t σ H Q->wpAny (model X.prog X.w) X.A (spliced (backTo pos (starEach es X.env))) (AP X qA σ Q) X.xe s
def PS(X:Cx)(st:Stmt)(t:TS):Prop :=
 ∀(qA:List (Addr×Obj)) (s:Shared) (σ:St) (H:Hp) (D:Ends),Inv X qA σ H s->t D σ H->wpAny (model X.prog X.w) X.A (exec st X.env) (SP X qA D) X.xe s
def BN(X:Cx)(st:List Stmt)(t:TS):Prop :=
 ∀(qA:List (Addr×Obj)) (s:Shared) (σ:St) (H:Hp) (D:Ends),Inv X qA σ H s->t D σ H->wpAny (model X.prog X.w) X.A (execs st X.env) (SP X qA D) X.xe s
theorem AK{α:Type}{t:Sem α}{Q Q':α->Shared->Prop}{M:Model}(h:wpAny M A t Q E s)(hQ:∀a s,Q a s->Q' a s):wpAny M A t Q' E s:=wpAny_mono h hQ λ_ _ x=>x
section
def DR(i:Nat):TE:=λσ H Q=>∃v,σ[i]?=some (some v)/\Q v H
def tC(v:V):TE:=λ_ H Q=>Q v H
theorem Fh(hN:X.N[i]?=some x)(hv:EB X.env.scope x)(hd:(x==("__debug__":Str))=false:=by decide)(hcd:(x==("__classdict__":Str))=false:=by decide):PE X (.Name x pos) (DR i):=by
 intro qA s σ H Q I h
 obtain⟨v,e,h⟩:=h
 obtain⟨m,hn,hl⟩:=I.loc
 obtain⟨u,r,l⟩:=hl i x v hN e hv
 have fin:EP X qA σ Q u s:=⟨v,H,I,r,h⟩
 rcases l with⟨hk,hm⟩|⟨hk,c,hc,hcell⟩
 ·exact wpAny_Name (wpAny_loadName_local I.ok.kind hk hn hm fin) hd
 ·rcases hk with hk|hk
  ·exact wpAny_Name (wpAny_loadName_cell I.ok.kind hk hc hcell fin) hd
  ·exact wpAny_Name (wpAny_loadName_free I.ok.kind hk hc hcell fin hcd) hd
theorem AX{i j pos}:PE X (.Constant (.int i) j pos) (tC (.int i)):=λ_ _ _ H _ I h=>wpAny_Constant_int ⟨.int i,H,I.tok _,⟨_,rfl⟩,h⟩
theorem Ov{b j pos}:PE X (.Constant (.bool b) j pos) (tC (.bl b)):=λ_ _ _ H _ I h=>Constant_bool ⟨.bl b,H,I,rfl,h⟩
theorem Fi{x j pos}:PE X (.Constant (.str x) j pos) (tC (.str x)):=λ_ _ _ H _ I h=>Calls.Constant_str ⟨.str x,H,I.tok _,⟨_,rfl⟩,h⟩
def Gl(X:Cx)(x:Str):Prop:=X.env.kindOf x=some .globalImplicit
theorem KQ(I:Inv X qA σ H s)(hg:Gl X x)(hm:X.mg x=some u)(h:Q u s)
  (hd:(x==("__debug__":Str))=false:=by decide):wpAny (model X.prog X.w) X.A (eval (.Name x pos) X.env) Q E s :=
 Calls.Name_function_global I.ok.kind hg (Calls.loadGlobal_global (by rw[I.ok.glob];exact I.mod.glob.keeps I.bk) hm h) hd
theorem EC(I:Inv X qA σ H s)(hg:Gl X x)(hm:X.mg x=none)(hv:bootBuiltins x=some u)(h:Q u s)
  (hn:x≠"__name__":=by decide) (hd:(x==("__debug__":Str))=false:=by decide):wpAny (model X.prog X.w) X.A (eval (.Name x pos) X.env) Q E s:=by
 obtain⟨mb,h1,h2⟩:=I.mod.blt
 exact Calls.Name_function_global I.ok.kind hg (Calls.loadGlobal_builtin (by rw[I.ok.glob];exact I.mod.glob.keeps I.bk) hm (by rw[I.ok.blt];exact h1.keeps I.bk) ((h2 x hn).trans hv) h) hd
theorem Ox(hg:Gl X x)(hm:X.mg x=some u)(r:AI v u)(hd:(x==("__debug__":Str))=false:=by decide):PE X (.Name x pos) (tC v) :=
 λ_ _ _ H _ I h=>KQ I hg hm ⟨v,H,I,r,h⟩ hd
theorem Oy(hg:Gl X x)(hm:X.mg x=none)(hv:bootBuiltins x=some u)(r:AI v u)(hn:x≠"__name__":=by decide)(hd:(x==("__debug__":Str))=false:=by decide):PE X (.Name x pos) (tC v) :=
 λ_ _ _ H _ I h=>EC I hg hm hv ⟨v,H,I,r,h⟩ hn hd
variable{a b:Expr}
def tB(t:TE):TT:=λσ H Q=>t σ H λx H1=>∃c,x=.bl c/\Q c H1
theorem Oz{e:Expr}{t:TE}(h:PE X e t)(he:∀whole,isTrue e X.env whole=(do let v <-whole;standAt e.pos;holding [v] (truthy v)):=by intro _;rfl):PT X e (tB t):=by
 intro qA s σ H Q I hw
 refine isTrue_plain (AK (h qA s σ H _ I hw) λv s1 ⟨x,H1,I1,r1,q1⟩=>?_) (he _)
 obtain⟨d,rfl,q⟩:=q1
 cases r1
 exact wpAny_truthy_bool ⟨H1,I1,q⟩
variable{tA tB':TT}{qC:List Expr}
def O0(t u:TT):TT:=λσ H Q=>t σ H λc H1=>if c=true then u σ H1 Q else Q false H1
def O1(t u:TT):TT:=λσ H Q=>t σ H λc H1=>if c=true then Q true H1 else u σ H1 Q
def O2(t:TT):TT:=λσ H Q=>t σ H λc H1=>Q (!c) H1
theorem O3(ha:PT X a tA):PW X (.BoolOp .And [a] pos) tA:=by
 intro wh qA s σ H Q I h
 refine isTrue_and (AK (ha qA s σ H Q I h) λc s1 e=>?_)
 cases c with
 |true=>exact isTrue_and_nil e
 |false=>exact e
theorem KR(ha:PT X a tA):PW X (.BoolOp .Or [a] pos) tA:=by
 intro wh qA s σ H Q I h
 refine isTrue_or (AK (ha qA s σ H Q I h) λc s1 e=>?_)
 cases c with
 |false=>exact isTrue_or_nil e
 |true=>exact e
theorem O4(ha:PT X a tA)(hb:PW X (.BoolOp .And (b::qC) pos) tB'):PW X (.BoolOp .And (a::b::qC) pos) (O0 tA tB'):=by
 intro wh qA s σ H Q I h
 refine isTrue_and (AK (ha qA s σ H _ I h) λc s1 ⟨H1,I1,q1⟩=>?_)
 cases c with
 |true=>exact hb wh qA s1 σ H1 Q I1 q1
 |false=>exact⟨H1,I1,q1⟩
theorem KS(ha:PT X a tA)(hb:PW X (.BoolOp .Or (b::qC) pos) tB'):PW X (.BoolOp .Or (a::b::qC) pos) (O1 tA tB'):=by
 intro wh qA s σ H Q I h
 refine isTrue_or (AK (ha qA s σ H _ I h) λc s1 ⟨H1,I1,q1⟩=>?_)
 cases c with
 |true=>exact⟨H1,I1,q1⟩
 |false=>exact hb wh qA s1 σ H1 Q I1 q1
theorem O5(ha:PT X a tA):PT X (.UnaryOp .Not a pos) (O2 tA):=by
 intro qA s σ H Q I h
 exact isTrue_not (ha qA s σ H (λc H1=>Q (!c) H1) I h)
def O6(ta tb:TE):TE:=λσ H Q=>ta σ H λx H1=>∃c,x=.bl c/\if c=true then tb σ H1 Q else Q (.bl false) H1
def O7(ta:TE):TE:=λσ H Q=>ta σ H λx H1=>∃c,x=.bl c/\Q (.bl (!c)) H1
theorem O8{op}{t:TE}(h:PE X a t):PE X (.BoolOp op [a] pos) t:=λqA s σ H Q I hw=>BoolOp_one (h qA s σ H Q I hw)
theorem O9(ha:PE X a ta)(hb:PE X (.BoolOp .And (b::qC) pos) tb):PE X (.BoolOp .And (a::b::qC) pos) (O6 ta tb):=by
 intro qA s σ H Q I h
 refine BoolOp_and (AK (ha qA s σ H _ I h) λv s1 ⟨x,H1,I1,r1,q1⟩=>?_)
 obtain⟨c,rfl,q1⟩:=q1
 cases r1
 refine wpAny_truthy_bool ?_
 cases c with
 |true=>exact hb qA s1 σ H1 Q I1 q1
 |false=>exact⟨.bl false,H1,I1,rfl,q1⟩
theorem PB(ha:PE X a ta):PE X (.UnaryOp .Not a pos) (O7 ta):=by
 intro qA s σ H Q I h
 refine UnaryOp_ (AK (ha qA s σ H _ I h) λv s1 ⟨x,H1,I1,r1,q1⟩=>?_)
 obtain⟨c,rfl,q1⟩:=q1
 cases r1
 exact not_of (wpAny_truthy_bool ⟨.bl (!c),H1,I1,rfl,q1⟩)
end
def Am(K:Fg)(H:Hp)(a:Addr)(xs:List V):Prop :=
 Rd H a (.lst xs) \/
  ∃(o:Obj) (qE:Array Value) (n:Nat),K.lookup a=some o/\o.cls=.type "list"/\o.dict=none/\o.data=.seq qE n/\qE.size<=sizeLine/\AM xs qE.toList
def A0(K:Fg)(H:Hp)(a:Addr)(xs:List V):Prop :=
 Rd H a (.tup xs) \/
  ∃(o:Obj) (qE:Array Value) (n:Nat),K.lookup a=some o/\o.cls=.type "tuple"/\o.data=.seq qE n/\qE.size<=sizeLine/\AM xs qE.toList
noncomputable def PC:Value->Option V
 |.none=>some .non
 |.bool b=>some (.bl b)
 |.int i _=>some (.int i)
 |.str x _=>some (.str x)
 |.bytes b _=>some (.byt b)
 |.float b _=>some (.flt b)
 |.ref a=>some (.ref a)
 |.type n=>some (.ty n)
 |_=>none
theorem AI.abs{x:V}(r:AI x u):PC u=some x:=by
 cases x with
 |non=>cases r;rfl
 |bl _=>cases r;rfl
 |int _=>obtain⟨t,rfl⟩:=r;rfl
 |str _=>obtain⟨t,rfl⟩:=r;rfl
 |byt _=>obtain⟨t,rfl⟩:=r;rfl
 |flt _=>obtain⟨t,rfl⟩:=r;rfl
 |ref _=>cases r;rfl
 |ty _=>cases r;rfl
theorem AI.inj{x y:V}(r:AI x u)(q:AI y u):x=y:=oI (r.abs.symm.trans q.abs)
theorem AM.inj:∀{xs ys:List V} {us:List Value},AM xs us->AM ys us->xs=ys
 |_,_,_,.nil,.nil=>rfl
 |_,_,_,.cons r t,.cons r' t'=>by rw[r.inj r',AM.inj t t']
section
variable{xs ys:List V}
theorem Am.of{K:Fg}(h:H a=some (.lst xs)):Am K H a xs:=.inl (.inl h)
theorem A0.of{K:Fg}(h:H a=some (.tup xs)):A0 K H a xs:=.inl (.inl h)
theorem Inv.list(I:Inv X qA σ H s)(h:Am X.K H a xs):∃qE:List Value,AM xs qE/\PlainL s.heap a qE.toArray/\xs.length<=sizeLine:=by
 rcases h with h|⟨o,qE,n,hk,hc,hd,hs,hz,r⟩
 ·obtain⟨z,qE,n,r,e⟩:=h.ok I.hok
  exact⟨qE,r,⟨_,n,e,rfl,rfl,rfl⟩,z⟩
 ·refine⟨qE.toList,r,⟨o,n,I.kIn a o hk,hc,hd,by simpa using hs⟩,?_⟩
  have e:=r.length
  simp only[Array.length_toList]at e
  lia
theorem Inv.tuple(I:Inv X qA σ H s)(h:A0 X.K H a xs):∃qE:List Value,AM xs qE/\IsTup s.heap a qE.toArray/\xs.length<=sizeLine:=by
 rcases h with h|⟨o,qE,n,hk,hc,hs,hz,r⟩
 ·obtain⟨z,qE,r,p⟩:=h.ok I.hok
  exact⟨qE,r,p.tup,z⟩
 ·refine⟨qE.toList,r,⟨o,I.kIn a o hk,hc,n,by simpa using hs⟩,?_⟩
  have e:=r.length
  simp only[Array.length_toList]at e
  lia
theorem Inv.list_inj(I:Inv X qA σ H s)(h:Am X.K H a xs)(h':Am X.K H a ys):xs=ys:=by
 obtain⟨qE,r,⟨o,n,e,_,_,d⟩,_⟩:=I.list h
 obtain⟨its',r',⟨o',n',e',_,_,d'⟩,_⟩:=I.list h'
 rw[e]at e';cases e'
 rw[d]at d'
 injection d' with d1 _
 have:qE=its':=by simpa using congrArg Array.toList d1
 subst this
 exact r.inj r'
theorem Inv.tuple_inj(I:Inv X qA σ H s)(h:A0 X.K H a xs)(h':A0 X.K H a ys):xs=ys:=by
 obtain⟨qE,r,⟨o,e,_,n,d⟩,_⟩:=I.tuple h
 obtain⟨its',r',⟨o',e',_,n',d'⟩,_⟩:=I.tuple h'
 rw[e]at e';cases e'
 rw[d]at d'
 injection d' with d1 _
 have:qE=its':=by simpa using congrArg Array.toList d1
 subst this
 exact r.inj r'
end
noncomputable abbrev Cx.wish(X:Cx)(E:VS):Cx:={ X with xe:=E }
noncomputable abbrev Cx.nox(X:Cx):Cx:=X.wish λ_ _=>False
theorem Cx.Ok.wish(ok:X.Ok)(E:VS):(X.wish E).Ok :=
 ⟨ok.mod,ok.kind,ok.glob,ok.blt,ok.above,ok.inj,ok.has,ok.cab,ok.hd,ok.frames,ok.stk,ok.exf,ok.bs,ok.bsz,ok.noex,ok.exfs,ok.funs,ok.frf⟩
theorem Cx.Ok.unwish(ok:(X.wish E).Ok):X.Ok :=
 ⟨ok.mod,ok.kind,ok.glob,ok.blt,ok.above,ok.inj,ok.has,ok.cab,ok.hd,ok.frames,ok.stk,ok.exf,ok.bs,ok.bsz,ok.noex,ok.exfs,ok.funs,ok.frf⟩
theorem Inv.wish(I:Inv X qA σ H s)(E:VS):Inv (X.wish E) qA σ H s:=⟨I.ok.wish E,I.os,I.bare,I.base,I.loc,I.cell,I.free,I.freeC,I.pin,I.hok,I.len⟩
theorem Inv.unwish(I:Inv (X.wish E) qA σ H s):Inv X qA σ H s:=⟨I.ok.unwish,I.os,I.bare,I.base,I.loc,I.cell,I.free,I.freeC,I.pin,I.hok,I.len⟩
theorem SP.unwish{D:Ends}{f:Flow}{s':Shared}(h:SP (X.wish E) qA D f s'):SP X qA D f s':=by
 cases f with
 |next=>obtain⟨σ',H',I,q⟩:=h;exact⟨σ',H',I.unwish,q⟩
 |brk=>obtain⟨σ',H',I,q⟩:=h;exact⟨σ',H',I.unwish,q⟩
 |cont=>obtain⟨σ',H',I,q⟩:=h;exact⟨σ',H',I.unwish,q⟩
 |ret u=>obtain⟨v,σ',H',I,r,q⟩:=h;exact⟨v,σ',H',I.unwish,r,q⟩
theorem BN.nox{st:List Stmt}{t:TS}(h:BN X.nox st t):BN X st t:=λqA s σ H D I hw =>
 wpAny_mono (h qA s σ H D (I.wish _) hw) (λ_ _ q=>q.unwish) λ_ _ z=>False.elim z
section
variable{st:Stmt}{qC:List Stmt}{t u:TS}{e:Expr}
def Hh:TS:=λD σ H=>D.nx σ H
def Fj(t u:TS):TS:=λD σ H=>t { D with nx:=u D } σ H
theorem Dk:BN X [] Hh:=λ_ _ σ H _ I h=>wpAny_execs_nil ⟨σ,H,I,h⟩
theorem BG(h1:PS X st t)(h2:BN X qC u):BN X (st::qC) (Fj t u):=by
 intro qA s σ H D I h
 refine wpAny_execs_cons (AK (h1 qA s σ H { D with nx:=u D } I h) λf s1 q=>?_)
 cases f with
 |next =>
  obtain⟨σ',H',I',q⟩:=q
  exact h2 qA s1 σ' H' D I' q
 |ret v=>exact q
 |brk=>exact q
 |cont=>exact q
theorem CB(h1:PS X st t):BN X [st] t:=by
 intro qA s σ H D I h
 refine wpAny_execs_cons (AK (h1 qA s σ H D I h) λf s1 q=>?_)
 cases f with
 |next=>exact wpAny_execs_nil q
 |ret v=>exact q
 |brk=>exact q
 |cont=>exact q
theorem Inv.quiet(I:Inv X qA σ H s):interactive X.env=false:=by simp[interactive,I.ok.kind]
def Fk(te:TE):TS:=λD σ H=>te σ H λ_ H1=>D.nx σ H1
theorem Hi(he:PE X e te)(hs:swapsWith e none pos.line X.env=pure false:=by rfl):PS X (.Expr e pos) (Fk te):=by
 intro qA s σ H D I h
 exact wpAny_Expr_any (AK (he qA s σ H _ I h) λv s1 ⟨x,H1,I1,r1,q1⟩=>⟨σ,H1,I1,q1⟩) I.quiet hs
def PD(te:TE):TS:=λD σ H=>te σ H D.rt
theorem ED(he:PE X e te):PS X (.Return (some e) pos) (PD te):=by
 intro qA s σ H D I h
 exact wpAny_Return_some (AK (he qA s σ H _ I h) λv s1 ⟨x,H1,I1,r1,q1⟩=>⟨x,σ,H1,I1,r1,q1⟩)
def Hj(c:TT)(t u:TS):TS:=λD σ H=>c σ H λb H1=>if b=true then t D σ H1 else u D σ H1
theorem Dl{a b:List Stmt}{tc:TT}(hc:PT X c tc)(ha:BN X a t)(hb:BN X b u):PS X (.If c a b pos) (Hj tc t u):=by
 intro qA s σ H D I h
 refine wpAny_If (AK (hc qA s σ H _ I h) λd s1 ⟨H1,I1,q1⟩=>?_)
 cases d with
 |true=>exact ha qA s1 σ H1 D I1 q1
 |false=>exact hb qA s1 σ H1 D I1 q1
def PF:TS:=λ_ _ _=>False
theorem PH:PS X st PF:=λ_ _ _ _ _ _ h=>h.elim
end
noncomputable abbrev TG:=V->St->Hp->(St->Hp->Prop)->Prop
noncomputable abbrev DS:=List V->St->Hp->(St->Hp->Prop)->Prop
def PG(X:Cx)(target:Expr)(t:TG):Prop :=
 ∀(qA:List (Addr×Obj)) (s:Shared) (σ:St) (H:Hp) (v:V) (u:Value) (Q:St->Hp->Prop),Inv X qA σ H s->AI v u->t v σ H Q ->
  wpAny (model X.prog X.w) X.A (assign target X.env u) (λ_ s'=>∃σ' H',Inv X qA σ' H' s'/\Q σ' H') X.xe s
def EE(X:Cx)(ts:List Expr)(t:DS):Prop :=
 ∀(qA:List (Addr×Obj)) (s:Shared) (σ:St) (H:Hp) (vs:List V) (us:List Value) (Q:St->Hp->Prop),Inv X qA σ H s->AM vs us->t vs σ H Q ->
  wpAny (model X.prog X.w) X.A (assignInOrder ((assignEach ts X.env).map (·.2)) us) (λ_ s'=>∃σ' H',Inv X qA σ' H' s'/\Q σ' H') X.xe s
noncomputable abbrev Er:=V->V->V->Hp->(Hp->Prop)->Prop
def Hk(X:Cx)(t:Er):Prop :=
 ∀(qA:List (Addr×Obj)) (s:Shared) (σ:St) (H:Hp) (o i v:V) (ov iv u:Value) (Q:Hp->Prop),Inv X qA σ H s->AI o ov->AI i iv->AI v u->t o i v H Q ->
  wpAny (model X.prog X.w) X.A (setItem ov iv u) (λ_ s'=>∃H',Inv X qA σ H' s'/\Q H') X.xe s
noncomputable abbrev Fm:=V->V->Hp->VK->Prop
def KU(X:Cx)(op:Operator)(t:Fm):Prop :=
 ∀(qA:List (Addr×Obj)) (s:Shared) (σ:St) (H:Hp) (x y:V) (v u:Value) (Q:VK),Inv X qA σ H s->AI x v->AI y u->t x y H Q ->
  wpAny (model X.prog X.w) X.A (inplaceOp op v u) (EP X qA σ Q) X.xe s
def CK(i:Nat):TG:=λv σ H Q=>Q (σ.set i (some v)) H
theorem A8(hN:X.N.Nodup)(hi:X.N[i]?=some x)(hx:DQ X.env.scope x)(hf:X.fn x=true\/X.env.scope.names.lookup x=some .local:=by trivial):PG X (.Name x pos) (CK i):=by
 intro qA s σ H v u Q I r h
 exact wpAny_assign_Name (KP I hN hi hx r (λs' I'=>⟨_,H,I',h⟩) hf)
noncomputable def Hl:DS:=λvs σ H Q=>vs=[]/\Q σ H
noncomputable def Fo(t:TG)(u:DS):DS:=λvs σ H Q=>∃v r,vs=v::r/\t v σ H λσ' H'=>u r σ' H' Q
theorem C8:EE X [] Hl:=by
 intro qA s σ H vs us Q I r h
 obtain⟨e,h⟩:=h
 subst e
 cases r
 exact assignInOrder_nil ⟨σ,H,I,h⟩
theorem BZ{e:Expr}{t:TG}{u:DS}(h1:PG X e t)(h2:EE X es u)
  (hs:(assignEach (e::es) X.env).map (·.2)=assign e X.env::(assignEach es X.env).map (·.2):=by rfl):EE X (e::es) (Fo t u):=by
 intro qA s σ H vs us Q I r h
 obtain⟨v,vr,e1,h⟩:=h
 subst e1
 cases r with
 |cons r rr =>
  rw[hs]
  refine assignInOrder_cons (AK (h1 qA s σ H _ _ _ I r h) λ_ s1 ⟨σ1,H1,I1,q1⟩=>?_)
  exact h2 qA s1 σ1 H1 _ _ Q I1 rr q1
def Es(K:Fg)(n:Nat)(t:DS):TG:=λv σ H Q=>∃a xs,v=.ref a/\A0 K H a xs/\xs.length=n/\t xs σ H Q
theorem KW{k:Nat}{t:DS}(hc:X.calm=true)(h:EE X es t)
  (hn:(assignEach es X.env).length=n:=by rfl) (hst:(assignEach es X.env).findIdx? (·.1)=none:=by rfl):PG X (.Tuple es k pos) (Es X.K n t):=by
 intro qA s σ H v u Q I r hw
 obtain⟨a,xs,e1,hq,hl,hw⟩:=hw
 subst e1
 cases r
 obtain⟨qE,rv,ht,hz⟩:=I.tuple hq
 refine assign_Tuple_tuple (I.ok.hd hc) ht (by simp[hn,<-hl,rv.length]) hst λh' hx=>?_
 have I1:Inv X qA σ H { s with heap:=h' }:=I.kept (t':=s.toks) λb o e=>hx b o (Nat.ne_of_lt (Heap.lt_size e)) e
 exact h qA _ σ H xs _ Q I1 (by simpa using rv) hw
def PK(to ti:TE)(t:Er):TG:=λv σ H Q=>to σ H λo H1=>ti σ H1 λi H2=>t o i v H2 λH3=>Q σ H3
theorem KY{o i:Expr}{to ti:TE}{t:Er}(ho:PE X o to)(hi:PE X i ti)(hs:Hk X t)
  (ha:∀v,assign (.Subscript o i pos) X.env v=(do
   let ov <-holding [v] (eval o X.env)
   let iv <-holding [v,ov] (eval i X.env)
   standAt pos
   holding [v,ov,iv] (setItem ov iv v)
   release [v,ov,iv] []):=by intro _;rfl):PG X (.Subscript o i pos) (PK to ti t):=by
 intro qA s σ H v u Q I r h
 rw[ha]
 refine wB (wpAny_holding (AK (ho qA s σ H _ I h) λov s1 ⟨x,H1,I1,r1,q1⟩=>?_))
 refine wB (wpAny_holding (AK (hi qA s1 σ H1 _ I1 q1) λiv s2 ⟨y,H2,I2,r2,q2⟩=>?_))
 refine wB (wpAny_standAt (wB (wpAny_holding (AK (hs qA s2 σ H2 x y v ov iv u _ I2 r1 r2 r q2) λ_ s3 ⟨H3,I3,q3⟩=>?_))))
 exact wpAny_release ⟨σ,H3,I3,q3⟩
def Dm(te:TE)(g:TG):TS:=λD σ H=>te σ H λx H1=>g x σ H1 D.nx
theorem Hm{e:Expr}{g:TG}(he:PE X e te)(hg:PG X tg g)(hs:swapsWithSole [tg] e pos.line X.env=pure false:=by rfl)(hw:swappedStores [tg] e X.env=pure none:=by rfl)
  (h1:(assignEach [tg] X.env).map (·.2)=[assign tg X.env]:=by rfl):PS X (.Assign [tg] e pos) (Dm te g):=by
 intro qA s σ H D I h
 refine wpAny_Assign_stores (AK (he qA s σ H _ I h) λv s1 ⟨x,H1,I1,r1,q1⟩=>?_) hs hw
 rw[h1]
 exact AK (hg qA s1 σ H1 x v _ I1 r1 q1) λ_ s2 q=>q
theorem Bs{e:Expr}(hN:X.N.Nodup)(hi:X.N[i]?=some x)(hx:DQ X.env.scope x)(he:PE X e te)(hs:swapsWith e (some (.Name x pos')) pos.line X.env=pure false:=by rfl)(hf:X.fn x=true\/X.env.scope.names.lookup x=some .local:=by trivial) :
  PS X (.Assign [.Name x pos'] e pos) (Dm te (CK i)):=by
 intro qA s σ H D I h
 refine wpAny_Assign_Name (AK (he qA s σ H _ I h) λv s1 ⟨y,H1,I1,r1,q1⟩=>?_) hs
 exact KP I1 hN hi hx r1 (λs2 I2=>⟨_,H1,I2,q1⟩) hf
def PL(to ti te:TE)(tget:V->V->Hp->VK->Prop)(tip:Fm)(tset:Er):TS:=λD σ H=>to σ H λo H1=>ti σ H1 λi H2=>tget o i H2 λx H3=>te σ H3 λy H4=>tip x y H4 λz H5=>tset o i z H5 λH6=>D.nx σ H6
def KZ(X:Cx)(t:V->V->Hp->VK->Prop):Prop :=
 ∀(qA:List (Addr×Obj)) (s:Shared) (σ:St) (H:Hp) (o i:V) (ov iv:Value) (Q:VK),Inv X qA σ H s->AI o ov->AI i iv->t o i H Q ->
  wpAny (model X.prog X.w) X.A (getItem ov iv) (EP X qA σ Q) X.xe s
theorem PM{o i e:Expr}{to ti:TE}{tget:V->V->Hp->VK->Prop}{tip:Fm}{tset:Er}{op:Operator}{tpos:Pos}(ho:PE X o to)(hi:PE X i ti)(hg:KZ X tget)(he:PE X e te)(hp:KU X op tip)(hs:Hk X tset)
  (ha:∀ov iv new,augStore i ov iv new=(do holding [new,ov,iv] (setItem ov iv new);release [new,ov,iv] [];pure .next):=by intros;rfl):PS X (.AugAssign (.Subscript o i tpos) op e pos) (PL to ti te tget tip tset):=by
 intro qA s σ H D I h
 refine wpAny_AugAssign_SubscriptAny (AK (ho qA s σ H _ I h) λov s1 ⟨x1,H1,I1,r1,q1⟩=>?_) ha
 refine AK (hi qA s1 σ H1 _ I1 q1) λiv s2 ⟨x2,H2,I2,r2,q2⟩=>?_
 refine AK (hg qA s2 σ H2 x1 x2 ov iv _ I2 r1 r2 q2) λold s3 ⟨x3,H3,I3,r3,q3⟩=>?_
 refine AK (he qA s3 σ H3 _ I3 q3) λv s4 ⟨x4,H4,I4,r4,q4⟩=>?_
 refine AK (hp qA s4 σ H4 x3 x4 old v _ I4 r3 r4 q4) λnew s5 ⟨x5,H5,I5,r5,q5⟩=>?_
 exact AK (hs qA s5 σ H5 x1 x2 x5 ov iv new _ I5 r1 r2 r5 q5) λ_ s6 ⟨H6,I6,q6⟩=>⟨σ,H6,I6,q6⟩
noncomputable def PN(f:Int->Int->Int):Fm:=λx y H Q=>∃i j,x=.int i/\y=.int j/\Q (.int (f i j)) H
theorem PP:KU X .Add (PN λi j=>i+j):=by
 intro qA s σ H x y v u Q I r1 r2 h
 obtain⟨i,j,e1,e2,q⟩:=h
 subst e1;subst e2
 obtain⟨t,rfl⟩:=r1
 obtain⟨t',rfl⟩:=r2
 exact iadd_int ⟨.int _,H,I.tok _,⟨_,rfl⟩,q⟩
structure It where
 go:Nat->Hp->Prop
 yld:Nat->Hp->V->Hp->Prop
 stop:Nat->Hp->Prop
def Cm(X:Cx)(qA:List (Addr×Obj))(H:Hp)(b:Addr):Prop :=
 H b=none/\b≠X.env.locals/\b∉X.fs/\(b∈X.ex\/X.s₀.heap.objs.size<=b)/\(∀x c,X.env.cells.lookup x=some c->c≠b)/\∀p∈X.pn++qA,p.1≠b
theorem Inv.fpOk{b:Addr}(I:Inv X qA σ H s)(hb:s.heap.objs.size<=b)(hn:H' b=none):Cm X qA H' b:=by
 refine⟨hn,Nat.ne_of_gt (Nat.lt_of_lt_of_le I.lt hb),I.nofs hb,.inr (Nat.le_trans I.sz hb),λx c e z=>?_,λp hp z=>?_⟩
 ·obtain⟨v,q⟩:=I.cell x c e
  exact absurd (Nat.lt_of_lt_of_le q.lt (by rw[z];exact hb)) (Nat.lt_irrefl _)
 ·exact absurd (Nat.lt_of_lt_of_le (Heap.lt_size (I.pin p hp).1) (by rw[z];exact hb)) (Nat.lt_irrefl _)
structure Turn(P:Program)(w:World)(K:Fg)(tg:Expr)(J:It)(fp:List Addr)(it:Addr)(tn:Nat->Heap->Prop):Prop where
 mem:it∈fp
 obj:∀i h,tn i h->∀b∈fp,∃o,h.get? b=some o/\∀v,o.data≠.cell v
 keep:∀i h h',tn i h->(∀b∈fp,∀o,h.get? b=some o->h'.get? b=some o)->tn i h'
 item:∀(X:Cx),X.prog=P->X.w=w->X.K=K->X.calm=true->∀(i:Nat) (qA:List (Addr×Obj)) (s:Shared) (σ:St) (H:Hp) (E:VS),Inv X qA σ H s->(∀b∈fp,Cm X qA H b)->tn i s.heap->J.go i H ->
  wpAny (model P w) X.A (pyNext (.ref it)) (λr s1=>∃u,r=some u /\
   wpAny (model P w) X.A (letOwnedTupleGo tg (.ref it) u) (λ_ s2=>∃x H',Inv X qA σ H' s2/\AI x u/\J.yld i H x H'/\tn (i+1) s2.heap/\∀b∈fp,H' b=none) E s1) E s
 done:∀(X:Cx),X.prog=P->X.w=w->X.K=K->X.calm=true->∀(i:Nat) (qA:List (Addr×Obj)) (s:Shared) (σ:St) (H:Hp) (E:VS),Inv X qA σ H s->(∀b∈fp,Cm X qA H b)->tn i s.heap->J.stop i H ->
  wpAny (model P w) X.A (pyNext (.ref it)) (λr s1=>r=none/\Inv X qA σ H s1) E s
 self:∀(A:Around) (i:Nat) (s:Shared) (Q:VS) (E:VS),tn i s.heap->Q (.ref it) s->wpAny (model P w) A (pyIter (.ref it)) Q E s
noncomputable abbrev TI:=St->Hp->(It->Hp->Prop)->Prop
end L2
variable{g:L2.TG}
namespace L2
open PySem PySem.Spec PyProof.Rows
def Hn(X:Cx)(qA:List (Addr×Obj))(σ:St)(tg:Expr)(R:It->Hp->Prop)(itv:Value)(s2:Shared):Prop :=
 ∃(it:Addr) (fp:List Addr) (tn:Nat->Heap->Prop) (J:It) (H':Hp),itv=.ref it/\Inv X qA σ H' s2/\Turn X.prog X.w X.K tg J fp it tn/\tn 0 s2.heap/\(∀b∈fp,Cm X qA H' b)/\R J H'
def PI(X:Cx)(tg iter:Expr)(wi:TI):Prop :=
 ∀(qA:List (Addr×Obj)) (s:Shared) (σ:St) (H:Hp) (R:It->Hp->Prop),Inv X qA σ H s->wi σ H R ->
  wpAny (model X.prog X.w) X.A (eval iter X.env) (λv s1=>wpAny (model X.prog X.w) X.A (pyIter v) (Hn X qA σ tg R) X.xe s1) X.xe s
theorem Fp {M : Model} {E : Value → Shared → Prop} {o : Obj} {n : String} {vs : Array Value} {Q : Unit → Shared → Prop} (ho : s.heap.get? it = some o) (hc : o.cls = .type n) (hd : o.data = .fields vs)
    (hn : ["enumerate", "zip", "dict_itemiterator", "dict_reverseitemiterator", "odict_iterator", "itertools.zip_longest", "itertools.pairwise"].contains n = false) (hQ : Q () s) : wpAny M A (letOwnedTupleGo tg (.ref it) u) Q E s := by
  unfold letOwnedTupleGo
  cases tg<;>first
    |exact wP hQ
    | (cases u <;> first
        |exact wP hQ
        | (refine wB (wpAny_load ho ?_)
           rw[hc, hd]
           show wpAny M A (if(["enumerate", "zip", "dict_itemiterator", "dict_reverseitemiterator", "odict_iterator", "itertools.zip_longest", "itertools.pairwise"].contains n&&vs[0]?==some (rawInt _)) = true then _ else _) Q E s
           rw[if_neg (by intro h; rw[hn, Bool.false_and]at h; cases h)]
           exact wP hQ))
noncomputable def Cn(K:Fg)(a:Addr):It :=
 ⟨λi H=>∃xs x,Am K H a xs/\xs[i]?=some x,λi H x H'=>H'=H/\∀xs,Am K H a xs->xs[i]?=some x,λi H=>∃xs,Am K H a xs/\xs.length<=i⟩
noncomputable def Dn(K:Fg)(a:Addr):It :=
 ⟨λi H=>∃xs x,A0 K H a xs/\xs[i]?=some x,λi H x H'=>H'=H/\∀xs,A0 K H a xs->xs[i]?=some x,λi H=>∃xs,A0 K H a xs/\xs.length<=i⟩
noncomputable def Co(lo:Int)(n:Nat):It:=⟨λi _=>i<n,λi H x H'=>H'=H/\x=.int (lo+i),λi _=>n<=i⟩
theorem PQ{P:Program}{K:Fg}(a it:Addr):Turn P w K tg (Cn K a) [it] it (λi h=>h.IsListIter it a i) where
 mem:=by simp
 obj:=λi h st b hb=>by
  have e:b=it:=by simpa using hb
  subst e
  obtain⟨o,e,c,d⟩:=st
  exact⟨o,e,λv z=>by rw[d]at z;cases z⟩
 keep:=λi h h' st k=>st.at λo e=>k it (by simp) o e
 item:=by
  intro X hP hw hK hc i qA s σ H E I hf st hg
  subst hP hw hK
  obtain⟨xs,x,hq,hx⟩:=hg
  obtain⟨qE,rv,p,hz⟩:=I.list hq
  obtain⟨u,hu,ru⟩:=rv.get hx
  obtain⟨f0,f1,f2,f3,f4,f5⟩:=hf it (by simp)
  refine wpAny_pyNext_list_item st p.isList (x:=u) (by simpa using hu) λh' st' sb=>?_
  have I1:Inv X qA σ H { s with heap:=h' }:=I.turned (t':=s.toks) (λb o hb e=>(sb.2 b hb).trans e) f0 f1 f3 f4 f5
  obtain⟨o,e,c,d⟩:=id st'
  exact⟨u,rfl,Fp (s:={ s with heap:=h' }) e c d (by decide) ⟨x,H,I1,ru,⟨rfl,λys hy=>by rw[I.list_inj hy hq];exact hx⟩,st',λb hb=>(hf b hb).1⟩⟩
 done:=by
  intro X hP hw hK hc i qA s σ H E I hf st hg
  subst hP hw hK
  obtain⟨xs,hq,hx⟩:=hg
  obtain⟨qE,rv,p,hz⟩:=I.list hq
  obtain⟨f0,f1,f2,f3,f4,f5⟩:=hf it (by simp)
  have hl:=rv.length
  exact wpAny_pyNext_list_end (I.ok.hd hc) st p.isList (by simp;lia) λh' eb=>⟨rfl,I.turned (t':=s.toks) (λb o hb e=>eb b o hb e) f0 f1 f3 f4 f5⟩
 self:=λ_ _ _ _ _ st h=>wpAny_pyIter_listiter st h
theorem PR{P:Program}{K:Fg}(a it:Addr):Turn P w K tg (Dn K a) [it] it (λi h=>h.IsTupleIter it a i) where
 mem:=by simp
 obj:=λi h st b hb=>by
  have e:b=it:=by simpa using hb
  subst e
  obtain⟨o,e,c,d⟩:=st
  exact⟨o,e,λv z=>by rw[d]at z;cases z⟩
 keep:=λi h h' st k=>st.at λo e=>k it (by simp) o e
 item:=by
  intro X hP hw hK hc i qA s σ H E I hf st hg
  subst hP hw hK
  obtain⟨xs,x,hq,hx⟩:=hg
  obtain⟨qE,rv,p,hz⟩:=I.tuple hq
  obtain⟨u,hu,ru⟩:=rv.get hx
  obtain⟨f0,f1,f2,f3,f4,f5⟩:=hf it (by simp)
  refine wpAny_pyNext_tuple_item st (show s.heap.IsTuple a qE.toArray from p) (x:=u) (by simpa using hu) λh' st' sb=>?_
  have I1:Inv X qA σ H { s with heap:=h' }:=I.turned (t':=s.toks) (λb o hb e=>(sb.2 b hb).trans e) f0 f1 f3 f4 f5
  obtain⟨o,e,c,d⟩:=id st'
  exact⟨u,rfl,Fp (s:={ s with heap:=h' }) e c d (by decide) ⟨x,H,I1,ru,⟨rfl,λys hy=>by rw[I.tuple_inj hy hq];exact hx⟩,st',λb hb=>(hf b hb).1⟩⟩
 done:=by
  intro X hP hw hK hc i qA s σ H E I hf st hg
  subst hP hw hK
  obtain⟨xs,hq,hx⟩:=hg
  obtain⟨qE,rv,p,hz⟩:=I.tuple hq
  obtain⟨f0,f1,f2,f3,f4,f5⟩:=hf it (by simp)
  have hl:=rv.length
  exact wpAny_pyNext_tuple_end (I.ok.hd hc) st (show s.heap.IsTuple a qE.toArray from p) (by simp;lia) λh' eb=>⟨rfl,I.turned (t':=s.toks) (λb o hb e=>eb b o hb e) f0 f1 f3 f4 f5⟩
 self:=λ_ _ _ _ _ st h=>wpAny_pyIter_tupleiter st h
theorem PU{P:Program}{K:Fg}(it:Addr)(lo:Int)(n:Nat):Turn P w K tg (Co lo n) [it] it (λi h=>IsRangeIter h it (lo+(i:Nat) * 1) ((n:Int) - (i:Nat)) 1) where
 mem:=by simp
 obj:=λi h st b hb=>by
  have e:b=it:=by simpa using hb
  subst e
  exact⟨_,st,λv z=>by
   have z':Data.fields _=Data.cell v:=z
   cases z'⟩
 keep:=λi h h' st k=>k it (by simp) _ st
 item:=by
  intro X hP hw hK hc i qA s σ H E I hf st hg
  subst hP hw hK
  obtain⟨f0,f1,f2,f3,f4,f5⟩:=hf it (by simp)
  have W:=Walks.range (prog:=X.prog) (w:=X.w) (I.ok.hd hc) it lo 1 n
  refine W.item i s _ _ hg st λv h' tk hv st' kk=>?_
  obtain⟨t,rfl⟩:=hv
  have I1:Inv X qA σ H { s with heap:=h',toks:=tk }:=I.turned (λb o hb e=>kk b o (by simpa using hb) e) f0 f1 f3 f4 f5
  refine⟨_,rfl,Fp (s:={ s with heap:=h',toks:=tk }) (n:="range_iterator") st' rfl rfl (by decide) ⟨.int (lo+i),H,I1,⟨t,?_⟩,⟨rfl,rfl⟩,st',λb hb=>(hf b hb).1⟩⟩
  rw[Int.mul_one]
 done:=by
  intro X hP hw hK hc i qA s σ H E I hf st hg
  subst hP hw hK
  obtain⟨f0,f1,f2,f3,f4,f5⟩:=hf it (by simp)
  exact wpAny_pyNext_range_end (I.ok.hd hc) st (by have:n<=i:=hg;lia) λh' eb=>⟨rfl,I.turned (t':=s.toks) (λb o hb e=>eb b o hb e) f0 f1 f3 f4 f5⟩
 self:=λ_ _ _ _ _ st h=>wpAny_pyIter_rangeiter st h
def Ka(K:Fg)(tl:TE):TI:=λσ H R=>tl σ H λx H1=>∃a,x=.ref a/\(∃xs,Am K H1 a xs)/\R (Cn K a) H1
def Kb(K:Fg)(tl:TE):TI:=λσ H R=>tl σ H λx H1=>∃a,x=.ref a/\(∃xs,A0 K H1 a xs)/\R (Dn K a) H1
theorem Kc{l:Expr}{tl:TE}(hl:PE X l tl):PI X tg l (Ka X.K tl):=by
 intro qA s σ H R I h
 refine AK (hl qA s σ H _ I h) λv s1 ⟨x,H1,I1,r1,q1⟩=>?_
 obtain⟨a,e,⟨xs,hq⟩,q⟩:=q1
 subst e
 cases r1
 obtain⟨qE,rv,p,hz⟩:=I1.list hq
 refine wpAny_pyIter_list p.isList ?_
 refine⟨s1.heap.objs.size,[s1.heap.objs.size],_,_,H1,rfl,I1.kept (t':=s1.toks) λb o e=>Heap.get?_push_of_some _ e,PQ a _,⟨_,Heap.get?_push_size _ rfl,rfl,rfl⟩,λb hb=>?_,q⟩
 have e:b=s1.heap.objs.size:=by simpa using hb
 subst e
 exact I1.fpOk (Nat.le_refl _) (I1.hok.fresh (Nat.le_refl _))
theorem PV{l:Expr}{tl:TE}(hl:PE X l tl):PI X tg l (Kb X.K tl):=by
 intro qA s σ H R I h
 refine AK (hl qA s σ H _ I h) λv s1 ⟨x,H1,I1,r1,q1⟩=>?_
 obtain⟨a,e,⟨xs,hq⟩,q⟩:=q1
 subst e
 cases r1
 obtain⟨qE,rv,p,hz⟩:=I1.tuple hq
 refine wpAny_pyIter_tuple (show s1.heap.IsTuple a qE.toArray from p) ?_
 refine⟨s1.heap.objs.size,[s1.heap.objs.size],_,_,H1,rfl,I1.kept (t':=s1.toks) λb o e=>Heap.get?_push_of_some _ e,PR a _,⟨_,Heap.get?_push_size _ rfl,rfl,rfl⟩,λb hb=>?_,q⟩
 have e:b=s1.heap.objs.size:=by simpa using hb
 subst e
 exact I1.fpOk (Nat.le_refl _) (I1.hok.fresh (Nat.le_refl _))
theorem PX{R:It->Hp->Prop}{lo hi:Int}{t u v:Tok}{tk:Nat}(I:Inv X qA σ H s)(h1:-(2 ^ 62)<=lo)(h2:lo<2 ^ 62)(h3:-(2 ^ 62)<=hi)(h4:hi<2 ^ 62)
  (q:R (Co lo (hi - lo).toNat) H):wpAny (model X.prog X.w) X.A (pyIter (.ref s.heap.objs.size)) (Hn X qA σ tg R) E { s with heap:=s.heap.push { cls:=.type "range",data:=.fields #[.int lo t,.int hi u,.int 1 v] },toks:=tk }:=by
 refine wpAny_pyIter_range (IsRange.new ..) (small_one h1 h2 h3 h4) ?_
 have I1:Inv X qA σ H { s with heap:=s.heap.push { cls:=.type "range",data:=.fields #[.int lo t,.int hi u,.int 1 v] },toks:=tk }:=I.kept λb o e=>Heap.get?_push_of_some _ e
 refine⟨(s.heap.push { cls:=.type "range",data:=.fields #[.int lo t,.int hi u,.int 1 v] }).objs.size,[(s.heap.push { cls:=.type "range",data:=.fields #[.int lo t,.int hi u,.int 1 v] }).objs.size],_,_,H,rfl,
  I1.kept (t':=tk) λb o e=>Heap.get?_push_of_some _ e,PU _ lo (hi - lo).toNat,?_,λb hb=>?_,q⟩
 ·have e1:lo+((0:Nat):Int) * 1=lo:=by simp
  have e2:(((hi - lo).toNat:Nat):Int) - ((0:Nat):Int)=Builtin.Range.rangeSize lo hi 1:=by rw[rangeSize_one];split<;>lia
  show IsRangeIter _ _ (lo+((0:Nat):Int) * 1) ((((hi - lo).toNat:Nat):Int) - ((0:Nat):Int)) 1
  rw[e1,e2]
  exact Heap.get?_push_size _ rfl
 ·have e:b=(s.heap.push { cls:=.type "range",data:=.fields #[.int lo t,.int hi u,.int 1 v] }).objs.size:=by simpa using hb
  subst e
  exact I1.fpOk (Nat.le_refl _) (I1.hok.fresh (Nat.le_refl _))
def PY(ta:TA):TI:=λσ H R=>ta σ H λvs H1=>∃j:Int,vs=[.int j]/\-(2 ^ 62)<=j/\j<2 ^ 62/\R (Co 0 j.toNat) H1
theorem Fq{a:Expr}{ta:TA}{p:Pos}(hg:Gl X "range")(hm:X.mg "range"=none)(ha:PA X [a] ta)(hs:starEach [a] X.env=[(false,eval a X.env)]:=by rfl):PI X tg (.Call (.Name "range" p) [a] [] pos) (PY ta):=by
 intro qA s σ H R I h
 refine Call_ (EC I hg hm boot_range (PyProof.Rows.callWith_type1 (AK (ha pos qA s σ H _ I h) λus s1 ⟨vs,H1,I1,r1,q1⟩=>?_) hs rfl))
 obtain⟨j,e,q1,q2,q⟩:=q1
 subst e
 cases r1 with
 |cons r rr =>
  cases rr
  obtain⟨t,rfl⟩:=r
  exact call_range_1 (PX I1 (by lia) (by lia) q1 q2 (by simpa using q))
def PZ(wi:TI)(g:TG)(tb:TS):TS:=λD σ H=>wi σ H λJ H1=>∃W:Nat->Nat->St->Hp->Prop,(∃m,W 0 m σ H1)/\∀i m σ H,W i m σ H ->
 (J.stop i H/\D.nx σ H)\/(J.go i H/\∃N:St->Hp->Prop,(∀σ' H',N σ' H'->∃m',m'<m/\W (i+1) m' σ' H')/\∀x H',J.yld i H x H'->g x σ H' λσ2 H2=>tb { D with nx:=N,ct:=N,bk:=D.nx } σ2 H2)
noncomputable def Et(fp:List Addr)(h:Heap):List (Addr×Obj):=fp.filterMap λb=>(h.get? b).map λo=>(b,o)
theorem Fs{fp:List Addr}{b:Addr}{o:Obj}(hb:b∈fp)(e:h.get? b=some o):(b,o)∈Et fp h:=mem_filterMap.mpr ⟨b,hb,by rw[e];rfl⟩
theorem Pa{fp:List Addr}{p:Addr×Obj}(hp:p∈Et fp h):p.1∈fp/\h.get? p.1=some p.2:=by
 obtain⟨b,hb,e⟩:=mem_filterMap.mp hp
 cases q:h.get? b with
 |none=>rw[q]at e;cases e
 |some o =>
  rw[q]at e
  have e':(b,o)=p:=oI e
  subst e'
  exact⟨hb,q⟩
theorem Inv.pinned{fp:List Addr}(I:Inv X qA σ H s)(hf:∀b∈fp,Cm X qA H b)(ho:∀b∈fp,∃o,s.heap.get? b=some o/\∀v,o.data≠.cell v):Inv X (qA++Et fp s.heap) σ H s :=
 I.pins_of λp hp=>(mem_append.mp hp).elim (λz=>I.pin p (mem_append_right _ z)) λz=>by
  obtain⟨hb,e⟩:=Pa z
  obtain⟨f0,f1,f2,_⟩:=hf p.1 hb
  obtain⟨o,e',d⟩:=ho p.1 hb
  rw[e]at e';cases e'
  exact⟨e,f0,f1,f2,d⟩
theorem Inv.unpinned{pl:List (Addr×Obj)}(I:Inv X (qA++pl) σ H s):Inv X qA σ H s:=I.pins_of λp hp=>I.pin p (mem_append_right _ (mem_append_left _ hp))
theorem Ft{iter:Expr}{body:List Stmt}{wi:TI}{tb:TS}(hp:PassesOwn (model X.prog X.w) X.A X.env X.xe)(hc:X.calm=true)(hi:PI X tg iter wi)(hg:PG X tg g)(hb:BN X body tb)
  (hs:∀x,foldedSetIterable iter X.env x=pure x:=by intro _;rfl):PS X (.For tg iter body [] pos) (PZ wi g tb):=by
 intro qA s σ H D I h
 refine wpAny_For (AK (hi qA s σ H _ I h) λv s1 h1=>AK h1 λitv s2 h2=>?_) hs
 obtain⟨it,fp,tn,J,H2,e,I2,T,st2,f2,W,⟨m0,w0⟩,turn⟩:=h2
 subst e
 have stat:∀{H':Hp},(∀b∈fp,H' b=none)->∀b∈fp,Cm X qA H' b:=λhn b hb=>⟨hn b hb,(f2 b hb).2⟩
 refine codeAny_forLoop_any (λn s'=>∃i σ' H',Inv X qA σ' H' s'/\tn i s'.heap/\(∀b∈fp,H' b=none)/\W i n σ' H') ?_ m0 ⟨0,σ,H2,I2,st2,λb hb=>(f2 b hb).1,w0⟩
 rintro n s3 ⟨i,σ3,H3,I3,st3,fr3,w3⟩
 rcases turn i n σ3 H3 w3 with⟨stop,qn⟩|⟨go,N,hN,step⟩
 ·refine wpAny_passesOwn hp (AK (T.done X rfl rfl rfl hc i qA s3 σ3 H3 X.xe I3 (stat fr3) st3 stop) λr s4 ⟨hr,I4⟩=>?_)
  subst hr
  exact wpAny_execs_nil ⟨σ3,H3,I4,qn⟩
 ·refine wpAny_passesOwn hp (AK (T.item X rfl rfl rfl hc i qA s3 σ3 H3 X.xe I3 (stat fr3) st3 go) λr s4 ⟨u,hr,h4⟩=>?_)
  subst hr
  refine wpAny_passesOwn hp (AK h4 λ_ s5 ⟨x,H5,I5,r5,y5,st5,fr5⟩=>?_)
  have I5':=I5.pinned (stat fr5) (T.obj _ _ st5)
  refine wpAny_passesOwn hp (AK (hg _ s5 σ3 H5 x u _ I5' r5 (step x H5 y5)) λ_ s6 ⟨σ6,H6,I6,q6⟩=>?_)
  refine wpAny_passesOwn hp (AK (hb _ s6 σ6 H6 _ I6 q6) λf s7 q7=>?_)
  have again:∀{σ7:St} {H7:Hp},Inv X (qA++Et fp s5.heap) σ7 H7 s7->N σ7 H7->∃m,m<n/\∃i σ' H',Inv X qA σ' H' s7/\tn i s7.heap/\(∀b∈fp,H' b=none)/\W i m σ' H':=λ{σ7 H7} I7 n7=>by
   obtain⟨m',hm,w7⟩:=hN σ7 H7 n7
   refine⟨m',hm,i+1,σ7,H7,I7.unpinned,T.keep _ _ _ st5 λb hb o e=>(I7.pin (b,o) (mem_append_right _ (mem_append_right _ (Fs hb e)))).1,λb hb=>?_,w7⟩
   obtain⟨o,e,d⟩:=T.obj _ _ st5 b hb
   exact(I7.pin (b,o) (mem_append_right _ (mem_append_right _ (Fs hb e)))).2.1
  cases f with
  |next=>obtain⟨σ7,H7,I7,n7⟩:=q7;exact again I7 n7
  |cont=>obtain⟨σ7,H7,I7,n7⟩:=q7;exact again I7 n7
  |brk=>obtain⟨σ7,H7,I7,q7⟩:=q7;exact⟨σ7,H7,I7.unpinned,q7⟩
  |ret v=>obtain⟨x7,σ7,H7,I7,r7,q7⟩:=q7;exact⟨x7,σ7,H7,I7.unpinned,r7,q7⟩
theorem Pb{K:Fg}{xs:List V}{tb:TS}{D:Ends}(Pv:Nat->St->Hp->Prop)(h0:Pv 0 σ H)(hl:∀i σ H,i<=xs.length->Pv i σ H->Am K H a xs)
  (hs:∀i x σ H,xs[i]?=some x->Pv i σ H->g x σ H λσ2 H2=>tb { D with nx:=Pv (i+1),ct:=Pv (i+1),bk:=D.nx } σ2 H2) (hd:∀σ H,Pv xs.length σ H->D.nx σ H) :
  ∃W:Nat->Nat->St->Hp->Prop,(∃m,W 0 m σ H)/\∀i m σ H,W i m σ H ->
   ((Cn K a).stop i H/\D.nx σ H)\/((Cn K a).go i H/\∃N:St->Hp->Prop,(∀σ' H',N σ' H'->∃m',m'<m/\W (i+1) m' σ' H')/\∀x H',(Cn K a).yld i H x H'->g x σ H' λσ2 H2=>tb { D with nx:=N,ct:=N,bk:=D.nx } σ2 H2):=by
 refine⟨λi m σ H=>m=xs.length - i/\i<=xs.length/\Pv i σ H,⟨xs.length,by simp,Nat.zero_le _,h0⟩,?_⟩
 rintro i m σ H ⟨rfl,hi,p⟩
 have q:=hl i σ H hi p
 by_cases hlt:i<xs.length
 ·refine .inr ⟨⟨xs,xs[i],q,by simp[hlt]⟩,Pv (i+1),λσ' H' p'=>⟨xs.length - (i+1),by lia,rfl,hlt,p'⟩,λx H' y=>?_⟩
  obtain⟨e,y⟩:=y
  subst e
  exact hs i x σ _ (y xs q) p
 ·have e:i=xs.length:=by lia
  subst e
  exact .inl ⟨⟨xs,q,Nat.le_refl _⟩,hd σ H p⟩
theorem Kd{lo:Int}{tb:TS}{D:Ends}(Pv:Nat->St->Hp->Prop)(h0:Pv 0 σ H)
  (hs:∀i σ H,i<n->Pv i σ H->g (.int (lo+i)) σ H λσ2 H2=>tb { D with nx:=Pv (i+1),ct:=Pv (i+1),bk:=D.nx } σ2 H2) (hd:∀σ H,Pv n σ H->D.nx σ H) :
  ∃W:Nat->Nat->St->Hp->Prop,(∃m,W 0 m σ H)/\∀i m σ H,W i m σ H ->
   ((Co lo n).stop i H/\D.nx σ H)\/((Co lo n).go i H/\∃N:St->Hp->Prop,(∀σ' H',N σ' H'->∃m',m'<m/\W (i+1) m' σ' H')/\∀x H',(Co lo n).yld i H x H'->g x σ H' λσ2 H2=>tb { D with nx:=N,ct:=N,bk:=D.nx } σ2 H2):=by
 refine⟨λi m σ H=>m=n - i/\i<=n/\Pv i σ H,⟨n,by simp,Nat.zero_le _,h0⟩,?_⟩
 rintro i m σ H ⟨rfl,hi,p⟩
 by_cases hlt:i<n
 ·refine .inr ⟨hlt,Pv (i+1),λσ' H' p'=>⟨n - (i+1),by lia,rfl,hlt,p'⟩,λx H' y=>?_⟩
  obtain⟨e,y⟩:=y
  subst e y
  exact hs i σ _ hlt p
 ·have e:i=n:=by lia
  subst e
  exact .inl ⟨Nat.le_refl _,hd σ H p⟩
noncomputable abbrev R2:=V->V->Hp->VK->Prop
def An(X:Cx)(f:Value->Value->Sem Value)(r:R2):Prop :=
 ∀(qA:List (Addr×Obj)) (s:Shared) (σ:St) (H:Hp) (x y:V) (v u:Value) (Q:VK),Inv X qA σ H s->AI x v->AI y u->r x y H Q ->
  wpAny (model X.prog X.w) X.A (f v u) (EP X qA σ Q) X.xe s
def Ho(X:Cx)(f:Value->Sem Value)(r:V->Hp->VK->Prop):Prop :=
 ∀(qA:List (Addr×Obj)) (s:Shared) (σ:St) (H:Hp) (x:V) (v:Value) (Q:VK),Inv X qA σ H s->AI x v->r x H Q ->
  wpAny (model X.prog X.w) X.A (f v) (EP X qA σ Q) X.xe s
def BH(X:Cx)(f:Value)(r:List V->Hp->VK->Prop):Prop :=
 ∀(qA:List (Addr×Obj)) (s:Shared) (σ:St) (H:Hp) (xs:List V) (us:List Value) (Q:VK),Inv X qA σ H s->AM xs us->r xs H Q ->
  wpAny (model X.prog X.w) X.A (call f us) (EP X qA σ Q) X.xe s
def EF(r:R2)(ta tb:TE):TE:=λσ H Q=>ta σ H λx H1=>tb σ H1 λy H2=>r x y H2 Q
def Ke(r:V->Hp->VK->Prop)(ta:TE):TE:=λσ H Q=>ta σ H λx H1=>r x H1 Q
noncomputable def rI(C:Int->Int->Prop)(g:Int->Int->V):R2:=λx y H Q=>∃i j,x=.int i/\y=.int j/\C i j/\Q (g i j) H
noncomputable def Bu(g:Int->Int->V):R2:=λx y H Q=>∃i j,x=.int i/\y=.int j/\Q (g i j) H
noncomputable def rU(g:Int->V):V->Hp->VK->Prop:=λx H Q=>∃i,x=.int i/\Q (g i) H
section
variable{a b:Expr}{tc:TE}
theorem Hr(ha:PE X a ta)(hb:PE X b tb){R:V->V->Hp->Prop}(I:Inv X qA σ H s)
  (h:ta σ H λx H1=>tb σ H1 λy H2=>R x y H2) {f:Value->Value->Sem Value}
  (hf:∀v u s2 x y H2,Inv X qA σ H2 s2->AI x v->AI y u->R x y H2->wpAny (model X.prog X.w) X.A (f v u) Q X.xe s2) :
  wpAny (model X.prog X.w) X.A (eval a X.env) (λv s₁=>wpAny (model X.prog X.w) X.A (eval b X.env) (λu s₂=>wpAny (model X.prog X.w) X.A (f v u) Q X.xe s₂) X.xe s₁) X.xe s:=by
 refine AK (ha qA s σ H _ I h) λv s1 ⟨x,H1,I1,r1,q1⟩=>?_
 refine AK (hb qA s1 σ H1 _ I1 q1) λu s2 ⟨y,H2,I2,r2,q2⟩=>?_
 exact hf v u s2 x y H2 I2 r1 r2 q2
theorem BE{op:Operator}{r:R2}(ho:An X (binaryOp op) r)(ha:PE X a ta)(hb:PE X b tb):PE X (.BinOp a op b pos) (EF r ta tb):=by
 intro qA s σ H Q I h
 exact wpAny_BinOp (Hr ha hb I h λv u s2 x y H2 I2 rx ry q=>ho qA s2 σ H2 x y v u Q I2 rx ry q)
theorem Pc{op:UnaryOp}{r:V->Hp->VK->Prop}(ho:Ho X (unaryOp op) r)(ha:PE X a ta):PE X (.UnaryOp op a pos) (Ke r ta):=by
 intro qA s σ H Q I h
 exact UnaryOp_ (AK (ha qA s σ H _ I h) λv s1 ⟨x,H1,I1,r1,q1⟩=>ho qA s1 σ H1 x v Q I1 r1 q1)
theorem Fu{f:Value->Value->Sem Value}{C:Int->Int->Prop}{g:Int->Int->Int}
  (rule:∀(i j:Int) (t u:Tok) (s:Shared) (Q:VS) (E:VS),C i j->Q (.int (g i j) s.toks) { s with toks:=s.toks+1 }->wpAny (model X.prog X.w) X.A (f (.int i t) (.int j u)) Q E s) :
  An X f (rI C λi j=>.int (g i j)):=by
 intro qA s σ H x y v u Q I rx ry h
 obtain⟨i,j,rfl,rfl,hc,q⟩:=h
 obtain⟨t,rfl⟩:=rx
 obtain⟨t',rfl⟩:=ry
 exact rule i j t t' s _ _ hc ⟨.int (g i j),H,I.tok _,⟨_,rfl⟩,q⟩
theorem Kg{f:Value->Value->Sem Value}{g:Int->Int->Int}
  (rule:∀(i j:Int) (t u:Tok) (s:Shared) (Q:VS) (E:VS),Q (.int (g i j) s.toks) { s with toks:=s.toks+1 }->wpAny (model X.prog X.w) X.A (f (.int i t) (.int j u)) Q E s) :
  An X f (Bu λi j=>.int (g i j)):=by
 intro qA s σ H x y v u Q I rx ry h
 obtain⟨i,j,rfl,rfl,q⟩:=h
 obtain⟨t,rfl⟩:=rx
 obtain⟨t',rfl⟩:=ry
 exact rule i j t t' s _ _ ⟨.int (g i j),H,I.tok _,⟨_,rfl⟩,q⟩
theorem Fv{f:Value->Value->Sem Value}{g:Int->Int->Bool}
  (rule:∀(i j:Int) (t u:Tok) (s:Shared) (Q:VS) (E:VS),Q (.bool (g i j)) s->wpAny (model X.prog X.w) X.A (f (.int i t) (.int j u)) Q E s) :
  An X f (Bu λi j=>.bl (g i j)):=by
 intro qA s σ H x y v u Q I rx ry h
 obtain⟨i,j,rfl,rfl,q⟩:=h
 obtain⟨t,rfl⟩:=rx
 obtain⟨t',rfl⟩:=ry
 exact rule i j t t' s _ _ ⟨.bl (g i j),H,I,rfl,q⟩
def Fw(i j:Int):Prop:=0<=j/\j<=1000000/\i.natAbs<2 ^ 64
def Eu(i j:Int):Prop:=(-(2 ^ 64)<i/\i<2 ^ 64)\/(-(2 ^ 64)<j/\j<2 ^ 64)
theorem Eu.ok{i j:Int}(h:Eu i j):IntMulOk i j:=by
 rcases h with⟨h1,h2⟩|⟨h1,h2⟩
 ·exact .of_left (intBits_le_64 h1 h2)
 ·exact .of_right (intBits_le_64 h1 h2)
theorem EG:An X (binaryOp .Add) (Bu λi j=>.int (i+j)):=Kg λ_ _ _ _ _ _ _ q=>add_int q
theorem EH:An X (binaryOp .Sub) (Bu λi j=>.int (i - j)):=Kg λ_ _ _ _ _ _ _ q=>sub_int q
theorem Ev:An X (binaryOp .Mult) (rI Eu λi j=>.int (i * j)):=Fu λ_ _ _ _ _ _ _ hc q=>mul_int q hc.ok
theorem EI:An X (binaryOp .Mod) (rI (λ_ j=>0<j) λi j=>.int (i % j)):=Fu λi j _ _ _ _ _ hc q=>by
 have h1:(0:Int)<j:=hc
 exact mod_int' (by lia) (by rw[Int.fmod_eq_emod_of_nonneg i (by lia)];exact q)
theorem EJ:An X (binaryOp .Pow) (rI Fw λi j=>.int (i ^ j.toNat)):=Fu λ_ _ _ _ _ _ _ hc q=>pow_int_small hc.1 hc.2.1 hc.2.2 q
theorem Pd{f:Value->Sem Value}{g:Int->Int}
  (rule:∀(i:Int) (t:Tok) (s:Shared) (Q:VS) (E:VS),Q (.int (g i) s.toks) { s with toks:=s.toks+1 }->wpAny (model X.prog X.w) X.A (f (.int i t)) Q E s) :
  Ho X f (rU λi=>.int (g i)):=by
 intro qA s σ H x v Q I rx h
 obtain⟨i,rfl,q⟩:=h
 obtain⟨t,rfl⟩:=rx
 exact rule i t s _ _ ⟨.int (g i),H,I.tok _,⟨_,rfl⟩,q⟩
theorem Pe:Ho X (unaryOp .USub) (rU λi=>.int (-i)):=Pd λ_ _ _ _ _ q=>neg_int q
end
section
variable{a b:Expr}{tc:TE}
theorem Pf{Q:VK}{k k':Bool}(I:Inv X qA σ H s)(q:Q (.bl k) H)(e:k=k'):EP X qA σ Q (.bool k') s:=by
 subst e
 exact⟨.bl k,H,I,rfl,q⟩
theorem Ht:An X (compareOp .Lt) (Bu λi j=>.bl (decide (i<j))):=Fv λ_ _ _ _ _ _ _ q=>lt_int q
theorem DT:An X (compareOp .LtE) (Bu λi j=>.bl (decide (i<=j))):=Fv λ_ _ _ _ _ _ _ q=>le_int q
theorem Hu:An X (compareOp .Gt) (Bu λi j=>.bl (decide (j<i))):=Fv λ_ _ _ _ _ _ _ q=>gt_int q
theorem Kh:An X (compareOp .GtE) (Bu λi j=>.bl (decide (j<=i))):=Fv λ_ _ _ _ _ _ _ q=>ge_int q
theorem Pg:An X (compareOp .Lt) (λx y H Q=>∃i j,x=.str i/\y=.str j/\Q (.bl (decide (i.cps.toList<j.cps.toList))) H):=by
 intro qA s σ H x y v u Q I rx ry h
 obtain⟨i,j,rfl,rfl,q⟩:=h
 obtain⟨t,rfl⟩:=rx
 obtain⟨t',rfl⟩:=ry
 exact lt_str (Pf I q rfl)
theorem AY(b:Expr){op:CmpOp}(h:op≠.In:=by decide)(h2:op≠.NotIn:=by decide):behindInMarks op b=false:=by
 have e1:(op==CmpOp.In)=false:=by cases op<;>first|rfl|exact absurd rfl h
 have e2:(op==CmpOp.NotIn)=false:=by cases op<;>first|rfl|exact absurd rfl h2
 cases b<;>simp[behindInMarks,e1,e2]
theorem Ph{op:CmpOp}{r:R2}(ho:An X (compareOp op) r)(ha:PE X a ta)(hb:PE X b tb)(hm:behindInMarks op b=false):PE X (.Compare a [op] [b] pos) (EF r ta tb):=by
 intro qA s σ H Q I h
 exact wpAny_Compare1 (Hr ha hb I h λv u s2 x y H2 I2 rx ry q=>ho qA s2 σ H2 x y v u Q I2 rx ry q) hm
def Hv(t:TE):TT:=λσ H Q=>t σ H λx H'=>∃k,x=.bl k/\Q k H'
theorem EK{op:CmpOp}{r:R2}(ho:An X (compareOp op) r)(ha:PE X a ta)(hb:PE X b tb)(hm:behindInMarks op b=false):PT X (.Compare a [op] [b] pos) (Hv (EF r ta tb)):=by
 intro qA s σ H Q I h
 refine wpAny_isTrue_Compare1 (AK (ha qA s σ H _ I h) λv s1 ⟨x,H1,I1,r1,q1⟩=>AK (hb qA s1 σ H1 _ I1 q1) λu s2 ⟨y,H2,I2,r2,q2⟩ =>
  AK (ho qA s2 σ H2 x y v u _ I2 r1 r2 q2) λc s3 ⟨z,H3,I3,r3,k,e,q3⟩=>?_) hm
 subst e
 cases r3
 exact wpAny_truthy_bool ⟨H3,I3,q3⟩
def Hw(r r':R2)(ta tb tc:TE):TE:=λσ H Q=>ta σ H λx H1=>tb σ H1 λy H2=>r x y H2 λz H3=>∃k,z=.bl k /\
 (if k=true then tc σ H3 λw' H4=>r' y w' H4 Q else Q (.bl false) H3)
theorem Pj{op op':CmpOp}{r r':R2}(ho:An X (compareOp op) r)(ho':An X (compareOp op') r')(ha:PE X a ta)(hb:PE X b tb)(hc:PE X c tc)
  (hm:lastMarks [op,op'] [b,c]=false:=by with_unfolding_all rfl):PE X (.Compare a [op,op'] [b,c] pos) (Hw r r' ta tb tc):=by
 intro qA s σ H Q I h
 refine Compare_chain (AK (ha qA s σ H _ I h) λv s1 ⟨x,H1,I1,r1,q1⟩=>chain_link (AK (hb qA s1 σ H1 _ I1 q1) λu s2 ⟨y,H2,I2,r2,q2⟩ =>
  AK (ho qA s2 σ H2 x y v u _ I2 r1 r2 q2) λd s3 ⟨z,H3,I3,r3,k,e,q3⟩=>?_)) hm
 subst e
 cases r3
 refine wpAny_truthy_bool ?_
 cases k with
 |false=>exact ite_ff ⟨.bl false,H3,I3,rfl,q3⟩
 |true=>exact ite_tt (chain_last (AK (hc qA s3 σ H3 _ I3 q3) λw' s4 ⟨z',H4,I4,r4,q4⟩=>ho' qA s4 σ H4 y z' u w' Q I4 r2 r4 q4))
theorem Pk{op op':CmpOp}{r r':R2}(ho:An X (compareOp op) r)(ho':An X (compareOp op') r')(ha:PE X a ta)(hb:PE X b tb)(hc:PE X c tc)
  (hm:lastMarks [op,op'] [b,c]=false:=by with_unfolding_all rfl):PT X (.Compare a [op,op'] [b,c] pos) (Hv (Hw r r' ta tb tc)):=by
 intro qA s σ H Q I h
 refine isTrue_chain (AK (ha qA s σ H _ I h) λv s1 ⟨x,H1,I1,r1,q1⟩=>test_link (AK (hb qA s1 σ H1 _ I1 q1) λu s2 ⟨y,H2,I2,r2,q2⟩ =>
  AK (ho qA s2 σ H2 x y v u _ I2 r1 r2 q2) λd s3 ⟨z,H3,I3,r3,k,e,q3⟩=>?_)) hm
 subst e
 cases r3
 refine wpAny_truthy_bool ?_
 cases k with
 |false =>
  obtain⟨k',e',q'⟩:=q3
  cases e'
  exact ite_ff ⟨H3,I3,q'⟩
 |true =>
  refine ite_tt (test_last (AK (hc qA s3 σ H3 _ I3 q3) λw' s4 ⟨z',H4,I4,r4,q4⟩=>AK (ho' qA s4 σ H4 y z' u w' _ I4 r2 r4 q4) λd' s5 ⟨z2,H5,I5,r5,k2,e2,q5⟩=>?_))
  subst e2
  cases r5
  exact wpAny_truthy_bool ⟨H5,I5,q5⟩
theorem Dp:(sizeLine:Nat)<2 ^ 63:=by rw[sizeLine_eq];decide
theorem Fx:An X (binaryOp .Add) (λx y H Q=>∃i j,x=.str i/\y=.str j/\i.length+j.length<=sizeLine/\Q (.str (i++j)) H):=by
 intro qA s σ H x y v u Q I rx ry h
 obtain⟨i,j,rfl,rfl,hz,q⟩:=h
 obtain⟨t,rfl⟩:=rx
 obtain⟨t',rfl⟩:=ry
 exact add_str (λt' tk=>⟨.str (i++j),H,I.tok _,⟨_,rfl⟩,q⟩) hz
theorem Fy{x:V}(r:AM [x] us):∃u,us=[u]/\AI x u:=by
 cases r with
 |cons r1 r2=>cases r2;exact⟨_,rfl,r1⟩
theorem Ki{x y:V}(r:AM [x,y] us):∃u w',us=[u,w']/\AI x u/\AI y w':=by
 cases r with
 |cons r1 r2 =>
  cases r2 with
  |cons r3 r4=>cases r4;exact⟨_,_,rfl,r1,r3⟩
theorem Pl(hc:X.calm=true):BH X (.builtin "max") (λxs H Q=>∃i j,xs=[.int i,.int j]/\Q (.int (if j > i then j else i)) H):=by
 intro qA s σ H xs us Q I r h
 obtain⟨i,j,rfl,q⟩:=h
 obtain⟨u,w',rfl,⟨t,rfl⟩,⟨t',rfl⟩⟩:=Ki r
 refine max_two_ints (I.ok.hd hc) λh' tk k=>⟨_,H,I.kept k,?_,q⟩
 by_cases hj:j > i
 ·rw[if_pos hj,if_pos hj];exact⟨_,rfl⟩
 ·rw[if_neg hj,if_neg hj];exact⟨_,rfl⟩
theorem Pm(hc:X.calm=true):BH X (.builtin "min") (λxs H Q=>∃i j,xs=[.int i,.int j]/\Q (.int (if j<i then j else i)) H):=by
 intro qA s σ H xs us Q I r h
 obtain⟨i,j,rfl,q⟩:=h
 obtain⟨u,w',rfl,⟨t,rfl⟩,⟨t',rfl⟩⟩:=Ki r
 refine min_two_ints (I.ok.hd hc) λh' tk k=>⟨_,H,I.kept k,?_,q⟩
 by_cases hj:j<i
 ·rw[if_pos hj,if_pos hj];exact⟨_,rfl⟩
 ·rw[if_neg hj,if_neg hj];exact⟨_,rfl⟩
end
structure ObjM(h:Heap)(x dx C:Addr)(mA:Str->Option Value):Prop where
 obj:h.get? x=some (PySem.W.instObj C dx)
 ns:h.Ns1 dx mA
 ne:dx≠x
theorem Pn{dx:Addr}{mA:Str->Option Value}(n:h.Ns1 dx mA):∃od,h.get? dx=some od/\∀name,PySem.W.lookIn name od=some (mA name):=by
 obtain⟨o,es,ep,ho,hd,hk,_,hm⟩:=n
 refine⟨o,ho,λname=>?_⟩
 have e:=hm name
 unfold nsFind findBy at e
 rw[<-Array.find?_toList]at e
 unfold PySem.W.lookIn
 rw[hd]
 dsimp only
 split
 ·rename_i y q
  rw[q]at e
  exact congrArg some e
 ·rename_i q
  rw[q]at e
  have a:es.toList.any (·.refKey)=false:=by
   rw[any_eq_false]
   intro y hy
   obtain⟨z,t,hkey⟩:=hk y (Array.mem_toList_iff.mp hy)
   simp[DictEntry.refKey,hkey]
  have a':¬es.toList.any (·.refKey)=true:=by rw[a];exact Bool.false_ne_true
  rw[if_neg a']
  exact congrArg some e
theorem ObjM.look{x dx C:Addr}{mA:Str->Option Value}(I:ObjM h x dx C mA):∃od,PySem.W.InstAt h x (PySem.W.instObj C dx) C (some od)/\∀name,PySem.W.lookIn name od=some (mA name) :=
 let⟨od,ho,hl⟩:=Pn I.ns
 ⟨od,⟨I.obj,rfl,rfl,ho⟩,hl⟩
theorem Ce.some_of{o:Option Value}(r:Ce (some v) o):∃u,o=some u/\AI v u:=by
 cases o with
 |none=>exact(show False from r).elim
 |some u=>exact⟨u,rfl,r⟩
section
variable{P:Program}{C dx:Addr}{fs fs':List (Str×V)}
theorem Po(hok:Ar P w H h)(e:H a=some (.ins C dx fs)):∃mA,ObjM h a dx C mA/\(∀f,Ce (fs.lookup f) (mA f))/\PySem.Within mA (fs.map (·.1))/\fs.length<=1000/\H dx=some (.own a):=by
 obtain⟨d,z,ne,ob,mA,n,r,q⟩:=(show Az P w H h a (.ins C dx fs)from hok a _ e)
 exact⟨mA,⟨ob,n,ne⟩,r,q,z,d⟩
end
structure Cls(K:Fg)(C:Addr):Prop where
 pg:PySem.W.plainGet K C Str.empty=true
 hd:PySem.W.hasDictIn K C=true
 po:PySem.W.plainOver K C=true
 sa:PySem.W.findIn K (.ref C) "__setattr__"=some (some (.builtin "object.__setattr__"))
theorem Cls.get{K:Fg}{C:Addr}(c:Cls K C)(f:Str):PySem.W.plainGet K C f=true:=c.pg
section
variable{c:Value}{b:Bool}
inductive TyOf(K:Fg)(H:Hp):V->Value->Prop where
 |non:TyOf K H .non (.type "NoneType")
 |bl (x:Bool):TyOf K H (.bl x) (.type "bool")
 |int (i:Int):TyOf K H (.int i) (.type "int")
 |str (x:Str):TyOf K H (.str x) (.type "str")
 |flt (x:UInt64):TyOf K H (.flt x) (.type "float")
 |lst {a:Addr} {xs:List V} (e:H a=some (.lst xs)):TyOf K H (.ref a) (.type "list")
 |frz {a:Addr} {o:Obj} {xs:List V} (e:H a=some (.frz o (.lst xs))):TyOf K H (.ref a) (.type "list")
 |tup {a:Addr} {xs:List V} (e:H a=some (.tup xs)):TyOf K H (.ref a) (.type "tuple")
 |dK {a:Addr} {qF:List (AO×V)} (e:H a=some (.dK qF)):TyOf K H (.ref a) (.type "dict")
 |dT {a:Addr} {qF:List (List AO×V)} (e:H a=some (.dT qF)):TyOf K H (.ref a) (.type "dict")
 |fT {a:Addr} {o:Obj} {qF:List (List AO×V)} (e:H a=some (.frz o (.dT qF))):TyOf K H (.ref a) (.type "dict")
 |ins {a C dx:Addr} {fs:List (Str×V)} (e:H a=some (.ins C dx fs)) (cl:Cls K C) (ha:PySem.W.findIn K (.ref C) "__class__"=some (some (.builtin "object.__class__")))
   (hn:PySem.W.specialIn K (.builtin "object.__class__") "__get__"=some (some (.builtin "getset_descriptor.__get__"))) (htk:PySem.W.takesIn K (.builtin "object.__class__")=some true)
   (hm:PySem.W.mroIn K C (.type "object")=some true):TyOf K H (.ref a) (.ref C)
theorem Pp{x:V}{t:Value}(I:Inv X qA σ H s)(rx:AI x u)(ty:TyOf X.K H x t)(e:PySem.W.kitOne X.K t c=some b)(h:∀tk,Q (.bool b) { s with toks:=tk }) :
  wpAny (model X.prog X.w) A (call (.builtin "isinstance") [u,c]) Q E s:=by
 cases ty with
 |non=>cases(show u=Value.none from rx);exact PySem.W.kia_one PySem.W.kitx_none I.kIn True.intro e (λz=>nomatch z) h
 |bl y=>cases(show u=Value.bool y from rx);exact PySem.W.kia_one PySem.W.kitx_bool I.kIn True.intro e (λz=>nomatch z) h
 |int i=>obtain⟨t,q⟩:=(show∃t,u=Value.int i t from rx);cases q;exact PySem.W.kia_one PySem.W.kitx_int I.kIn True.intro e (λz=>nomatch z) h
 |str y=>obtain⟨t,q⟩:=(show∃t,u=Value.str y t from rx);cases q;exact PySem.W.kia_one PySem.W.kitx_str I.kIn True.intro e (λz=>nomatch z) h
 |flt y=>obtain⟨t,q⟩:=(show∃t,u=Value.float y t from rx);cases q;exact PySem.W.kia_one PySem.W.kitx_float I.kIn True.intro e (λz=>nomatch z) h
 |@lst a xs ea =>
  cases(show u=Value.ref a from rx)
  obtain⟨_,_,n,_,h1⟩:=(show Az X.prog X.w H s.heap a (.lst xs)from I.hok a _ ea)
  exact PySem.W.kia_one PySem.W.kitx_list I.kIn ⟨_,h1,rfl⟩ e (λz=>nomatch z) h
 |@frz a ob xs ea =>
  cases(show u=Value.ref a from rx)
  obtain⟨_,_,_,n,_,h1⟩:=(show Az X.prog X.w H s.heap a (.frz ob (.lst xs))from I.hok a _ ea)
  exact PySem.W.kia_one PySem.W.kitx_list I.kIn ⟨_,h1,rfl⟩ e (λz=>nomatch z) h
 |@tup a xs ea =>
  cases(show u=Value.ref a from rx)
  obtain⟨_,_,_,p⟩:=(show Az X.prog X.w H s.heap a (.tup xs)from I.hok a _ ea)
  obtain⟨o,h1,h2,_⟩:=p
  exact PySem.W.kia_one PySem.W.kitx_tuple I.kIn ⟨o,h1,h2⟩ e (λz=>nomatch z) h
 |@dK a qF ea =>
  cases(show u=Value.ref a from rx)
  obtain⟨_,_,vs,_,p⟩:=(show Az X.prog X.w H s.heap a (.dK qF)from I.hok a _ ea)
  obtain⟨o,es,ep,h1,h2,_⟩:=p
  exact PySem.W.kia_one PySem.W.kitx_dict I.kIn ⟨o,h1,h2.1⟩ e (λz=>nomatch z) h
 |@dT a qF ea =>
  cases(show u=Value.ref a from rx)
  obtain⟨_,_,xs,_,o,es,ep,h1,h2,_⟩:=(show Az X.prog X.w H s.heap a (.dT qF)from I.hok a _ ea)
  exact PySem.W.kia_one PySem.W.kitx_dict I.kIn ⟨o,h1,h2.1⟩ e (λz=>nomatch z) h
 |@fT a ob qF ea =>
  cases(show u=Value.ref a from rx)
  obtain⟨_,_,_,xs,_,o,es,ep,h1,h2,_⟩:=(show Az X.prog X.w H s.heap a (.frz ob (.dT qF))from I.hok a _ ea)
  exact PySem.W.kia_one PySem.W.kitx_dict I.kIn ⟨o,h1,h2.1⟩ e (λz=>nomatch z) h
 |@ins a C dx fs ea cl ha hn htk hm =>
  cases(show u=Value.ref a from rx)
  obtain⟨mA,O,_⟩:=Po I.hok ea
  obtain⟨od,J,_⟩:=O.look
  exact PySem.W.kia_one (PySem.W.kitx_own (cl.get _) cl.hd ha hn htk hm) I.kIn J e (λz=>nomatch z) h
end
structure Room(k:Nat)(A:Around):Prop where
 hd:A.handled=none
 dp:A.depth+3 * k+5<recursionLimit
 un:A.units+16 * k+200<cLine
theorem Room.mono{k:Nat}(r:Room k A)(h:j<=k):Room j A:=⟨r.hd,by have:=r.dp;lia,by have:=r.un;lia⟩
theorem Room.mq{j k:Nat}{A:Around}(h:Room k A)(e:j<=k:=by decide):Room j A:=h.mono e
theorem Room.deeper{k:Nat}(r:Room (k+1) A)(env:Env):Room k (A.deeper env) :=
 ⟨r.hd,by have:=r.dp;show A.depth+1+3 * k+5<_;lia,by have:=r.un;show A.units+3+16 * k+200<_;lia⟩
theorem Room.depth{k:Nat}(r:Room k A):A.depth<recursionLimit:=by have:=r.dp;lia
theorem Room.units{k:Nat}(r:Room k A):A.units+64<cLine:=by have:=r.un;lia
theorem Room.units0{k:Nat}(r:Room k A):A.units<cLine:=by have:=r.un;lia
def CC:TA:=λ_ H Q=>Q [] H
def Bl(ta:TE)(tr:TA):TA:=λσ H Q=>ta σ H λx H1=>tr σ H1 λxs H2=>Q (x::xs) H2
section
variable{e:Expr}{t:TA}
theorem Ay:PA X [] CC:=λ_ _ _ _ H Q I h=>Calls.spliced_nil ⟨[],H,I,.nil,h⟩
theorem Ad(ha:PE X e te)(hr:PA X es t)(hs:starEach (e::es) X.env=(false,eval e X.env)::starEach es X.env:=by rfl):PA X (e::es) (Bl te t):=by
 intro pos qA s σ H Q I h
 rw[hs]
 show wpAny _ _ (spliced ((false,eval e X.env)::backTo pos (starEach es X.env))) _ _ s
 refine Calls.spliced_cons (AK (ha qA s σ H _ I h) λu s1 ⟨x,H1,I1,r1,q1⟩=>?_)
 exact AK (hr pos qA s1 σ H1 _ I1 q1) λus s2 ⟨xs,H2,I2,r2,q2⟩=>⟨x::xs,H2,I2,.cons r1 r2,q2⟩
def Pq(t:TA):TE:=λσ H Q=>t σ H λxs H1=>xs.length<=sizeLine/\∀p,H1 p=none->Q (.ref p) (AE H1 p (.tup xs))
def Pr(t:TA):TE:=λσ H Q=>t σ H λxs H1=>xs.length<=sizeLine/\∀p,H1 p=none->Q (.ref p) (AE H1 p (.lst xs))
theorem Ps{x1}(h:PA X es t):PE X (.Tuple es x1 pos) (Pq t):=by
 intro qA s σ H Q I hq
 refine wpAny_Tuple_spliced (AK (h pos qA s σ H _ I hq) λus s1 ⟨xs,H1,I1,r,z,q⟩=>⟨by rw[<-r.length];exact z,?_⟩)
 have hf:H1 s1.heap.objs.size=none:=I1.hok.fresh (Nat.le_refl _)
 refine⟨.ref s1.heap.objs.size,AE H1 s1.heap.objs.size (.tup xs),I1.laid (t':=s1.toks) (λb u e=>Heap.get?_push_of_some _ e) (Nat.le_refl _) ?_,rfl,q _ hf⟩
 exact⟨z,us,r,Cf.new _ _⟩
theorem F0(h:PA X es t):PE X (.List es pos) (Pr t):=by
 intro qA s σ H Q I hq
 refine wpAny_List_spliced (AK (h pos qA s σ H _ I hq) λus s1 ⟨xs,H1,I1,r,z,q⟩=>⟨by rw[<-r.length];exact z,?_⟩)
 have hf:H1 s1.heap.objs.size=none:=I1.hok.fresh (Nat.le_refl _)
 refine⟨.ref s1.heap.objs.size,AE H1 s1.heap.objs.size (.lst xs),I1.laid (t':=s1.toks) (λb u e=>Heap.get?_push_of_some _ e) (Nat.le_refl _) ?_,rfl,q _ hf⟩
 exact⟨z,us,0,r,Heap.get?_push_size _ rfl⟩
end
noncomputable abbrev Sp:=List V->Hp->VK->XK->Prop
noncomputable abbrev CL:=List Env->Hp->Shared->XK->Value->Shared->Prop
structure Env0(P:Program)(w:World)(K:Fg)(mg:Str->Option Value)(base:Heap)(A:Around)(outer:List Env)(s:Shared)(H:Hp):Prop where
 frames:A.frames=some outer
 mod:Mod K mg base
 bs:∀b o,base.get? b=some o->s.heap.get? b=some o/\H b=none
 bsz:base.objs.size<=s.heap.objs.size
 funs:s.heap.FunFrames base outer
 frf:∀b∈CA outer,H b=none
 hok:Ar P w H s.heap
 bare:AllBare s.gens
def CE(outer:List Env)(P:Program)(w:World)(H:Hp)(s:Shared)(Q:VK)(u:Value)(s':Shared):Prop :=
 ∃v H',s'.os=s.os/\AllBare s'.gens/\Un (CA outer) [] H H' s.heap s'.heap/\Ar P w H' s'.heap/\AI v u/\Q v H'
def CR(CX:CL)(outer:List Env)(P:Program)(w:World)(H:Hp)(s:Shared)(Q:VK)(E:XK)(r:Result)(s':Shared):Prop :=
 match r with
 |.ok (.ret u)=>CE outer P w H s Q u s'
 |.ok _=>False
 |.error e=>CX outer H s E e s'
structure FnOk(P:Program)(w:World)(K:Fg)(mg:Str->Option Value)(base:Heap)(CX:CL)(k:Nat)(f:Addr)(fd:FuncData)(ps:List Str)(sp:Sp):Prop where
 len:∀vs H Q E,sp vs H Q E->vs.length=ps.length
 run:∀(A:Around) (outer:List Env) (s:Shared) (H:Hp) (args:Args) (us:List Value) (vs:List V) (Q:VK) (E:XK),Room k A->Env0 P w K mg base A outer s H->BindsTo s fd args (ps.zip us)->AM vs us->sp vs H Q E ->
  codeAny (model P w) A (.call (.ref f) args) (CR CX outer P w H s Q E) s
theorem FnOk.imp{P:Program}{K:Fg}{CX:CL}{k:Nat}{f:Addr}{sp sp':Sp}(F:FnOk P w K mg base CX k f fd ps sp)
  (h:∀vs H Q E,sp' vs H Q E->sp vs H Q E):FnOk P w K mg base CX k f fd ps sp' :=
 ⟨λvs H Q E q=>F.len vs H Q E (h _ _ _ _ q),λA outer s H args us vs Q E hr he hb hv hs=>F.run A outer s H args us vs Q E hr he hb hv (h _ _ _ _ hs)⟩
section
variable{s':Shared}
theorem Inv.env0(I:Inv X qA σ H s):Env0 X.prog X.w X.K X.mg X.base X.A X.stack s H :=
 ⟨I.ok.frames,I.ok.mod,I.bs,Nat.le_trans I.ok.bsz I.sz,I.stack,I.stkFree,I.hok,I.bare⟩
theorem Inv.after{Q:VK}(I:Inv X qA σ H s)(h:CE X.stack X.prog X.w H s Q u s'):EP X qA σ Q u s':=by
 obtain⟨v,H',os,bare,un,hok,r,q⟩:=h
 obtain⟨hh,g,d,t,os'⟩:=s'
 obtain rfl:os'=s.os:=os
 exact⟨v,H',I.call (h':=hh) (g':=g) (d':=d) (t':=t) (ch:=[]) un hok bare (λb z=>absurd z (by simp)),r,q⟩
end
def EL(sp:Sp)(dvs:List V)(E:XK)(t:TA):TE:=λσ H Q=>t σ H λvs H1=>sp (vs++dvs) H1 Q E
def EM(K:Fg)(fd:FuncData)(ps:List Str)(ds:List Value):Prop :=
 ∀(s:Shared) (us:List Value),K.In s.heap->(us++ds).length=ps.length->BindsTo s fd ⟨us,[]⟩ (ps.zip (us++ds))
theorem EM.all{K:Fg}(h:∀us:List Value,us.length=ps.length->bindArgs fd ⟨us,[]⟩=pure (ps.zip us)):EM K fd ps []:=λs us _ hl=>by
 rw[append_nil]at hl ⊢
 exact .of_eq (h us hl)
def Hx(CX:CL)(X:Cx)(E:XK):Prop:=∀(qA:List (Addr×Obj)) (σ:St) (H:Hp) (s:Shared) (e:Value) (s':Shared),Inv X qA σ H s->CX X.stack H s E e s'->X.xe e s'
section
variable{CX:CL}{k:Nat}{f C:Addr}{sp:Sp}{dvs:List V}{ds:List Value}{E:XK}{m:Str}{p:Pos}{e o:Expr}{t:TA}
theorem Pt{Q:VK}(F:FnOk X.prog X.w X.K X.mg X.base CX k f fd ps sp)(hr:Room k X.A)(hb:EM X.K fd ps ds)(hd:AM dvs ds)(hx:Hx CX X E)
  (I:Inv X qA σ H s) (r:AM vs us) (h:sp (vs++dvs) H Q E):wpAny (model X.prog X.w) X.A (call (.ref f) us) (EP X qA σ Q) X.xe s:=by
 have r2:AM (vs++dvs) (us++ds):=r.append hd
 have hl:(us++ds).length=ps.length:=by rw[<-r2.length];exact F.len _ _ _ _ h
 refine wpAny_call (codeAny_mono (F.run X.A X.stack s H ⟨us,[]⟩ (us++ds) (vs++dvs) Q E hr I.env0 (hb s us I.kIn hl) r2 h) λr s' hq=>?_)
 cases r with
 |error e=>exact hx qA σ H s e s' I hq
 |ok fl =>
  cases fl with
  |ret u=>exact I.after hq
  |next=>exact False.elim hq
  |brk=>exact False.elim hq
  |cont=>exact False.elim hq
theorem Pu(F:FnOk X.prog X.w X.K X.mg X.base CX k f fd ps sp)(hr:Room k X.A)(hg:Gl X x)(hm:X.mg x=some (.ref f))(hk:PySem.W.keepIn X.K (.ref f)=true)(hb:EM X.K fd ps ds)(hd:AM dvs ds)(hx:Hx CX X E)
  (ha:PA X (e::es) t) (hdb:(x==("__debug__":Str))=false:=by decide) (he:starEach (e::es) X.env=(false,eval e X.env)::starEach es X.env:=by rfl) (hpl:(backTo pos (starEach es X.env)).any (·.1)=false:=by rfl) :
  PE X (.Call (.Name x p) (e::es) [] pos) (EL sp dvs E t):=by
 intro qA s σ H Q I h
 refine wpAny_Call_Name_kw (KQ I hg hm ?_ hdb)
 refine PySem.W.callWith_K (h₀:=X.base) I.ok.mod.kin hk (AK (ha pos qA s σ H _ I h) λus s1 ⟨vs,H1,I1,r,q⟩=>⟨I1.kIn,?_⟩) he hpl
 exact Pt F hr hb hd hx I1 r q
end
section
variable{CX:CL}{k:Nat}{f C:Addr}{ks:List Str}{sp:Sp}{E:XK}{m:Str}{p kpos:Pos}{e o:Expr}{kws:List Keyword}{t tk:TA}{nm:Option Str}
variable{g:List Value->List Value->List Value}{gV:List V->List V->List V}
end
structure FnScope(N P:List Str)(sc:Scope):Prop where
 kind:sc.kind=.function
 co:sc.isCoroutine=false
 gen:sc.isGenerator=false
 nd:N.Nodup
 pre:N.take P.length=P
 par:∀x∈P,sc.names.lookup x=some .local\/sc.names.lookup x=some .cell
 nofree:∀y∈sc.names,y.2≠.free
theorem Kj{kindOf:Str->Option NameKind}{x:Str}:∀{binds:List (Str×Value)} {m:Str->Option Value},(∀v,(x,v)∉binds)->bindL kindOf binds m x=m x
 |[],_,_=>rfl
 |(n,v)::r,m,h=>by
  unfold bindL
  rw[Kj λw hw=>h w (mem_cons_of_mem _ hw)]
  split
  ·have:x≠n:=by rintro rfl;exact h v mem_cons_self
   simp[this]
  ·rfl
theorem Kk{kindOf:Str->Option NameKind}{x:Str}:∀{binds:List (Str×Value)} {m:Str->Option Value},(∀v,(x,v)∉binds)->bindC kindOf binds m x=m x
 |[],_,_=>rfl
 |(n,v)::r,m,h=>by
  unfold bindC
  rw[Kk λw hw=>h w (mem_cons_of_mem _ hw)]
  split
  ·rfl
  ·have:x≠n:=by rintro rfl;exact h v mem_cons_self
   simp[this]
theorem Kl{kindOf:Str->Option NameKind}{x:Str}{v:Value}:∀{P:List Str} {vs:List Value} {i:Nat} {m:Str->Option Value},P.Nodup->P[i]?=some x->vs[i]?=some v->kindOf x=some .local ->
  bindL kindOf (P.zip vs) m x=some v
 |[],_,_,_,_,h,_,_=>by simp at h
 |_::_,[],_,_,_,_,h,_=>by simp at h
 |p::P,w::vs,0,m,nd,h1,h2,hk=>by
  simp at h1 h2;subst h1;subst h2
  show bindL kindOf ((p,w)::P.zip vs) m p=_
  unfold bindL
  rw[Kj λv hv=>(nodup_cons.mp nd).1 (of_mem_zip hv).1,if_pos hk]
  simp
 |p::P,w::vs,i+1,m,nd,h1,h2,hk=>by
  show bindL kindOf ((p,w)::P.zip vs) m x=_
  unfold bindL
  exact Kl (i:=i) (nodup_cons.mp nd).2 (by simpa using h1) (by simpa using h2) hk
theorem Km{kindOf:Str->Option NameKind}{x:Str}{v:Value}:∀{P:List Str} {vs:List Value} {i:Nat} {m:Str->Option Value},P.Nodup->P[i]?=some x->vs[i]?=some v->kindOf x≠some .local ->
  bindC kindOf (P.zip vs) m x=some v
 |[],_,_,_,_,h,_,_=>by simp at h
 |_::_,[],_,_,_,_,h,_=>by simp at h
 |p::P,w::vs,0,m,nd,h1,h2,hk=>by
  simp at h1 h2;subst h1;subst h2
  show bindC kindOf ((p,w)::P.zip vs) m p=_
  unfold bindC
  rw[Kk λv hv=>(nodup_cons.mp nd).1 (of_mem_zip hv).1,if_neg hk]
  simp
 |p::P,w::vs,i+1,m,nd,h1,h2,hk=>by
  show bindC kindOf ((p,w)::P.zip vs) m x=_
  unfold bindC
  exact Km (i:=i) (nodup_cons.mp nd).2 (by simpa using h1) (by simpa using h2) hk
noncomputable def start(N:List Str)(vs:List V):St:=vs.map some++replicate (N.length - vs.length) none
noncomputable def DU(CX:CL)(P:Program)(w:World)(K:Fg)(mg:Str->Option Value)(base:Heap)(N:List Str)(qual:Str)(scope:Scope)(f:Addr)(cd:Value)(A:Around)(outer:List Env)(s:Shared)(H:Hp)(E:XK):Cx where
 prog:=P
 w:=w
 K:=K
 mg:=mg
 base:=base
 A:=A.deeper (envOfC qual scope s.heap.objs.size f cd)
 N:=N
 s₀:=s
 H₀:=H
 env:=envOfC qual scope s.heap.objs.size f cd
 outer:=outer
 stack:=envOfC qual scope s.heap.objs.size f cd::outer
 ex:=[]
 calm:=true
 fn:=λ_=>true
 pn:=[]
 xe:=λe s'=>wpAny (model P w) (A.deeper (envOfC qual scope s.heap.objs.size f cd)) (leaving (envOfC qual scope s.heap.objs.size f cd) e) (λ_ s''=>CX outer H s E e s'') (λe' s''=>CX outer H s E e' s'') s'
theorem Kn{sc:Scope}(h:sc.names.lookup x=some .cell):∃c,(cellsFrom n sc.names []).lookup x=some c:=by
 have q:=PySem.W.cellsFrom_some sc.names n [] (.inl h)
 exact Option.isSome_iff_exists.mp q
theorem Pw{CX:CL}{P:Program}{K:Fg}{f:Addr}{cd:Value}{outer:List Env}{s1:Shared}{E:XK}
  (S:FnScope N ps scope) (hd:A.handled=none) (e0:Env0 P w K mg base A outer s H) (hl:vs.length=ps.length) (r:AM vs us)
  (x:InCallC s s.heap.objs.size (bindL (envOfC qual scope s.heap.objs.size f cd).kindOf (ps.zip us) λ_=>none) (cellsFrom (s.heap.objs.size+1) scope.names []) (bindC (envOfC qual scope s.heap.objs.size f cd).kindOf (ps.zip us) λ_=>none) s1) :
  Inv (DU CX P w K mg base N qual scope f cd A outer s H E) [] (start N vs) H s1:=by
 have hpl:ps.length<=N.length:=by have:=congrArg length S.pre;rw[length_take]at this;lia
 obtain⟨h1,tk,rfl,hk⟩:=x.done
 have noA:∀b:Addr,b∉(DU CX P w K mg base N qual scope f cd A outer s H E).ex:=λb z=>absurd (show b∈([]:List Addr)from z) (by simp)
 refine⟨⟨e0.mod,S.kind,rfl,rfl,Nat.le_refl _,λy z c h1 h2=>?_,λy hy=>?_,λy c _ h=>?_,λ_=>hd,Around.frames_deeper e0.frames,.inr ⟨rfl,rfl⟩,λb z=>absurd z (noA b),e0.bs,e0.bsz,λb _ _=>noA b,λb z=>absurd z (noA b),e0.funs,e0.frf⟩,
  rfl,e0.bare,Un.kept hk,⟨_,x.toInCall.ns,λi y v h1 h2 h3=>?_⟩,λy c h=>⟨_,x.cell y c h⟩,e0.hok.fresh (Nat.le_refl _),λy c h=>?_,λp hp=>absurd (show p∈([]:List (Addr×Obj))from hp) (by simp),e0.hok.kept hk,?_⟩
 ·exact name_of_addr x.apart (PySem.mem_of_lookup h1) (PySem.mem_of_lookup h2)
 ·have hy:scope.names.lookup y=some .cell\/scope.names.lookup y=some .free:=hy
  rcases hy with hy|hy
  ·exact Kn hy
  ·exact absurd rfl (S.nofree _ (PySem.mem_of_lookup hy))
 ·exact Nat.le_of_lt (x.above y c (PySem.mem_of_lookup h))
 ·have hi:i<vs.length:=by
   unfold start at h2
   by_cases hi:i<vs.length
   ·exact hi
   ·rw[getElem?_append_right (by simpa using hi)]at h2
    rw[getElem?_replicate]at h2
    split at h2<;>cases h2
  have ha:vs[i]?=some v:=by
   unfold start at h2
   rw[getElem?_append_left (by simpa using hi),getElem?_map]at h2
   cases e:vs[i]? with
   |none=>rw[e]at h2;cases h2
   |some a=>rw[e]at h2;cases h2;rfl
  obtain⟨u,hu,rv⟩:=r.get ha
  have hp:ps[i]?=some y:=by
   rw[<-S.pre,getElem?_take_of_lt (by lia)];exact h1
  have ndP:ps.Nodup:=by rw[<-S.pre];exact S.nd.sublist (take_sublist _ _)
  refine⟨u,rv,?_⟩
  rcases S.par y (mem_of_getElem? hp)with k|k
  ·exact .inl ⟨k,Kl ndP hp hu k⟩
  ·obtain⟨c,e⟩:=Kn (n:=s.heap.objs.size+1) k
   refine .inr ⟨.inl k,c,e,?_⟩
   have q:=x.cell y c e
   rw[Km ndP hp hu (by show scope.names.lookup y≠_;rw[k];decide)]at q
   exact q
 ·exact e0.hok.fresh (Nat.le_of_lt (x.above y c (PySem.mem_of_lookup h)))
 ·unfold start
  show _=N.length
  rw[length_append,length_map,length_replicate]
  lia
theorem Px{CX:CL}{P:Program}{K:Fg}{k:Nat}{f:Addr}{name:Str}{params:Arguments}{body:List Stmt}{dV kV doc pm cdv ct oc:Value}{an od:Option Addr}
  {osl:Array (Option Value)} {sp:Sp} (lk:K.lookup f=some ⟨oc,od,.func (PySem.W.fnOf name qual params body scope dV kV doc pm an cdv ct),osl⟩) (hcd:PySem.W.codeIn K cdv qual=true) (S:FnScope N ps scope)
  (len:∀vs H Q E,sp vs H Q E->vs.length=ps.length)
  (hbody:∀(A:Around) (outer:List Env) (s:Shared) (H:Hp) (vs:List V) (Q:VK) (E:XK),Room k (A.deeper (envOfC qual scope s.heap.objs.size f cdv))->sp vs H Q E ->
   ∃t,BN (DU CX P w K mg base N qual scope f cdv A outer s H E) body t/\t { nx:=λ_ H'=>Q .non H',rt:=Q } (start N vs) H) :
  FnOk P w K mg base CX (k+1) f (PySem.W.fnOf name qual params body scope dV kV doc pm an cdv ct) ps sp:=by
 refine⟨len,λA outer s H args us vs Q E hr e0 hb r hsp=>?_⟩
 have hl:=len _ _ _ _ hsp
 have KX:K.In s.heap:=e0.mod.kin.keeps λb o e=>(e0.bs b o e).1
 have lim:s.heap.NoLimit:=e0.mod.nolimit.keeps λb o e=>(e0.bs b o e).1
 have hkind:∀y∈ps.zip us,scope.names.lookup y.1=some .local\/(scope.names.lookup y.1=some .cell/\((cellsFrom (s.heap.objs.size+1) scope.names []).lookup y.1).isSome=true):=λ⟨n,v⟩ hy=>by
  rcases S.par n (of_mem_zip hy).1 with q|q
  ·exact .inl q
  ·exact .inr ⟨q,PySem.W.cellsFrom_some _ _ _ (.inl q)⟩
 refine codeAny_call_function hr.depth (KX _ _ lk) rfl S.co S.gen rfl (PySem.W.codeRec_of KX hcd) (hb _ _ _ _ ?_)
 refine wpAny_newFunctionEnv_cells S.kind hkind λenv he s1 x=>?_
 subst he
 refine⟨lim.keeps x.toInCall.keep,codeAny_func ?_⟩
 obtain⟨t,ht,hq⟩:=hbody A outer s H vs Q E (hr.deeper _) hsp
 have I:Inv (DU CX P w K mg base N qual scope f cdv A outer s H E) [] (start N vs) H s1:=Pw S hr.hd e0 hl r x
 refine wpAny_mono (ht [] s1 (start N vs) H _ I hq) (λfl s' hs=>?_) λe s' hs=>hs
 have fin:∀{σ':St} {H':Hp} {v:V} {u:Value},Inv (DU CX P w K mg base N qual scope f cdv A outer s H E) [] σ' H' s'->AI v u->Q v H'->CE outer P w H s Q u s' :=
  λ{σ' H' v u} J rv q=>⟨v,H',J.os,J.bare,J.base,J.hok,rv,q⟩
 cases fl with
 |ret u =>
  obtain⟨v,σ',H',J,rv,q⟩:=hs
  exact fin J rv q
 |next =>
  obtain⟨σ',H',J,q⟩:=hs
  exact fin (v:=V.non) (u:=Value.none) J rfl q
 |brk =>
  obtain⟨_,_,_,q⟩:=hs
  exact False.elim q
 |cont =>
  obtain⟨_,_,_,q⟩:=hs
  exact False.elim q
section
variable{p:Pos}{e:Expr}{t:TA}{id T:String}{r:List V->Hp->VK->Prop}
def F1(r:List V->Hp->VK->Prop)(t:TA):TE:=λσ H Q=>t σ H λvs H1=>r vs H1 Q
theorem EN(hc:BH X (.builtin id) r)(hg:Gl X x)(hm:X.mg x=none)(hv:bootBuiltins x=some (.builtin id))(ha:PA X (e::es) t)(hn:x≠"__name__":=by decide)(hdb:(x==("__debug__":Str))=false:=by decide)
  (he:starEach (e::es) X.env=(false,eval e X.env)::starEach es X.env:=by rfl) (hpl:(backTo pos (starEach es X.env)).any (·.1)=false:=by rfl):PE X (.Call (.Name x p) (e::es) [] pos) (F1 r t):=by
 intro qA s σ H Q I h
 refine wpAny_Call_Name_kw (EC I hg hm hv ?_ hn hdb)
 exact PyProof.Rows.callWith_builtin1 (AK (ha pos qA s σ H _ I h) λus s1 ⟨vs,H1,I1,r1,q1⟩=>hc qA s1 σ H1 vs us Q I1 r1 q1) he hpl
theorem Ko(hc:BH X (.type T) r)(hg:Gl X x)(hm:X.mg x=none)(hv:bootBuiltins x=some (.type T))(ha:PA X (e::es) t)(hn:x≠"__name__":=by decide)(hdb:(x==("__debug__":Str))=false:=by decide)
  (he:starEach (e::es) X.env=(false,eval e X.env)::starEach es X.env:=by rfl) (hpl:(backTo pos (starEach es X.env)).any (·.1)=false:=by rfl):PE X (.Call (.Name x p) (e::es) [] pos) (F1 r t):=by
 intro qA s σ H Q I h
 refine wpAny_Call_Name_kw (EC I hg hm hv ?_ hn hdb)
 exact PyProof.Rows.callWith_type1 (AK (ha pos qA s σ H _ I h) λus s1 ⟨vs,H1,I1,r1,q1⟩=>hc qA s1 σ H1 vs us Q I1 r1 q1) he hpl
end
end L2
namespace HT
open PySem PyProof.Rows
noncomputable def lexLt:List Int->List Int->Bool
 |[],[]=>false
 |[],_::_=>true
 |_::_,[]=>false
 |x::xs,y::ys=>if x=y then lexLt xs ys else decide (x<y)
theorem lexLt_cons(x y:Int)(xs ys:List Int):lexLt (x::xs) (y::ys)=if x=y then lexLt xs ys else decide (x<y):=rfl
theorem Py:lexLt [] []=false:=rfl
theorem Pz(y:Int)(ys:List Int):lexLt [] (y::ys)=true:=rfl
theorem P0(x:Int)(xs:List Int):lexLt (x::xs) []=false:=rfl
theorem P1(A:Around)(s:Shared)(a:Int)(t:Tok)(c:Int)(u:Tok):∃e,SeqAt.EqAt A s (.int a t) (.int c u) e/\(e=true↔a=c) :=
 ⟨(a==c),SeqAt.EqAt.int_int a t c u,by simp⟩
theorem P2(A:Around)(s:Shared)(a:Int)(t:Tok)(c:Int)(u:Tok)(prog:Program)(w:World)(E:VS)(Q:VS)(h:Q (.bool (decide (a<c))) s) :
  wpAny (model prog w) A (richCompare .Lt (.int a t) (.int c u)) Q E s :=
 (PyProof.Rows.lt_int h:wpAny (model prog w) A (compareOp .Lt (.int a t) (.int c u)) Q E s)
section
open PySem.SeqAt
open PySem.AutoSeq1 (wpAny_loadPart')
open PySem.MeetsSeq PySem.MeetsSeq2 PySem.MeetsSeq3
theorem tuple_lt_ints(l b:Addr)(items items2:Array Value)(n n2:Nat)(dd dd2:Option Addr)(sl sl2:Array (Option Value))(ns ms:List Int)(hi:IntsAre items.toList ns)(hj:IntsAre items2.toList ms) :
  Meets (Builtin.«tuple.__lt__» ⟨[.ref l,.ref b],[]⟩)
   (λ_ R s=>s.heap.get? l=some { cls:=.type "tuple",dict:=dd,data:=.seq items n,slots:=sl }/\s.heap.get? b=some { cls:=.type "tuple",dict:=dd2,data:=.seq items2 n2,slots:=sl2 } /\
    R (.ok (.ret (.bool (lexLt ns ms)))) s) :=
 .of_wp λprog w A R s h=>by
  obtain⟨hp,g,d,tk,os⟩:=s;obtain⟨hl,hb,h⟩:=h
  have f2:=AutoSeq1.sub_tuple_tuple
  have z1:items.size=ns.length:=by rw[<-hi.length];simp
  have z2:items2.size=ms.length:=by rw[<-hj.length];simp
  wp_walk using wpAny_loadPart' hl,wpAny_loadPart' hb,wpAny_forIn_list _ (λqC b s'=>b.1=none/\s'=⟨hp,g,d,tk,os⟩/\∃(vs ws:List Value) (ns' ms':List Int),qC=vs.zip ws /\
   IntsAre vs ns'/\IntsAre ws ms'/\ns'.length+items2.size=ms'.length+items.size/\R (.ok (.ret (.bool (lexLt ns' ms')))) ⟨hp,g,d,tk,os⟩) _
  case turn =>
   rintro⟨y,x⟩ qC b s' ⟨hb',rfl,vs,ws,ns',ms',hz,hvi,hwi,hlen,hR⟩
   cases hvi with
   |nil=>rw[zip_nil_left]at hz;cases hz
   |cons a t hvi' =>
    cases hwi with
    |nil=>rw[zip_nil_right]at hz;cases hz
    |cons c u hwi' =>
     rw[zip_cons_cons]at hz
     injection hz with hyx hrest
     injection hyx with hy hx
     subst hy hx
     rw[lexLt_cons]at hR
     simp only[length_cons]at hlen
     obtain⟨e,he,hiff⟩:=P1 A.in1 ⟨hp,g,d,tk,os⟩ a t c u
     refine wB (he prog w _ _ ?_)
     cases e with
     |true =>
      rw[if_pos (hiff.mp rfl)]at hR
      wp_walk
      exact⟨rfl,rfl,_,_,_,_,hrest,hvi',hwi',by lia,hR⟩
     |false =>
      rw[if_neg (λq=>absurd (hiff.mpr q) Bool.false_ne_true)]at hR
      have hri:=P2 A.in1 ⟨hp,g,d,tk,os⟩ a t c u prog w
      wp_walk using hri
      exact⟨_,rfl,by simpa using hR⟩
  case fin =>
   rintro⟨b1,b2⟩ s' ⟨hb',rfl,vs,ws,ns',ms',hz,hvi,hwi,hlen,hR⟩
   simp only at hb'
   subst hb'
   have hv:lexLt ns' ms'=decide (items.size<items2.size):=by
    cases hvi with
    |nil =>
     cases hwi with
     |nil =>
      simp only[length_nil]at hlen
      rw[Py]
      exact(decide_eq_false (by lia)).symm
     |cons c u hw =>
      simp only[length_nil,length_cons]at hlen
      rw[Pz]
      exact(decide_eq_true (by lia)).symm
    |cons a t hv =>
     cases hwi with
     |nil =>
      simp only[length_nil,length_cons]at hlen
      rw[P0]
      exact(decide_eq_false (by lia)).symm
     |cons c u hw =>
      rw[zip_cons_cons]at hz
      cases hz
   rw[hv]at hR
   wp_walk
   exact⟨_,rfl,by simpa[Builtin.Tuple.tupleCompareSizes]using hR⟩
  case h =>
   exact⟨rfl,rfl,items.toList,items2.toList,ns,ms,rfl,hi,hj,by lia,h⟩
end
theorem lt_tupInts{l b:Addr}{items items2:Array Value}{ms:List Int}(hl:IsTup s.heap l items)(hb:IsTup s.heap b items2)(hi:IntsAre items.toList ns)(hj:IntsAre items2.toList ms)
  (hu:A.units<cLine) (h:Q (.bool (lexLt ns ms)) s):wpAny (model prog w) A (compareOp .Lt (.ref l) (.ref b)) Q E s:=by
 obtain⟨⟨cls,dd,data,sl⟩,ho,hc,n,hd⟩:=id hl
 obtain⟨⟨cls2,dd2,data2,sl2⟩,ho2,hc2,n2,hd2⟩:=id hb
 simp only at hc hd hc2 hd2
 subst hc hd hc2 hd2
 exact richCompare_meets_room (op:=.Lt) ⟨_,ho,rfl⟩ ⟨_,ho2,rfl⟩ PySem.F.slot_tuple_lt PySem.F.entry_tuple_lt (PySem.F.args_tuple_lt_2 _ _) (tuple_lt_ints l b items items2 n n2 dd dd2 sl sl2 ns ms hi hj)
  ⟨ho,ho2,show Value.bool (lexLt ns ms)≠Value.notImplemented/\Q (.bool (lexLt ns ms)) s from⟨(λx=>nomatch x),h⟩⟩ hu
noncomputable def sIx(n d:Nat):Option Int->Nat
 |none=>d
 |some v=>if v<0 then(v+(n:Int)).toNat else min v.toNat n
theorem P3(n d:Nat)(hd:d<=n)(o:Option Int):sIx n d o<=n:=by
 cases o with
 |none=>exact hd
 |some v =>
  show(if v<0 then(v+(n:Int)).toNat else min v.toNat n)<=n
  by_cases hv:v<0
  ·rw[if_pos hv];lia
  ·rw[if_neg hv];exact Nat.min_le_right _ _
theorem Kp(v:Int)(n d:Nat):(if v<0 then max (v+(n:Int)) 0 else min v (n:Int))=((sIx n d (some v):Nat):Int):=by
 show(if v<0 then max (v+(n:Int)) 0 else min v (n:Int))=(((if v<0 then(v+(n:Int)).toNat else min v.toNat n):Nat):Int)
 by_cases hv:v<0
 ·simp only[if_pos hv];lia
 ·simp only[if_neg hv];lia
theorem P4(lo hi:Option Int)(n:Nat):Builtin.Slice.sliceAdjust lo hi 1 (n:Int)=(((sIx n 0 lo:Nat):Int),((sIx n n hi:Nat):Int)):=by
 have h1:¬((1:Int)<0):=by lia
 unfold Builtin.Slice.sliceAdjust
 simp only[h1,if_false]
 refine Prod.ext ?_ ?_
 ·cases lo with
  |none=>rfl
  |some v=>exact Kp v n 0
 ·cases hi with
  |none=>rfl
  |some v=>exact Kp v n n
theorem P5(i j:Nat):Builtin.Slice.slicePlaces (i:Int) (j:Int) 1=j - i:=by
 unfold Builtin.Slice.slicePlaces
 have h1:(1:Int) > 0:=by lia
 simp only[h1,if_true,Int.ediv_one]
 split<;>lia
theorem Kq{v:Value}{o:Option Int}{Q:Option Int->Shared->Prop}(p:IsPart v o)(h:Q o s):wpAny (model prog w) A (Builtin.Slice.slicePartIndex v) Q E s:=by
 cases p with
 |none=>exact slicePart_none h
 |int i t=>exact slicePart_int h
theorem Kr{sl:Addr}{vl vu:Value}{lo hi:Option Int}{Q:Int×Int×Nat->Shared->Prop}(hs:s.heap.IsSliceOf sl vl vu .none)(pl:IsPart vl lo)(pu:IsPart vu hi)
  (h:Q (((sIx n 0 lo:Nat):Int),1,sIx n n hi - sIx n 0 lo) s):wpAny (model prog w) A (Builtin.Slice.sliceApplied (.ref sl) (pure (n:Int))) Q E s:=by
 obtain⟨os,hos,hcs,hds⟩:=id hs
 unfold Builtin.Slice.sliceApplied Builtin.Slice.sliceFields
 refine wB (wB (wpAny_field hos hds (x:=vl) rfl (wB (wpAny_field hos hds (x:=vu) rfl (wB (wpAny_field hos hds (x:=.none) rfl (wP ?_)))))))
 refine wB (slicePart_none ?_)
 show wpAny _ _ (if((1:Int)==0)=true then _ else _) _ _ s
 rw[if_neg (by decide)]
 refine wB (Kq pl (wB (Kq pu (wB (wP ?_)))))
 show wpAny _ _ (match Builtin.Slice.sliceAdjust lo hi 1 (n:Int)with|(lo,hi)=>pure (lo,(1:Int),Builtin.Slice.slicePlaces lo hi 1)) _ _ s
 rw[P4 lo hi n]
 show wpAny _ _ (pure (((sIx n 0 lo:Nat):Int),(1:Int),Builtin.Slice.slicePlaces ((sIx n 0 lo:Nat):Int) ((sIx n n hi:Nat):Int) 1)) _ _ s
 rw[P5]
 exact wP h
theorem P6(xs:Array Value)(i k:Nat):((List.range k).filterMap λ(m:Nat)=>xs[((i:Int)+(m:Int) * 1).toNat]?).toArray=((xs.toList.drop i).take k).toArray:=by
 have e:(λ(m:Nat)=>xs[((i:Int)+(m:Int) * 1).toNat]?)=λm=>xs[i+m]?:=by
  funext m
  have:((i:Int)+(m:Int) * 1).toNat=i+m:=by lia
  rw[this]
 rw[e]
 have:=pick_run xs i k
 rw[filterMap_map]at this
 have e2:((λx=>xs[x]?) ∘ λx=>i+x)=λm=>xs[i+m]?:=rfl
 rw[e2]at this
 rw[this]
theorem getItem_tuple_cut{t sl:Addr}{items:Array Value}{vl vu:Value}{lo hi:Option Int}(ht:IsTup s.heap t items)(hs:s.heap.IsSliceOf sl vl vu .none)(pl:IsPart vl lo)(pu:IsPart vu hi)
  (hw:¬(sIx items.size 0 lo=0/\sIx items.size items.size hi=items.size))
  (h:Q (.ref s.heap.objs.size) { s with heap:=s.heap.push { cls:=.type "tuple",data:=.seq ((items.toList.drop (sIx items.size 0 lo)).take (sIx items.size items.size hi - sIx items.size 0 lo)).toArray } })
  (hsz:items.size<=sizeLine):wpAny (model prog w) A (getItem (.ref t) (.ref sl)) Q E s:=by
 have htake:sizeOk (.seq ((items.toList.drop (sIx items.size 0 lo)).take (sIx items.size items.size hi - sIx items.size 0 lo)).toArray):=by
  show((items.toList.drop (sIx items.size 0 lo)).take (sIx items.size items.size hi - sIx items.size 0 lo)).toArray.size<=sizeLine
  rw[size_toArray,length_take,length_drop,Array.length_toList]
  lia
 have hj:sIx items.size items.size hi<=items.size:=P3 _ _ (Nat.le_refl _) hi
 obtain⟨os,hos,hcs,hds⟩:=id hs
 have hTs:s.TypeIs (.ref sl) "slice":=⟨os,hos,hcs⟩
 unfold getItem
 try with_reducible refine wpAny_holding ?_
 first|refine wB (wP ?_)|skip
 refine wB (wpAny_sequenceKey ht.typeIs (by decide) ?_)
 refine wB (wpAny_callSpecial?_slot (name:=Str.ofString "__getitem__") ht.typeIs PyProof.Rows.slot_tuple_getitem
  (wpAny_call_entry PyProof.Rows.slot_tuple_getitem ht.typeIs entry_tuple_getitem ?_ (args_tuple_getitem _ _)))
 show wpAny _ _ (Builtin.Tuple.tupleItemsOf (.ref t) >>= _) _ _ s
 refine wB (tupleItemsOf_ ht ?_)
 refine wB (wpAny_typeOf hTs ?_)
 rw[if_pos (by decide)]
 refine wB (Kr hs pl pu ?_)
 have hno:¬((((sIx items.size 0 lo:Nat):Int)==0&&(1:Int)==1&&(sIx items.size items.size hi - sIx items.size 0 lo)==items.size)=true):=by
  intro q
  rw[Bool.and_eq_true,Bool.and_eq_true]at q
  have q1:((sIx items.size 0 lo:Nat):Int)=0:=eq_of_beq q.1.1
  have q2:sIx items.size items.size hi - sIx items.size 0 lo=items.size:=eq_of_beq q.2
  exact hw ⟨by lia,by lia⟩
 show wpAny _ _ (if(((sIx items.size 0 lo:Nat):Int)==0&&(1:Int)==1&&(sIx items.size items.size hi - sIx items.size 0 lo)==items.size)=true then _ else _) _ _ s
 rw[if_neg hno,P6]
 first
  |exact wB (m:=Builtin.Tuple.tupleExact _) (wpAny_newObj_type (wP ⟨_,rfl,wP h⟩) htake)
  |exact wB (m:=Builtin.Tuple.tupleExact _) (wpAny_newObj_type (wB (wP (wP ⟨_,rfl,wP h⟩))) htake)
  |exact wB (wB (m:=Builtin.Tuple.tupleExact _) (wpAny_newObj_type (wP (wP ⟨_,rfl,wP h⟩)) htake))
  |exact wB (wB (m:=Builtin.Tuple.tupleExact _) (wpAny_newObj_type (wP ⟨_,rfl,wP h⟩) htake))
end HT
namespace L2
open PySem PySem.Spec PyProof.Rows
noncomputable abbrev TO:=St->Hp->(Option Int->Hp->Prop)->Prop
def PO(X:Cx)(e:Option Expr)(t:TO):Prop :=
 ∀(qA:List (Addr×Obj)) (s:Shared) (σ:St) (H:Hp) (Q:Option Int->Hp->Prop),Inv X qA σ H s->t σ H Q ->
  wpAny (model X.prog X.w) X.A (evalPart e X.env) (λu s'=>∃o H',Inv X qA σ H' s'/\IsPart u o/\Q o H') X.xe s
noncomputable def P7:TO:=λ_ H Q=>Q none H
noncomputable def P8(t:TE):TO:=λσ H Q=>t σ H λx H1=>∃i,x=.int i/\Q (some i) H1
theorem Hy:∀{us:List Value},AM (ns.map V.int) us->IntsAre us ns:=by
 induction ns with
 |nil=>intro us r;rw[map_nil]at r;cases r;exact .nil
 |cons n ns ih =>
  intro us r
  rw[map_cons]at r
  cases r with
  |cons r1 r2 =>
   obtain⟨t,e⟩:=r1
   subst e
   exact .cons n t (ih r2)
section
variable{e:Expr}{lo hi:Option Expr}{tl th:TO}{p2:Pos}
theorem Ew:PO X none P7:=by
 intro qA s σ H Q I h
 rw[evalPart_none]
 exact wP ⟨none,H,I,.none,h⟩
theorem Ey(h:PE X e te):PO X (some e) (P8 te):=by
 intro qA s σ H Q I hw
 rw[evalPart_some]
 refine AK (h qA s σ H _ I hw) λu s1 ⟨x,H1,I1,r1,q1⟩=>?_
 obtain⟨i,rfl,q⟩:=q1
 obtain⟨t,rfl⟩:=r1
 exact⟨some i,H1,I1,.int i t,q⟩
def CM(X:Cx)(r:V->Option Int->Option Int->Hp->VK->Prop):Prop :=
 ∀(qA:List (Addr×Obj)) (s:Shared) (σ:St) (H:Hp) (x:V) (v vl vu:Value) (lo hi:Option Int) (sl:Addr) (Q:VK),Inv X qA σ H s->AI x v->s.heap.IsSliceOf sl vl vu .none->IsPart vl lo->IsPart vu hi->r x lo hi H Q ->
  ∃T id,typeLookup (.type T) "__getitem__"=pure (some (.builtin id))/\s.TypeIs v T/\wpAny (model X.prog X.w) X.A (getItem v (.ref sl)) (EP X qA σ Q) X.xe s
theorem CM.or{r r':V->Option Int->Option Int->Hp->VK->Prop}(h:CM X r)(h':CM X r'):CM X (λx lo hi H Q=>r x lo hi H Q\/r' x lo hi H Q):=by
 intro qA s σ H x v vl vu lo hi sl Q I rx hs pl pu q
 rcases q with q|q
 ·exact h qA s σ H x v vl vu lo hi sl Q I rx hs pl pu q
 ·exact h' qA s σ H x v vl vu lo hi sl Q I rx hs pl pu q
def Ks(r:V->Option Int->Option Int->Hp->VK->Prop)(te:TE)(tl th:TO):TE:=λσ H Q=>te σ H λx H1=>tl σ H1 λl H2=>th σ H2 λu H3=>r x l u H3 Q
theorem Ez{r:V->Option Int->Option Int->Hp->VK->Prop}(hr:CM X r)(he:PE X e te)(hl:PO X lo tl)(hu:PO X hi th):PE X (.Subscript e (.Slice lo hi none p2) pos) (Ks r te tl th):=by
 intro qA s σ H Q I h
 refine Subscript_ (AK (he qA s σ H _ I h) λv s1 ⟨x,H1,I1,r1,q1⟩=>?_)
 refine wpAny_Slice (AK (hl qA s1 σ H1 _ I1 q1) λvl s2 ⟨l,H2,I2,pl,q2⟩=>AK (hu qA s2 σ H2 _ I2 q2) λvu s3 ⟨u,H3,I3,pu,q3⟩=>?_)
 rw[evalPart_none]
 refine wP ?_
 have I4:Inv X qA σ H3 { s3 with heap:=s3.heap.push { cls:=.type "slice",data:=.fields #[vl,vu,.none] } }:=I3.kept (t':=s3.toks) λb ob q=>Heap.get?_push_of_some _ q
 obtain⟨T,id,hT,ht,hg⟩:=hr qA { s3 with heap:=s3.heap.push { cls:=.type "slice",data:=.fields #[vl,vu,.none] } } σ H3 x v vl vu l u s3.heap.objs.size Q I4 r1 (Heap.IsSliceOf.new ..) pl pu q3
 show wpAny (model X.prog X.w) X.A (subscriptTail e (.Slice lo hi none p2) v (.ref s3.heap.objs.size)) (EP X qA σ Q) X.xe { s3 with heap:=s3.heap.push { cls:=.type "slice",data:=.fields #[vl,vu,.none] } }
 exact tail_any (ops:=[.ref s3.heap.objs.size,v]) ht hT hg (by with_unfolding_all rfl)
noncomputable def CN(xs:List V)(lo hi:Option Int):List V:=(xs.drop (HT.sIx xs.length 0 lo)).take (HT.sIx xs.length xs.length hi - HT.sIx xs.length 0 lo)
theorem Kt(xs:List V)(lo hi:Option Int):(CN xs lo hi).length<=xs.length:=by
 unfold CN
 rw[length_take,length_drop]
 lia
noncomputable def P9(K:Fg):V->Option Int->Option Int->Hp->VK->Prop:=λx lo hi H Q=>∃a xs,x=.ref a/\A0 K H a xs /\
 ¬(HT.sIx xs.length 0 lo=0/\HT.sIx xs.length xs.length hi=xs.length)/\∀p,H p=none->Q (.ref p) (AE H p (.tup (CN xs lo hi)))
theorem QB:CM X (P9 X.K):=by
 intro qA s σ H x v vl vu lo hi sl Q I rx hs pl pu h
 obtain⟨a,xs,rfl,hx,hw,q⟩:=h
 cases rx
 obtain⟨qE,r,ht,hz⟩:=I.tuple hx
 have hlen:qE.toArray.size=xs.length:=by rw[size_toArray];exact r.length.symm
 refine⟨"tuple",_,PyProof.Rows.slot_tuple_getitem.lookup,ht.typeIs,?_⟩
 refine HT.getItem_tuple_cut ht hs pl pu (by rw[hlen];exact hw) ?_ (by rw[hlen];exact hz)
 rw[hlen]
 refine⟨.ref s.heap.objs.size,_,I.laid (t':=s.toks) (o:=.tup (CN xs lo hi)) (λb ob q=>Heap.get?_push_of_some _ q) (Nat.le_refl _) ?_,rfl,q _ (I.hok.fresh (Nat.le_refl _))⟩
 exact⟨Nat.le_trans (Kt xs lo hi) hz,_,(r.drop (HT.sIx xs.length 0 lo)).take (HT.sIx xs.length xs.length hi - HT.sIx xs.length 0 lo),Cf.new _ _⟩
noncomputable def QC(K:Fg):R2:=λx y H Q=>∃a b ns ms,x=.ref a/\y=.ref b/\A0 K H a (ns.map V.int)/\A0 K H b (ms.map V.int)/\Q (.bl (HT.lexLt ns ms)) H
theorem QD(hu:X.A.units<cLine):An X (compareOp .Lt) (QC X.K):=by
 intro qA s σ H x y v u Q I rx ry h
 obtain⟨a,b,ns,ms,rfl,rfl,ha,hb,q⟩:=h
 cases rx
 cases ry
 obtain⟨qE,r1,p1,_⟩:=I.tuple ha
 obtain⟨its2,r2,p2,_⟩:=I.tuple hb
 have i1:IntsAre qE.toArray.toList ns:=Hy r1
 have i2:IntsAre its2.toArray.toList ms:=Hy r2
 exact HT.lt_tupInts p1 p2 i1 i2 hu ⟨.bl (HT.lexLt ns ms),H,I,rfl,q⟩
end
noncomputable def DV(n:Nat)(i:Int):Option Nat:=if 0<=i then(if i<n then some i.toNat else none)else if -(n:Int)<=i then some (i+n).toNat else none
noncomputable def atI{α:Type}(xs:List α)(i:Int):Option α:=(DV xs.length i).bind λj=>xs[j]?
theorem Ku{i:Int}(h:DV n i=some j):seqIndex? i n=some j/\j<n/\-(n:Int)<=i/\i<n:=by
 unfold DV at h
 by_cases h0:0<=i
 ·rw[if_pos h0]at h
  by_cases h1:i<n
  ·rw[if_pos h1]at h
   have e:i.toNat=j:=oI h
   exact⟨by rw[seqIndex_of h0 h1,e],by lia,by lia,h1⟩
  ·rw[if_neg h1]at h;cases h
 ·rw[if_neg h0]at h
  by_cases h1:-(n:Int)<=i
  ·rw[if_pos h1]at h
   have e:(i+n).toNat=j:=oI h
   exact⟨by rw[seqIndex_neg (by lia) h1,e],by lia,h1,by lia⟩
  ·rw[if_neg h1]at h;cases h
theorem F2{α:Type}{xs:List α}{i:Int}{v:α}(h:atI xs i=some v):∃j,seqIndex? i xs.length=some j/\xs[j]?=some v/\j<xs.length/\-(xs.length:Int)<=i/\i<xs.length:=by
 unfold atI at h
 cases e:DV xs.length i with
 |none=>rw[e]at h;cases h
 |some j =>
  rw[e]at h
  obtain⟨h1,h2,h3,h4⟩:=Ku e
  exact⟨j,h1,h,h2,h3,h4⟩
theorem Bx{α:Type}{xs:List α}{v:α}(h:xs[j]?=some v):atI xs (j:Int)=some v:=by
 have hj:j<xs.length:=(List.getElem?_eq_some_iff.mp h).1
 have e:DV xs.length (j:Int)=some j:=by
  unfold DV
  rw[if_pos (by lia),if_pos (by lia)];simp
 unfold atI;rw[e];exact h
def Kv(b:Expr):Prop:=∀o i,subscripted b false o i=operate [o,i] (getItem o i)
def Dq(X:Cx)(r:R2):Prop :=
 ∀(value slice:Expr) (qA:List (Addr×Obj)) (s:Shared) (σ:St) (H:Hp) (x y:V) (v u:Value) (Q:VK),Inv X qA σ H s->AI x v->AI y u->r x y H Q ->
  subscripted slice false v u=operate [v,u] (getItem v u)->wpAny (model X.prog X.w) X.A (subscriptTail value slice v u) (EP X qA σ Q) X.xe s
def Cp(X:Cx)(id:String)(r:V->List V->Hp->VK->Prop):Prop :=
 ∀(qA:List (Addr×Obj)) (s:Shared) (σ:St) (H:Hp) (x:V) (xs:List V) (v:Value) (us:List Value) (Q:VK),Inv X qA σ H s->AI x v->AM xs us->r x xs H Q ->
  wpAny (model X.prog X.w) X.A (call (.builtin id) (v::us)) (EP X qA σ Q) X.xe s
section
variable{a b:Expr}
theorem Cp.or{id:String}{r r':V->List V->Hp->VK->Prop}(h:Cp X id r)(h':Cp X id r'):Cp X id (λx xs H Q=>r x xs H Q\/r' x xs H Q):=by
 intro qA s σ H x xs v us Q I rx rs q
 rcases q with q|q
 ·exact h qA s σ H x xs v us Q I rx rs q
 ·exact h' qA s σ H x xs v us Q I rx rs q
theorem Bm{r:R2}(hr:Dq X r)(ha:PE X a ta)(hb:PE X b tb)(hs:Kv b):PE X (.Subscript a b pos) (EF r ta tb):=by
 intro qA s σ H Q I h
 exact Subscript_ (Hr ha hb I h λv u s2 x y H2 I2 rx ry q=>hr a b qA s2 σ H2 x y v u Q I2 rx ry q (hs _ _))
noncomputable def QF(K:Fg):R2:=λx y H Q=>∃p xs i v,x=.ref p/\y=.int i/\Am K H p xs/\atI xs i=some v/\Q v H
noncomputable def QH(K:Fg):R2:=λx y H Q=>∃p xs i v,x=.ref p/\y=.int i/\A0 K H p xs/\atI xs i=some v/\Q v H
noncomputable def Kw:R2:=λx y H Q=>∃z i c,x=.str z/\y=.int i/\z.length<=sizeLine/\atI z.cps.toList i=some c/\Q (.str ⟨#[c]⟩) H
theorem Ky:Dq X (QF X.K):=by
 intro value slice qA s σ H x y v u Q I rx ry h hs
 obtain⟨p,xs,i,z,rfl,rfl,hq,he,q⟩:=h
 cases rx
 obtain⟨t,rfl⟩:=ry
 obtain⟨qE,r,pl,hz⟩:=I.list hq
 obtain⟨j,h1,h2,h3,h4,h5⟩:=F2 he
 obtain⟨w,ew,rw'⟩:=r.get h2
 have hl:=r.length
 have hn:=Dp
 have fin:EP X qA σ Q w s:=⟨z,H,I,rw',q⟩
 by_cases h0:0<=i
 ·have hj:i.toNat=j:=by
   rw[seqIndex_of h0 h5]at h1
   exact oI h1
  exact item_listR pl.isList h0 (by lia) (by rw[hj];simpa using ew) fin hs
 ·have hj:(i+(qE.toArray.size:Int)).toNat=j:=by
   rw[seqIndex_neg (by lia) h4]at h1
   rw[size_toArray,<-hl]
   exact oI h1
  exact subscriptTail_builtinR (x:=w) pl.isList.typeIs slot_list_getitem.lookup
   (wpAny_getItem_list_neg (Q:=λr s'=>r=w/\EP X qA σ Q r s') pl.isList (by lia) (by rw[size_toArray]<;>lia) (by lia) (by rw[hj];simpa using ew) ⟨rfl,fin⟩) hs
theorem QK:Dq X (QH X.K):=by
 intro value slice qA s σ H x y v u Q I rx ry h hs
 obtain⟨p,xs,i,z,rfl,rfl,hq,he,q⟩:=h
 cases rx
 obtain⟨t,rfl⟩:=ry
 obtain⟨qE,r,pl,hz⟩:=I.tuple hq
 obtain⟨j,h1,h2,h3,h4,h5⟩:=F2 he
 obtain⟨w,ew,rw'⟩:=r.get h2
 have hl:=r.length
 have hn:=Dp
 have fin:EP X qA σ Q w s:=⟨z,H,I,rw',q⟩
 exact subscriptTail_builtinR (x:=w) pl.typeIs slot_tuple_getitem.lookup
  (getItem_tuple (j:=j) (Q:=λr s'=>r=w/\EP X qA σ Q r s') pl (by lia) (by lia) (by rw[size_toArray,<-hl];exact h1) (by simpa using ew) ⟨rfl,fin⟩) hs
theorem Hz:Dq X Kw:=by
 intro value slice qA s σ H x y v u Q I rx ry h hs
 obtain⟨z,i,c,rfl,rfl,hz,he,q⟩:=h
 obtain⟨t,rfl⟩:=rx
 obtain⟨t',rfl⟩:=ry
 obtain⟨j,h1,h2,h3,h4,h5⟩:=F2 he
 have hl:z.cps.toList.length=z.length:=by simp[Str.length]
 rw[hl]at h1 h4 h5
 have hn:=Dp
 exact tail_any (typeIs_str s z t) slot_str_getitem.lookup (getItem_str (c:=c) (by
  have e1:decide (i < -(2 ^ 63:Int))=false:=decide_eq_false (by lia)
  have e2:decide (i≥2 ^ 63)=false:=decide_eq_false (by lia)
  rw[e1,e2,Bool.or_false]) (by rw[h1];simpa using h2) ⟨.str ⟨#[c]⟩,H,I.tok _,⟨_,rfl⟩,q⟩) hs
theorem QL(qE:List Value)(n j:Nat)(u:Value):Obj.mapSeq (·.setIfInBounds j u) { cls:=.type "list",data:=.seq qE.toArray n }={ cls:=.type "list",data:=.seq (qE.set j u).toArray n }:=by
 simp[Obj.mapSeq]
theorem Inv.lst{xs:List V}(I:Inv X qA σ H s)(h:H p=some (.lst xs)) :
  ∃(qE:List Value) (n:Nat),AM xs qE/\s.heap.get? p=some { cls:=.type "list",data:=.seq qE.toArray n }/\xs.length<=sizeLine:=by
 obtain⟨z,qE,n,r,e⟩:=I.hok p _ h
 exact⟨qE,n,r,e,z⟩
theorem Inv.lstUpd{xs ys:List V}{qE its':List Value}{n':Nat}{f:Obj->Obj}(I:Inv X qA σ H s)(h:H p=some (.lst xs))
  (ho:s.heap.get? p=some { cls:=.type "list",data:=.seq qE.toArray n }) (hf:f { cls:=.type "list",data:=.seq qE.toArray n }={ cls:=.type "list",data:=.seq its'.toArray n' }) (r:AM ys its') (hz:ys.length<=sizeLine) (t:Nat) :
  Inv X qA σ (AE H p (.lst ys)) { s with heap:=s.heap.update p f,toks:=t }:=by
 have e:(s.heap.update p f).get? p=some { cls:=.type "list",data:=.seq its'.toArray n' }:=by
  rw[Heap.get?_update_self f ho (by rw[hf]<;>rfl),hf]
 refine I.write (x:=p) (e:=p) (by rw[h];trivial) (.inl rfl) (λb u hb q=>(Heap.get?_update_other _ _ (Ne.symm hb)).trans q) ⟨_,e⟩ ?_
 exact⟨hz,its',n',r,e⟩
noncomputable def QM:V->V->V->Hp->(Hp->Prop)->Prop:=λo i v H Q=>∃p xs k j,o=.ref p/\i=.int k/\H p=some (.lst xs)/\DV xs.length k=some j/\Q (AE H p (.lst (xs.set j v)))
theorem H0:Hk X QM:=by
 intro qA s σ H o i v ov iv u Q I ro ri rv h
 obtain⟨p,xs,k,j,rfl,rfl,hp,hj,q⟩:=h
 cases ro
 obtain⟨t,rfl⟩:=ri
 obtain⟨qE,n,r,ho,hz⟩:=I.lst hp
 obtain⟨h1,h2,h3,h4⟩:=Ku hj
 have hl:=r.length
 have hn:=Dp
 have I':Inv X qA σ (AE H p (.lst (xs.set j v))) { s with heap:=s.heap.update p (Obj.mapSeq (·.setIfInBounds j u)) } :=
  I.lstUpd hp ho (QL qE n j u) (r.set rv j) (by rw[length_set];exact hz) s.toks
 by_cases h0:0<=k
 ·have hk:k.toNat=j:=by
   rw[seqIndex_of h0 h4]at h1
   exact oI h1
  exact PySem.W.ki_setAt ho h0 (by lia) (by rw[size_toArray,<-hl];exact h4) (by rw[hk];exact⟨_,I',q⟩)
 ·have hk:(k+(qE.toArray.size:Int)).toNat=j:=by
   rw[seqIndex_neg (by lia) h3]at h1
   rw[size_toArray,<-hl]
   exact oI h1
  exact PySem.W.ki_setBack ho (by lia) (by rw[size_toArray,<-hl];exact h3) (by lia) (by rw[hk];exact⟨_,I',q⟩)
theorem QN(lo hi:Option Int)(n:Nat):(sliceBounds lo hi none n).1=((HT.sIx n 0 lo:Nat):Int)/\(sliceBounds lo hi none n).2.1=((HT.sIx n n hi:Nat):Int)/\(sliceBounds lo hi none n).2.2=1:=by
 refine⟨?_,?_,rfl⟩
 ·cases lo with
  |none=>simp[sliceBounds,HT.sIx]
  |some i =>
   simp only[sliceBounds,HT.sIx,Option.getD_none,show(1:Int) > 0 by decide,if_true]
   by_cases h:i<0
   ·simp only[h,if_true]<;>lia
   ·simp only[h,if_false]<;>lia
 ·cases hi with
  |none=>simp[sliceBounds,HT.sIx]
  |some i =>
   simp only[sliceBounds,HT.sIx,Option.getD_none,show(1:Int) > 0 by decide,if_true]
   by_cases h:i<0
   ·simp only[h,if_true]<;>lia
   ·simp only[h,if_false]<;>lia
theorem QP(qE:List Value)(lo hi:Option Int):slicePick qE.toArray lo hi none=((qE.drop (HT.sIx qE.length 0 lo)).take (HT.sIx qE.length qE.length hi - HT.sIx qE.length 0 lo)).toArray:=by
 obtain⟨h1,h2,h3⟩:=QN lo hi qE.toArray.size
 unfold slicePick
 rw[h1,h2,h3]
 simp only[sliceRange_one,pick_run,size_toArray]<;>rfl
noncomputable def Kz(K:Fg):V->Option Int->Option Int->Hp->VK->Prop:=λx lo hi H Q=>∃a xs,x=.ref a/\Am K H a xs/\∀p,H p=none->Q (.ref p) (AE H p (.lst (CN xs lo hi)))
theorem F3:CM X (Kz X.K):=by
 intro qA s σ H x v vl vu lo hi sl Q I rx hs pl pu h
 obtain⟨a,xs,rfl,hx,q⟩:=h
 cases rx
 obtain⟨qE,r,ht,hz⟩:=I.list hx
 have hlen:=r.length
 refine⟨"list",_,slot_list_getitem.lookup,ht.isList.typeIs,?_⟩
 refine wpAny_getItem_list_slice ht.isList hs pl pu .none (by simp) ?_ (by rw[size_toArray]<;>lia)
 rw[QP,<-hlen]
 refine⟨.ref s.heap.objs.size,_,I.laid (t':=s.toks) (o:=.lst (CN xs lo hi)) (λb ob q=>Heap.get?_push_of_some _ q) (Nat.le_refl _) ?_,rfl,q _ (I.hok.fresh (Nat.le_refl _))⟩
 exact⟨Nat.le_trans (Kt xs lo hi) hz,_,0,(r.drop (HT.sIx xs.length 0 lo)).take (HT.sIx xs.length xs.length hi - HT.sIx xs.length 0 lo),Heap.get?_push_size _ rfl⟩
noncomputable def C9:V->Bool
 |.non=>true
 |.bl _=>true
 |.int _=>true
 |.str _=>true
 |_=>false
noncomputable def Cq:V->V->Bool
 |.non,.non=>true
 |.bl a,.bl b=>a==b
 |.bl a,.int b=>(if a then 1 else 0)==b
 |.int a,.bl b=>a==(if b then 1 else 0)
 |.int a,.int b=>a==b
 |.str a,.str b=>a==b
 |_,_=>false
theorem QR{y x:V}{v:Value}(ry:AI y u)(rx:AI x v)(fy:C9 y=true)(fx:C9 x=true):SeqAt.EqAt A s u v (Cq y x):=by
 cases y with
 |non =>
  cases ry
  cases x with
  |non=>cases rx;exact SeqAt.EqAt.same _
  |bl b=>cases rx;exact SeqAt.EqAt.none_bool b
  |int b=>obtain⟨t,rfl⟩:=rx;exact SeqAt.EqAt.none_int b t
  |str b=>obtain⟨t,rfl⟩:=rx;exact SeqAt.EqAt.none_str b t
  |_=>exact absurd (show false=true from fx) Bool.false_ne_true
 |bl a =>
  cases ry
  cases x with
  |non=>cases rx;exact SeqAt.EqAt.bool_none a
  |bl b=>cases rx;exact SeqAt.EqAt.bool_bool a b
  |int b=>obtain⟨t,rfl⟩:=rx;exact SeqAt.EqAt.bool_int a b t
  |str b=>obtain⟨t,rfl⟩:=rx;exact SeqAt.EqAt.bool_str a b t
  |_=>exact absurd (show false=true from fx) Bool.false_ne_true
 |int a =>
  obtain⟨t',rfl⟩:=ry
  cases x with
  |non=>cases rx;exact SeqAt.EqAt.int_none a t'
  |bl b=>cases rx;exact SeqAt.EqAt.int_bool a t' b
  |int b=>obtain⟨t,rfl⟩:=rx;exact SeqAt.EqAt.int_int a t' b t
  |str b=>obtain⟨t,rfl⟩:=rx;exact SeqAt.EqAt.int_str a t' b t
  |_=>exact absurd (show false=true from fx) Bool.false_ne_true
 |str a =>
  obtain⟨t',rfl⟩:=ry
  cases x with
  |non=>cases rx;exact SeqAt.EqAt.str_none a t'
  |bl b=>cases rx;exact SeqAt.EqAt.str_bool a t' b
  |int b=>obtain⟨t,rfl⟩:=rx;exact SeqAt.EqAt.str_int a t' b t
  |str b=>obtain⟨t,rfl⟩:=rx;exact SeqAt.EqAt.str_str a t' b t
  |_=>exact absurd (show false=true from fx) Bool.false_ne_true
 |_=>exact absurd (show false=true from fy) Bool.false_ne_true
noncomputable def DA(x:V)(u:Value):Bool:=match u with
 |.none=>Cq .non x
 |.bool b=>Cq (.bl b) x
 |.int i _=>Cq (.int i) x
 |.str z _=>Cq (.str z) x
 |_=>false
theorem K0{x y:V}(r:AI y u)(f:C9 y=true):DA x u=Cq y x:=by
 cases y with
 |non=>cases r;rfl
 |bl b=>cases r;rfl
 |int i=>obtain⟨t,rfl⟩:=r;rfl
 |str z=>obtain⟨t,rfl⟩:=r;rfl
 |_=>exact absurd (show false=true from f) Bool.false_ne_true
theorem IA{x:V}:∀{xs:List V} {us:List Value},AM xs us->xs.all C9=true->us.any (DA x)=xs.any λy=>Cq y x
 |_,_,.nil,_=>rfl
 |y::xs,u::us,.cons r t,f=>by
  rw[all_cons,Bool.and_eq_true]at f
  rw[any_cons,any_cons,K0 r f.1,IA t f.2]
theorem IB{A:Around}{s:Shared}{x:V}{v:Value}(rx:AI x v)(fx:C9 x=true):∀{xs:List V} {us:List Value},AM xs us->xs.all C9=true->∀u∈us,SeqAt.EqAt A s u v (DA x u)
 |_,_,.nil,_=>λu hu=>by cases hu
 |y::xs,u::us,.cons r t,f=>λu' hu=>by
  rw[all_cons,Bool.and_eq_true]at f
  rcases mem_cons.mp hu with rfl|hu
  ·rw[K0 r f.1];exact QR r rx f.1 fx
  ·exact IB rx fx t f.2 u' hu
noncomputable def F4(x:V)(xs:List V):Bool:=xs.any λy=>Cq y x
noncomputable def QU(K:Fg)(neg:Bool):R2:=λx y H Q=>∃p xs,y=.ref p/\(Am K H p xs\/A0 K H p xs)/\C9 x=true/\xs.all C9=true/\Q (.bl (if neg then !F4 x xs else F4 x xs)) H
theorem QV:An X (compareOp .In) (QU X.K false):=by
 intro qA s σ H x y v u Q I rx ry h
 obtain⟨p,xs,rfl,hq,fx,fs,q⟩:=h
 cases ry
 rcases hq with hq|hq
 ·obtain⟨qE,r,pl,hz⟩:=I.list hq
  refine SeqAt.in_listAt (DA x) pl.isList (λw hw=>IB rx fx r fs w (by simpa using hw)) ⟨.bl _,H,I,rfl,?_⟩
  rw[show qE.toArray.any (DA x)=qE.any (DA x) by simp,IA r fs]
  exact q
 ·obtain⟨qE,r,pl,hz⟩:=I.tuple hq
  refine SeqAt.in_tupleAt (DA x) pl (λw hw=>IB rx fx r fs w (by simpa using hw)) ⟨.bl _,H,I,rfl,?_⟩
  rw[show qE.toArray.any (DA x)=qE.any (DA x) by simp,IA r fs]
  exact q
theorem K1:BH X (.builtin "len") (λxs H Q=>∃p ys,xs=[.ref p]/\(Am X.K H p ys\/A0 X.K H p ys)/\Q (.int ys.length) H):=by
 intro qA s σ H xs us Q I r h
 obtain⟨p,ys,rfl,hq,q⟩:=h
 obtain⟨u,rfl,rx⟩:=Fy r
 cases rx
 have hn:=Dp
 rcases hq with hq|hq
 ·obtain⟨qE,r',pl,hz⟩:=I.list hq
  have hlen:=r'.length
  exact Calls.call_len_list pl.isList (by simp only[size_toArray]<;>lia) ⟨.int ys.length,H,I.tok _,⟨s.toks+1,by rw[size_toArray,hlen]⟩,q⟩
 ·obtain⟨qE,r',pl,hz⟩:=I.tuple hq
  have hlen:=r'.length
  exact len_tuple pl (by simp only[size_toArray]<;>lia) ⟨.int ys.length,H,I.tok _,⟨s.toks+1,by rw[size_toArray,hlen]⟩,q⟩
theorem K2:BH X (.builtin "len") (λxs H Q=>∃z,xs=[.str z]/\z.length<=sizeLine/\Q (.int z.length) H):=by
 intro qA s σ H xs us Q I r h
 obtain⟨z,rfl,hz,q⟩:=h
 obtain⟨u,rfl,t,rfl⟩:=Fy r
 have hn:=Dp
 exact len_str (by lia) ⟨.int z.length,H,I.tok _,⟨_,rfl⟩,q⟩
theorem QX:BH X (.type "list") (λxs H Q=>∃p ys,xs=[.ref p]/\(Am X.K H p ys\/A0 X.K H p ys)/\∀l,H l=none->Q (.ref l) (AE H l (.lst ys))):=by
 intro qA s σ H xs us Q I r h
 obtain⟨p,ys,rfl,hq,q⟩:=h
 obtain⟨u,rfl,rx⟩:=Fy r
 cases rx
 have fin:∀(qE:List Value),AM ys qE->ys.length<=sizeLine->∀(h':Heap) (c':Nat),(∀b o',s.heap.get? b=some o'->h'.get? b=some o') ->
   h'.get? s.heap.objs.size=some { cls:=.type "list",dict:=none,data:=.seq qE.toArray c',slots:=#[] }->EP X qA σ Q (.ref s.heap.objs.size) { s with heap:=h' }:=λqE r' hz h' c' kp e =>
  ⟨.ref s.heap.objs.size,_,I.laid (t':=s.toks) kp (Nat.le_refl _) (show Az X.prog X.w _ h' _ (.lst ys)from⟨hz,qE,c',r',e⟩),rfl,q _ (I.hok.fresh (Nat.le_refl _))⟩
 rcases hq with hq|hq
 ·obtain⟨qE,r',pl,hz⟩:=I.list hq
  have hlen:=r'.length
  obtain⟨o,ho,hc,n,hd⟩:=pl.isList
  exact call_list_seq p (.inl rfl) ho hc hd (λh' c' kp e=>fin qE r' hz h' c' kp e) (by simp only[size_toArray]<;>lia)
 ·obtain⟨qE,r',pl,hz⟩:=I.tuple hq
  have hlen:=r'.length
  obtain⟨o,ho,hc,n,hd⟩:=pl
  exact call_list_seq p (.inr rfl) ho hc hd (λh' c' kp e=>fin qE r' hz h' c' kp e) (by simp only[size_toArray]<;>lia)
theorem QY:BH X (.type "tuple") (λxs H Q=>∃p ys,xs=[.ref p]/\((Am X.K H p ys/\∀l,H l=none->Q (.ref l) (AE H l (.tup ys)))\/(A0 X.K H p ys/\Q (.ref p) H))):=by
 intro qA s σ H xs us Q I r h
 obtain⟨p,ys,rfl,h⟩:=h
 obtain⟨u,rfl,rx⟩:=Fy r
 cases rx
 rcases h with⟨hq,q⟩|⟨hq,q⟩
 ·obtain⟨qE,r',pl,hz⟩:=I.list hq
  have hlen:=r'.length
  refine call_tuple_list pl.isList (λh' kp=>?_) (by simp only[size_toArray]<;>lia)
  have I1:Inv X qA σ H { s with heap:=h' }:=I.kept (t':=s.toks) kp
  have I2:Inv X qA σ (AE H h'.objs.size (.tup ys)) { s with heap:=h'.push { cls:=.type "tuple",data:=.seq qE.toArray } } :=
   I1.laid (t':=s.toks) (λb o e=>Heap.get?_push_of_some _ e) (Nat.le_refl _) (show Az X.prog X.w _ _ _ (.tup ys)from⟨hz,qE,r',Cf.new _ _⟩)
  exact⟨.ref h'.objs.size,_,I2,rfl,q _ (I1.hok.fresh (Nat.le_refl _))⟩
 ·obtain⟨qE,r',pl,hz⟩:=I.tuple hq
  exact call_tuple_same pl ⟨.ref p,H,I,rfl,q⟩
def K3(K:Fg)(T:String)(x:V)(H:Hp):Prop:=match x with
 |.str _=>T="str"
 |.int _=>T="int"
 |.ref p=>(T="list"/\∃xs,Am K H p xs)\/(T="tuple"/\∃o,K.lookup p=some o/\o.cls=.type "tuple"/\o.dict=none) \/
   (T="dict"/\((∃qF,H p=some (.dK qF))\/∃qF,H p=some (.dT qF)))\/(T="set"/\∃S n,H p=some (.set S n))
 |_=>False
theorem QZ{T:String}{x:V}{v:Value}(I:Inv X qA σ H s)(r:AI x v)(ty:K3 X.K T x H) :
  s.TypeIs v T/\∀a,v=.ref a->∃ob,s.heap.get? a=some ob/\ob.dict=none:=by
 cases x with
 |str z =>
  obtain⟨t,rfl⟩:=r
  cases(show T="str" from ty)
  exact⟨typeIs_str s z t,λ_ e=>nomatch e⟩
 |int i =>
  obtain⟨t,rfl⟩:=r
  cases(show T="int" from ty)
  exact⟨typeIs_int s i t,λ_ e=>nomatch e⟩
 |ref p =>
  cases r
  rcases ty with⟨rfl,xs,hq⟩|⟨rfl,o,hk,hc,hd⟩|⟨rfl,hk⟩|⟨rfl,S,n,hk⟩
  ·obtain⟨qE,_,pl,_⟩:=I.list hq
   refine⟨pl.isList.typeIs,λa e=>?_⟩
   cases e
   obtain⟨o,n,e,c,hd,_⟩:=pl
   exact⟨o,e,hd⟩
  ·refine⟨⟨o,I.kIn p o hk,hc⟩,λa e=>?_⟩
   cases e
   exact⟨o,I.kIn _ o hk,hd⟩
  ·have z:∃o,s.heap.get? p=some o/\o.ExactDict:=by
    rcases hk with⟨qF,hk⟩|⟨qF,hk⟩
    ·obtain⟨_,_,_,_,o,_,_,e,ex,_⟩:=I.hok p _ hk
     exact⟨o,e,ex⟩
    ·obtain⟨_,_,_,_,o,_,_,e,ex,_⟩:=I.hok p _ hk
     exact⟨o,e,ex⟩
   obtain⟨o,e,ex⟩:=z
   refine⟨⟨o,e,ex.1⟩,λa e2=>?_⟩
   cases e2
   exact⟨o,e,ex.2.1⟩
  ·obtain⟨o,_,_,_,e,ex,_⟩:=I.hok p _ hk
   refine⟨⟨o,e,ex.1⟩,λa e2=>?_⟩
   cases e2
   exact⟨o,e,ex.2.1⟩
 |_=>exact False.elim ty
def Dr(K:Fg)(T:String)(r:V->List V->Hp->VK->Prop)(to:TE)(t:TA):TE:=λσ H Q=>to σ H λx H1=>K3 K T x H1/\t σ H1 λxs H2=>r x xs H2 Q
variable{o e:Expr}{to:TE}{t:TA}{name:Str}{T id:String}{r:V->List V->Hp->VK->Prop}
theorem Ds(pa:PlainAttrs T)(slot:Slot T name id)(hty:typeOf (.builtin id)=pure (.type "method_descriptor"))(hm:Cp X id r)(ho:PE X o to)(ha:PA X (e::es) t)
  (hbase:attributeBase o name X.env (eval o X.env)=eval o X.env:=by rfl)
  (hfew:((backTo qH (starEach (e::es) X.env)).all (λx=>!x.1)&&(backToKw qH (keywordEach [] X.env)).all (λx=>x.1.isSome)
   && decide ((e::es).length+([]:List Keyword).length+(if([]:List Keyword).isEmpty then 0 else 1)<30))=true:=by rfl)
  (hline:(qI.endLine==qH.line)=true:=by rfl) (hs:starEach (e::es) X.env=(false,eval e X.env)::starEach es X.env:=by rfl) (hplain:(backTo qH (starEach es X.env)).any (·.1)=false:=by rfl) :
  PE X (.Call (.Attribute o name qI) (e::es) [] qH) (Dr X.K T r to t):=by
 intro qA s σ H Q I h
 refine wpAny_Call_method_late hbase hfew hline rfl (AK (ho qA s σ H _ I h) λv s1 ⟨x,H1,I1,r1,ty,q1⟩=>?_)
 obtain⟨h1,h2⟩:=QZ I1 r1 ty
 refine⟨T,id,pa,slot,hty,h1,h2,?_⟩
 have hA:=ha qH qA s1 σ H1 _ I1 q1
 rw[hs]at hA ⊢
 refine Calls.callWith_builtin (by show(false||(backTo qH (starEach es X.env)).any (·.1))=false;rw[hplain]<;>rfl) (Calls.evalArgs_plain ?_)
 exact AK hA λus s2 ⟨vs,H2,I2,r2,q2⟩=>hm qA s2 σ H2 x vs v us Q I2 r1 r2 q2
end
def Qa(X:Cx)(id:String)(r:V->List V->Hp->VK->Prop):Prop :=
 ∀(qA:List (Addr×Obj)) (s:Shared) (σ:St) (H:Hp) (x:V) (xs:List V) (v:Value) (us:List Value) (Q:VK),Inv X qA σ H s->AI x v->AM xs us->r x xs H Q ->
  wpAny (model X.prog X.w) X.A (call (.builtin id) (v::us)) (EP X qA σ Q) X.xe s
theorem AM.one{x:V}(h:AM [x] us):∃u,us=[u]/\AI x u:=by
 cases h with
 |cons r h=>cases h;exact⟨_,rfl,r⟩
theorem AM.two{x y:V}(h:AM [x,y] us):∃u v,us=[u,v]/\AI x u/\AI y v:=by
 cases h with
 |cons r h=>obtain⟨v,rfl,q⟩:=AM.one h;exact⟨_,_,rfl,r,q⟩
section
variable{l b:Addr}{xs ys zs:List V}
theorem Inv.lset{qE its':List Value}{f:Array Value->Array Value}(I:Inv X qA σ H s)(hH:H l=some (.lst xs))
  (e:s.heap.get? l=some { cls:=.type "list",data:=.seq qE.toArray n }) (hf:f qE.toArray=its'.toArray) (hv:AM ys its') (hz:ys.length<=sizeLine) :
  Inv X qA σ (AE H l (.lst ys)) { s with heap:=s.heap.update l (Obj.mapSeq f),toks:=t' }:=by
 have q:=PySem.IsL.update e f
 rw[hf]at q
 refine I.write (x:=l) (e:=l) (by rw[hH];exact trivial) (.inl rfl) (λb' u hb hu=>(Heap.get?_update_other s.heap (Obj.mapSeq f) (Ne.symm hb)).trans hu) ⟨_,q⟩ ?_
 exact⟨hz,its',_,hv,q⟩
theorem Inv.lnew{qE:List Value}(I:Inv X qA σ H s)(hv:AM ys qE)(hz:ys.length<=sizeLine) :
  Inv X qA σ (AE H s.heap.objs.size (.lst ys)) { s with heap:=s.heap.push { cls:=.type "list",data:=.seq qE.toArray },toks:=t' } :=
 I.laid (λ_ _ q=>Heap.get?_push_of_some _ q) (Nat.le_refl _) ⟨hz,qE,0,hv,Heap.get?_push_size _ rfl⟩
theorem Inv.fresh(I:Inv X qA σ H s):H s.heap.objs.size=none:=I.hok.fresh (Nat.le_refl _)
theorem Inv.lstM(I:Inv X qA σ H s)(hH:H l=some (.lst xs)):xs.length<=sizeLine/\∃(qE:List Value) (n:Nat),AM xs qE/\xs.length=qE.length/\s.heap.get? l=some { cls:=.type "list",data:=.seq qE.toArray n }:=by
 obtain⟨z,qE,n,r,e⟩:=I.hok l _ hH
 exact⟨z,qE,n,r,r.length,e⟩
theorem notLongL(h:n<=sizeLine):Builtin.List.listTooLong n=false:=by
 unfold Builtin.List.listTooLong
 exact decide_eq_false (by lia)
end
noncomputable def F5:V->List V->Hp->VK->Prop:=λx vs H Q=>∃l xs y,x=.ref l/\vs=[y]/\H l=some (.lst xs)/\xs.length<sizeLine/\Q .non (AE H l (.lst (xs++[y])))
theorem F6:Qa X "list.append" F5:=by
 intro qA s σ H x vs v us Q I rx rv h
 obtain⟨l,xs,y,rfl,rfl,hH,hz,q⟩:=h
 cases rx
 obtain⟨u,rfl,ru⟩:=rv.one
 obtain⟨z,qE,n,r,hl,e⟩:=I.lstM hH
 refine call_meets F.slot_list_append ⟨_,e,rfl⟩ F.entry_list_append (F.args_list_append_2 _ _) (PySem.list_append l qE.toArray n u (by rw[size_toArray];lia)) ⟨e,?_⟩
 refine⟨.non,_,I.lset (its':=qE++[u]) hH e (by simp) (r.append (.cons ru .nil)) ?_,rfl,q⟩
 rw[length_append,length_singleton]
 lia
section
variable{κ:Type}[DecidableEq κ]
noncomputable def Bn(qF:List (κ×V))(k:κ):Option V:=(qF.find? λkv=>decide (kv.1=k)).map (·.2)
noncomputable def Bz(qF:List (κ×V))(k:κ)(v:V):List (κ×V) :=
 if(qF.any λkv=>decide (kv.1=k))=true then qF.map (λkv=>if kv.1=k then(kv.1,v)else kv)else qF++[(k,v)]
theorem F7{p:κ×V}{r:List (κ×V)}{k:κ}(e:p.1=k):Bn (p::r) k=some p.2:=by simp[Bn,find?_cons,e]
theorem IC{p:κ×V}{r:List (κ×V)}{k:κ}(e:¬p.1=k):Bn (p::r) k=Bn r k:=by simp[Bn,find?_cons,e]
theorem K4(k:κ):∀qF:List (κ×V),(qF.any λkv=>decide (kv.1=k))=(Bn qF k).isSome
 |[]=>rfl
 |p::r=>by
  rw[any_cons]
  by_cases e:p.1=k
  ·simp only[F7 e,decide_eq_true e,Bool.true_or,Option.isSome_some]
  ·rw[IC e,decide_eq_false e,Bool.false_or];exact K4 k r
theorem K5(qF:List (κ×V))(k:κ)(v:V):(Bz qF k v).length<=qF.length+1:=by
 unfold Bz
 split
 ·rw[length_map];lia
 ·rw[length_append,length_cons,length_nil];lia
theorem Ce.isSome_eq{o:Option V}{u:Option Value}(r:Ce o u):o.isSome=u.isSome:=by
 cases o with
 |none=>cases u with
  |none=>rfl
  |some _=>exact(show False from r).elim
 |some _=>cases u with
  |none=>exact(show False from r).elim
  |some _=>rfl
theorem KV.val{qF:List (κ×V)}{vs:List (κ×Value)}(r:KV qF vs)(k:κ):Ce (Bn qF k) (valueAt vs k):=by
 unfold KV at r
 induction r with
 |nil=>exact True.intro
 |@cons p q ps qs h t ih =>
  obtain⟨h1,h2⟩:=h
  by_cases e:p.1=k
  ·have e':q.1=k:=h1.symm.trans e
   have b:valueAt (q::qs) k=some q.2:=by simp[valueAt,find?_cons,e']
   rw[F7 e,b];exact h2
  ·have e':¬q.1=k:=λz=>e (h1.trans z)
   have b:valueAt (q::qs) k=valueAt qs k:=by simp[valueAt,find?_cons,e']
   rw[IC e,b];exact ih
theorem KV.any{qF:List (κ×V)}{vs:List (κ×Value)}(r:KV qF vs)(k:κ):(qF.any λkv=>decide (kv.1=k))=vs.any λkv=>decide (kv.1=k):=by
 unfold KV at r
 induction r with
 |nil=>rfl
 |cons h t ih=>rw[any_cons,any_cons,ih,h.1]
theorem KV.repl{qF:List (κ×V)}{vs:List (κ×Value)}(r:KV qF vs)(k:κ){y:V}(ry:AI y u) :
  KV (qF.map λkv=>if kv.1=k then(kv.1,y)else kv) (vs.map λkv=>if kv.1=k then(kv.1,u)else kv):=by
 unfold KV at r ⊢
 induction r with
 |nil=>exact .nil
 |@cons p q ps qs h t ih =>
  rw[map_cons,map_cons]
  refine .cons ?_ ih
  obtain⟨h1,h2⟩:=h
  by_cases e:p.1=k
  ·rw[if_pos e,if_pos (h1.symm.trans e)];exact⟨h1,ry⟩
  ·rw[if_neg e,if_neg (λz=>e (h1.trans z))];exact⟨h1,h2⟩
theorem KV.put{qF:List (κ×V)}{vs:List (κ×Value)}(r:KV qF vs)(k:κ){y:V}(ry:AI y u):KV (Bz qF k y) (stored vs k u):=by
 unfold Bz stored
 rw[r.any k]
 by_cases e:(vs.any λkv=>decide (kv.1=k))=true
 ·rw[if_pos e,if_pos e];exact r.repl k ry
 ·rw[if_neg e,if_neg e];exact Paired.snoc r ⟨rfl,ry⟩
theorem KV.length{qF:List (κ×V)}{vs:List (κ×Value)}(r:KV qF vs):qF.length=vs.length:=Paired.length r
end
theorem ID{P:Program}{k:AO}(r:AI (kV k) u):(B9 P w).is k u=true:=by
 cases k with
 |inl i=>obtain⟨t,e⟩:=(show∃t,u=Value.int i t from r);subst e;exact Ol P w i t
 |inr x=>obtain⟨t,e⟩:=(show∃t,u=Value.str x t from r);subst e;exact Om P w x t
theorem K6{P:Program}{w:World}:∀{ks:List AO} {us:List Value},AM (ks.map kV) us->ItemsAre (B9 P w) ks us
 |[],_,r=>by rw[map_nil]at r;cases r;exact .nil
 |k::ks,_,r=>by
  rw[map_cons]at r
  cases r with
  |cons h t=>exact .cons (ID h) (K6 t)
noncomputable abbrev KT(H:Hp):List (List AO×V)->List (List AO×Addr×Value)->Prop:=Paired λp q=>p.1=q.1/\H q.2.1=some (.tup (p.1.map kV))/\AI p.2 q.2.2
theorem KT.val{qF:List (List AO×V)}{xs:List (List AO×Addr×Value)}(r:KT H qF xs)(k:List AO):Ce (Bn qF k) ((atKey xs k).map (·.2)):=by
 induction r with
 |nil=>exact True.intro
 |@cons p q ps qs h t ih =>
  obtain⟨h1,_,h2⟩:=h
  by_cases e:p.1=k
  ·have e':q.1=k:=h1.symm.trans e
   have b:atKey (q::qs) k=some q.2:=by simp[atKey,find?_cons,e']
   rw[F7 e,b];exact h2
  ·have e':¬q.1=k:=λz=>e (h1.trans z)
   have b:atKey (q::qs) k=atKey qs k:=by simp[atKey,find?_cons,e']
   rw[IC e,b];exact ih
theorem KT.repl{qF:List (List AO×V)}{xs:List (List AO×Addr×Value)}(r:KT H qF xs)(k:List AO){y:V}(ry:AI y u) :
  KT H (qF.map λkv=>if kv.1=k then(kv.1,y)else kv) (xs.map (putAt k u)):=by
 induction r with
 |nil=>exact .nil
 |@cons p q ps qs h t ih =>
  rw[map_cons,map_cons]
  refine .cons ?_ ih
  obtain⟨h1,h2,h3⟩:=h
  unfold putAt
  by_cases e:p.1=k
  ·rw[if_pos e,if_pos (h1.symm.trans e)];exact⟨h1,h2,ry⟩
  ·rw[if_neg e,if_neg (λz=>e (h1.trans z))];exact⟨h1,h2,h3⟩
theorem KT.put{qF:List (List AO×V)}{xs:List (List AO×Addr×Value)}(r:KT H qF xs)(k:List AO){b:Addr}{y:V}(hb:H b=some (.tup (k.map kV)))(ry:AI y u) :
  KT H (Bz qF k y) (storedH xs k b u):=by
 have e:(qF.any λkv=>decide (kv.1=k))=(atKey xs k).isSome:=by
  rw[K4,(r.val k).isSome_eq,Option.isSome_map]
 unfold Bz storedH
 rw[e]
 by_cases q:(atKey xs k).isSome=true
 ·rw[if_pos q,if_pos q];exact r.repl k ry
 ·rw[if_neg q,if_neg q];exact Paired.snoc r ⟨rfl,hb,ry⟩
theorem KT.keeps{qF:List (List AO×V)}{xs:List (List AO×Addr×Value)}(r:KT H qF xs)(ht:∀b ys,H b=some (.tup ys)->H' b=some (.tup ys)):KT H' qF xs :=
 Paired.mapP r λ_ _ z=>⟨z.1,ht _ _ z.2.1,z.2.2⟩
section
variable{P:Program}
theorem K7{u:HO}(ok:Ar P w H h)(e:Rd H a u):Az P w H h a u:=e.ok ok
theorem IE{qF:List (AO×V)}(ok:Ar P w H h)(e:Rd H a (.dK qF)):qF.length<=sizeLine/\(a==sysModules)=false/\∃vs,KV qF vs/\h.DictOf (B9 P w) a vs :=
 show Az P w H h a (.dK qF)from K7 ok e
theorem Qb{qF:List (AO×V)}(ok:Ar P w H h)(e:H a=some (.dK qF)):qF.length<=sizeLine/\(a==sysModules)=false/\∃vs,KV qF vs/\h.DictOf (B9 P w) a vs:=IE ok (.inl e)
theorem IF{ks:List AO}(ok:Ar P w H h)(e:H a=some (.tup (ks.map kV))):(tupleKind (B9 P w)).is h ks a:=by
 obtain⟨_,qE,r,o,h1,h2,⟨n,h3⟩,_⟩:=(show Az P w H h a (.tup (ks.map kV))from ok a _ e)
 exact⟨o,qE.toArray,n,h1,h2,h3,by simpa using K6 r⟩
theorem IG{qF:List (List AO×V)}(ok:Ar P w H h)(e:Rd H a (.dT qF)):qF.length<=sizeLine/\(a==sysModules)=false /\
  ∃xs,KT H qF xs/\h.DictOfH (tupleKind (B9 P w)) a xs:=by
 obtain⟨z,y,xs,r,o,es,ep,h1,h2,h3,h4,h5⟩:=(show Az P w H h a (.dT qF)from K7 ok e)
 refine⟨z,y,xs,r,o,es,ep,h1,h2,h3,h4,λx hx=>?_,h5⟩
 have all:∀{l:List (List AO×V)} {m:List (List AO×Addr×Value)},KT H l m->∀x∈m,(tupleKind (B9 P w)).is h x.1 x.2.1:=by
  intro l m q
  induction q with
  |nil=>intro x hx;exact nomatch hx
  |@cons p q ps qs hq t ih =>
   intro x hx
   rcases mem_cons.mp hx with e|hx
   ·subst e
    exact IF ok (by rw[<-hq.1];exact hq.2.1)
   ·exact ih x hx
 exact all r x hx
theorem Qc{qF:List (List AO×V)}(ok:Ar P w H h)(e:H a=some (.dT qF)):qF.length<=sizeLine/\(a==sysModules)=false /\
  ∃xs,KT H qF xs/\h.DictOfH (tupleKind (B9 P w)) a xs:=IG ok (.inl e)
end
def DB(H:Hp)(a:Addr)(y:V)(r:Option V):Prop :=
 (∃qF k,Rd H a (.dK qF)/\y=kV k/\r=Bn qF k)\/∃qF k b,Rd H a (.dT qF)/\y=.ref b/\H b=some (.tup (k.map kV))/\r=Bn qF k
def DW(H:Hp)(a:Addr)(y v:V)(H':Hp):Prop :=
 (∃qF k,H a=some (.dK qF)/\y=kV k/\qF.length<sizeLine/\H'=AE H a (.dK (Bz qF k v))) \/
 ∃qF k b,H a=some (.dT qF)/\y=.ref b/\H b=some (.tup (k.map kV))/\qF.length<sizeLine/\H'=AE H a (.dT (Bz qF k v))
theorem DB.k{qF:List (AO×V)}{k:AO}(e:H a=some (.dK qF)):DB H a (kV k) (Bn qF k):=.inl ⟨qF,k,.inl e,rfl,rfl⟩
theorem DB.t{b:Addr}{qF:List (List AO×V)}{k:List AO}(e:H a=some (.dT qF))(eb:H b=some (.tup (k.map kV))):DB H a (.ref b) (Bn qF k):=.inr ⟨qF,k,b,.inl e,rfl,eb,rfl⟩
theorem DW.k{qF:List (AO×V)}{k:AO}(e:H a=some (.dK qF))(hl:qF.length<sizeLine):DW H a (kV k) v (AE H a (.dK (Bz qF k v))):=.inl ⟨qF,k,e,rfl,hl,rfl⟩
theorem DW.t{b:Addr}{qF:List (List AO×V)}{k:List AO}(e:H a=some (.dT qF))(eb:H b=some (.tup (k.map kV)))(hl:qF.length<sizeLine) :
  DW H a (.ref b) v (AE H a (.dT (Bz qF k v))):=.inr ⟨qF,k,b,e,rfl,eb,hl,rfl⟩
section
variable{y:V}{r:Value}{o:Option V}
theorem Inv.big(I:Inv X qA σ H s):sysModules<s.heap.objs.size:=by
 have h:mainGlobals<s.heap.objs.size:=(I.mod.glob.keeps I.bk).lt
 exact Nat.lt_trans (by decide) h
theorem Qd(hu:A.units+1<cLine)(I:Inv X qA σ H s)(g:DB H a y (some v))(ry:AI y u)(h:∀w' s',Inv X qA σ H s'->AI v w'->Q w' s') :
  wpAny (model X.prog X.w) A (getItem (.ref a) u) Q E s:=by
 rcases g with⟨qF,k,e,ey,l⟩|⟨qF,k,b,e,ey,eb,l⟩
 ·subst ey
  obtain⟨z,hd,vs,rel,dd⟩:=IE I.hok e
  obtain⟨w',hw,rw'⟩:=Ce.some_of (v:=v) (o:=valueAt vs k) (by rw[l];exact rel.val k)
  exact wpAny_getItem_of (ID ry) dd.mapOf hw (h w' _ (I.tok _) rw')
 ·subst ey
  cases(show u=Value.ref b from ry)
  obtain⟨z,hd,xs,rel,dd⟩:=IG I.hok e
  obtain⟨w',hw,rw'⟩:=Ce.some_of (v:=v) (o:=(atKey xs k).map (·.2)) (by rw[l];exact rel.val k)
  obtain⟨p,hp,hp2⟩:=Option.map_eq_some_iff.mp hw
  refine wpAny_getItem_heap (tupleKind_room_in1 hu) (IF I.hok eb) dd hp ?_
  rw[hp2]
  exact h w' _ (I.tok _) rw'
theorem K8{ob:HO}(I:Inv X qA σ H s)(mu:Ep (H a))(hs:Heap.SameBut a s.heap h')(he:∃q,h'.get? a=some q)(new:Az X.prog X.w (AE H a ob) h' a ob) :
  Inv X qA σ (AE H a ob) { s with heap:=h',toks:=t' } :=
 I.write (x:=a) (e:=a) mu (.inl rfl) (λb q hb z=>(hs.2 b hb).trans z) he new
theorem Qe{P:Program}{qF:List (AO×V)}{vs:List (AO×Value)}(z:qF.length<=sizeLine)(hd:(a==sysModules)=false)(rel:KV qF vs)(dd:h'.DictOf (B9 P w) a vs) :
  Az P w H' h' a (.dK qF):=⟨z,hd,vs,rel,dd⟩
theorem Qf{Q:Unit->Shared->Prop}(hu:A.units+1<cLine)(I:Inv X qA σ H s)(g:DW H a y v H')(ry:AI y u)(rv:AI v r)(h:∀s',Inv X qA σ H' s'->Q () s') :
  wpAny (model X.prog X.w) A (setItem (.ref a) u r) Q E s:=by
 rcases g with⟨qF,k,e,ey,l,eH⟩|⟨qF,k,b,e,ey,eb,l,eH⟩
 ·subst ey eH
  obtain⟨z,hd,vs,rel,dd⟩:=Qb I.hok e
  have hz:vs.length<=sizeLine:=by rw[<-rel.length];exact z
  have hl:(Bz qF k v).length<=sizeLine:=by have:=K5 qF k v;lia
  refine wpAny_setItem_pairs (hsz:=hz) (ID ry) dd λh' dd' hs=>h _ ?_
  have he:∃q,h'.get? a=some q:=let⟨q,_,_,hq,_⟩:=dd';⟨q,hq⟩
  exact K8 I (by rw[e];exact True.intro) hs he (Qe hl hd (rel.put k rv) dd')
 ·subst ey eH
  cases(show u=Value.ref b from ry)
  obtain⟨z,hd,xs,rel,dd⟩:=Qc I.hok e
  have hz:xs.length<=sizeLine:=by rw[<-Paired.length rel];exact z
  have hl:(Bz qF k v).length<=sizeLine:=by have:=K5 qF k v;lia
  refine wpAny_setItem_heap (hsz:=hz) (tupleKind_room_in1 hu) (IF I.hok eb) dd λh' dd' hs=>h _ ?_
  obtain⟨q,es,ep,hq,h2,h3,h4,_,h5⟩:=dd'
  refine K8 I (by rw[e];exact True.intro) hs ⟨q,hq⟩ ⟨hl,hd,_,(rel.put k eb rv).keeps λc ys ec=>?_,q,es,ep,hq,h2,h3,h4,h5⟩
  rw[AV (Hg ec e (λz=>nomatch z))]
  exact ec
end
def IH(i:Expr):Prop:=∀ov iv,subscripted i false ov iv=operate [ov,iv] (getItem ov iv)
theorem Qg{value slice:Expr}{T id:String}
  (hl:typeLookup (.type T) "__getitem__"=pure (some (.builtin id))) (hs:IH slice)
  (h:wpAny (model prog w) A (eval value env) (λo s₁=>wpAny (model prog w) A (eval slice env) (λi s₂=>s₂.TypeIs o T/\wpAny (model prog w) A (getItem o i) Q E s₂) E s₁) E s) :
  wpAny (model prog w) A (eval (.Subscript value slice pos) env) Q E s:=by
 refine Subscript_ (wpAny_mono h (λo s₁ h₁=>wpAny_mono h₁ (λi s₂ h₂=>?_) λ_ _ x=>x) λ_ _ x=>x)
 obtain⟨hT,h₂⟩:=h₂
 unfold subscriptTail
 refine wB ?_
 rw[getitemInPython_of_ne hT.not_modules]
 refine wB (wpAny_specialOf hT hl ?_)
 have fin:wpAny (model prog w) A (subscripted slice false o i) (λr s₃=>wpAny (model prog w) A (letTemporaryGo value o r >>= λ_=>pure r) Q E s₃) E s₂:=by
  rw[hs o i]
  exact wpAny_operating (wpAny_mono h₂ (λr s₃ h₃=>wB (wpAny_letTemporaryGo (wP h₃))) λ_ _ x=>x)
 first
  |exact wP (wB fin)
  |exact wB (wP (wB fin))
  |exact wB fin
theorem Qh{y:V}{o:Option V}(I:Inv X qA σ H s)(g:DB H a y o):s.TypeIs (.ref a) "dict":=by
 rcases g with⟨qF,k,e,_,_⟩|⟨qF,k,b,e,_,_,_⟩
 ·obtain⟨_,_,vs,_,dd⟩:=IE I.hok e
  exact dd.typeIs
 ·obtain⟨_,_,xs,_,dd⟩:=IG I.hok e
  exact dd.typeIs
def Qi(td ty:TE):TE:=λσ H Q=>td σ H λx H1=>ty σ H1 λy H2=>∃a v,x=.ref a/\DB H2 a y (some v)/\Q v H2
def K9(td ty tv:TE):TS:=λD σ H=>tv σ H λv H1=>td σ H1 λx H2=>ty σ H2 λy H3=>∃a H4,x=.ref a/\DW H3 a y v H4/\D.nx σ H4
section
variable{o i e value:Expr}{tpos:Pos}{td ty tv:TE}
theorem Qj(hu:X.A.units+1<cLine)(ho:PE X o td)(hi:PE X i ty)(hs:IH i):PE X (.Subscript o i pos) (Qi td ty):=by
 intro qA s σ H Q I h
 refine Qg PySem.F.slot_dict_getitem.lookup hs (AK (ho qA s σ H _ I h) λu s1 ⟨x,H1,I1,rx,q1⟩=>AK (hi qA s1 σ H1 _ I1 q1) λiv s2 ⟨y,H2,I2,ry,a,v,ex,g,q2⟩=>?_)
 subst ex
 obtain rfl:u=Value.ref a:=rx
 exact⟨Qh I2 g,Qd hu I2 g ry λw' s3 I3 rw'=>⟨v,H2,I3,rw',q2⟩⟩
theorem Qk(hu:X.A.units+1<cLine)(ho:PE X o td)(hi:PE X i ty)(hv:PE X value tv)(hs:swapsWith value (some (.Subscript o i pos')) pos.line X.env=pure false) :
  PS X (.Assign [.Subscript o i pos'] value pos) (K9 td ty tv):=by
 intro qA s σ H D I h
 refine wpAny_Assign_Subscript (AK (hv qA s σ H _ I h) λr s1 ⟨v,H1,I1,rv,q1⟩=>AK (ho qA s1 σ H1 _ I1 q1) λu s2 ⟨x,H2,I2,rx,q2⟩=>AK (hi qA s2 σ H2 _ I2 q2) λiv s3 ⟨y,H3,I3,ry,a,H4,ex,g,q3⟩=>?_) hs
 subst ex
 obtain rfl:u=Value.ref a:=rx
 exact Qf hu I3 g ry rv λs4 I4=>⟨σ,H4,I4,q3⟩
end
theorem Ql{P:Program}(h:Heap)(hb:sysModules<h.objs.size):Az P w H (h.push { cls:=.type "dict",data:=.dict #[] }) h.objs.size (.dT []) :=
 ⟨Nat.zero_le _,beq_eq_false_iff_ne.mpr (Ne.symm (Nat.ne_of_lt hb)),[],.nil,_,#[],0,Heap.get?_push_size _ rfl,⟨rfl,rfl,rfl⟩,rfl,rfl,nodup_nil⟩
def Qm:TE:=λ_ H Q=>∀p,H p=none->Q (.ref p) (AE H p (.dT []))
theorem Qn:PE X (.Dict [] [] pos) Qm:=λqA s σ H Q I h =>
 wpAny_Dict_empty ⟨.ref s.heap.objs.size,_,I.laid (a:=s.heap.objs.size) (o:=.dT []) (t':=s.toks) (λ_ _ q=>Heap.get?_push_of_some _ q) (Nat.le_refl _) (Ql s.heap I.big),rfl,h _ (I.hok.fresh (Nat.le_refl _))⟩
end L2
namespace Att
open PySem PySem.W PySem.Calls PyProof.Rows
theorem Qo{P:Params}:∀(ns:List Int) (vs:List Value),WellAll P h vs (ns.map WData.int)->IntsAre vs ns:=by
 intro ns
 induction ns with
 |nil =>
  intro vs w
  rw[map_nil]at w
  cases w
  exact .nil
 |cons n ns ih =>
  intro vs w
  rw[map_cons]at w
  cases w with
  |cons a b =>
   cases a
   exact .cons _ _ (ih _ b)
theorem Qp{l:OpenLaw}(hn:l.most=some n){P:Params}{args:List WData}{vals:List Value}
  (hpre:l.row.toRowW.claim.pre args=true) (hwl:WellAll P h vals args) :
  ∃a vs ns,vals=[Value.ref a]/\args=[WData.list (ns.map WData.int)]/\h.get? a=some { cls:=.type "list",data:=.seq vs.toArray }/\IntsAre vs ns/\ns.length<=n:=by
 have hsh:WShape.hasAll [] args [.list .int]=true:=(pre_splitW hpre).1
 have hc:l.pre.holds [] { args:=args }=true:=(pre_splitW hpre).2
 obtain⟨d,r,rfl,h1,h2⟩:=hasAllW_cons hsh
 obtain rfl:=hasAllW_nil h2
 obtain⟨xs,rfl,h3⟩:=hasW_list h1
 obtain⟨ns,rfl⟩:=items_int h3
 have hlen:ns.length<=n:=by
  unfold OpenLaw.pre at hc
  have h4:(WTm.not (.lt (.lit (.int (n:Int))) (.len (.arg 0)))).holds [] { args:=[.list (ns.map .int)] }=true:=by
   have h4:=(holds_andW hc).1
   rw[hn]at h4
   exact h4
  have h5:=condW_of h4 (w_not (w_lt w_lit (w_len_list (w_arg rfl))))
  rw[length_map]at h5
  refine Nat.le_of_not_lt λq=>?_
  have q':(n:Int)<((ns.length:Nat):Int):=by lia
  first
   |(rw[decide_eq_true q']at h5;exact absurd h5 (by decide))
   |(simp at h5;lia)
 cases hwl with
 |cons w1 w2 =>
  cases w2
  cases w1 with
  |list ho hall=>exact⟨_,_,ns,rfl,rfl,ho,Qo ns _ hall,hlen⟩
theorem Qq(l:OpenLaw)(args:List WData):l.row.toRowW.claim.post args (.bool true) args=true :=
 postW_of (r:=l.row.toRowW) (X:=(true==true))
  (show WShape.has [] (.bool true) .bool=true by first|rfl|decide|simp[WShape.has,WShape.arms,WShape.armsAll])
  (show(WTm.eq .res (.lit (.bool true))).value [] { args:=args,res:=some (.bool true),after:=args }=some (.bool (true==true))from w_eq_bool (w_res rfl) w_lit) rfl
theorem attach_call{l:OpenLaw}{q:Program}{loose:List Str}{XP:(Str->Option Value)->Heap->Prop}{YP:World->Heap->Prop}{d:DefRec}
  (hn:l.most=some n) (hdf:d.params.defaults=[])
  (call:∀(w:World) (s₀ s₁:Shared) (mg mb:Str->Option Value) (fa:Addr) (o:Obj) (pm cd doc:Value) (a:Addr) (vs:List Value) (ns:List Int),
   Ground q loose [] XP w s₀ mg mb s₁.heap->YP w s₁.heap ->
   s₁.heap.get? fa=some o->o.data=.func (docDef d.name d.params d.body d.scope pm cd doc)->s₁.heap.CodeRec cd d.name->mg d.name=some (.ref fa) ->
   s₁.heap.get? a=some { cls:=.type "list",data:=.seq vs.toArray }->IntsAre vs ns->ns.length<=n->s₁.gens=#[] ->
   codeAny (model l.prog w) callerA (.call (.ref fa) ⟨[.ref a],[]⟩) (λr s'=>r=.ok (.ret (.bool true))/\OldK s₁.heap s'.heap/\s'.os=s₁.os/\AllBare s'.gens) s₁) :
  WalkO q loose XP YP l.row.toRowW d [] (λf vs=>PySem.call f vs):=by
 intro w s₀ s₁ mg mb G Y fa o pm cd doc dV kV ho hd hcd hD hmg hg args vals as hpre hlay hrd hwl hlo
 obtain rfl:dV=.none:=Dflts.none hD hdf
 obtain rfl:kV=.none:=Dflts.noKw hD
 obtain⟨a,vs,ns,rfl,rfl,hobj,hints,hlen⟩:=Qp hn hpre hwl
 refine enter_call (codeAny_mono (call w s₀ s₁ mg mb fa o pm cd doc a vs ns G Y ho (fd_plain hd) hcd hmg hobj hints hlen hg) λr s' hq=>?_)
 obtain⟨rfl,h2,h3,h4⟩:=hq
 exact⟨.inl ⟨.bool true,.bool true,[],rfl,λ_=>rfl,.bool true,Qq l _,λ_=>⟨List.Pairwise.nil,λ_ hm=>(nomatch hm)⟩⟩,h2,h3,h4⟩
section
variable{K:Frag}
end
end Att
namespace L2
open PySem PySem.Spec PyProof.Rows
theorem LA:∀{vs:List Value} {ns:List Int},IntsAre vs ns->AM (ns.map V.int) vs
 |_,_,.nil=>.nil
 |_,_,.cons n t h=>.cons ⟨t,rfl⟩ (LA h)
def II(H:Hp):Prop:=∀b,H b=none\/∃o xs,H b=some (.frz o (.lst xs))
theorem Qr{P:Program}{K:Fg}{mb:Str->Option Value}{CX:CL}{k:Nat}{fa:Addr}{sp:Sp}{s₁:Shared}{vs:List Value}
  (KX:K.In s₁.heap) (hns:s₁.heap.Ns mainGlobals mg) (hb:s₁.heap.Ns builtinsNs mb) (hbb:∀x:Str,x≠"__name__"->mb x=bootBuiltins x) (hlim:s₁.heap.NoLimit) (hg:s₁.gens=#[])
  (ha:s₁.heap.get? a=some { cls:=.type "list",data:=.seq vs.toArray }) (hi:IntsAre vs ns) (hl:ns.length<=sizeLine) (hr:Room k callerA)
  (F:∀base:Heap,K.In base->base.Ns mainGlobals mg->FnOk P w K mg base CX k fa fd [x] sp) (hbind:∀(s:Shared) (u:Value),BindsTo s fd ⟨[u],[]⟩ [(x,u)])
  (hsp:∀H:Hp,II H->Am K H a (ns.map V.int)->sp [.ref a] H (λv _=>v=.bl true) λ_ _ _=>False)
  (hCX:∀H e s',CX [] H s₁ (λ_ _ _=>False) e s'->False) :
  codeAny (model P w) callerA (.call (.ref fa) ⟨[.ref a],[]⟩) (λr s'=>r=.ok (.ret (.bool true))/\OldK s₁.heap s'.heap/\s'.os=s₁.os/\AllBare s'.gens) s₁:=by
 have rv:=LA hi
 have lenV:=hi.length
 have core:∀H:Hp,II H->Am K H a (ns.map V.int)->Ar P w H s₁.heap->(∀b,H b≠none->b=a)->(H a≠none->K.lookup a=none) ->
   codeAny (model P w) callerA (.call (.ref fa) ⟨[.ref a],[]⟩) (λr s'=>r=.ok (.ret (.bool true))/\OldK s₁.heap s'.heap/\s'.os=s₁.os/\AllBare s'.gens) s₁:=by
  intro H hO hS hok hA hK
  have base_of:∀{b:Addr} {o:Obj},s₁.heap.get? b=some o->H b=none->(C7 s₁.heap H).get? b=some o:=λe n=>Op e n
  have noA:∀{b:Addr} {o:Obj} {es:Array DictEntry} {ep:Nat},s₁.heap.get? b=some o->o.data=.dict es ep->H b=none:=λ{b o es ep} e d=>by
   cases q:H b with
   |none=>rfl
   |some u =>
    have e':b=a:=hA b (by rw[q];simp)
    subst e'
    rw[ha]at e;cases e
    have d':Data.seq vs.toArray _=Data.dict es ep:=d
    cases d'
  have nsK:∀{b:Addr} {m:Str->Option Value},s₁.heap.Ns b m->(C7 s₁.heap H).Ns b m:=λ{b m} ⟨o,es,ep,e,d,r⟩=>⟨o,es,ep,base_of e (noA e d),d,r⟩
  have hKb:K.In (C7 s₁.heap H):=λb o e=>base_of (KX b o e) (by
   cases q:H b with
   |none=>rfl
   |some u =>
    have e':b=a:=hA b (by rw[q];simp)
    subst e'
    rw[hK (by rw[q];simp)]at e;cases e)
  have hM:Mod K mg (C7 s₁.heap H):=⟨hKb,nsK hns,⟨mb,nsK hb,hbb⟩,let⟨mc,h1,h2⟩:=hlim;⟨mc,nsK h1,h2⟩⟩
  have e0:Env0 P w K mg (C7 s₁.heap H) callerA [] s₁ H:=⟨rfl,hM,λb o e=>Oq e,Nat.le_of_eq (Oo _ _),trivial,λb hb=>absurd (show b∈([]:List Addr)from hb) (by simp),hok,.of_eq hg⟩
  refine codeAny_mono ((F _ hKb (nsK hns)).run callerA [] s₁ H ⟨[.ref a],[]⟩ [.ref a] [.ref a] _ _ hr e0 (hbind s₁ (.ref a)) (.cons rfl .nil) (hsp H hO hS)) λr s' h=>?_
  cases r with
  |error e=>exact(hCX H e s' h).elim
  |ok fl =>
   cases fl with
   |next=>exact False.elim h
   |brk=>exact False.elim h
   |cont=>exact False.elim h
   |ret u =>
    obtain⟨v,H',os,bare,un,hok',r',q⟩:=h
    have q':v=.bl true:=q
    subst q'
    obtain rfl:u=Value.bool true:=r'
    refine⟨rfl,OldK.of_keep λb o e=>?_,os,bare⟩
    cases q:H b with
    |none=>exact un.keep b o e q (by intro z;exact absurd (show b∈([]:List Addr)from z) (by simp)) (by simp)
    |some u =>
     rcases hO b with z|⟨ob,xs,z⟩
     ·rw[q]at z;cases z
     ·have z2:=un.frzs b ob _ z
      obtain⟨e1,_⟩:=hok b _ z
      obtain⟨e2,_⟩:=hok' b _ z2
      rw[e]at e1;cases e1
      exact e2
 cases hk:K.lookup a with
 |some o =>
  have e:=KX a o hk
  rw[ha]at e
  cases e
  refine core (λ_=>none) (λ_=>.inl rfl) (.inr ⟨_,vs.toArray,_,hk,rfl,rfl,rfl,by rw[size_toArray,lenV];exact hl,by simpa using rv⟩) (λb u z=>by have z':(none:Option HO)=some u:=z;cases z') (λb z=>absurd rfl z) λz=>absurd rfl z
 |none =>
  refine core (λb=>if b=a then some (.frz { cls:=.type "list",data:=.seq vs.toArray } (.lst (ns.map V.int)))else none) (λb=>?_) (.inl (.inr ⟨{ cls:=.type "list",data:=.seq vs.toArray },if_pos rfl⟩)) (λb u z=>?_) (λb z=>?_) λ_=>hk
  ·by_cases hb:b=a
   ·exact .inr ⟨_,_,if_pos hb⟩
   ·exact .inl (if_neg hb)
  ·by_cases hb:b=a
   ·have z':=(if_pos hb).symm.trans z
    cases z'
    subst hb
    exact⟨ha,by rw[length_map];exact hl,vs,_,rv,ha⟩
   ·have z':=(if_neg hb).symm.trans z
    cases z'
  ·by_cases hb:b=a
   ·exact hb
   ·exact absurd (if_neg hb) z
theorem walk_of{l:PySem.W.OpenLaw}{k:Nat}{q:Program}{loose:List Str}{XP:(Str->Option Value)->Heap->Prop}{YP:World->Heap->Prop}{d:DefRec}{K:Params->Fg}{CX:World->CL}{sp:World->Sp}
  (hn:l.most=some n) (hn2:n<=sizeLine) (hdf:d.params.defaults=[]) (hr:Room k callerA)
  (hY:∀(w:World) (h:Heap),YP w h->(K w.params).In h)
  (F:∀(w:World) (mg:Str->Option Value) (fa:Addr) (h:Heap),(K w.params).In h->h.Ns mainGlobals mg->mg d.name=some (.ref fa) ->
   ∃fd:FuncData,(∀(s:Shared) (u:Value),BindsTo s fd ⟨[u],[]⟩ [(x,u)]) /\
    ∀base:Heap,(K w.params).In base->base.Ns mainGlobals mg->FnOk l.prog w (K w.params) mg base (CX w) k fa fd [x] (sp w))
  (hsp:∀(w:World) (H:Hp) (a:Addr) (ns:List Int),ns.length<=n->II H->Am (K w.params) H a (ns.map V.int)->sp w [.ref a] H (λv _=>v=.bl true) λ_ _ _=>False)
  (hCX:∀(w:World) (H:Hp) (s:Shared) (e:Value) (s':Shared),CX w [] H s (λ_ _ _=>False) e s'->False) :
  PySem.W.WalkO q loose XP YP l.row.toRowW d [] (λf vs=>PySem.call f vs):=by
 refine Att.attach_call hn hdf λw s₀ s₁ mg mb fa o pm cd doc a vs ns G Y ho hd hcd hmg hobj hints hlen hg=>?_
 have KX:=hY w _ Y
 obtain⟨fd,hb,hF⟩:=F w mg fa _ KX G.T.g hmg
 exact Qr KX G.T.g G.T.b G.T.builtins G.T.nolimit hg hobj hints (Nat.le_trans hlen hn2) hr hF hb (λH hO hS=>hsp w H a ns hlen hO hS) λH e s'=>hCX w H s₁ e s'
noncomputable def DC(s:Stmt):Arguments:=match s with
 |.FunctionDef _ a _ _ _ _ _ _ _ _=>a
 |_=>{ posonlyargs:=[],args:=[],vararg:=none,kwonlyargs:=[],kw_defaults:=[],kwarg:=none,defaults:=[] }
noncomputable def CO(s:Stmt):List Stmt:=match s with
 |.FunctionDef _ _ b _ _ _ _ _ _ _=>b
 |_=>[]
noncomputable def AN(s:Stmt):Scope:=match s with
 |.FunctionDef _ _ _ _ _ _ sc _ _ _=>sc
 |_=>{ kind:=.function,names:=[],isGenerator:=false,isCoroutine:=false }
noncomputable abbrev Cr:CL:=λ_ _ _ _ _ _=>False
noncomputable abbrev E0:XK:=λ_ _ _=>False
theorem Qs:Hx Cr X E0:=λ_ _ _ _ _ _ _ h=>h.elim
structure Fun(K:Fg)(x qual:Str)(st:Stmt)(f:Addr)(fd:FuncData):Prop where
 ex:∃(oc:Value) (od:Option Addr) (kV doc pm:Value) (an:Option Addr) (cdv ct:Value) (osl:Array (Option Value)),
  fd=PySem.W.fnOf x qual (DC st) (CO st) (AN st) .none kV doc pm an cdv ct/\K.lookup f=some ⟨oc,od,.func fd,osl⟩/\PySem.W.codeIn K cdv qual=true
 kp:PySem.W.keepIn K (.ref f)=true
section
variable{P:Program}{K:Fg}
theorem Fun.ok{st:Stmt}{f:Addr}{k:Nat}{sp:Sp}(F:Fun K x qual st f fd)(S:FnScope N ps (AN st))(len:∀vs H Q E,sp vs H Q E->vs.length=ps.length)
  (hbody:∀(cdv:Value) (A:Around) (outer:List Env) (s:Shared) (H:Hp) (vs:List V) (Q:VK) (E:XK),Room k (A.deeper (envOfC qual (AN st) s.heap.objs.size f cdv))->sp vs H Q E ->
   ∃t,BN (DU Cr P w K mg base N qual (AN st) f cdv A outer s H E).nox (CO st) t/\t { nx:=λ_ H'=>Q .non H',rt:=Q } (start N vs) H):FnOk P w K mg base Cr (k+1) f fd ps sp:=by
 obtain⟨oc,od,kV,doc,pm,an,cdv,ct,osl,rfl,lk,hcd⟩:=F.ex
 refine Px lk hcd S len λA outer s H vs Q E hr hsp=>?_
 obtain⟨t,h,q⟩:=hbody cdv A outer s H vs Q E hr hsp
 exact⟨t,h.nox,q⟩
theorem Fun.binds{st:Stmt}{f:Addr}(F:Fun K x qual st f fd)
  (h:∀(kV doc pm:Value) (an:Option Addr) (cdv ct:Value) (us:List Value),us.length=ps.length->bindArgs (PySem.W.fnOf x qual (DC st) (CO st) (AN st) .none kV doc pm an cdv ct) ⟨us,[]⟩=pure (ps.zip us)):EM K fd ps []:=by
 obtain⟨oc,od,kV,doc,pm,an,cdv,ct,osl,rfl,lk,hcd⟩:=F.ex
 exact .all (h kV doc pm an cdv ct)
theorem LB{st:Stmt}{f:Addr}{oc:Value}{od an:Option Addr}{osl:Array (Option Value)}{kV doc pm cdv ct:Value}(l:K.lookup f=some ⟨oc,od,.func (PySem.W.fnOf x qual (DC st) (CO st) (AN st) .none kV doc pm an cdv ct),osl⟩)
  (c:PySem.W.codeIn K cdv qual=true) (k:PySem.W.keepIn K (.ref f)=true):Fun K x qual st f (PySem.W.fnOf x qual (DC st) (CO st) (AN st) .none kV doc pm an cdv ct):=⟨⟨oc,od,kV,doc,pm,an,cdv,ct,osl,rfl,l,c⟩,k⟩
end
theorem IJ{k:Nat}(hr:Room k A):A.units+1<cLine:=Nat.lt_of_le_of_lt (Nat.add_le_add_left (by decide:1<=64) _) hr.units
theorem Dt(h:n<=1000):n<sizeLine:=Nat.lt_of_le_of_lt h (by decide)
theorem pv(i:Nat)(hN:X.N[i]?=some x:=by rfl)(hv:EB X.env.scope x:=by trivial)(hd:(x==("__debug__":Str))=false:=by decide)
  (hcd:(x==("__classdict__":Str))=false:=by decide):PE X (.Name x pos) (DR i):=Fh hN hv hd hcd
theorem Bc{c A B:Prop}[Decidable c](h1:c->A)(h2:¬c->B):if c then A else B:=by
 by_cases h:c
 ·rw[if_pos h]
  exact h1 h
 ·rw[if_neg h]
  exact h2 h
def B0(H H':Hp):Prop:=∀b o,H b=some o->H' b=some o
theorem B0.trans(a:B0 H H1)(b:B0 H1 H2):B0 H H2:=λc o h=>b c o (a c o h)
theorem B0.free(e:B0 H H'){l:Addr}(h:H' l=Option.none):H l=Option.none:=by
 cases q:H l with
 |none=>rfl
 |some o =>
  rw[e l o q]at h
  cases h
theorem B0.seq{K:Fg}{xs:List V}(e:B0 H H')(h:Am K H a xs):Am K H' a xs:=by
 rcases h with(h|⟨o,h⟩)|h
 ·exact .inl (.inl (e _ _ h))
 ·exact .inl (.inr ⟨o,e _ _ h⟩)
 ·exact .inr h
section
variable{κ:Type}[DecidableEq κ]
theorem LC:∀{l:List κ} {k:κ},l.Nodup->¬k∈l->(l++[k]).Nodup
 |[],k,_,_=>by simp
 |a::r,k,h,hk=>by
  obtain⟨h1,h2⟩:=nodup_cons.mp h
  show(a::(r++[k])).Nodup
  refine nodup_cons.mpr ⟨λm=>?_,LC h2 λm=>hk (mem_cons.mpr (Or.inr m))⟩
  rcases mem_append.mp m with q|q
  ·exact h1 q
  ·exact hk (mem_cons.mpr (Or.inl (mem_singleton.mp q).symm))
end
noncomputable def Bv(cells:List (Str×Addr)):List (Str×NameKind)->List (Str×Addr)->List (Str×Addr)
 |[],cs=>cs
 |(n,k)::r,cs=>Bv cells r (if(k==.free)=true then(match cells.lookup n with|some c=>(n,c)::cs|none=>cs)else cs)
theorem Qt(h:∀y∈scope.names,y.2=NameKind.free->∃c,env.cells.lookup y.1=some c):closureFor scope env=pure (Bv env.cells scope.names []):=by
 simp only[closureFor]
 have all:∀(l:List (Str×NameKind)) (cs:List (Str×Addr)),(∀y∈l,y.2=NameKind.free->∃c,env.cells.lookup y.1=some c) ->
   (forIn l cs λ(x:Str×NameKind) (r:List (Str×Addr))=>if(x.2==NameKind.free)=true then do let a <-cellOf env x.1;pure (ForInStep.yield ((x.1,a)::r))else pure (ForInStep.yield r))=(pure (Bv env.cells l cs):Sem _):=by
  intro l
  induction l with
  |nil=>intro cs _;rfl
  |cons y r ih =>
   intro cs hy
   obtain⟨n,k⟩:=y
   have hr:∀y∈r,y.2=NameKind.free->∃c,env.cells.lookup y.1=some c:=λy m=>hy y (mem_cons_of_mem _ m)
   rw[forIn_cons]
   by_cases hk:(k==NameKind.free)=true
   ·obtain⟨c,hc⟩:=hy (n,k) mem_cons_self (by simpa using hk)
    have hc:env.cells.lookup n=some c:=hc
    have e:cellOf env n=pure c:=by unfold cellOf;rw[hc]
    simp only[hk,if_true,e,Bv,hc]
    exact ih _ hr
   ·simp only[hk,Bv]
    exact ih _ hr
 exact(congrArg (λz=>z >>= λr=>(pure r:Sem (List (Str×Addr)))) (all scope.names [] h)).trans rfl
theorem IK{cells:List (Str×Addr)}{x:Str}{c:Addr}:∀{names:List (Str×NameKind)} {cs:List (Str×Addr)},(Bv cells names cs).lookup x=some c->cells.lookup x=some c\/cs.lookup x=some c
 |[],cs,h=>.inr h
 |(n,k)::r,cs,h=>by
  unfold Bv at h
  rcases IK (names:=r) h with q|q
  ·exact .inl q
  ·split at q
   ·cases hc:cells.lookup n with
    |none=>rw[hc]at q;exact .inr q
    |some c' =>
     rw[hc]at q
     dsimp only at q
     rw[lookup_cons]at q
     cases hx:x==n with
     |true =>
      rw[hx]at q
      have e:x=n:=by simpa using hx
      subst e
      exact .inl (hc.trans q)
     |false=>rw[hx]at q;exact .inr q
   ·exact .inr q
theorem LD{cells:List (Str×Addr)}{x:Str}:∀{names:List (Str×NameKind)} {cs:List (Str×Addr)},(cs.lookup x).isSome=true->((Bv cells names cs).lookup x).isSome=true
 |[],_,h=>h
 |(n,k)::r,cs,h=>by
  unfold Bv
  refine LD (names:=r) ?_
  split
  ·cases hc:cells.lookup n with
   |none=>exact h
   |some c' =>
    dsimp only
    rw[lookup_cons]
    cases hx:x==n<;>first|exact h|rfl
  ·exact h
theorem IL{cells:List (Str×Addr)}{x:Str}{c:Addr}(hc:cells.lookup x=some c):∀{names:List (Str×NameKind)} {cs:List (Str×Addr)},(x,NameKind.free)∈names->((Bv cells names cs).lookup x).isSome=true
 |(n,k)::r,cs,h=>by
  unfold Bv
  rcases mem_cons.mp h with e|h
  ·cases e
   refine LD (names:=r) ?_
   rw[if_pos (by rfl),hc]
   dsimp only
   rw[lookup_cons,beq_self_eq_true]
   rfl
  ·exact IL hc (names:=r) h
theorem LF{env:Env}{x:Str}:∀{names:List (Str×NameKind)},(∀y∈names,y.2≠NameKind.cell) ->
  let l:=(names.map λ(n,k)=>if(k==NameKind.free&&env.scope.kind==.function&&env.kindOf n==some .cell)then(n,NameKind.cell)else(n,k)).lookup x
  (l=some .cell\/l=some .free)->(x,NameKind.free)∈names
 |[],_,h=>by rcases h with h|h<;>simp at h
 |(n,k)::r,hn,h=>by
  have ih:=@LF env x r λy m=>hn y (mem_cons_of_mem _ m)
  simp only[map_cons]at h ih
  by_cases hc:(k==NameKind.free&&env.scope.kind==.function&&env.kindOf n==some .cell)=true
  ·rw[if_pos hc,lookup_cons]at h
   have ek:k=.free:=by
    rw[Bool.and_assoc,Bool.and_eq_true]at hc
    simpa using hc.1
   cases hx:x==n with
   |true =>
    have e:x=n:=by simpa using hx
    subst e
    rw[ek]
    exact mem_cons_self
   |false=>rw[hx]at h;exact mem_cons_of_mem _ (ih h)
  ·rw[if_neg hc,lookup_cons]at h
   cases hx:x==n with
   |true =>
    have e:x=n:=by simpa using hx
    subst e
    rw[hx]at h
    rcases h with h|h
    ·exact absurd (oI h) (hn (x,k) mem_cons_self)
    ·rw[oI h];exact mem_cons_self
   |false=>rw[hx]at h;exact mem_cons_of_mem _ (ih h)
theorem LG{env:Env}:∀{names:List (Str×NameKind)} {x:Str},names.lookup x=some .free ->
  let l:=(names.map λ(n,k)=>if(k==NameKind.free&&env.scope.kind==.function&&env.kindOf n==some .cell)then(n,NameKind.cell)else(n,k)).lookup x
  (l=some .cell\/l=some .free)
 |[],_,h=>by simp at h
 |(n,k)::r,x,h=>by
  have ih:=@LG env r x
  simp only[map_cons]at ih ⊢
  by_cases hc:(k==NameKind.free&&env.scope.kind==.function&&env.kindOf n==some .cell)=true
  ·rw[if_pos hc,lookup_cons]
   cases hx:x==n with
   |true=>exact .inl rfl
   |false =>
    rw[lookup_cons,hx]at h
    exact ih h
  ·rw[if_neg hc,lookup_cons]
   cases hx:x==n with
   |true =>
    rw[lookup_cons,hx]at h
    exact .inr h
   |false =>
    rw[lookup_cons,hx]at h
    exact ih h
structure CompP where
 cl:List (Str×Addr)
 C:Addr
 s:Shared
 H:Hp
 fp:List Addr
 qA:List (Addr×Obj)
noncomputable def Cx.comp(X:Cx)(N':List Str)(scope:Scope)(p:CompP):Cx where
 prog:=X.prog
 w:=X.w
 K:=X.K
 mg:=X.mg
 base:=X.base
 A:=X.A
 N:=N'
 s₀:=p.s
 H₀:=p.H
 env:=compEnvC scope p.cl p.C X.env
 outer:=X.stack
 stack:=X.stack
 ex:=p.fp
 fn:=λ_=>false
 calm:=X.calm
 pn:=X.pn++p.qA
 xe:=λ_ _=>False
structure CompScope(N:List Str)(sc:Scope)(N':List Str)(qB:List (Option Nat))(scope:Scope):Prop where
 kind:scope.kind=.function
 nocell:∀y∈scope.names,y.2≠NameKind.cell
 names:∀y∈scope.names,y.2=NameKind.local->scope.names.lookup y.1=some .local
 free:∀y∈scope.names,y.2=NameKind.free->scope.names.lookup y.1=some .free
 has:∀y∈scope.names,y.2=NameKind.free->(sc.names.lookup y.1=some .cell\/sc.names.lookup y.1=some .free)
 len:qB.length=N'.length
 cap:∀q∈qB.zip N',q.1=none\/(N[q.1.getD 0]?=some q.2/\(q.2,NameKind.free)∈scope.names)
noncomputable def picked(σ:St)(qB:List (Option Nat)):St:=qB.map λo=>match o with|none=>none|some j=>(σ[j]?).join
def E1(X:Cx)(ifs:List Expr)(t:TT):Prop :=
 ∀(qA:List (Addr×Obj)) (s:Shared) (σ:St) (H:Hp) (Q:Bool->Hp->Prop),Inv X qA σ H s->t σ H Q ->
  wpAny (model X.prog X.w) X.A (forIn ifs true λc r=>if r=true then do let ok <-isTrue c X.env (eval c X.env);pure (ForInStep.yield ok)else pure (ForInStep.yield r)) (TP X qA σ Q) X.xe s
def Qu:TT:=λ_ H Q=>Q true H
theorem LH:E1 X [] Qu:=λqA s σ H Q I h=>wpAny_tests_nil ⟨H,I,h⟩
theorem Qv{t:TT}(h:PT X c t):E1 X [c] t:=λqA s σ H Q I q=>wpAny_tests_one (h qA s σ H Q I q)
theorem Qw{R:Result->Shared->Prop}{elt target iter:Expr}{ifs:List Expr}{it acc:Value}(I:Nat->Shared->Prop)
  (turn:∀n s,I n s->wpAny (model prog w) A (pyNext it) (λr s₁=>match r with
   |none=>R (.ok .next) s₁
   |some v=>wpAny (model prog w) A (letOwnedTupleGo target it v) (λ_ s₁'=>wpAny (model prog w) A (assign target env v) (λ_ s₂ =>
     wpAny (model prog w) A (forIn ifs true λc r=>if r=true then do let ok <-isTrue c env (eval c env);pure (ForInStep.yield ok)else pure (ForInStep.yield r)) (λok s₃ =>
      if ok=true then wpAny (model prog w) A (eval elt env) (λx s₄ =>
       wpAny (model prog w) A (call (.builtin "list.append") [acc,x]) (λ_ s₅=>∃m,m<n/\I m s₅) (λ_ _=>False) s₄) (λ_ _=>False) s₃
      else∃m,m<n/\I m s₃) (λ_ _=>False) s₂) (λ_ _=>False) s₁') (λ_ _=>False) s₁) (λ_ _=>False) s)
  (n:Nat) (h:I n s) :
  codeAny (model prog w) A (.compLoop (.ListComp elt [⟨target,iter,ifs,0⟩] scope pos) 0 it acc env) R s:=by
 refine codeAny_loop rfl I (λn s hI=>?_) n h
 show wpAny _ A ((compTurn (.ListComp elt [⟨target,iter,ifs,0⟩] scope pos) 0 it acc env).onRaise (λx=>do noteFrame x env;theTreesLotGoes x)) _ _ s
 refine wpAny_noted ?_
 rw[compTurn_list]
 refine wB (wpAny_standAt (wB (wpAny_mono (turn n s hI) (λr s₁ h₁=>?_) λ_ _ h'=>h'.elim)))
 cases r with
 |none=>exact wP h₁
 |some v =>
  refine wB (wpAny_mono h₁ (λ_ s₁' h₁'=>?_) λ_ _ h'=>h'.elim)
  refine wB (wpAny_mono h₁' (λ_ s₂ h₂=>wB (wpAny_mono h₂ (λok s₃ h₃=>?_) λ_ _ h'=>h'.elim)) λ_ _ h'=>h'.elim)
  cases ok with
  |false=>exact wP ⟨rfl,h₃⟩
  |true =>
   exact wB (wB (wpAny_mono h₃ (λx s₄ h₄=>wB (wpAny_mono h₄ (λ_ s₅ h₅=>wP (wP ⟨rfl,h₅⟩)) λ_ _ h'=>h'.elim)) λ_ _ h'=>h'.elim))
def IM(J:It)(qB:List (Option Nat))(g:TG)(tt:TT)(te:TE)(σ:St)(Q:VK)(H1:Hp):Prop:=∀D,H1 D=none->∃W:Nat->Nat->List V->Hp->Prop,(∃m,W 0 m [] (AE H1 D (.lst []))) /\
 ∀i m ys H2,W i m ys H2->H2 D=some (.lst ys)/\((J.stop i H2/\Q (.ref D) H2)\/(J.go i H2/\∃M:List V->Hp->Prop,(∀zs H',M zs H'->∃m',m'<m/\W (i+1) m' zs H')/\∀x H3,J.yld i H2 x H3->g x (L2.picked σ qB) H3 λσ4 H4=>tt σ4 H4 λb H5 =>
  if b=true then te σ4 H5 λy H6=>H6 D=some (.lst ys)/\ys.length<sizeLine/\M (ys++[y]) (AE H6 D (.lst (ys++[y])))
  else M ys H5))
def IN(wi:TI)(qB:List (Option Nat))(g:TG)(tt:TT)(te:TE):TE:=λσ H Q=>wi σ H λJ H1=>IM J qB g tt te σ Q H1
def E2(qB:List (Option Nat))(g:TG):Prop:=∀(σ:St) (x:V) (H:Hp) (Q:St->Hp->Prop),g x (L2.picked σ qB) H Q->g x (L2.picked σ qB) H λσ' H'=>Q σ' H'/\∀(k:Nat) v,(L2.picked σ qB)[k]?=some (some v)->σ'[k]?=some (some v)
theorem IP(h:qB[i]?=some none):(L2.picked σ qB)[i]?=some none:=by
 unfold L2.picked
 rw[getElem?_map,h]
 rfl
theorem LI(h:qB[i]?=some none):E2 qB (CK i):=λσ x H Q q=>⟨q,λk v e=>by
 have ne:i≠k:=λz=>by subst z;rw[IP h]at e;cases e
 rw[getElem?_set_ne ne]
 exact e⟩
theorem Qx{K:Fg}(h:qB[i]?=some none)(h':qB[j]?=some none):E2 qB (Es K 2 (Fo (CK i) (Fo (CK j) Hl))):=by
 rintro σ x H Q ⟨a,xs,rfl,hs,hl,v,r,rfl,v',r',rfl,rfl,q⟩
 refine⟨a,_,rfl,hs,hl,v,_,rfl,v',_,rfl,rfl,q,λk v e=>?_⟩
 have ne:i≠k:=λz=>by subst z;rw[IP h]at e;cases e
 have ne':j≠k:=λz=>by subst z;rw[IP h']at e;cases e
 rw[getElem?_set_ne ne',getElem?_set_ne ne]
 exact e
section
variable{N':List Str}{elt iter:Expr}{ifs:List Expr}{sc:Scope}{wi:TI}{tt:TT}
theorem Qy{s4:Shared}{fp:List Addr}{C:Addr}{m:Str->Option Value}
  (S:CompScope N sc N' qB scope) (hN:X.N=N) (hsc:X.env.scope=sc) (I:Inv X qA σ H s) (hf:∀b∈fp,Cm X qA H b) (hfo:∀b∈fp,∃o,s.heap.get? b=some o)
  (hC:s.heap.objs.size<=C) (hk:∀b o,s.heap.get? b=some o->s4.heap.get? b=some o) (hn:s4.heap.Ns C m) (ho:s4.os=s.os) (hg:s4.gens=s.gens) :
  Inv (X.comp N' scope ⟨Bv X.env.cells scope.names [],C,s,H,fp,qA⟩) [] (L2.picked σ qB) H s4:=by
 have ok:=I.ok
 have has:∀y,(y,NameKind.free)∈scope.names->∃c,X.env.cells.lookup y=some c:=λy hy=>by
  have q:=S.has (y,.free) hy rfl
  rw[<-hsc]at q
  exact ok.has y q
 have sub:∀y c,(Bv X.env.cells scope.names []).lookup y=some c->X.env.cells.lookup y=some c:=λy c e=>by
  rcases IK e with q|q
  ·exact q
  ·simp at q
 have cge:∀x c,X.env.cells.lookup x=some c->c<s.heap.objs.size:=λx c e=>by
  obtain⟨v,q⟩:=I.cell x c e
  exact q.lt
 refine⟨⟨ok.mod,S.kind,ok.glob,ok.blt,hC,λx y c e1 e2=>ok.inj x y c (sub x c e1) (sub y c e2),λx hx=>?_,λx c z _=>(nomatch (show false=true from z)),ok.hd,ok.frames,.inl rfl,
   λb hb=>⟨λz=>?_,λx c e=>(hf b hb).2.2.2.2.1 x c (sub x c e)⟩,I.bs,Nat.le_trans ok.bsz I.sz,λb o e hb=>?_,λb hb z=>?_,I.stack,I.stkFree⟩,
  ho,by rw[hg];exact I.bare,Un.kept hk,⟨m,hn,λi x v e1 e2 e3=>?_⟩,λx c e=>?_,I.hok.fresh hC,λx c e=>I.freeC x c (sub x c e),λp hp=>?_,I.hok.kept hk,?_⟩
 ·have hx':=LF S.nocell hx
  obtain⟨c,hc⟩:=has x hx'
  exact Option.isSome_iff_exists.mp (IL hc hx')
 ·obtain⟨o,e⟩:=hfo b hb
  have e':b=C:=z
  exact absurd (Nat.lt_of_lt_of_le (Heap.lt_size e) (e'▸hC)) (Nat.lt_irrefl _)
 ·rcases(hf b hb).2.2.2.1 with q|q
  ·exact ok.noex b o e q
  ·exact absurd (Nat.lt_of_lt_of_le (Heap.lt_size e) (Nat.le_trans ok.bsz q)) (Nat.lt_irrefl _)
 ·rcases mem_cons.mp (I.stkSub b z)with q|q
  ·exact(hf b hb).2.1 q
  ·exact(hf b hb).2.2.1 q
 ·-- a captured name
  have hi:i<qB.length:=by
   rcases Nat.lt_or_ge i qB.length with q|q
   ·exact q
   ·unfold L2.picked at e2
    rw[getElem?_eq_none (by simpa using q)]at e2
    cases e2
  obtain⟨o,ho'⟩:∃o,qB[i]?=some o:=⟨qB[i],by simp[hi]⟩
  unfold L2.picked at e2
  rw[getElem?_map,ho']at e2
  cases o with
  |none=>cases e2
  |some j =>
   have e2:some ((σ[j]?).join)=some (some v):=e2
   have e1:N'[i]?=some x:=e1
   have hz:(some j,x)∈qB.zip N':=by
    refine mem_of_getElem? (i:=i) ?_
    rw[getElem?_zip_eq_some]
    exact⟨ho',e1⟩
   obtain⟨c1,c2⟩:=(S.cap _ hz).resolve_left (λz=>nomatch z)
   have c1:N[j]?=some x:=c1
   have e3:σ[j]?=some (some v):=by
    have q:=oI e2
    cases hσ:σ[j]? with
    |none=>rw[hσ]at q;cases q
    |some y=>rw[hσ]at q;exact congrArg some q
   rw[<-hN]at c1
   obtain⟨m0,hn0,hl0⟩:=I.loc
   have kq:=S.has (x,.free) c2 rfl
   rw[<-hsc]at kq
   obtain⟨u,r,l⟩:=hl0 j x v c1 e3 (kq.elim (λz=>.inr (.inl z)) λz=>.inr (.inr z))
   refine⟨u,r,?_⟩
   obtain⟨c,hc⟩:=has x c2
   obtain⟨c',hc'⟩:=Option.isSome_iff_exists.mp (IL (cs:=[]) hc c2)
   have ecc:c'=c:=oI ((sub x c' hc').symm.trans hc)
   subst ecc
   have kin:(compEnvC scope (Bv X.env.cells scope.names []) C X.env).kindOf x=some .cell\/(compEnvC scope (Bv X.env.cells scope.names []) C X.env).kindOf x=some .free:=by
    exact LG (S.free (x,.free) c2 rfl)
   rcases l with⟨k,_⟩|⟨_,c2',hc2,hcell⟩
   ·exfalso
    have k:X.env.scope.names.lookup x=some .local:=k
    rcases kq with z|z
    ·rw[k]at z;cases z
    ·rw[k]at z;cases z
   ·rw[hc]at hc2
    cases hc2
    obtain⟨oc,hoc,hd⟩:=hcell
    exact .inr ⟨kin,c',hc',oc,hk _ _ hoc,hd⟩
 ·obtain⟨v,oc,hoc,hd⟩:=I.cell x c (sub x c e)
  exact⟨v,oc,hk _ _ hoc,hd⟩
 ·have hp':p∈X.pn++qA:=by
   have hp:p∈(X.pn++qA)++[]:=hp
   simpa using hp
  obtain⟨e,n,ne,nf,d⟩:=I.pin p hp'
  refine⟨hk _ _ e,n,λz=>?_,λz=>?_,d⟩
  ·have z:p.1=C:=z
   exact absurd (Nat.lt_of_lt_of_le (Heap.lt_size e) (z▸hC)) (Nat.lt_irrefl _)
  ·rcases mem_cons.mp (I.stkSub _ z)with q|q
   ·exact ne q
   ·exact nf q
 ·unfold L2.picked
  rw[length_map]
  exact S.len
theorem Qz{Q:VK}{use:Option (Value->Sem Unit)}{QQ:VS}
  (S:CompScope N sc N' qB scope) (hN:X.N=N) (hsc:X.env.scope=sc) (hc:X.calm=true) (hi:PI X tg iter wi) (hk:E2 qB g)
  (hg:∀p,PG (X.comp N' scope p) tg g) (ht:∀p,E1 (X.comp N' scope p) ifs tt) (he:∀p,PE (X.comp N' scope p) elt te) (hs:∀x,foldedSetIterable iter X.env x=pure x)
  (I:Inv X qA σ H s) (h:IN wi qB g tt te σ H Q)
  (fin:∀(D C:Addr) (H':Hp) (s':Shared) (m:Str->Option Value),Inv X qA σ H' s'->Q (.ref D) H'->H' C=none->C≠X.env.locals->X.s₀.heap.objs.size<=C->(∀x c,X.env.cells.lookup x=some c->c≠C)->(∀p∈X.pn++qA,p.1≠C)->s'.heap.Ns C m ->
   compPost (model X.prog X.w) X.A X.xe use QQ (.ref D) C (.ok .next) s') :
  wpAny (model X.prog X.w) X.A (comprehension (.ListComp elt [⟨tg,iter,ifs,0⟩] scope pos) scope X.env (firstIterPos [⟨tg,iter,ifs,0⟩] pos) (newList []) false (eval iter X.env) use) QQ X.xe s:=by
 have hasC:∀y∈scope.names,y.2=NameKind.free->∃c,X.env.cells.lookup y.1=some c:=λy hy e=>by
  have q:=S.has y hy e
  rw[<-hsc]at q
  exact I.ok.has y.1 q
 refine wpAny_comprehension_free rfl hs (Qt hasC) S.kind S.names (AK (hi qA s σ H _ I h) λv s1 h1=>AK h1 λitv s2 h2=>?_)
 obtain⟨it,fp,tn,J,H2,e,I2,T,st2,f2,q⟩:=h2
 subst e
 have fr2:H2 s2.heap.objs.size=none:=I2.fresh
 obtain⟨W,⟨m0,w0⟩,turn⟩:=q s2.heap.objs.size fr2
 refine wpAny_newObj_type (T:="list") (wpAny_newFunctionEnv S.nocell (by intro y hy;simp at hy) (λh₁ hns₁ hsb₁=>?_) S.kind)
 dsimp only at hns₁ hsb₁ ⊢
 have I3:Inv X qA σ (AE H2 s2.heap.objs.size (.lst [])) { s2 with heap:=s2.heap.push { cls:=.type "list",dict:=none,data:=.seq ([]:List Value).toArray } } :=
  I2.lnew (t':=s2.toks) (qE:=[]) .nil (Nat.zero_le _)
 generalize hH3:s2.heap.push { cls:=.type "list",dict:=none,data:=.seq ([]:List Value).toArray }=G3 at hns₁ hsb₁ I3 ⊢
 have f3:∀b∈fp,Cm X qA (AE H2 s2.heap.objs.size (.lst [])) b:=λb hb=>by
  obtain⟨o,e,_⟩:=T.obj _ _ st2 b hb
  refine⟨?_,(f2 b hb).2⟩
  rw[AV (Nat.ne_of_lt (Heap.lt_size e))]
  exact(f2 b hb).1
 have hfo:∀b∈fp,∃o,G3.get? b=some o:=λb hb=>by
  obtain⟨o,e,_⟩:=T.obj _ _ st2 b hb
  exact⟨o,hH3▸Heap.get?_push_of_some _ e⟩
 have k34:∀b o,G3.get? b=some o->h₁.get? b=some o:=λb o e=>(hsb₁.2 b (Nat.ne_of_lt (Heap.lt_size e))).trans (Heap.get?_push_of_some _ e)
 have I4:=Qy (s4:={ s2 with heap:=h₁,toks:=s2.toks+([]:List (Str×Value)).length }) S hN hsc I3 f3 hfo (Nat.le_refl G3.objs.size) k34 hns₁ rfl rfl
 have st4:tn 0 h₁:=T.keep _ _ _ st2 λb hb o e=>k34 b o (hH3▸Heap.get?_push_of_some _ e)
 have sz3:s2.heap.objs.size<=G3.objs.size:=by rw[<-hH3,Heap.size_push];exact Nat.le_succ _
 generalize hp:(⟨Bv X.env.cells scope.names [],G3.objs.size,{ s2 with heap:=G3 },AE H2 s2.heap.objs.size (.lst []),fp,qA⟩:CompP)=p at I4
 have sub:∀y c,(X.comp N' scope p).env.cells.lookup y=some c->X.env.cells.lookup y=some c:=λy c e=>by
  subst hp
  rcases IK (cs:=[]) e with q|q
  ·exact q
  ·simp at q
 have stat:∀{H':Hp},(∀b∈fp,H' b=none)->∀b∈fp,Cm (X.comp N' scope p) [] H' b:=λhn b hb=>by
  refine⟨hn b hb,λz=>?_,λz=>?_,.inl (by subst hp;exact hb),λx c e=>(f2 b hb).2.2.2.2.1 x c (sub x c e),λq hq=>?_⟩
  ·subst hp
   obtain⟨o,e⟩:=hfo b hb
   have z:b=G3.objs.size:=z
   exact absurd (Heap.lt_size e) (by rw[z];exact Nat.lt_irrefl _)
  ·subst hp
   rcases mem_cons.mp (I2.stkSub b z)with q|q
   ·exact(f2 b hb).2.1 q
   ·exact(f2 b hb).2.2.1 q
  ·refine(f2 b hb).2.2.2.2.2 q ?_
   subst hp
   have hq:q∈(X.pn++qA)++[]:=hq
   simpa using hq
 have loop:codeAny (model X.prog X.w) X.A (.compLoop (.ListComp elt [⟨tg,iter,ifs,0⟩] scope pos) 0 (.ref it) (.ref s2.heap.objs.size) (X.comp N' scope p).env)
   (compPost (model X.prog X.w) X.A X.xe use QQ (.ref s2.heap.objs.size) G3.objs.size) { s2 with heap:=h₁,toks:=s2.toks+([]:List (Str×Value)).length }:=by
  refine Qw (λn s'=>∃i ys H',Inv (X.comp N' scope p) [] (L2.picked σ qB) H' s'/\tn i s'.heap/\(∀b∈fp,H' b=none)/\W i n ys H') ?_ m0 ⟨0,[],_,I4,st4,λb hb=>(f3 b hb).1,w0⟩
  rintro n s5 ⟨i,ys,H5,I5,st5,fr5,w5⟩
  obtain⟨hD,alt⟩:=turn i n ys H5 w5
  rcases alt with⟨stop,qn⟩|⟨go,M,hM,step⟩
  ·refine AK (T.done (X.comp N' scope p) rfl rfl rfl hc i [] s5 _ H5 _ I5 (stat fr5) st5 stop) λr s6 ⟨hr,I6⟩=>?_
   subst hr
   obtain⟨m6,hn6,_⟩:=I6.loc
   have un:Un (CA X.stack) fp H2 H5 s2.heap s6.heap:=by
    have u1:Un (CA X.stack) fp H2 (AE H2 s2.heap.objs.size (.lst [])) s2.heap G3:=Un.laid (λb o e=>hH3▸Heap.get?_push_of_some _ e) (Nat.le_refl _) fr2
    have u2:=I6.base
    subst hp
    exact u1.trans u2
   have IO:Inv X qA σ H5 s6:=I2.call' (by have e:=I6.os;subst hp;exact e) un (by have e:=I6.hok;subst hp;exact e) I6.bare λb hb=>⟨(f2 b hb).2.2.2.1,(f2 b hb).2.1,(f2 b hb).2.2.2.2.1,(f2 b hb).2.2.2.2.2⟩
   refine fin _ _ H5 s6 m6 IO qn ?_ ?_ ?_ ?_ ?_ ?_
   ·have e:=I6.free;subst hp;exact e
   ·exact Nat.ne_of_gt (Nat.lt_of_lt_of_le I2.lt sz3)
   ·exact Nat.le_trans I2.sz sz3
   ·intro x c e z
    obtain⟨v,q⟩:=I2.cell x c e
    exact absurd (Nat.lt_of_lt_of_le q.lt sz3) (by rw[z];exact Nat.lt_irrefl _)
   ·intro q hq z
    exact absurd (Nat.lt_of_lt_of_le (Heap.lt_size (I2.pin q hq).1) sz3) (by rw[z];exact Nat.lt_irrefl _)
   ·subst hp;exact hn6
  ·refine AK (T.item (X.comp N' scope p) rfl rfl rfl hc i [] s5 _ H5 _ I5 (stat fr5) st5 go) λr s6 ⟨u,hr,h6⟩=>?_
   subst hr
   refine AK h6 λ_ s7 ⟨x,H7,I7,r7,y7,st7,fr7⟩=>?_
   have I7':=I7.pinned (stat fr7) (T.obj _ _ st7)
   refine AK (hg p _ s7 _ H7 x u _ I7' r7 (hk σ x H7 _ (step x H7 y7))) λ_ s8 ⟨σ8,H8,I8,q8,w8⟩=>?_
   refine AK (ht p _ s8 σ8 H8 _ I8 q8) λok s9 ⟨H9,I9,q9⟩=>?_
   have back:∀{H':Hp} {s':Shared},Inv (X.comp N' scope p) ([]++Et fp s7.heap) σ8 H' s'->∀{k:Nat} {zs:List V},M zs H' ->
     ∃m,m<n/\∃i ys H'',Inv (X.comp N' scope p) [] (L2.picked σ qB) H'' s'/\tn i s'.heap/\(∀b∈fp,H'' b=none)/\W i m ys H'':=λ{H' s'} I' {k zs} mz=>by
    obtain⟨m',hm,w'⟩:=hM _ _ mz
    refine⟨m',hm,i+1,zs,H',?_,T.keep _ _ _ st7 λb hb o e=>(I'.pin (b,o) (mem_append_right _ (mem_append_right _ (Fs hb e)))).1,λb hb=>?_,w'⟩
    ·refine(I'.unpinned).weak ?_ w8
     rw[(I'.unpinned).len,I7.len]
    ·obtain⟨o,e,d⟩:=T.obj _ _ st7 b hb
     exact(I'.pin (b,o) (mem_append_right _ (mem_append_right _ (Fs hb e)))).2.1
   cases ok with
   |false=>exact back I9 (k:=0) q9
   |true =>
    refine AK (he p _ s9 σ8 H9 _ I9 q9) λv s10 ⟨y,H10,I10,r10,hD10,hz,q10⟩=>?_
    refine AK (F6 (X:=X.comp N' scope p) _ s10 σ8 H10 (.ref s2.heap.objs.size) [y] _ [v] (λ_ H'=>M (ys++[y]) H') I10 rfl (.cons r10 .nil) ⟨_,ys,y,rfl,rfl,hD10,hz,q10⟩) λw s11 ⟨z,H11,I11,r11,q11⟩=>?_
    exact back I11 (k:=0) q11
 subst hp
 exact codeAny_compStart_list loop (T.self _ 0 _ _ _ st4 loop)
theorem LJ(S:CompScope N sc N' qB scope)(hc:X.calm=true)(hi:PI X tg iter wi)(hk:E2 qB g)
  (hg:∀p,PG (X.comp N' scope p) tg g) (ht:∀p,E1 (X.comp N' scope p) ifs tt) (he:∀p,PE (X.comp N' scope p) elt te) (hN:X.N=N:=by rfl) (hsc:X.env.scope=sc:=by rfl) (hs:∀x,foldedSetIterable iter X.env x=pure x:=by intro _;rfl) :
  PE X (.ListComp elt [⟨tg,iter,ifs,0⟩] scope pos) (IN wi qB g tt te):=by
 intro qA s σ H Q I h
 rw[eval_ListComp]
 refine Qz S hN hsc hc hi hk hg ht he hs I h λD C H' s' m IO q n1 n2 n3 n4 n5 hn=>?_
 exact⟨m,hn,λh' hs'=>⟨.ref D,H',IO.turned (t':=s'.toks) (λb o hb e=>(hs'.2 b hb).trans e) n1 (Ne.symm (Ne.symm n2)) (.inr n3) n4 n5,rfl,q⟩⟩
end
section
variable{K:Fg}{xs:List V}{tt:TT}{Q:VK}{J:It}
theorem Q0{y:Nat->V->Prop}(Pv:Addr->Nat->List V->Hp->Prop)(h0:∀D,H D=none->Pv D 0 [] (AE H D (.lst [])))(hD:∀D i ys H2,H D=none->i<=n->Pv D i ys H2->H2 D=some (.lst ys))
  (hgo:∀D i ys H2,H D=none->i<n->Pv D i ys H2->J.go i H2) (hstop:∀D ys H2,H D=none->Pv D n ys H2->J.stop n H2) (hy:∀D i ys H2 x H3,H D=none->i<n->Pv D i ys H2->J.yld i H2 x H3->y i x/\H3=H2)
  (hs:∀D,H D=none->∀i x ys H2,i<n->y i x->Pv D i ys H2->g x (L2.picked σ qB) H2 λσ4 H4=>tt σ4 H4 λb H5=>if b=true then te σ4 H5 λy H6=>H6 D=some (.lst ys)/\ys.length<sizeLine/\Pv D (i+1) (ys++[y]) (AE H6 D (.lst (ys++[y])))else Pv D (i+1) ys H5)
  (hd:∀D ys H2,H D=none->Pv D n ys H2->Q (.ref D) H2):IM J qB g tt te σ Q H:=by
 intro D hn
 refine⟨λi m ys H2=>m=n - i/\i<=n/\Pv D i ys H2,⟨n,by simp,Nat.zero_le _,h0 D hn⟩,?_⟩
 rintro i m ys H2 ⟨rfl,hi,p⟩
 refine⟨hD D i ys H2 hn hi p,?_⟩
 by_cases hlt:i<n
 ·refine .inr ⟨hgo D i ys H2 hn hlt p,Pv D (i+1),λzs H' p'=>⟨n - (i+1),by lia,rfl,hlt,p'⟩,λx H' z=>?_⟩
  obtain⟨z1,z2⟩:=hy D i ys H2 x H' hn hlt p z
  subst z2
  exact hs D hn i x ys _ hlt z1 p
 ·have e:i=n:=by lia
  subst e
  exact .inl ⟨hstop D ys H2 hn p,hd D ys H2 hn p⟩
theorem Q3{lo:Int}(Pv:Addr->Nat->List V->Hp->Prop)(h0:∀D,H D=none->Pv D 0 [] (AE H D (.lst [])))(hD:∀D i ys H2,H D=none->i<=n->Pv D i ys H2->H2 D=some (.lst ys))
  (hs:∀D,H D=none->∀(i:Nat) ys H2,i<n->Pv D i ys H2->g (.int (lo+i)) (L2.picked σ qB) H2 λσ4 H4=>tt σ4 H4 λb H5=>if b=true then te σ4 H5 λy H6=>H6 D=some (.lst ys)/\ys.length<sizeLine/\Pv D (i+1) (ys++[y]) (AE H6 D (.lst (ys++[y])))else Pv D (i+1) ys H5)
  (hd:∀D ys H2,H D=none->Pv D n ys H2->Q (.ref D) H2):IM (Co lo n) qB g tt te σ Q H :=
 Q0 (n:=n) (y:=λi x=>x=.int (lo+i)) Pv h0 hD (λD i ys H2 hn hi p=>hi) (λD ys H2 hn p=>Nat.le_refl _) (λD i ys H2 x H3 hn hi p z=>⟨z.2,z.1⟩)
  (λD hn i x ys H2 hi hx p=>by subst hx;exact hs D hn i ys H2 hi p) hd
end
noncomputable def F8(xs:List V):It:=⟨λi _=>i<xs.length,λi H x H'=>H'=H/\xs[i]?=some x,λi _=>xs.length<=i⟩
noncomputable def CP(z:Str):List V:=z.cps.toList.map λc=>V.str ⟨#[c]⟩
theorem LK(z:Str):(CP z).length=z.length:=by
 unfold CP
 rw[length_map]
 exact Array.length_toList
theorem Q4{P:Program}{K:Fg}{ty:String}(hy:ty="str_ascii_iterator"\/ty="str_iterator")(x:Str)(t:Tok)(it:Addr):Turn P w K tg (F8 (CP x)) [it] it (λi h=>h.IsStrIter it ty x t i) where
 mem:=by simp
 obj:=λi h st b hb=>by
  have e:b=it:=by simpa using hb
  subst e
  obtain⟨o,e,c,d⟩:=st
  exact⟨o,e,λv z=>by rw[d]at z;cases z⟩
 keep:=λi h h' st k=>by
  obtain⟨o,e,r⟩:=st
  exact⟨o,k it (by simp) o e,r⟩
 item:=by
  intro X hP hw hK hc i qA s σ H E I hf st hg
  subst hP hw hK
  have hi:i<x.cps.size:=by
   have h:i<(CP x).length:=hg
   rw[LK]at h
   exact h
  obtain⟨f0,f1,f2,f3,f4,f5⟩:=hf it (by simp)
  have hx:x.cps[i]?=some x.cps[i]:=by simp[hi]
  have fin:∀h',h'.IsStrIter it ty x t (i+1)->Heap.SameBut it s.heap h'->∃u,(some (Value.str ⟨#[x.cps[i]]⟩ s.toks))=some u /\
    wpAny (model X.prog X.w) X.A (letOwnedTupleGo tg (.ref it) u) (λ_ s2=>∃x' H',Inv X qA σ H' s2/\AI x' u/\(F8 (CP x)).yld i H x' H'/\s2.heap.IsStrIter it ty x t (i+1)/\∀b∈[it],H' b=none) E { s with heap:=h',toks:=s.toks+1 }:=by
   intro h' st' sb
   have I1:Inv X qA σ H { s with heap:=h',toks:=s.toks+1 }:=I.turned (t':=s.toks+1) (λb o hb e=>(sb.2 b hb).trans e) f0 f1 f3 f4 f5
   obtain⟨o,e,c,d⟩:=id st'
   refine⟨_,rfl,Fp (s:={ s with heap:=h',toks:=s.toks+1 }) e c d (by rcases hy with z|z<;>rw[z]<;>decide) ⟨.str ⟨#[x.cps[i]]⟩,H,I1,⟨_,rfl⟩,⟨rfl,?_⟩,st',λb hb=>(hf b hb).1⟩⟩
   unfold CP
   rw[getElem?_map]
   simp[hi]
  rcases hy with z|z
  ·subst z
   exact wpAny_pyNext_ascii_item st hx fin
  ·subst z
   exact wpAny_pyNext_wide_item st hx fin
 done:=by
  intro X hP hw hK hc i qA s σ H E I hf st hg
  subst hP hw hK
  have hi:x.cps.size<=i:=by
   have h:(CP x).length<=i:=hg
   rw[LK]at h
   exact h
  obtain⟨f0,f1,f2,f3,f4,f5⟩:=hf it (by simp)
  have hx:x.cps[i]?=none:=by simp[hi]
  rcases hy with z|z
  ·subst z
   exact wpAny_pyNext_ascii_end (I.ok.hd hc) st hx λh' eb=>⟨rfl,I.turned (t':=s.toks) (λb o hb e=>eb b o hb e) f0 f1 f3 f4 f5⟩
  ·subst z
   exact wpAny_pyNext_wide_end (I.ok.hd hc) st hx λh' eb=>⟨rfl,I.turned (t':=s.toks) (λb o hb e=>eb b o hb e) f0 f1 f3 f4 f5⟩
 self:=λA i s Q E st h=>by
  rcases hy with z|z
  ·subst z;exact wpAny_pyIter_striter_ascii st h
  ·subst z;exact wpAny_pyIter_striter_wide st h
def Q5(te:TE):TI:=λσ H R=>te σ H λx H1=>∃z,x=.str z/\R (F8 (CP z)) H1
section
variable{e:Expr}
theorem Q6(he:PE X e te):PI X tg e (Q5 te):=by
 intro qA s σ H R I h
 refine AK (he qA s σ H _ I h) λv s1 ⟨x,H1,I1,r1,z,ez,q⟩=>?_
 subst ez
 obtain⟨t,rfl⟩:=r1
 have base:∀(ty:String) (hy:ty="str_ascii_iterator"\/ty="str_iterator"),Hn X qA σ tg R (.ref s1.heap.objs.size) { s1 with heap:=s1.heap.push { cls:=.type ty,data:=.fields #[.str z t,.int 0 0] } }:=λty hy=>by
  have I2:Inv X qA σ H1 { s1 with heap:=s1.heap.push { cls:=.type ty,data:=.fields #[.str z t,.int 0 0] } }:=I1.kept (t':=s1.toks) λb ob q=>Heap.get?_push_of_some _ q
  refine⟨s1.heap.objs.size,[s1.heap.objs.size],_,_,H1,rfl,I2,Q4 hy z t _,⟨_,Heap.get?_push_size _ rfl,rfl,rfl⟩,λb hb=>?_,q⟩
  have e:b=s1.heap.objs.size:=by simpa using hb
  subst e
  exact I1.fpOk (Nat.le_refl _) I1.fresh
 cases ha:z.cps.all (·<128)
 ·exact wpAny_pyIter_wide ha (base _ (.inr rfl))
 ·exact wpAny_pyIter_ascii ha (base _ (.inl rfl))
end
theorem F9:An X (compareOp .LtE) (λx y H Q=>∃i j,x=.str i/\y=.str j/\Q (.bl (!decide (j.cps.toList<i.cps.toList))) H):=by
 intro qA s σ H x y v u Q I rx ry h
 obtain⟨i,j,rfl,rfl,q⟩:=h
 obtain⟨t,rfl⟩:=rx
 obtain⟨t',rfl⟩:=ry
 exact P.le_str ⟨.bl _,H,I,rfl,q⟩
noncomputable def LL:V->Option Int->Option Int->Hp->VK->Prop:=λx lo hi H Q=>∃z,x=.str z/\z.length<=sizeLine/\Q (.str (Txt.slice z lo hi)) H
theorem LM{v:Value}{o:Option Int}(h:IsPart v o):∃l:Option (Int×Tok),l.map (·.1)=o/\partValue l=v:=by
 cases h with
 |none=>exact⟨none,rfl,rfl⟩
 |int i t=>exact⟨some (i,t),rfl,rfl⟩
theorem LN:CM X LL:=by
 intro qA s σ H x v vl vu lo hi sl Q I rx hs pl pu h
 obtain⟨z,rfl,hz,q⟩:=h
 obtain⟨t,rfl⟩:=rx
 obtain⟨l,rfl,rfl⟩:=LM pl
 obtain⟨u,rfl,rfl⟩:=LM pu
 refine⟨"str",_,F.slot_str_getitem.lookup,typeIs_str _ _ _,wpAny_getItem_str_slice (l:=l) (u:=u) (st:=none) hs rfl ?_⟩
 exact post_val_or_str ⟨Nat.le_trans (Txt.slice_le z _ _) hz,λt' k=>⟨.str (Txt.slice z _ _),H,I.tok k,⟨t',rfl⟩,q⟩⟩
theorem GA:∀{ys:List Str} {us:List Value},AM (ys.map V.str) us->StrsAre us ys
 |[],_,.nil=>.nil
 |y::ys,_,.cons ⟨t,e⟩ r=>by subst e;exact .cons y t (GA r)
noncomputable def LO(K:Fg):V->List V->Hp->VK->Prop:=λx vs H Q=>∃z p ys,x=.str z/\vs=[.ref p]/\Am K H p (ys.map V.str)/\(ys.map (·.length)).sum+ys.length * z.length<=16777216/\Q (.str (Txt.join z ys)) H
theorem LP:Cp X "str.join" (LO X.K):=by
 intro qA s σ H x vs v us Q I rx rv h
 obtain⟨z,p,ys,rfl,rfl,hp,hok,q⟩:=h
 obtain⟨t,rfl⟩:=rx
 obtain⟨u,rfl,ru⟩:=rv.one
 cases ru
 obtain⟨qE,r,pl,hz⟩:=I.list hp
 exact join_list pl.isList (GA (by simpa using r)) hok λt' k=>⟨.str _,H,I.tok k,⟨t',rfl⟩,q⟩
theorem LQ:∀{bs:List Bool} {us:List Value},AM (bs.map V.bl) us->LSm.BoolsAre us bs
 |[],_,.nil=>.nil
 |b::bs,_,.cons e r=>by cases e;exact .cons b (LQ r)
theorem DD(hc:X.calm=true):BH X (.builtin "all") (λxs H Q=>∃(p:Addr) (bs:List Bool),xs=[.ref p]/\Am X.K H p (bs.map V.bl)/\Q (.bl (bs.all id)) H):=by
 intro qA s σ H xs us Q I r h
 obtain⟨p,bs,rfl,hp,q⟩:=h
 obtain⟨u,rfl,ru⟩:=r.one
 cases ru
 obtain⟨qE,r,pl,hz⟩:=I.list hp
 have hb:=LQ r
 have hl:=pl.isList
 have hlt:p<s.heap.objs.size:=by obtain⟨_,e,_⟩:=hl;exact Heap.lt_size e
 refine call_all_walk (wpAny_pyIter_list hl ?_)
 refine⟨s.heap.objs.size,[s.heap.objs.size,p],[s.heap.objs.size],qE.toArray.size,_,_,λi=>(bs[i]?).getD true,rfl,Walks.list (A:=X.A.in1) (I.ok.hd hc) _ p (Nat.ne_of_lt hlt) qE.toArray,
  ⟨⟨_,Heap.get?_push_size _ rfl,rfl,rfl⟩,hl.push _⟩,λi v s' Q' E' hP hQ=>?_,λh' tk hk=>?_⟩
 ·obtain⟨b,e,rfl⟩:=hb.get i v (by simpa using hP)
  simp only[e,Option.getD_some]at hQ
  exact wpAny_truthy_bool hQ
 ·have e:((List.range qE.toArray.size).all λi=>(bs[i]?).getD true)=bs.all id:=by
   rw[size_toArray,hb.length];exact LSm.range_all bs
  rw[e]
  exact⟨.bl _,H,I.kept (t':=tk) (LSm.kept_iter hk),rfl,q⟩
theorem Q7:BH X (.builtin "isinstance") (λxs H Q=>∃x t n b,xs=[x,.ty n]/\TyOf X.K H x t/\PySem.W.kitOne X.K t (.type n)=some b/\Q (.bl b) H):=by
 intro qA s σ H xs us Q I r h
 obtain⟨x,t,n,b,rfl,ty,e,q⟩:=h
 obtain⟨u,v,rfl,ru,rv⟩:=r.two
 cases(show v=Value.type n from rv)
 exact Pp I ru ty e λtk=>⟨.bl b,H,I.tok tk,rfl,q⟩
theorem LR:An X (binaryOp .FloorDiv) (rI (λ_ j=>0<j/\j<2 ^ 64) λi j=>.int (i / j)):=Fu λi j t u s E Q hc q=>by
 have e:i.fdiv j=i / j:=Int.fdiv_eq_ediv_of_nonneg _ (Int.le_of_lt hc.1)
 refine floordiv_int (Int.ne_of_gt hc.1) (by rw[e];exact q) (.inl (PyProof.noPylong_of_log2 ?_))
 have h:j.natAbs<2 ^ 64:=by have:=hc.2;lia
 have h0:j.natAbs≠0:=by have:=hc.1;lia
 exact Nat.lt_of_lt_of_le ((Nat.log2_lt h0).mpr h) (by decide)
noncomputable def LS:R2:=λx y H Q=>∃p i xs,x=.ref p/\y=.int i/\H p=some (.lst xs)/\∃v,atI xs i=some v/\Q v H
theorem B4:Dq X LS:=λvalue slice qA s σ H x y v u Q I rx ry ⟨p,i,xs,e1,e2,h,w,hw,q⟩ hs=>Ky value slice qA s σ H x y v u Q I rx ry ⟨p,xs,i,w,e1,e2,.of h,hw,q⟩ hs
theorem Q8:KZ X LS:=by
 intro qA s σ H o i ov iv Q I ro ri h
 obtain⟨p,k,xs,rfl,rfl,hp,z,he,q⟩:=h
 cases ro
 obtain⟨t,rfl⟩:=ri
 obtain⟨qE,r,pl,hz⟩:=I.list (.of hp)
 obtain⟨j,h1,h2,h3,h4,h5⟩:=F2 he
 obtain⟨w,ew,rw'⟩:=r.get h2
 have hl:=r.length
 have hn:=Dp
 have fin:EP X qA σ Q w s:=⟨z,H,I,rw',q⟩
 by_cases h0:0<=k
 ·have hj:k.toNat=j:=by
   rw[seqIndex_of h0 h5]at h1
   exact oI h1
  exact wpAny_getItem_list pl.isList h0 (by lia) (by rw[hj];simpa using ew) fin
 ·have hj:(k+(qE.toArray.size:Int)).toNat=j:=by
   rw[seqIndex_neg (by lia) h4]at h1
   rw[size_toArray,<-hl]
   exact oI h1
  exact wpAny_getItem_list_neg pl.isList (by lia) (by rw[size_toArray]<;>lia) (by lia) (by rw[hj];simpa using ew) fin
theorem IQ:BH X (.builtin "len") (λxs H Q=>∃p ys,xs=[.ref p]/\H p=some (.lst ys)/\Q (.int ys.length) H):=by
 intro qA s σ H xs us Q I r h
 obtain⟨p,ys,rfl,hp,q⟩:=h
 exact K1 qA s σ H _ us Q I r ⟨p,ys,rfl,.inl (.of hp),q⟩
def Fn(P:Program)(w:World)(K:Fg)(mg:Str->Option Value)(base:Heap)(x:Str)(k:Nat)(ps:List Str)(sp:Sp):Prop :=
 ∃(f:Addr) (fd:FuncData),FnOk P w K mg base Cr k f fd ps sp/\mg x=some (.ref f)/\PySem.W.keepIn K (.ref f)=true/\EM K fd ps []
theorem DX{k:Nat}{sp:Sp}{p:Pos}{e:Expr}{t:TA}(G:Fn X.prog X.w X.K X.mg X.base x k ps sp)(hr:Room k X.A)(hg:Gl X x)
  (ha:PA X (e::es) t) (hdb:(x==("__debug__":Str))=false:=by decide +kernel) (he:starEach (e::es) X.env=(false,eval e X.env)::starEach es X.env:=by rfl) (hpl:(backTo pos (starEach es X.env)).any (·.1)=false:=by rfl) :
  PE X (.Call (.Name x p) (e::es) [] pos) (EL sp [] E0 t):=by
 obtain⟨f,fd,F,hm,hk,hb⟩:=G
 exact Pu F hr hg hm hk hb .nil Qs ha hdb he hpl
def Ao(K:Fg)(mg:Str->Option Value)(x:Str)(st:Stmt):Prop:=∃(f:Addr) (fd:FuncData),Fun K x x st f fd/\mg x=some (.ref f)
theorem E3{P:Program}{K:Fg}{st:Stmt}{k:Nat}{sp:Sp}(D:Ao K mg x st)(S:FnScope N ps (AN st))
  (hb:∀(kV doc pm:Value) (an:Option Addr) (cdv ct:Value) (us:List Value),us.length=ps.length->bindArgs (PySem.W.fnOf x x (DC st) (CO st) (AN st) .none kV doc pm an cdv ct) ⟨us,[]⟩=pure (ps.zip us))
  (len:∀vs H Q E,sp vs H Q E->vs.length=ps.length)
  (hbody:∀(f:Addr) (cdv:Value) (A:Around) (outer:List Env) (s:Shared) (H:Hp) (vs:List V) (Q:VK) (E:XK),Room k (A.deeper (PyProof.Rows.envOfC x (AN st) s.heap.objs.size f cdv))->sp vs H Q E ->
   ∃t,BN (DU Cr P w K mg base N x (AN st) f cdv A outer s H E).nox (CO st) t/\t { nx:=λ_ H'=>Q .non H',rt:=Q } (start N vs) H):Fn P w K mg base x (k+1) ps sp:=by
 obtain⟨f,fd,F,hm⟩:=D
 exact⟨f,fd,F.ok S len (hbody f),hm,F.kp,F.binds hb⟩
theorem LU:BH X (.type "list") (λxs H Q=>∃p ys,xs=[.ref p]/\(H p=some (.lst ys)\/H p=some (.tup ys))/\∀l,H l=none->Q (.ref l) (AE H l (.lst ys))):=by
 intro qA s σ H xs us Q I r h
 obtain⟨p,ys,rfl,hp,q⟩:=h
 exact QX qA s σ H _ us Q I r ⟨p,ys,rfl,hp.elim (λz=>.inl (.of z)) (λz=>.inr (.of z)),q⟩
theorem GB:BH X (.type "tuple") (λxs H Q=>∃p ys,xs=[.ref p]/\H p=some (.lst ys)/\∀l,H l=none->Q (.ref l) (AE H l (.tup ys))):=by
 intro qA s σ H xs us Q I r h
 obtain⟨p,ys,rfl,hp,q⟩:=h
 exact QY qA s σ H _ us Q I r ⟨p,ys,rfl,.inl ⟨.of hp,q⟩⟩
theorem Q9{k:Nat}(h:k<=x.length):(Txt.slice x none (some (k:Int))).cps.toList=x.cps.toList.take k:=by
 have e:=beq_iff_eq.mp (slice_closes_to (x:=x) (j:=(k:Int)) ⟨by lia,by have:x.cps.toList.length=x.length:=Array.length_toList;lia⟩)
 rw[e]
 simp
theorem RA:∀ys:List Str,(Txt.join ⟨#[]⟩ ys).cps.toList=(ys.map (·.cps.toList)).flatten:=by
 have hj:∀ys:List Str,(Str.join ⟨#[]⟩ ys).cps.toList=(ys.map (·.cps.toList)).flatten:=by
  intro ys
  induction ys with
  |nil=>rfl
  |cons y r ih =>
   cases r with
   |nil=>simp[Str.join]
   |cons z r =>
    have e:Str.join ⟨#[]⟩ (y::z::r)=y++⟨#[]⟩++Str.join ⟨#[]⟩ (z::r):=rfl
    rw[e]
    show((y.cps++#[])++(Str.join ⟨#[]⟩ (z::r)).cps).toList=_
    rw[Array.toList_append,ih]
    simp
 intro ys
 have e:=beq_iff_eq.mp (join_plain_closes ⟨#[]⟩ ys)
 rw[e]
 exact hj ys
theorem LV:∀{ys:List Str} {us:List Value},StrsAre us ys->AM (ys.map V.str) us
 |_,_,.nil=>.nil
 |_,_,.cons y t r=>.cons ⟨t,rfl⟩ (LV r)
theorem RB(_:True):BH X (.builtin "sorted") (λxs H Q=>∃(p:Addr) (ss:List Str),xs=[.ref p]/\H p=some (.lst (ss.map V.str))/\ss.length<64/\∀(l:Addr) (ss':List Str),H l=none->ss'.Perm ss->sortedS ss'=true->Q (.ref l) (AE H l (.lst (ss'.map V.str)))):=by
 intro qA s σ H xs us Q I r h
 obtain⟨p,ss,rfl,hp,h64,q⟩:=h
 obtain⟨u,rfl,ru⟩:=r.one
 cases ru
 obtain⟨qE,r,pl,hz⟩:=I.list (.of hp)
 have hS:=GA r
 have hl:=r.length
 rw[length_map]at hl
 refine sorted_strs pl.isList hS (by lia) λout ss' h1 h2 h3=>?_
 obtain⟨e,he⟩:=sortedAll_at s.heap qE out
 refine⟨.ref (s.heap.objs.size+1),_,I.laid (t':=s.toks) (o:=.lst (ss'.map V.str)) (λb o q=>sortedAll_old q) (Nat.le_succ _) ?_,rfl,q _ ss' (I.hok.fresh (Nat.le_succ _)) h2 h3⟩
 refine⟨?_,out.toList,e,LV h1,he⟩
 rw[length_map,h2.length_eq]
 exact Nat.le_of_lt (Dt (by lia))
theorem LW(z:Str):∀xs:List Str,F4 (.str z) (xs.map V.str)=decide (z∈xs)
 |[]=>rfl
 |x::r=>by
  have ih:=LW z r
  unfold F4 at ih ⊢
  rw[map_cons,any_cons,ih]
  by_cases e:x=z
  ·subst e;simp[Cq]
  ·have e':¬z=x:=λh=>e h.symm
   simp[Cq,e,e']
theorem LX:∀xs:List Str,(xs.map V.str).all C9=true
 |[]=>rfl
 |x::r=>by rw[map_cons,all_cons,LX r];rfl
theorem RC:An X (compareOp .In) (λx y H Q=>∃(z:Str) (p:Addr) (xs:List Str),x=.str z/\y=.ref p/\(H p=some (.lst (xs.map V.str))\/H p=some (.tup (xs.map V.str)))/\Q (.bl (decide (z∈xs))) H):=by
 intro qA s σ H x y v u Q I rx ry h
 obtain⟨z,p,xs,rfl,rfl,hp,q⟩:=h
 refine QV qA s σ H _ _ v u Q I rx ry ⟨p,xs.map V.str,rfl,hp.elim (λz=>.inl (.of z)) (λz=>.inr (.of z)),rfl,LX xs,?_⟩
 rw[LW]
 exact q
open PySem.Builtin PySem.Builtin.Str in
theorem IR(h:0<x.length):(Txt.slice x none (some (-1))).cps.toList=x.cps.toList.take (x.length - 1):=by
 have e:Txt.slice x none (some (-1))=Txt.slice x none (some (((x.length - 1:Nat)):Int)):=by
  unfold Txt.slice
  have e2:strSliceIndices none (some (-1)) 1 x.length=strSliceIndices none (some (((x.length - 1:Nat)):Int)) 1 x.length:=by
   unfold strSliceIndices
   have a1:(-1:Int)<0:=by decide
   have a2:¬(((x.length - 1:Nat)):Int)<0:=by lia
   simp only[a1,a2,if_true,if_false,show(1:Int) > 0 by decide]
   congr 1
   lia
  rw[e2]
 rw[e]
 exact Q9 (by lia)
theorem BN.weak{st:List Stmt}{u m:TS}(h:BN X st u)(hw:∀D σ H,m D σ H->u D σ H):BN X st m:=λqA s σ H D I q=>h qA s σ H D I (hw D σ H q)
end L2
namespace HT
open PySem PySem.Spec PyProof.Rows
theorem getItem_tuple_whole{t sl:Addr}{items:Array Value}{vl vu:Value}{lo hi:Option Int}(ht:IsTup s.heap t items)(hs:s.heap.IsSliceOf sl vl vu .none)(pl:IsPart vl lo)(pu:IsPart vu hi)
  (hw:sIx items.size 0 lo=0/\sIx items.size items.size hi=items.size) (h:Q (.ref t) s):wpAny (model prog w) A (getItem (.ref t) (.ref sl)) Q E s:=by
 obtain⟨os,hos,hcs,hds⟩:=id hs
 have hTs:s.TypeIs (.ref sl) "slice":=⟨os,hos,hcs⟩
 unfold getItem
 try with_reducible refine wpAny_holding ?_
 first|refine wB (wP ?_)|skip
 refine wB (wpAny_sequenceKey ht.typeIs (by decide) ?_)
 refine wB (wpAny_callSpecial?_slot (name:=Str.ofString "__getitem__") ht.typeIs PyProof.Rows.slot_tuple_getitem
  (wpAny_call_entry PyProof.Rows.slot_tuple_getitem ht.typeIs entry_tuple_getitem ?_ (args_tuple_getitem _ _)))
 show wpAny _ _ (Builtin.Tuple.tupleItemsOf (.ref t) >>= _) _ _ s
 refine wB (tupleItemsOf_ ht (wB (wpAny_typeOf hTs ?_)))
 rw[if_pos (by decide)]
 refine wB (Kr hs pl pu ?_)
 show wpAny _ _ (if(((sIx items.size 0 lo:Nat):Int)==0&&(1:Int)==1&&(sIx items.size items.size hi - sIx items.size 0 lo)==items.size)=true then _ else _) _ _ s
 rw[if_pos (by rw[hw.1,hw.2];simp)]
 unfold Builtin.Tuple.tupleIsExact
 refine wB (wB (wpAny_typeOf ht.typeIs (wP ?_)))
 simp only[beq_self_eq_true,if_true]
 first
  |exact wB (wpAny_rule (wP ⟨_,rfl,wP h⟩))
  |exact wB (wpAny_rule (wB (wP (wP ⟨_,rfl,wP h⟩))))
  |exact wB (wB (wpAny_rule (wP (wP ⟨_,rfl,wP h⟩))))
theorem IS{t:Addr}{items:Array Value}{x:Value}(hit:s.heap.IsTupleIter it t i)(ht:s.heap.IsTuple t items)(hx:items[i]?=some x)
  (hQ:∀h',h'.IsTupleIter it t (i+1)->Heap.SameBut it s.heap h'->Q x { s with heap:=h' }):wpAny (model prog w) A (Builtin.SmallTypes.nextOf (.ref it)) Q E s:=by
 obtain⟨o,ho,hc,hd⟩:=id hit
 obtain⟨ol,hol,_,nl,hdl⟩:=ht
 unfold Builtin.SmallTypes.nextOf
 refine wB (wpAny_callSpecial?_slot (name:=Str.ofString "__next__") hit.typeIs F.slot_tuple_iterator_next (wpAny_call_entry F.slot_tuple_iterator_next hit.typeIs F.entry_tuple_iterator_next ?_ (F.args_tuple_iterator_next_1 _)))
 show wpAny _ _ (field (.ref it) 0 >>= _) _ _ s
 refine wB (wpAny_field ho hd (x:=.ref t) rfl ?_)
 show wpAny _ _ (if(Value.ref t==Value.none)=true then _ else _) _ _ s
 rw[if_neg (show¬((Value.ref t==Value.none)=true)from Bool.false_ne_true)]
 show wpAny _ _ (field (.ref it) 1 >>= _) _ _ s
 refine wB (wpAny_field ho hd (x:=.int i 0) rfl ?_)
 show wpAny _ _ (seqItems? (.ref t) >>= _) _ _ s
 refine wB (wpAny_seqItems hol hdl ?_)
 simp only[Int.toNat_natCast,hx]
 refine wB (wpAny_setField ho hd (by simp) (wP ⟨x,rfl,wP (hQ _ ?_ (Heap.SameBut.update ..))⟩))
 exact⟨_,Heap.get?_update_self _ ho (Obj.isFreed_of_fields (Obj.data_mapFields hd _)),(Obj.cls_mapFields ..).trans hc,by rw[Obj.data_mapFields hd];simp[rawInt]⟩
theorem LY{t:Addr}{items:Array Value}(hh:A.handled=none)(hit:s.heap.IsTupleIter it t i)(ht:s.heap.IsTuple t items)(hx:items[i]?=none)
  (hE:∀h' e,Heap.ExtBut it s.heap h'->(∃o,h'.get? e=some o/\o.cls=.type "StopIteration")->E (.ref e) { s with heap:=h' }):wpAny (model prog w) A (Builtin.SmallTypes.nextOf (.ref it)) Q E s:=by
 obtain⟨o,ho,hc,hd⟩:=id hit
 obtain⟨ol,hol,_,nl,hdl⟩:=ht
 unfold Builtin.SmallTypes.nextOf
 refine wB (wpAny_callSpecial?_slot (name:=Str.ofString "__next__") hit.typeIs F.slot_tuple_iterator_next (wpAny_call_entry F.slot_tuple_iterator_next hit.typeIs F.entry_tuple_iterator_next ?_ (F.args_tuple_iterator_next_1 _)))
 show wpAny _ _ (field (.ref it) 0 >>= _) _ _ s
 refine wB (wpAny_field ho hd (x:=.ref t) rfl ?_)
 show wpAny _ _ (if(Value.ref t==Value.none)=true then _ else _) _ _ s
 rw[if_neg (show¬((Value.ref t==Value.none)=true)from Bool.false_ne_true)]
 show wpAny _ _ (field (.ref it) 1 >>= _) _ _ s
 refine wB (wpAny_field ho hd (x:=.int i 0) rfl ?_)
 show wpAny _ _ (seqItems? (.ref t) >>= _) _ _ s
 refine wB (wpAny_seqItems hol hdl ?_)
 simp only[Int.toNat_natCast,hx]
 refine wB (wpAny_rule (wB (wpAny_setField ho hd (by simp) ?_)))
 show wpAny _ _ (newExc (.type "StopIteration") [] >>= _) _ _ _
 refine wB ?_
 simp only[newExc,newTuple]
 refine wB (wpAny_newObj_type ?_ (by size_fits))
 refine wB (m:=firstArgMember _ _) (wpAny_of_eq (a:=Value.none) (by first|rfl|(simp only[firstArgMember];rfl)) ?_)
 refine wpAny_newObj_type ?_ (by size_fits)
 simp only[raiseNew]
 refine wB (wpAny_handled ?_)
 first|rw[show A.in1.handled=none from hh]|rw[hh]
 refine wB (wP (wpAny_throw ?_))
 exact hE _ _ (((Heap.SameBut.update ..).extBut.push _).push _) ⟨_,Heap.get?_push_size _ rfl,rfl⟩
theorem zipT_item{z TI TO i1 i2:Addr}{k:Nat}{xs ys:Array Value}{x y a b:Value}{Q:Option Value->Shared->Prop}(D:ZipApart z TI TO i1 i2 l1 l2)
  (hz:IsZip s.heap z TI TO .none) (hTI:IsPair s.heap TI (.ref i1) (.ref i2)) (hTO:IsPair s.heap TO a b)
  (h1:s.heap.IsTupleIter i1 l1 k) (h2:s.heap.IsTupleIter i2 l2 k) (hl1:s.heap.IsTuple l1 xs) (hl2:s.heap.IsTuple l2 ys) (hx:xs[k]?=some x) (hy:ys[k]?=some y)
  (hQ:∀h',IsZip h' z TI TO (rawInt s.heap.objs.size)->IsPair h' TO x y->h'.IsTupleIter i1 l1 (k+1)->h'.IsTupleIter i2 l2 (k+1)->IsPair h' s.heap.objs.size x y->h'.objs.size=s.heap.objs.size+1 ->
   (∀c o,c≠z->c≠TO->c≠i1->c≠i2->s.heap.get? c=some o->h'.get? c=some o)->Q (some (.ref s.heap.objs.size)) { s with heap:=h' }) :
  wpAny (model prog w) A (pyNext (.ref z)) Q E s:=by
 have hT:s.TypeIs (.ref z) "zip":=⟨_,hz,rfl⟩
 unfold pyNext
 refine wB (wpAny_attempt (wpAny_callSpecial?_slot (name:=Str.ofString "__next__") hT F.slot_zip_next (wpAny_call_entry F.slot_zip_next hT F.entry_zip_next ?_ (F.args_zip_next_1 _))))
 show wpAny _ _ (field (.ref z) 2 >>= _) _ _ _
 refine wB (wpAny_field hz rfl (x:=.bool false) rfl ?_)
 show wpAny _ _ (field (.ref z) 3 >>= _) _ _ _
 refine wB (wpAny_field hz rfl (x:=.ref TI) rfl (wB (wpAny_seqItems hTI rfl ?_)))
 show wpAny _ _ (Builtin.SmallTypes.ownedTupleIsFree (.ref z) >>= _) _ _ _
 refine wB ?_
 unfold Builtin.SmallTypes.ownedTupleIsFree
 refine wB (wpAny_field hz rfl (x:=.none) rfl (wP ?_))
 simp only[if_true]
 refine wB (wpAny_rule (wB (wpAny_field hz rfl (x:=.ref TO) rfl ?_)))
 refine wB (wpAny_setField_rec hz (by simp) λh₁ hz₁ hs₁=>?_)
 replace hz₁:IsZip h₁ z TI TO .ellipsis:=hz₁
 refine wB ?_
 simp only[zipIdx_cons,zipIdx_nil,forIn_cons,forIn_nil]
 have tupAt:∀{h h':Heap} {t j:Addr} {qE:Array Value},h.IsTuple t qE->Heap.SameBut j h h'->t≠j->h'.IsTuple t qE:=λ{h h' t j qE} ⟨o,e,r⟩ sb ne=>⟨o,sb.extBut _ _ ne e,r⟩
 have itAt:∀{h h':Heap} {i t j:Addr} {n:Nat},h.IsTupleIter i t n->Heap.SameBut j h h'->i≠j->h'.IsTupleIter i t n:=λ{h h' i t j n} ⟨o,e,r⟩ sb ne=>⟨o,sb.extBut _ _ ne e,r⟩
 refine wB (wB (wpAny_onRaise ?_))
 show wpAny _ _ (Builtin.SmallTypes.nextOf (.ref i1) >>= _) _ _ _
 refine wB (IS (itAt h1 hs₁ D.i1z) (tupAt hl1 hs₁ D.l1z) hx λh₂ h1₂ hs₂=>wP ?_)
 have hTO₂:IsPair h₂ TO a b:=hs₂.extBut _ _ D.TOi1 (hs₁.extBut _ _ D.TOz hTO)
 refine wB (wpAny_seqItems hTO₂ rfl (wB (wpAny_updateSeq_pair hTO₂ λh₃ hTO₃ hs₃=>?_)))
 replace hTO₃:IsPair h₃ TO x b:=hTO₃
 refine wB (wpAny_letGo (wP ?_))
 refine wB (wB (wpAny_onRaise ?_))
 show wpAny _ _ (Builtin.SmallTypes.nextOf (.ref i2) >>= _) _ _ _
 refine wB (IS (itAt (itAt (itAt h2 hs₁ D.i2z) hs₂ D.i12.symm) hs₃ D.TOi2.symm) (tupAt (tupAt (tupAt hl2 hs₁ D.l2z) hs₂ D.l2i1) hs₃ D.l2TO) hy λh₄ h2₄ hs₄=>wP ?_)
 have hTO₄:IsPair h₄ TO x b:=hs₄.extBut _ _ D.TOi2 hTO₃
 refine wB (wpAny_seqItems hTO₄ rfl (wB (wpAny_updateSeq_pair hTO₄ λh₅ hTO₅ hs₅=>?_)))
 replace hTO₅:IsPair h₅ TO x y:=hTO₅
 refine wB (wpAny_letGo (wP (wP ?_)))
 refine wB (wpAny_seqItems hTO₅ rfl (wB (wpAny_newTuple ?_)))
 have hsz:h₅.objs.size=s.heap.objs.size:=by rw[hs₅.1,hs₄.1,hs₃.1,hs₂.1,hs₁.1]
 have hz₅:IsZip h₅ z TI TO .ellipsis:=hs₅.extBut _ _ D.TOz.symm (hs₄.extBut _ _ D.i2z.symm (hs₃.extBut _ _ D.TOz.symm (hs₂.extBut _ _ D.i1z.symm hz₁)))
 have hk₅:∀c o,c≠z->c≠TO->c≠i1->c≠i2->s.heap.get? c=some o->h₅.get? c=some o:=λc o c1 c2 c3 c4 e=>hs₅.extBut _ _ c2 (hs₄.extBut _ _ c4 (hs₃.extBut _ _ c2 (hs₂.extBut _ _ c3 (hs₁.extBut _ _ c1 e))))
 have h1₅:h₅.IsTupleIter i1 l1 (k+1):=itAt (itAt (itAt h1₂ hs₃ D.TOi1.symm) hs₄ D.i12) hs₅ D.TOi1.symm
 have h2₅:h₅.IsTupleIter i2 l2 (k+1):=itAt h2₄ hs₅ D.TOi2.symm
 have hzlt:z<h₅.objs.size:=Heap.lt_size hz₅
 show wpAny _ _ (Builtin.SmallTypes.ownedTupleHandOut (.ref z) (.ref h₅.objs.size) >>= _) _ _ _
 refine wB ?_
 unfold Builtin.SmallTypes.ownedTupleHandOut
 have hz₆:IsZip (h₅.push { cls:=.type "tuple",data:=.seq #[x,y] }) z TI TO .ellipsis:=Heap.get?_push_of_some _ hz₅
 refine wB (wpAny_setField_rec hz₆ (by simp) λh₇ hz₇ hs₇=>?_)
 replace hz₇:IsZip h₇ z TI TO (rawInt h₅.objs.size):=hz₇
 refine wpAny_setField_rec hz₇ (by simp) λh₈ hz₈ hs₈=>?_
 replace hz₈:IsZip h₈ z TI TO (rawInt h₅.objs.size):=hz₈
 have up:∀c o,c≠z->h₅.get? c=some o->h₈.get? c=some o:=λc o c1 e=>hs₈.extBut _ _ c1 (hs₇.extBut _ _ c1 (Heap.get?_push_of_some _ e))
 have hT₈:IsPair h₈ h₅.objs.size x y:=hs₈.extBut _ _ (Nat.ne_of_gt hzlt) (hs₇.extBut _ _ (Nat.ne_of_gt hzlt) (Heap.get?_push_size _ rfl))
 have hz8:h₈.objs.size=h₅.objs.size+1:=by rw[hs₈.1,hs₇.1,Heap.size_push]
 rw[hsz]at hz₈ hT₈ hz8
 have upIt:∀{i t:Addr} {n:Nat},h₅.IsTupleIter i t n->i≠z->h₈.IsTupleIter i t n:=λ{i t n} ⟨o,e,r⟩ ne=>⟨o,up _ _ ne e,r⟩
 refine wP ⟨_,rfl,wP ?_⟩
 show Q (some (.ref h₅.objs.size)) _
 rw[hsz]
 exact hQ h₈ hz₈ (up _ _ D.TOz hTO₅) (upIt h1₅ D.i1z) (upIt h2₅ D.i2z) hT₈ hz8 λc o c1 c2 c3 c4 e=>up c o c1 (hk₅ c o c1 c2 c3 c4 e)
theorem zipT_end{z TI TO i1 i2:Addr}{k:Nat}{xs ys:Array Value}{a b:Value}{Q:Option Value->Shared->Prop}(hh:A.handled=none)(D:ZipApart z TI TO i1 i2 l1 l2)
  (hz:IsZip s.heap z TI TO .none) (hTI:IsPair s.heap TI (.ref i1) (.ref i2)) (hTO:IsPair s.heap TO a b)
  (h1:s.heap.IsTupleIter i1 l1 k) (h2:s.heap.IsTupleIter i2 l2 k) (hl1:s.heap.IsTuple l1 xs) (hl2:s.heap.IsTuple l2 ys) (hend:xs[k]?=none\/ys[k]?=none)
  (hQ:∀h',(∀c o,c≠z->c≠TO->c≠i1->c≠i2->s.heap.get? c=some o->h'.get? c=some o)->Q none { s with heap:=h' }):wpAny (model prog w) A (pyNext (.ref z)) Q E s:=by
 have hT:s.TypeIs (.ref z) "zip":=⟨_,hz,rfl⟩
 have fin:∀h' e,(∀c o,c≠z->c≠TO->c≠i1->c≠i2->s.heap.get? c=some o->h'.get? c=some o)->(∃o,h'.get? e=some o/\o.cls=.type "StopIteration") ->
   wpAny (model prog w) A (isInstance (.ref e) (.type "StopIteration") >>= λr=>if r=true then pure none else throw (.ref e)) Q E { s with heap:=h' }:=λh' e hk ⟨o,ho,hc⟩ =>
  wB (wpAny_isInstance (T:="StopIteration") (b:=true) ⟨o,ho,hc⟩ isSubtype_stop (wP (hQ _ hk)))
 unfold pyNext
 refine wB (wpAny_attempt (wpAny_callSpecial?_slot (name:=Str.ofString "__next__") hT F.slot_zip_next (wpAny_call_entry F.slot_zip_next hT F.entry_zip_next ?_ (F.args_zip_next_1 _))))
 show wpAny _ _ (field (.ref z) 2 >>= _) _ _ _
 refine wB (wpAny_field hz rfl (x:=.bool false) rfl ?_)
 show wpAny _ _ (field (.ref z) 3 >>= _) _ _ _
 refine wB (wpAny_field hz rfl (x:=.ref TI) rfl (wB (wpAny_seqItems hTI rfl ?_)))
 show wpAny _ _ (Builtin.SmallTypes.ownedTupleIsFree (.ref z) >>= _) _ _ _
 refine wB ?_
 unfold Builtin.SmallTypes.ownedTupleIsFree
 refine wB (wpAny_field hz rfl (x:=.none) rfl (wP ?_))
 simp only[if_true]
 refine wB (wpAny_rule (wB (wpAny_field hz rfl (x:=.ref TO) rfl ?_)))
 refine wB (wpAny_setField_rec hz (by simp) λh₁ hz₁ hs₁=>?_)
 replace hz₁:IsZip h₁ z TI TO .ellipsis:=hz₁
 refine wB ?_
 simp only[zipIdx_cons,zipIdx_nil,forIn_cons,forIn_nil]
 have tupAt:∀{h h':Heap} {t j:Addr} {qE:Array Value},h.IsTuple t qE->Heap.SameBut j h h'->t≠j->h'.IsTuple t qE:=λ{h h' t j qE} ⟨o,e,r⟩ sb ne=>⟨o,sb.extBut _ _ ne e,r⟩
 have itAt:∀{h h':Heap} {i t j:Addr} {n:Nat},h.IsTupleIter i t n->Heap.SameBut j h h'->i≠j->h'.IsTupleIter i t n:=λ{h h' i t j n} ⟨o,e,r⟩ sb ne=>⟨o,sb.extBut _ _ ne e,r⟩
 refine wB (wB (wpAny_onRaise ?_))
 show wpAny _ _ (Builtin.SmallTypes.nextOf (.ref i1) >>= _) _ _ _
 cases hx:xs[k]? with
 |none =>
  refine wB (LY hh (itAt h1 hs₁ D.i1z) (tupAt hl1 hs₁ D.l1z) hx λh₂ e hs₂ ⟨oe,hoe,hce⟩=>?_)
  have hz₂:IsZip h₂ z TI TO .ellipsis:=hs₂ _ _ D.i1z.symm hz₁
  have hez:e≠z:=λx=>by subst x;rw[hz₂]at hoe;cases hoe;simp at hce
  exact wpAny_setField_rec hz₂ (by simp) λh₃ _ hs₃=>fin h₃ e (λc o c1 _ c3 _ x=>hs₃.extBut _ _ c1 (hs₂ _ _ c3 (hs₁.extBut _ _ c1 x))) ⟨oe,hs₃.extBut _ _ hez hoe,hce⟩
 |some x =>
  have hy:ys[k]?=none:=by rcases hend with h|h;rw[hx]at h;cases h;exact h
  refine wB (IS (itAt h1 hs₁ D.i1z) (tupAt hl1 hs₁ D.l1z) hx λh₂ h1₂ hs₂=>wP ?_)
  have hTO₂:IsPair h₂ TO a b:=hs₂.extBut _ _ D.TOi1 (hs₁.extBut _ _ D.TOz hTO)
  refine wB (wpAny_seqItems hTO₂ rfl (wB (wpAny_updateSeq_pair hTO₂ λh₃ hTO₃ hs₃=>?_)))
  refine wB (wpAny_letGo (wP ?_))
  refine wB (wB (wpAny_onRaise ?_))
  show wpAny _ _ (Builtin.SmallTypes.nextOf (.ref i2) >>= _) _ _ _
  refine wB (LY hh (itAt (itAt (itAt h2 hs₁ D.i2z) hs₂ D.i12.symm) hs₃ D.TOi2.symm) (tupAt (tupAt (tupAt hl2 hs₁ D.l2z) hs₂ D.l2i1) hs₃ D.l2TO) hy λh₄ e hs₄ ⟨oe,hoe,hce⟩=>?_)
  have hz₄:IsZip h₄ z TI TO .ellipsis:=hs₄ _ _ D.i2z.symm (hs₃.extBut _ _ D.TOz.symm (hs₂.extBut _ _ D.i1z.symm hz₁))
  have hez:e≠z:=λx=>by subst x;rw[hz₄]at hoe;cases hoe;simp at hce
  exact wpAny_setField_rec hz₄ (by simp) λh₅ _ hs₅=>fin h₅ e (λc o c1 c2 c3 c4 x=>hs₅.extBut _ _ c1 (hs₄ _ _ c4 (hs₃.extBut _ _ c2 (hs₂.extBut _ _ c3 (hs₁.extBut _ _ c1 x))))) ⟨oe,hs₅.extBut _ _ hez hoe,hce⟩
noncomputable abbrev GC(h:Heap)(l1:Addr):Heap:=h.push { cls:=.type "tuple_iterator",data:=.fields #[.ref l1,.int 0 0] }
noncomputable abbrev GD(h:Heap)(l1 l2:Addr):Heap:=(GC h l1).push { cls:=.type "tuple_iterator",data:=.fields #[.ref l2,.int 0 0] }
noncomputable abbrev GF(h:Heap)(l1 l2:Addr):Heap:=(GD h l1 l2).push { cls:=.type "tuple",data:=.seq #[.ref h.objs.size,.ref (GC h l1).objs.size] }
noncomputable abbrev GG(h:Heap)(l1 l2:Addr):Heap:=(GF h l1 l2).push { cls:=.type "tuple",data:=.seq #[.none,.none] }
noncomputable abbrev EO(h:Heap)(l1 l2:Addr):Heap:=(GG h l1 l2).push { cls:=.type "zip",data:=.fields #[.none,.bool false,.bool false,.ref (GD h l1 l2).objs.size,.ref (GF h l1 l2).objs.size] }
theorem RD(l1 l2:Addr)(xs ys:Array Value) :
  Meets (Builtin.«zip.__new__» ⟨[.type "zip",.ref l1,.ref l2],[]⟩) (λ_ R s=>s.heap.IsTuple l1 xs/\s.heap.IsTuple l2 ys/\R (.ok (.ret (.ref (GG s.heap l1 l2).objs.size))) { s with heap:=EO s.heap l1 l2 }) :=
 .of_wp λprog w A R s h=>by
  obtain⟨hp,g,d,tk,os⟩:=s;obtain⟨hl1,hl2,h⟩:=h
  have hsub:=sub_zip
  have hL1:Heap.IsTuple (Shared.heap ⟨hp,g,d,tk,os⟩) l1 xs:=hl1
  have hL2:Heap.IsTuple (Shared.heap ⟨hp.push { cls:=.type "tuple_iterator",data:=.fields #[.ref l1,.int 0 0] },g,d,tk,os⟩) l2 ys:=by
   obtain⟨o,e,r⟩:=hl2
   exact⟨o,Heap.get?_push_of_some _ e,r⟩
  wp_walk using wpAny_pyIter_tuple hL1,wpAny_pyIter_tuple hL2
  exact⟨_,rfl,h⟩
theorem call_zipT{xs ys:Array Value}(hl1:s.heap.IsTuple l1 xs)(hl2:s.heap.IsTuple l2 ys)
  (h:∀h',IsZip h' (s.heap.objs.size+4) (s.heap.objs.size+2) (s.heap.objs.size+3) .none->IsPair h' (s.heap.objs.size+2) (.ref s.heap.objs.size) (.ref (s.heap.objs.size+1)) ->
   IsPair h' (s.heap.objs.size+3) .none .none->h'.IsTupleIter s.heap.objs.size l1 0->h'.IsTupleIter (s.heap.objs.size+1) l2 0->(∀c o,s.heap.get? c=some o->h'.get? c=some o)->Q (.ref (s.heap.objs.size+4)) { s with heap:=h' }) :
  wpAny (model prog w) A (call (.type "zip") [.ref l1,.ref l2]) Q E s:=by
 refine callType_new F.called_zip (by decide) (F.typeCall_zip_2 _ _) (F.newCall_zip_2 _ _) (λobj=>F.args_object_init_3 obj _ _) F.entry_zip_new (RD l1 l2 xs ys) ⟨hl1,hl2,?_⟩
 have z1:(GC s.heap l1).objs.size=s.heap.objs.size+1:=Heap.size_push ..
 have z2:(GD s.heap l1 l2).objs.size=s.heap.objs.size+2:=by rw[Heap.size_push,z1]
 have z3:(GF s.heap l1 l2).objs.size=s.heap.objs.size+3:=by rw[Heap.size_push,z2]
 have z4:(GG s.heap l1 l2).objs.size=s.heap.objs.size+4:=by rw[Heap.size_push,z3]
 have g5:(EO s.heap l1 l2).get? (GG s.heap l1 l2).objs.size=some _:=Heap.get?_push_size _ rfl
 have g4:(EO s.heap l1 l2).get? (GF s.heap l1 l2).objs.size=some _:=Heap.get?_push_of_some _ (Heap.get?_push_size _ rfl)
 have g3:(EO s.heap l1 l2).get? (GD s.heap l1 l2).objs.size=some _:=Heap.get?_push_of_some _ (Heap.get?_push_of_some _ (Heap.get?_push_size _ rfl))
 have g2:(EO s.heap l1 l2).get? (GC s.heap l1).objs.size=some _:=Heap.get?_push_of_some _ (Heap.get?_push_of_some _ (Heap.get?_push_of_some _ (Heap.get?_push_size _ rfl)))
 have g1:(EO s.heap l1 l2).get? s.heap.objs.size=some _:=Heap.get?_push_of_some _ (Heap.get?_push_of_some _ (Heap.get?_push_of_some _ (Heap.get?_push_of_some _ (Heap.get?_push_size _ rfl))))
 show _/\_
 rw[z2,z3,z4]at g5
 rw[z1,z2]at g3
 rw[z3]at g4
 rw[z1]at g2
 rw[z4]
 exact⟨⟨_,g5,rfl⟩,h _ g5 g3 g4 ⟨_,g1,rfl,rfl⟩ ⟨_,g2,rfl,rfl⟩ λc o x =>
  Heap.get?_push_of_some _ (Heap.get?_push_of_some _ (Heap.get?_push_of_some _ (Heap.get?_push_of_some _ (Heap.get?_push_of_some _ x))))⟩
end HT
namespace L2
open PySem PySem.Spec PyProof.Rows
theorem Inv.turnedL{ch:List Addr}(I:Inv X qA σ H s)(k:∀b o,b∉ch->s.heap.get? b=some o->h'.get? b=some o)(hf:∀b∈ch,Cm X qA H b):Inv X qA σ H { s with heap:=h',toks:=t' }:=by
 have nit:∀b u,H b=some u->b∉ch:=λb u e z=>by rw[(hf b z).1]at e;cases e
 refine I.step (g':=s.gens) (d':=s.drawn) (ch:=ch) (λb hb=>⟨(hf b hb).2.2.2.1,(hf b hb).2.1,(hf b hb).2.2.2.2.1,(hf b hb).2.2.2.2.2⟩) (λb o _ _ hc e _=>k b o hc e) (λb o _ _ hc e _=>⟨o.slots,k b o hc e⟩) (λ_ _ _ _ n=>n)
  (λb o hc e=>⟨o,k b o hc e⟩) (λ_ _ e=>e) (λ_ _ _ e=>e) (λb ps e=>⟨#[],by rw[e];simp⟩) (λm hm=>?_) (λb u e=>?_) I.bare
 ·obtain⟨o,es,ep,ho,r⟩:=hm
  exact⟨o,es,ep,k _ o (λz=>(hf _ z).2.1 rfl) ho,r⟩
 ·refine(I.hok b u e).stay (λc v hc q=>k c v ?_ q) (λ_ q=>q) λ_ _ q=>q
  rcases hc with z|z
  ·rw[z];exact nit b u e
  ·exact nit c _ z
noncomputable def DY(K : Fg)(l1 l2 : Addr) : It :=
  ⟨λi H => ∃xs ys, A0 K H l1 xs /\ A0 K H l2 ys /\ i < xs.length /\ i < ys.length,
   λi H v H' => ∃T x y, H T = none /\ v = .ref T /\ H' = AE H T (.tup [x, y]) /\ ∀xs ys, A0 K H l1 xs -> A0 K H l2 ys -> xs[i]? = some x /\ ys[i]? = some y,
   λi H => ∃xs ys, A0 K H l1 xs /\ A0 K H l2 ys /\ (xs.length <= i \/ ys.length <= i)⟩
theorem RE{P:Program}{K:Fg}{x1}{z TI TO i1 i2:Addr}(D:ZipApart z TI TO i1 i2 l1 l2) :
  Turn P w K (.Tuple elts x1 pos) (DY K l1 l2) [z,TI,TO,i1,i2] z (λi h=>IsZip h z TI TO .none/\IsPair h TI (.ref i1) (.ref i2)/\(∃a b,IsPair h TO a b)/\h.IsTupleIter i1 l1 i/\h.IsTupleIter i2 l2 i) where
 mem:=by simp
 obj:=λi h st b hb=>by
  obtain⟨hz,hTI,⟨a,c,hTO⟩,⟨o1,e1,_,d1⟩,⟨o2,e2,_,d2⟩⟩:=st
  simp only[mem_cons,not_mem_nil,or_false]at hb
  rcases hb with rfl|rfl|rfl|rfl|rfl
  ·exact⟨_,hz,λv q=>nomatch q⟩
  ·exact⟨_,hTI,λv q=>nomatch q⟩
  ·exact⟨_,hTO,λv q=>nomatch q⟩
  ·exact⟨_,e1,λv q=>by rw[d1]at q;cases q⟩
  ·exact⟨_,e2,λv q=>by rw[d2]at q;cases q⟩
 keep:=λi h h' st k=>by
  obtain⟨hz,hTI,⟨a,c,hTO⟩,⟨o1,e1,r1⟩,⟨o2,e2,r2⟩⟩:=st
  exact⟨k z (by simp) _ hz,k TI (by simp) _ hTI,⟨a,c,k TO (by simp) _ hTO⟩,⟨o1,k i1 (by simp) _ e1,r1⟩,⟨o2,k i2 (by simp) _ e2,r2⟩⟩
 item:=by
  intro X hP hw hK hc i qA s σ H E I hf st hg
  subst hP hw hK
  obtain⟨hz,hTI,⟨a,c,hTO⟩,h1,h2⟩:=st
  obtain⟨xs,ys,q1,q2,g1,g2⟩:=hg
  obtain⟨qE,rv,p,hzl⟩:=I.tuple q1
  obtain⟨its2,rv2,p2,hzl2⟩:=I.tuple q2
  have hx:xs[i]?=some xs[i]:=by simp[g1]
  have hy:ys[i]?=some ys[i]:=by simp[g2]
  obtain⟨u,hu,ru⟩:=rv.get hx
  obtain⟨u2,hu2,ru2⟩:=rv2.get hy
  refine HT.zipT_item D hz hTI hTO h1 h2 p p2 (x:=u) (y:=u2) (by simpa using hu) (by simpa using hu2) λh' a1 a2 a3 a4 a5 a6 hk=>⟨_,rfl,wpAny_letOwnedTupleGo_zip a1 λh'' hz'' hs''=>?_⟩
  have hfr:H s.heap.objs.size=none:=I.fresh
  have J:Inv X qA σ (AE H s.heap.objs.size (.tup [xs[i],ys[i]])) { s with heap:=s.heap.push { cls:=.type "tuple",data:=.seq #[u,u2] } } :=
   I.laid (t':=s.toks) (λb o q=>Heap.get?_push_of_some _ q) (Nat.le_refl _) ⟨by show 2<=sizeLine;decide,[u,u2],.cons ru (.cons ru2 .nil),Cf.new _ _⟩
  have hlt:∀b∈[z,TI,TO,i1,i2],b≠s.heap.objs.size:=λb hb e=>by
   have o:∃o,s.heap.get? b=some o:=by
    simp only[mem_cons,not_mem_nil,or_false]at hb
    obtain⟨o1,e1,_⟩:=h1
    obtain⟨o2,e2,_⟩:=h2
    rcases hb with rfl|rfl|rfl|rfl|rfl
    ·exact⟨_,hz⟩
    ·exact⟨_,hTI⟩
    ·exact⟨_,hTO⟩
    ·exact⟨_,e1⟩
    ·exact⟨_,e2⟩
   obtain⟨o,q⟩:=o
   exact absurd (Heap.lt_size q) (by rw[e];exact Nat.lt_irrefl _)
  have hn:∀b∈[z,TI,TO,i1,i2],AE H s.heap.objs.size (.tup [xs[i],ys[i]]) b=none:=λb hb=>by rw[AV (hlt b hb)];exact(hf b hb).1
  have nz:s.heap.objs.size≠z:=(hlt z (by simp)).symm
  have J2:Inv X qA σ (AE H s.heap.objs.size (.tup [xs[i],ys[i]])) { s with heap:=h'' }:=by
   refine Inv.turnedL (s:={ s with heap:=s.heap.push { cls:=.type "tuple",data:=.seq #[u,u2] } }) (h':=h'') (t':=s.toks) (ch:=[z,TO,i1,i2]) J (λb o hb q=>?_) (λb hb=>⟨hn b ?_,(hf b ?_).2⟩)
   ·simp only[mem_cons,not_mem_nil,or_false,not_or]at hb
    by_cases e:b=s.heap.objs.size
    ·subst e
     have q':=q
     rw[show(s.heap.push { cls:=.type "tuple",data:=.seq #[u,u2] }).get? s.heap.objs.size=some _ from Heap.get?_push_size _ rfl]at q'
     cases q'
     exact hs''.extBut _ _ nz a5
    ·have q0:s.heap.get? b=some o:=by rw[<-Heap.get?_push_ne _ _ _ e];exact q
     exact hs''.extBut _ _ hb.1 (hk b o hb.1 hb.2.1 hb.2.2.1 hb.2.2.2 q0)
   ·simp only[mem_cons,not_mem_nil,or_false]at hb ⊢;rcases hb with h|h|h|h<;>simp[h]
   ·simp only[mem_cons,not_mem_nil,or_false]at hb ⊢;rcases hb with h|h|h|h<;>simp[h]
  refine⟨.ref s.heap.objs.size,_,J2,rfl,⟨_,_,_,hfr,rfl,rfl,λxs' ys' z1 z2=>?_⟩,?_,hn⟩
  ·rw[I.tuple_inj z1 q1,I.tuple_inj z2 q2];exact⟨hx,hy⟩
  ·obtain⟨o1,e1,r1⟩:=a3
   obtain⟨o2,e2,r2⟩:=a4
   exact⟨hz'',hs''.extBut _ _ D.TIz (hk _ _ D.TIz D.TITO D.TIi1 D.TIi2 hTI),⟨_,_,hs''.extBut _ _ D.TOz a2⟩,⟨o1,hs''.extBut _ _ D.i1z e1,r1⟩,⟨o2,hs''.extBut _ _ D.i2z e2,r2⟩⟩
 done:=by
  intro X hP hw hK hc i qA s σ H E I hf st hg
  subst hP hw hK
  obtain⟨hz,hTI,⟨a,c,hTO⟩,h1,h2⟩:=st
  obtain⟨xs,ys,q1,q2,g⟩:=hg
  obtain⟨qE,rv,p,hzl⟩:=I.tuple q1
  obtain⟨its2,rv2,p2,hzl2⟩:=I.tuple q2
  have l1:=rv.length
  have l2:=rv2.length
  refine HT.zipT_end (I.ok.hd hc) D hz hTI hTO h1 h2 p p2 (by simp;lia) λh' hk=>⟨rfl,I.turnedL (t':=s.toks) (ch:=[z,TO,i1,i2]) (λb o hb q=>?_) λb hb=>hf b ?_⟩
  ·simp only[mem_cons,not_mem_nil,or_false,not_or]at hb
   exact hk b o hb.1 hb.2.1 hb.2.2.1 hb.2.2.2 q
  ·simp only[mem_cons,not_mem_nil,or_false]at hb ⊢;rcases hb with h|h|h|h<;>simp[h]
 self:=λ_ _ _ _ _ st h=>wpAny_pyIter_zip st.1 h
def IT(K:Fg)(ta:TA):TI:=λσ H R=>ta σ H λvs H1=>∃l1 l2 xs ys,vs=[.ref l1,.ref l2]/\A0 K H1 l1 xs/\A0 K H1 l2 ys/\R (DY K l1 l2) H1
theorem LZ:bootBuiltins "zip"=some (.type "zip"):=by decide +kernel
theorem La{a b:Expr}{ta:TA}{p:Pos}{x1}(hg:Gl X "zip")(hm:X.mg "zip"=none)(ha:PA X [a,b] ta)(hs:starEach [a,b] X.env=[(false,eval a X.env),(false,eval b X.env)]:=by rfl)(hs2:starEach [b] X.env=[(false,eval b X.env)]:=by rfl) :
  PI X (.Tuple elts x1 tp) (.Call (.Name "zip" p) [a,b] [] pos) (IT X.K ta):=by
 intro qA s σ H R I h
 refine Call_ (EC I hg hm LZ (PyProof.Rows.callWith_type1 (AK (ha pos qA s σ H _ I h) λus s1 ⟨vs,H1,I1,r1,q1⟩=>?_) (by rw[hs,hs2]) (by rw[hs2];rfl)))
 obtain⟨l1,l2,xs,ys,rfl,q2,q3,q⟩:=q1
 obtain⟨u,v,rfl,ru,rv⟩:=r1.two
 cases(show u=Value.ref l1 from ru)
 cases(show v=Value.ref l2 from rv)
 obtain⟨qE,r1,p1,_⟩:=I1.tuple q2
 obtain⟨its2,r2,p2,_⟩:=I1.tuple q3
 refine HT.call_zipT p1 p2 λh' hz hTI hTO i1 i2 hk=>?_
 have I2:Inv X qA σ H1 { s1 with heap:=h' }:=I1.kept (t':=s1.toks) hk
 have lt1:l1<s1.heap.objs.size:=by obtain⟨_,e,_⟩:=p1;exact Heap.lt_size e
 have lt2:l2<s1.heap.objs.size:=by obtain⟨_,e,_⟩:=p2;exact Heap.lt_size e
 refine wpAny_pyIter_zip hz ⟨_,[s1.heap.objs.size+4,s1.heap.objs.size+2,s1.heap.objs.size+3,s1.heap.objs.size,s1.heap.objs.size+1],_,_,H1,rfl,I2,RE (zipApart_new lt1 lt2),⟨hz,hTI,⟨_,_,hTO⟩,i1,i2⟩,λb hb=>?_,q⟩
 have hb':s1.heap.objs.size<=b:=by
  simp only[mem_cons,not_mem_nil,or_false]at hb
  rcases hb with h|h|h|h|h<;>rw[h]<;>first|exact Nat.le_add_right _ _|exact Nat.le_refl _
 exact I1.fpOk hb' (I1.hok.fresh hb')
noncomputable def Lb:V->Option Int->Option Int->Hp->VK->Prop:=λx lo hi H Q=>∃a xs,x=.ref a/\H a=some (.tup xs) /\
 ((HT.sIx xs.length 0 lo=0/\HT.sIx xs.length xs.length hi=xs.length)->Q (.ref a) H) /\
 (¬(HT.sIx xs.length 0 lo=0/\HT.sIx xs.length xs.length hi=xs.length)->∀p,H p=none->Q (.ref p) (AE H p (.tup (CN xs lo hi))))
theorem RG:CM X Lb:=by
 intro qA s σ H x v vl vu lo hi sl Q I rx hs pl pu h
 obtain⟨a,xs,rfl,hx,h1,h2⟩:=h
 by_cases hw:HT.sIx xs.length 0 lo=0/\HT.sIx xs.length xs.length hi=xs.length
 ·cases rx
  obtain⟨qE,r,ht,hz⟩:=I.tuple (.of hx)
  have hlen:qE.toArray.size=xs.length:=by rw[size_toArray];exact r.length.symm
  exact⟨"tuple",_,PyProof.Rows.slot_tuple_getitem.lookup,ht.typeIs,HT.getItem_tuple_whole ht hs pl pu (by rw[hlen];exact hw) ⟨.ref a,H,I,rfl,h1 hw⟩⟩
 ·exact QB qA s σ H _ v vl vu lo hi sl Q I rx hs pl pu ⟨a,xs,rfl,.of hx,hw,h2 hw⟩
end L2
namespace L2
open PySem PySem.Spec PyProof.Rows PySem.W
theorem IU:∀a:List Int,HT.lexLt a a=false
 |[]=>rfl
 |x::r=>by rw[HT.lexLt_cons,if_pos rfl];exact IU r
theorem GH:∀a b c:List Int,HT.lexLt a b=true->HT.lexLt b c=true->HT.lexLt a c=true
 |[],[],c,h,_=>by simp[HT.lexLt]at h
 |[],_::_,[],_,h=>by simp[HT.lexLt]at h
 |[],_::_,_::_,_,_=>rfl
 |_::_,[],_,h,_=>by simp[HT.lexLt]at h
 |_::_,_::_,[],_,h=>by simp[HT.lexLt]at h
 |x::xs,y::ys,z::zs,h1,h2=>by
  rw[HT.lexLt_cons]at h1 h2 ⊢
  by_cases e1:x=y
  ·subst e1
   rw[if_pos rfl]at h1
   by_cases e2:x=z
   ·subst e2
    rw[if_pos rfl]at h2 ⊢
    exact GH xs ys zs h1 h2
   ·rw[if_neg e2]at h2 ⊢;exact h2
  ·rw[if_neg e1]at h1
   have h1:=of_decide_eq_true h1
   by_cases e2:y=z
   ·subst e2
    rw[if_neg e1];exact decide_eq_true h1
   ·rw[if_neg e2]at h2
    have h2:=of_decide_eq_true h2
    rw[if_neg (by lia)];exact decide_eq_true (by lia)
theorem E4:∀a b:List Int,HT.lexLt a b=false->HT.lexLt b a=false->a=b
 |[],[],_,_=>rfl
 |[],_::_,h,_=>by simp[HT.lexLt]at h
 |_::_,[],_,h=>by simp[HT.lexLt]at h
 |x::xs,y::ys,h1,h2=>by
  rw[HT.lexLt_cons]at h1 h2
  by_cases e1:x=y
  ·subst e1
   rw[if_pos rfl]at h1 h2
   rw[E4 xs ys h1 h2]
  ·rw[if_neg e1]at h1
   rw[if_neg (λz=>e1 z.symm)]at h2
   have h1:=of_decide_eq_false h1
   have h2:=of_decide_eq_false h2
   lia
theorem Lc(a b c:List Int)(h:HT.lexLt a c=true):HT.lexLt a b=true\/HT.lexLt b c=true:=by
 cases h1:HT.lexLt a b
 ·cases h2:HT.lexLt b c
  ·exfalso
   cases h3:HT.lexLt b a
   ·rw[E4 a b h1 h3,h2]at h;cases h
   ·have:=GH b a c h3 h
    rw[h2]at this;cases this
  ·exact .inr rfl
 ·exact .inl rfl
noncomputable def E5:KeyOrd:=⟨List Int,HT.lexLt,IU,GH,Lc,E4⟩
theorem Ld{prog:Program}{w:World}{A:Around}{s:Shared}{Q:Bool->Shared->Prop}:∀{us vs:List Value} {ns ms:List Int} (i:Nat),IntsAre us ns->IntsAre vs ms->ns.length=ms.length->Q (HT.lexLt ns ms) s->KatLex prog w A true false Q (us.zip vs) i s
 |_,_,_,_,i,.nil,.nil,_,q=>q
 |_,_,_,_,i,.nil,.cons _ _ _,hl,_=>by simp at hl
 |_,_,_,_,i,.cons _ _ _,.nil,hl,_=>by simp at hl
 |_,_,_,_,i,.cons a t hu,.cons c u hv,hl,q=>by
  rw[zip_cons_cons]
  refine kat_cons (SeqAt.EqAt.int_int a t c u prog w _ _ ?_)
  rw[HT.lexLt_cons]at q
  by_cases e:a=c
  ·rw[if_pos e]at q
   rw[show(a==c)=true by simpa using e]
   exact kat_yes (Ld (i+1) hu hv (by simpa using hl) q)
  ·rw[if_neg e]at q
   rw[show(a==c)=false by simpa using e]
   refine kat_no ?_
   by_cases hi:i=0
   ·subst hi
    exact kat_lt_int (E:=λ_ _=>False) q
   ·rw[show(true&&i==0)=false by simp[hi]]
    exact kat_one _ _ (lt_int (E:=λ_ _=>False) q)
end L2
namespace L2
open PySem PySem.Spec PyProof.Rows
noncomputable abbrev DE(a:Addr)(i c z:Int):HO:=.lst [.ref a,.int i,.int c,.int z]
structure Bag(H:Hp)(b a:Addr):Prop where
 ob:∃(ns:List Int) (i c z:Int),H b=some (DE a i c z)/\H a=some (.lst (ns.map V.int))/\0<=i/\a≠b
structure Step(b a:Addr)(H H':Hp):Prop where
 bag:Bag H' b a
 same:∀p o,p≠b->H p=some o->H' p=some o
section
variable{b D:Addr}
theorem Step.refl(h:Bag H b a):Step b a H H:=⟨h,λ_ _ _ e=>e⟩
theorem Step.trans(x:Step b a H H1)(y:Step b a H1 H2):Step b a H H2:=⟨y.bag,λp o n e=>y.same p o n (x.same p o n e)⟩
theorem Bag.put(h:Bag H b a)(nb:p≠b)(na:p≠a):Bag (AE H p o) b a:=by
 obtain⟨ns,i,c,z,h1,h2,r⟩:=h
 exact⟨ns,i,c,z,by rw[AV nb.symm];exact h1,by rw[AV na.symm];exact h2,r⟩
theorem Bag.atb(h:Bag H b a):∃l,H b=some (.lst l):=by
 obtain⟨ns,i,c,z,h1,_⟩:=h
 exact⟨_,h1⟩
theorem Bag.ata(h:Bag H b a):∃l,H a=some (.lst l):=by
 obtain⟨ns,i,c,z,h1,h2,_⟩:=h
 exact⟨_,h2⟩
theorem Bag.nb(h:Bag H b a)(n:H p=none):p≠b:=by
 obtain⟨l,h1⟩:=h.atb
 exact(A7 h1 n).symm
theorem Bag.na(h:Bag H b a)(n:H p=none):p≠a:=by
 obtain⟨l,h1⟩:=h.ata
 exact(A7 h1 n).symm
theorem Bag.new(h:Bag H b a)(n:H p=none):Bag (AE H p o) b a:=h.put (h.nb n) (h.na n)
theorem Step.new(h:Bag H b a)(n:H p=none):Step b a H (AE H p o):=⟨h.new n,λq u _ e=>by rw[AV (A7 e n)];exact e⟩
theorem Bag.neT(h:Bag H b a){xs:List V}(e:H p=some (.tup xs)):p≠b/\p≠a:=by
 obtain⟨ns,i,c,z,h1,h2,_⟩:=h
 exact⟨Hg e h1 (λz=>by cases z),Hg e h2 (λz=>by cases z)⟩
theorem Step.free(s:Step b a H H1)(n:H1 p=none):H p=none:=by
 cases e:H p with
 |none=>rfl
 |some o =>
  rw[s.same p o (s.bag.nb n) e]at n
  cases n
end
noncomputable abbrev Bd(r:List Int):List AO:=r.map Sum.inl
noncomputable abbrev DF(x:Str):AO:=Sum.inr x
inductive P where
 |non|bl (b:Bool)|int (i:Int)|str (x:Str)|bag
 |tup (xs:List P)|lst (xs:List P)
 |dT (ks:List (List Int)) (vs:List P)|dK (ks:List Str) (vs:List P)
 |fT (ks:List (List Int)) (vs:List P)
mutual
noncomputable def P.imm:P->Bool
 |.lst _=>false|.dT _ _=>false|.dK _ _=>false|.fT _ _=>false
 |.tup xs=>P.imms xs
 |.non=>true|.bl _=>true|.int _=>true|.str _=>true|.bag=>true
noncomputable def P.imms:List P->Bool
 |[]=>true
 |x::r=>x.imm&&P.imms r
end
noncomputable def P.mut:P->Bool
 |.lst _=>true|.dT _ _=>true|.dK _ _=>true|.fT _ _=>true|_=>false
noncomputable def P.items:P->Option (List P)
 |.lst xs=>some xs|.tup xs=>some xs|_=>none
def Fz(H:Hp)(p:Addr)(qF:List (List AO×V)):Prop:=∃o,H p=some (.frz o (.dT qF))
theorem Fz.map{qF:List (List AO×V)}(h:Fz H p qF)(k:∀o,H p=some o->H' p=some o):Fz H' p qF:=let⟨o,e⟩:=h;⟨o,k _ e⟩
mutual
def Rp(b:Addr)(Z:Addr->Prop)(H:Hp):P->V->Prop
 |.non,v=>v=.non
 |.bl k,v=>v=.bl k
 |.int i,v=>v=.int i
 |.str x,v=>v=.str x
 |.bag,v=>v=.ref b
 |.tup xs,v=>∃p vs,v=.ref p/\H p=some (.tup vs)/\AB b Z H xs vs
 |.lst xs,v=>∃p vs,v=.ref p/\¬Z p/\H p=some (.lst vs)/\AB b Z H xs vs
 |.dT ks xs,v=>∃p vs,v=.ref p/\¬Z p/\H p=some (.dT ((ks.map Bd).zip vs))/\ks.length=xs.length/\AB b Z H xs vs
 |.fT ks xs,v=>∃p vs,v=.ref p/\¬Z p/\Fz H p ((ks.map Bd).zip vs)/\ks.length=xs.length/\AB b Z H xs vs
 |.dK ks xs,v=>∃p vs,v=.ref p/\¬Z p/\H p=some (.dK ((ks.map DF).zip vs))/\ks.length=xs.length/\AB b Z H xs vs
def AB(b:Addr)(Z:Addr->Prop)(H:Hp):List P->List V->Prop
 |[],vs=>vs=[]
 |x::xs,vs=>∃v r,vs=v::r/\Rp b Z H x v/\AB b Z H xs r
end
def Rc(b:Addr)(Z:Addr->Prop)(H:Hp):P->Addr->Prop
 |.lst xs,p=>∃vs,H p=some (.lst vs)/\AB b Z H xs vs
 |.dT ks xs,p=>∃vs,H p=some (.dT ((ks.map Bd).zip vs))/\ks.length=xs.length/\AB b Z H xs vs
 |.fT ks xs,p=>∃vs,Fz H p ((ks.map Bd).zip vs)/\ks.length=xs.length/\AB b Z H xs vs
 |.dK ks xs,p=>∃vs,H p=some (.dK ((ks.map DF).zip vs))/\ks.length=xs.length/\AB b Z H xs vs
 |_,_=>False
section
variable{b:Addr}{Z':Addr->Prop}
mutual
theorem Rp.keep(hk:∀p o,¬Z p->H p=some o->¬Z' p/\H' p=some o)(ht:∀p vs,H p=some (.tup vs)->H' p=some (.tup vs)):∀{x:P} {v:V},Rp b Z H x v->Rp b Z' H' x v
 |.non,_,h=>h
 |.bl _,_,h=>h
 |.int _,_,h=>h
 |.str _,_,h=>h
 |.bag,_,h=>h
 |.tup xs,v,h=>by
  obtain⟨p,vs,h1,h2,h3⟩:=h
  exact⟨p,vs,h1,ht p vs h2,AB.keep hk ht h3⟩
 |.lst xs,v,h=>by
  obtain⟨p,vs,h1,h2,h3,h4⟩:=h
  exact⟨p,vs,h1,(hk p _ h2 h3).1,(hk p _ h2 h3).2,AB.keep hk ht h4⟩
 |.dT ks xs,v,h=>by
  obtain⟨p,vs,h1,h2,h3,hl,h4⟩:=h
  exact⟨p,vs,h1,(hk p _ h2 h3).1,(hk p _ h2 h3).2,hl,AB.keep hk ht h4⟩
 |.fT ks xs,v,h=>by
  obtain⟨p,vs,h1,h2,⟨o,h3⟩,hl,h4⟩:=h
  exact⟨p,vs,h1,(hk p _ h2 h3).1,⟨o,(hk p _ h2 h3).2⟩,hl,AB.keep hk ht h4⟩
 |.dK ks xs,v,h=>by
  obtain⟨p,vs,h1,h2,h3,hl,h4⟩:=h
  exact⟨p,vs,h1,(hk p _ h2 h3).1,(hk p _ h2 h3).2,hl,AB.keep hk ht h4⟩
theorem AB.keep(hk:∀p o,¬Z p->H p=some o->¬Z' p/\H' p=some o)(ht:∀p vs,H p=some (.tup vs)->H' p=some (.tup vs)):∀{xs:List P} {vs:List V},AB b Z H xs vs->AB b Z' H' xs vs
 |[],_,h=>h
 |x::xs,vs,h=>by
  obtain⟨v,r,h1,h2,h3⟩:=h
  exact⟨v,r,h1,Rp.keep hk ht h2,AB.keep hk ht h3⟩
end
mutual
theorem Rp.imm:∀{x:P} {v:V},x.imm=true->Rp b Z H x v->Rp b Z' H x v
 |.non,_,_,h=>h
 |.bl _,_,_,h=>h
 |.int _,_,_,h=>h
 |.str _,_,_,h=>h
 |.bag,_,_,h=>h
 |.tup xs,v,hi,h=>by
  obtain⟨p,vs,h1,h2,h3⟩:=h
  exact⟨p,vs,h1,h2,AB.imm (by simpa[P.imm]using hi) h3⟩
 |.lst _,_,hi,_=>by simp[P.imm]at hi
 |.dT _ _,_,hi,_=>by simp[P.imm]at hi
 |.fT _ _,_,hi,_=>by simp[P.imm]at hi
 |.dK _ _,_,hi,_=>by simp[P.imm]at hi
theorem AB.imm:∀{xs:List P} {vs:List V},P.imms xs=true->AB b Z H xs vs->AB b Z' H xs vs
 |[],_,_,h=>h
 |x::xs,vs,hi,h=>by
  obtain⟨v,r,h1,h2,h3⟩:=h
  rw[P.imms,Bool.and_eq_true]at hi
  exact⟨v,r,h1,Rp.imm hi.1 h2,AB.imm hi.2 h3⟩
end
theorem AB.length:∀{xs:List P} {vs:List V},AB b Z H xs vs->xs.length=vs.length
 |[],_,h=>by rw[show _=[]from h];rfl
 |x::xs,vs,h=>by
  obtain⟨v,r,h1,h2,h3⟩:=h
  rw[h1,length_cons,length_cons,AB.length h3]
theorem AB.get:∀{xs:List P} {vs:List V} {i:Nat} {x:P},AB b Z H xs vs->xs[i]?=some x->∃v,vs[i]?=some v/\Rp b Z H x v
 |[],_,_,_,_,e=>by simp at e
 |y::xs,vs,0,x,h,e=>by
  obtain⟨v,r,h1,h2,h3⟩:=h
  simp at e;subst e;subst h1
  exact⟨v,rfl,h2⟩
 |y::xs,vs,i+1,x,h,e=>by
  obtain⟨v,r,h1,h2,h3⟩:=h
  subst h1
  obtain⟨u,h4,h5⟩:=AB.get (i:=i) h3 (by simpa using e)
  exact⟨u,by simpa using h4,h5⟩
theorem AB.app:∀{xs ys:List P} {vs us:List V},AB b Z H xs vs->AB b Z H ys us->AB b Z H (xs++ys) (vs++us)
 |[],_,_,_,h,g=>by rw[show _=[]from h];exact g
 |x::xs,ys,vs,us,h,g=>by
  obtain⟨v,r,h1,h2,h3⟩:=h
  subst h1
  exact⟨v,r++us,rfl,h2,AB.app h3 g⟩
theorem AB.take:∀{xs:List P} {vs:List V} (n:Nat),AB b Z H xs vs->AB b Z H (xs.take n) (vs.take n)
 |_,_,0,_=>rfl
 |[],_,_+1,h=>by rw[show _=[]from h];rfl
 |x::xs,vs,n+1,h=>by
  obtain⟨v,r,h1,h2,h3⟩:=h
  subst h1
  exact⟨v,r.take n,rfl,h2,AB.take n h3⟩
theorem AB.drop:∀{xs:List P} {vs:List V} (n:Nat),AB b Z H xs vs->AB b Z H (xs.drop n) (vs.drop n)
 |_,_,0,h=>h
 |[],_,_+1,h=>by rw[show _=[]from h];rfl
 |x::xs,vs,n+1,h=>by
  obtain⟨v,r,h1,h2,h3⟩:=h
  subst h1
  exact AB.drop n h3
theorem AB.snoc{xs:List P}{x:P}(h:AB b Z H xs vs)(g:Rp b Z H x v):AB b Z H (xs++[x]) (vs++[v]):=h.app ⟨v,[],rfl,g,rfl⟩
theorem AB.ints:∀{ns:List Int} {vs:List V},AB b Z H (ns.map P.int) vs↔vs=ns.map V.int
 |[],vs=>Iff.rfl
 |n::ns,vs=>by
  constructor
  ·rintro⟨v,r,h1,h2,h3⟩
   rw[h1,show v=.int n from h2,AB.ints.mp h3];rfl
  ·intro h
   exact⟨.int n,ns.map V.int,h,rfl,AB.ints.mpr rfl⟩
theorem AB.strs:∀{ns:List Str} {vs:List V},AB b Z H (ns.map P.str) vs↔vs=ns.map V.str
 |[],vs=>Iff.rfl
 |n::ns,vs=>by
  constructor
  ·rintro⟨v,r,h1,h2,h3⟩
   rw[h1,show v=.str n from h2,AB.strs.mp h3];rfl
  ·intro h
   exact⟨.str n,ns.map V.str,h,rfl,AB.strs.mpr rfl⟩
theorem AB.bls:∀{ns:List Bool} {vs:List V},AB b Z H (ns.map P.bl) vs↔vs=ns.map V.bl
 |[],vs=>Iff.rfl
 |n::ns,vs=>by
  constructor
  ·rintro⟨v,r,h1,h2,h3⟩
   rw[h1,show v=.bl n from h2,AB.bls.mp h3];rfl
  ·intro h
   exact⟨.bl n,ns.map V.bl,h,rfl,AB.bls.mpr rfl⟩
end
@[simp] theorem RH(i:Int):(P.int i).imm=true:=rfl
@[simp] theorem RI(i:Str):(P.str i).imm=true:=rfl
@[simp] theorem RJ(i:Bool):(P.bl i).imm=true:=rfl
@[simp] theorem RK:P.non.imm=true:=rfl
@[simp] theorem RL:P.bag.imm=true:=rfl
@[simp] theorem RM(xs:List P):(P.lst xs).imm=false:=rfl
@[simp] theorem RN(ks:List (List Int))(xs:List P):(P.dT ks xs).imm=false:=rfl
@[simp] theorem RO(ks:List Str)(xs:List P):(P.dK ks xs).imm=false:=rfl
@[simp] theorem RP(xs:List P):(P.tup xs).imm=P.imms xs:=by simp[P.imm]
@[simp] theorem RQ:P.imms []=true:=by simp[P.imms]
@[simp] theorem Lf(x:P)(xs:List P):P.imms (x::xs)=(x.imm&&P.imms xs):=by simp[P.imms]
theorem E6{xs:List P}:P.imms xs=true↔∀x∈xs,x.imm=true:=by
 induction xs with
 |nil=>simp
 |cons x r ih=>simp[ih]
theorem E7{α:Type}{f:α->P}(h:∀a,(f a).imm=true)(xs:List α):P.imms (xs.map f)=true:=by
 rw[E6]
 intro x hx
 obtain⟨a,_,rfl⟩:=mem_map.mp hx
 exact h a
@[simp] theorem RR(ns:List Int):P.imms (ns.map P.int)=true:=E7 (λ_=>rfl) ns
@[simp] theorem IV(ns:List Str):P.imms (ns.map P.str)=true:=E7 (λ_=>rfl) ns
@[simp] theorem RS(ns:List Bool):P.imms (ns.map P.bl)=true:=E7 (λ_=>rfl) ns
@[simp] theorem RT(xs:List P):(P.lst xs).mut=true:=rfl
@[simp] theorem RU(ks:List (List Int))(xs:List P):(P.dT ks xs).mut=true:=rfl
@[simp] theorem RV(ks:List Str)(xs:List P):(P.dK ks xs).mut=true:=rfl
@[simp] theorem RW(xs:List P):(P.tup xs).mut=false:=rfl
@[simp] theorem RX(xs:List P):(P.lst xs).items=some xs:=rfl
@[simp] theorem RY(xs:List P):(P.tup xs).items=some xs:=rfl
inductive S where
 |emp|sh (x:P)|fr (x:P)|own (x:P)
inductive Fl where
 |nw|fr|cl|bo|rf|an
 deriving DecidableEq
noncomputable def Fl.el:Fl->Fl
 |.nw=>.fr|.fr=>.fr|.bo=>.fr|.cl=>.cl|.rf=>.rf|.an=>.an
noncomputable def Fl.top:Fl->Fl
 |.nw=>.nw|.fr=>.nw|.bo=>.nw|.cl=>.cl|.rf=>.rf|.an=>.an
noncomputable def Fl.join:Fl->Fl->Fl
 |.nw,g=>g|f,.nw=>f
 |.cl,.cl=>.cl|.rf,.rf=>.rf|_,_=>.an
noncomputable def B5(f:Fl)(xs:List P):Fl:=if P.imms xs=true then .nw else f.top
structure Wd where
 b:Addr
 a:Addr
 H₀:Hp
 F:Hp
 O:Addr->Prop
end L2
variable{xs:List L2.P}{y:L2.P}{f:L2.Fl}{W:L2.Wd}{ρ ρ':List L2.S}
namespace L2
open PySem PySem.Spec PyProof.Rows
def Ag(ρ:List S)(σ:St)(p:Addr):Prop:=∃(i:Nat) (x:P),ρ[i]?=some (.own x)/\σ[i]?=some (some (.ref p))
def Ow(W:Wd)(ρ:List S)(σ:St)(p:Addr):Prop:=W.O p\/Ag ρ σ p
def AC(W:Wd)(ρ:List S)(σ:St):Fl->Addr->Prop
 |.cl,p=>p=W.b\/Ow W ρ σ p
 |.rf,p=>p=W.b\/W.H₀ p≠none
 |.an,p=>p=W.b
 |_,p=>p=W.b\/Ow W ρ σ p\/W.H₀ p≠none
noncomputable abbrev Zf(W:Wd)(ρ:List S)(σ:St):Addr->Prop:=AC W ρ σ .fr
noncomputable abbrev Zc(W:Wd)(ρ:List S)(σ:St):Addr->Prop:=AC W ρ σ .cl
def B6(W:Wd)(ρ:List S)(σ:St)(H:Hp):S->Option V->Prop
 |.emp,_=>True
 |.sh x,o=>∃v,o=some v/\Rp W.b (Zc W ρ σ) H x v
 |.fr x,o=>∃v,o=some v/\Rp W.b (Zf W ρ σ) H x v
 |.own x,o=>∃p,o=some (.ref p)/\W.H₀ p=none/\W.F p=none/\p≠W.b/\p≠W.a/\Rc W.b (Zf W ρ σ) H x p
structure Ok(W:Wd)(ρ:List S)(σ:St)(H:Hp):Prop where
 bag:Bag H W.b W.a
 fb:W.F W.b=none
 old:∀p o,p≠W.b->W.H₀ p=some o->H p=some o
 frm:∀p o,W.F p=some o->H p=some o
 oo:∀p,W.O p->W.H₀ p=none/\W.F p=none/\p≠W.b/\p≠W.a/\∃o,H p=some o/\∀ys,o≠.tup ys
 len:σ.length=ρ.length
 slot:∀(i:Nat) s,ρ[i]?=some s->∃o,σ[i]?=some o/\B6 W ρ σ H s o
 uniq:∀(i j:Nat) x y,ρ[i]?=some (S.own x)->ρ[j]?=some (S.own y)->σ[i]?=σ[j]?->i=j
def RF(W:Wd)(ρ:List S)(σ:St)(Hs:Hp):Fl->Hp->P->V->Prop
 |.bo,H,x,v=>∃p,v=.ref p/\Ag ρ σ p/\Rc W.b (Zf W ρ σ) H x p
 |.nw,H,x,v=>Rp W.b (Zf W ρ σ) H x v/\(x.mut=true->∃p,v=.ref p/\Hs p=none)
 |f,H,x,v=>Rp W.b (AC W ρ σ f) H x v
section
variable{x:P}
theorem Rc.cell{b:Addr}(h:Rc b Z H x p):∃o,H p=some o/\∀ys,o≠.tup ys:=by
 cases x with
 |lst xs=>obtain⟨vs,h1,_⟩:=h;exact⟨_,h1,λ_ z=>nomatch z⟩
 |dT ks xs=>obtain⟨vs,h1,_⟩:=h;exact⟨_,h1,λ_ z=>nomatch z⟩
 |fT ks xs=>obtain⟨vs,⟨o,h1⟩,_⟩:=h;exact⟨_,h1,λ_ z=>nomatch z⟩
 |dK ks xs=>obtain⟨vs,h1,_⟩:=h;exact⟨_,h1,λ_ z=>nomatch z⟩
 |_=>exact h.elim
theorem Ok.ow(ok:Ok W ρ σ H)(h:Ow W ρ σ p):W.H₀ p=none/\W.F p=none/\p≠W.b/\p≠W.a/\∃o,H p=some o/\∀ys,o≠.tup ys:=by
 rcases h with h|⟨i,x,h1,h2⟩
 ·exact ok.oo p h
 obtain⟨o,h3,q,h4,h5,h6,h7,h8,h9⟩:=ok.slot i _ h1
 rw[h2]at h3
 cases h3
 cases h4
 exact⟨h5,h6,h7,h8,h9.cell⟩
theorem Ok.dom(ok:Ok W ρ σ H)(h:AC W ρ σ f p):H p≠none:=by
 have hb:p=W.b->H p≠none:=λe=>by
  obtain⟨l,q⟩:=ok.bag.atb
  rw[e,q];exactλz=>nomatch z
 have ho:Ow W ρ σ p->H p≠none:=λe=>by
  obtain⟨_,_,_,_,o,q,_⟩:=ok.ow e
  rw[q];exactλz=>nomatch z
 have hh:W.H₀ p≠none->H p≠none:=λe z=>by
  by_cases hp:p=W.b
  ·exact hb hp z
  ·cases q:W.H₀ p with
   |none=>exact e q
   |some o=>rw[ok.old p o hp q]at z;cases z
 cases f<;>simp only[AC]at h
 ·exact h.elim hb λh=>h.elim ho hh
 ·exact h.elim hb λh=>h.elim ho hh
 ·exact h.elim hb ho
 ·exact h.elim hb λh=>h.elim ho hh
 ·exact h.elim hb hh
 ·exact hb h
theorem AC.b:AC W ρ σ f W.b:=by
 cases f<;>simp[AC]
theorem Rp.step(h:Rp W.b (AC W ρ σ f) H x v)(s:Step W.b W.a H H')(hb:Bag H W.b W.a):Rp W.b (AC W ρ σ f) H' x v :=
 h.keep (λp o hz e=>⟨hz,s.same p o (λz=>hz (z▸AC.b)) e⟩) λp vs e=>s.same p _ (hb.neT e).1 e
theorem AB.step(h:AB W.b (AC W ρ σ f) H xs vs)(s:Step W.b W.a H H')(hb:Bag H W.b W.a):AB W.b (AC W ρ σ f) H' xs vs :=
 h.keep (λp o hz e=>⟨hz,s.same p o (λz=>hz (z▸AC.b)) e⟩) λp vs e=>s.same p _ (hb.neT e).1 e
theorem Rc.step(h:Rc W.b (Zf W ρ σ) H x p)(s:Step W.b W.a H H')(hb:Bag H W.b W.a)(hp:p≠W.b):Rc W.b (Zf W ρ σ) H' x p:=by
 cases x with
 |lst xs=>obtain⟨vs,h1,h2⟩:=h;exact⟨vs,s.same p _ hp h1,h2.step s hb⟩
 |dT ks xs=>obtain⟨vs,h1,h0,h2⟩:=h;exact⟨vs,s.same p _ hp h1,h0,h2.step s hb⟩
 |fT ks xs=>obtain⟨vs,h1,h0,h2⟩:=h;exact⟨vs,h1.map λ_ e=>s.same p _ hp e,h0,h2.step s hb⟩
 |dK ks xs=>obtain⟨vs,h1,h0,h2⟩:=h;exact⟨vs,s.same p _ hp h1,h0,h2.step s hb⟩
 |_=>exact h.elim
theorem B6.step{s:S}{o:Option V}(h:B6 W ρ σ H s o)(st:Step W.b W.a H H')(hb:Bag H W.b W.a):B6 W ρ σ H' s o:=by
 cases s with
 |emp=>trivial
 |sh x=>obtain⟨v,h1,h2⟩:=h;exact⟨v,h1,h2.step st hb⟩
 |fr x=>obtain⟨v,h1,h2⟩:=h;exact⟨v,h1,h2.step st hb⟩
 |own x=>obtain⟨p,h1,h2,h3,h4,h5,h6⟩:=h;exact⟨p,h1,h2,h3,h4,h5,h6.step st hb h4⟩
theorem Ok.step(ok:Ok W ρ σ H)(st:Step W.b W.a H H'):Ok W ρ σ H' where
 bag:=st.bag
 fb:=ok.fb
 old:=λp o hp e=>st.same p o hp (ok.old p o hp e)
 frm:=λp o e=>st.same p o (λz=>by rw[z,ok.fb]at e;cases e) (ok.frm p o e)
 oo:=λp h=>let⟨h1,h2,h3,h4,o,h5,h6⟩:=ok.oo p h;⟨h1,h2,h3,h4,o,st.same p o h3 h5,h6⟩
 len:=ok.len
 slot:=λi s e=>let⟨o,h1,h2⟩:=ok.slot i s e;⟨o,h1,h2.step st ok.bag⟩
 uniq:=ok.uniq
theorem RF.step(h:RF W ρ σ Hs f H x v)(ok:Ok W ρ σ H)(s:Step W.b W.a H H'):RF W ρ σ Hs f H' x v:=by
 cases f with
 |bo =>
  obtain⟨p,h1,h2,h3⟩:=h
  exact⟨p,h1,h2,h3.step s ok.bag (ok.ow (.inr h2)).2.2.1⟩
 |nw=>exact⟨h.1.step (f:=.fr) s ok.bag,h.2⟩
 |fr=>exact Rp.step (f:=.fr) h s ok.bag
 |cl=>exact Rp.step (f:=.cl) h s ok.bag
 |rf=>exact Rp.step (f:=.rf) h s ok.bag
 |an=>exact Rp.step (f:=.an) h s ok.bag
theorem RF.back(h:RF W ρ σ H1 f H x v)(s:Step W.b W.a Hs H1):RF W ρ σ Hs f H x v:=by
 cases f with
 |nw=>exact⟨h.1,λm=>let⟨p,e,n⟩:=h.2 m;⟨p,e,s.free n⟩⟩
 |_=>exact h
theorem RF.any(h:RF W ρ σ Hs f H x v)(ok:Ok W ρ σ H):Rp W.b (AC W ρ σ .an) H x v:=by
 have k:∀{g:Fl},Rp W.b (AC W ρ σ g) H x v->Rp W.b (AC W ρ σ .an) H x v:=λ{g} h=>h.keep (λp o hz e=>⟨λz=>hz (by rw[show p=W.b from z];exact AC.b),e⟩) λp vs e=>e
 cases f with
 |bo =>
  obtain⟨p,h1,h2,h3⟩:=h
  have nb:=(ok.ow (.inr h2)).2.2.1
  have k2:∀{xs:List P} {vs:List V},AB W.b (Zf W ρ σ) H xs vs->AB W.b (AC W ρ σ .an) H xs vs:=λh=>h.keep (λp o hz e=>⟨λz=>hz (by rw[show p=W.b from z];exact AC.b),e⟩) λp vs e=>e
  cases x with
  |lst xs=>obtain⟨vs,h4,h5⟩:=h3;exact⟨p,vs,h1,nb,h4,k2 h5⟩
  |dT ks xs=>obtain⟨vs,h4,h0,h5⟩:=h3;exact⟨p,vs,h1,nb,h4,h0,k2 h5⟩
  |fT ks xs=>obtain⟨vs,h4,h0,h5⟩:=h3;exact⟨p,vs,h1,nb,h4,h0,k2 h5⟩
  |dK ks xs=>obtain⟨vs,h4,h0,h5⟩:=h3;exact⟨p,vs,h1,nb,h4,h0,k2 h5⟩
  |_=>exact h3.elim
 |nw=>exact k (g:=.fr) h.1
 |fr=>exact k (g:=.fr) h
 |cl=>exact k (g:=.cl) h
 |rf=>exact k (g:=.rf) h
 |an=>exact h
theorem RF.items(h:RF W ρ σ Hs f H x v)(hx:x.items=some xs):∃p vs,v=.ref p/\(H p=some (.lst vs)\/H p=some (.tup vs))/\AB W.b (AC W ρ σ f) H xs vs:=by
 have k:∀{g:Fl},Rp W.b (AC W ρ σ g) H x v->∃p vs,v=.ref p/\(H p=some (.lst vs)\/H p=some (.tup vs))/\AB W.b (AC W ρ σ g) H xs vs:=λ{g} h=>by
  cases x<;>simp only[P.items]at hx<;>try cases hx
  ·obtain⟨p,vs,h1,h2,h3⟩:=h;exact⟨p,vs,h1,.inr h2,h3⟩
  ·obtain⟨p,vs,h1,h0,h2,h3⟩:=h;exact⟨p,vs,h1,.inl h2,h3⟩
 cases f with
 |bo =>
  obtain⟨p,h1,h2,h3⟩:=h
  cases x<;>simp only[P.items]at hx<;>try cases hx
  ·exact h3.elim
  ·obtain⟨vs,h4,h5⟩:=h3;exact⟨p,vs,h1,.inl h4,h5⟩
 |nw=>exact k (g:=.fr) h.1
 |fr=>exact k (g:=.fr) h
 |cl=>exact k (g:=.cl) h
 |rf=>exact k (g:=.rf) h
 |an=>exact k (g:=.an) h
theorem RF.ofEl(h:Rp W.b (AC W ρ σ f) H x v):RF W ρ σ Hs f.el H x v:=by
 cases f<;>exact h
theorem RF.newL(ok:Ok W ρ σ H)(st:Step W.b W.a Hs H)(hr:AB W.b (AC W ρ σ f) H xs vs)(hp:H p=none):RF W ρ σ Hs (B5 f xs) (AE H p (.lst vs)) (.lst xs) (.ref p):=by
 have nz:∀g,¬AC W ρ σ g p:=λg z=>ok.dom z hp
 have k:∀g,AB W.b (AC W ρ σ g) H xs vs->Rp W.b (AC W ρ σ g) (AE H p (.lst vs)) (.lst xs) (.ref p):=λg h=>⟨p,vs,rfl,nz g,Al,h.step (Step.new ok.bag hp) ok.bag⟩
 unfold B5
 split
 ·exact⟨k .fr (hr.imm ‹_›),λ_=>⟨p,rfl,st.free hp⟩⟩
 ·cases f with
  |nw=>exact⟨k .fr hr,λ_=>⟨p,rfl,st.free hp⟩⟩
  |fr=>exact⟨k .fr hr,λ_=>⟨p,rfl,st.free hp⟩⟩
  |bo=>exact⟨k .fr hr,λ_=>⟨p,rfl,st.free hp⟩⟩
  |cl=>exact k .cl hr
  |rf=>exact k .rf hr
  |an=>exact k .an hr
theorem RF.newT(ok:Ok W ρ σ H)(hr:AB W.b (AC W ρ σ f) H xs vs)(hp:H p=none):RF W ρ σ Hs (B5 f xs) (AE H p (.tup vs)) (.tup xs) (.ref p):=by
 have k:∀g,AB W.b (AC W ρ σ g) H xs vs->Rp W.b (AC W ρ σ g) (AE H p (.tup vs)) (.tup xs) (.ref p):=λg h=>⟨p,vs,rfl,Al,h.step (Step.new ok.bag hp) ok.bag⟩
 unfold B5
 split
 ·exact⟨k .fr (hr.imm ‹_›),λm=>by simp at m⟩
 ·cases f with
  |nw=>exact⟨k .fr hr,λm=>by simp at m⟩
  |fr=>exact⟨k .fr hr,λm=>by simp at m⟩
  |bo=>exact⟨k .fr hr,λm=>by simp at m⟩
  |cl=>exact k .cl hr
  |rf=>exact k .rf hr
  |an=>exact k .an hr
end
noncomputable abbrev pE:=List S->(P->Fl->Prop)->Prop
end L2
variable{pa pb pe:L2.pE}
namespace L2
open PySem PySem.Spec PyProof.Rows
noncomputable abbrev pT:=List S->(Bool->Prop)->Prop
noncomputable abbrev pA:=List S->(List (P×Fl)->Prop)->Prop
def BO(t:TE)(p:pE):Prop:=∀(W:Wd) (ρ:List S) (σ:St) (H:Hp) (Q:VK) (K:P->Fl->Prop),Ok W ρ σ H->p ρ K->(∀x f v H',K x f->Step W.b W.a H H'->RF W ρ σ H f H' x v->Q v H')->t σ H Q
def Du(t:TT)(p:pT):Prop:=∀(W:Wd) (ρ:List S) (σ:St) (H:Hp) (Q:Bool->Hp->Prop) (K:Bool->Prop),Ok W ρ σ H->p ρ K->(∀c H',K c->Step W.b W.a H H'->Q c H')->t σ H Q
def BI(W:Wd)(ρ:List S)(σ:St)(Hs H:Hp):List (P×Fl)->List V->Prop
 |[],vs=>vs=[]
 |(x,f)::r,vs=>∃v t,vs=v::t/\RF W ρ σ Hs f H x v/\BI W ρ σ Hs H r t
def GI(t:TA)(p:pA):Prop:=∀(W:Wd) (ρ:List S) (σ:St) (H:Hp) (Q:List V->Hp->Prop) (K:List (P×Fl)->Prop),Ok W ρ σ H->p ρ K->(∀xs vs H',K xs->Step W.b W.a H H'->BI W ρ σ H H' xs vs->Q vs H')->t σ H Q
section
variable{ι:Type}
def QE(Xs:ι->Cx)(e:Expr)(p:pE):Prop:=∃t,(∀i,PE (Xs i) e t)/\BO t p
def QT(Xs:ι->Cx)(e:Expr)(p:pT):Prop:=∃t,(∀i,PT (Xs i) e t)/\Du t p
def QW(Xs:ι->Cx)(e:Expr)(p:pT):Prop:=∃t,(∀i,PW (Xs i) e t)/\Du t p
def QA(Xs:ι->Cx)(es:List Expr)(p:pA):Prop:=∃t,(∀i,PA (Xs i) es t)/\GI t p
end
noncomputable abbrev p2:=P->Fl->P->Fl->(P->Fl->Prop)->Prop
def Au(r:R2)(pr:p2):Prop:=∀(W:Wd) (ρ:List S) (σ:St) (Hs H:Hp) (Q:VK) (K:P->Fl->Prop) (x y:P) (f g:Fl) (v u:V),Ok W ρ σ H->Step W.b W.a Hs H->RF W ρ σ Hs f H x v->RF W ρ σ Hs g H y u->pr x f y g K ->
 (∀z h v' H',K z h->Step W.b W.a H H'->RF W ρ σ Hs h H' z v'->Q v' H')->r v u H Q
noncomputable abbrev pC:=List (P×Fl)->(P->Fl->Prop)->Prop
def B1(r:List V->Hp->VK->Prop)(pr:pC):Prop:=∀(W:Wd) (ρ:List S) (σ:St) (Hs H:Hp) (Q:VK) (K:P->Fl->Prop) (xs:List (P×Fl)) (vs:List V),Ok W ρ σ H->Step W.b W.a Hs H->BI W ρ σ Hs H xs vs->pr xs K ->
 (∀z h v' H',K z h->Step W.b W.a H H'->RF W ρ σ Hs h H' z v'->Q v' H')->r vs H Q
section
variable{x:P}{ar:List (P×Fl)}
theorem BI.back:∀{ar:List (P×Fl)} {vs:List V},BI W ρ σ H1 H ar vs->Step W.b W.a Hs H1->BI W ρ σ Hs H ar vs
 |[],_,h,_=>h
 |(x,f)::r,vs,h,st=>by
  obtain⟨v,t,h1,h2,h3⟩:=h
  exact⟨v,t,h1,h2.back st,BI.back h3 st⟩
theorem BI.any:∀{ar:List (P×Fl)} {vs:List V},BI W ρ σ Hs H ar vs->Ok W ρ σ H->AB W.b (AC W ρ σ .an) H (ar.map (·.1)) vs
 |[],_,h,_=>h
 |(x,f)::r,vs,h,ok=>by
  obtain⟨v,t,h1,h2,h3⟩:=h
  exact⟨v,t,h1,h2.any ok,BI.any h3 ok⟩
theorem BI.length:∀{ar:List (P×Fl)} {vs:List V},BI W ρ σ Hs H ar vs->vs.length=ar.length
 |[],_,h=>by rw[show _=[]from h];rfl
 |(x,f)::r,vs,h=>by
  obtain⟨v,t,h1,h2,h3⟩:=h
  rw[h1,length_cons,length_cons,BI.length h3]
end
def Cs(k:Nat):pE:=λρ K=>match ρ[k]? with
 |some (.sh x)=>K x .cl
 |some (.fr x)=>K x .fr
 |some (.own x)=>K x .bo
 |_=>False
def pK(x:P):pE:=λ_ K=>K x .fr
def Cg(pr:p2)(pa pb:pE):pE:=λρ K=>pa ρ λx f=>pb ρ λy g=>pr x f y g K
def Lg:pA:=λ_ K=>K []
def Lh(pa:pE)(pr:pA):pA:=λρ K=>pa ρ λx f=>pr ρ λxs=>K ((x,f)::xs)
def GJ(pr:pC)(pa:pA):pE:=λρ K=>pa ρ λxs=>pr xs K
section
variable{ι:Type}{Xs:ι->Cx}{a b:Expr}{pc:pE}
theorem Ok.var(ok:Ok W ρ σ H){k:Nat}{K:P->Fl->Prop}(h:Cs k ρ K):∃x f v,K x f/\σ[k]?=some (some v)/\RF W ρ σ H f H x v:=by
 unfold Cs at h
 cases e:ρ[k]? with
 |none=>rw[e]at h;exact h.elim
 |some s =>
  rw[e]at h
  obtain⟨o,h1,h2⟩:=ok.slot k s e
  cases s with
  |emp=>exact h.elim
  |sh x=>obtain⟨v,rfl,h3⟩:=h2;exact⟨x,_,v,h,h1,h3⟩
  |fr x=>obtain⟨v,rfl,h3⟩:=h2;exact⟨x,_,v,h,h1,h3⟩
  |own x=>obtain⟨p,rfl,h3,h4,h5,h6,h7⟩:=h2;exact⟨x,_,_,h,h1,p,rfl,⟨k,x,e,h1⟩,h7⟩
theorem RZ(k:Nat):BO (DR k) (Cs k):=λW ρ σ H Q K ok h q=>by
 obtain⟨x,f,v,h1,h2,h3⟩:=ok.var h
 exact⟨v,h2,q x f v H h1 (Step.refl ok.bag) h3⟩
theorem qv(k:Nat)(hN:∀i,(Xs i).N[k]?=some x:=by intro _;rfl)(hv:∀i,EB (Xs i).env.scope x:=by intro _;trivial)(hd:(x==("__debug__":Str))=false:=by decide)
  (hcd:(x==("__classdict__":Str))=false:=by decide):QE Xs (.Name x pos) (Cs k):=⟨_,λi=>Fh (hN i) (hv i) hd hcd,RZ k⟩
theorem GK{x:P}(hi:x.imm=true)(h:∀W H,Rp W (λ_=>False) H x v):BO (tC v) (pK x):=λW ρ σ H Q K ok hk q=>q x .fr v H hk (Step.refl ok.bag) ((h W.b H).imm hi)
theorem AH{i j}:QE Xs (.Constant (.int i) j pos) (pK (.int i)):=⟨_,λ_=>AX,GK rfl λ_ _=>rfl⟩
theorem B2{b j}:QE Xs (.Constant (.bool b) j pos) (pK (.bl b)):=⟨_,λ_=>Ov,GK rfl λ_ _=>rfl⟩
theorem AT{x j}:QE Xs (.Constant (.str x) j pos) (pK (.str x)):=⟨_,λ_=>Fi,GK rfl λ_ _=>rfl⟩
theorem E8{n:Int}(hm:∀i,∃t,(Xs i).mg x=some (.int n t))(hg:∀i,Gl (Xs i) x:=by intro _;rfl)(hd:(x==("__debug__":Str))=false:=by decide +kernel):QE Xs (.Name x pos) (pK (.int n)) :=
 ⟨_,λi=>let⟨t,h⟩:=hm i;Ox (v:=.int n) (hg i) h ⟨t,rfl⟩ hd,GK rfl λ_ _=>rfl⟩
theorem GL{r:R2}{pr:p2}(hr:Au r pr)(ha:BO ta pa)(hb:BO tb pb):BO (EF r ta tb) (Cg pr pa pb):=λW ρ σ H Q K ok h q =>
 ha W ρ σ H _ _ ok h λx f v H1 h1 s1 r1=>hb W ρ σ H1 _ _ (ok.step s1) h1 λy g u H2 h2 s2 r2 =>
  hr W ρ σ H H2 Q K x y f g v u ((ok.step s1).step s2) (s1.trans s2) (r1.step (ok.step s1) s2) (r2.back s1) h2 λz h v' H' h3 s3 r3=>q z h v' H' h3 ((s1.trans s2).trans s3) r3
theorem CQ{op:Operator}{r:R2}{pr:p2}(ho:∀i,An (Xs i) (binaryOp op) r)(hr:Au r pr)(ha:QE Xs a pa)(hb:QE Xs b pb):QE Xs (.BinOp a op b pos) (Cg pr pa pb):=by
 obtain⟨ta,ha1,ha2⟩:=ha
 obtain⟨tb,hb1,hb2⟩:=hb
 exact⟨_,λi=>BE (ho i) (ha1 i) (hb1 i),GL hr ha2 hb2⟩
theorem E9{op:CmpOp}{r:R2}{pr:p2}(ho:∀i,An (Xs i) (compareOp op) r)(hr:Au r pr)(ha:QE Xs a pa)(hb:QE Xs b pb)(hm:behindInMarks op b=false):QE Xs (.Compare a [op] [b] pos) (Cg pr pa pb):=by
 obtain⟨ta,ha1,ha2⟩:=ha
 obtain⟨tb,hb1,hb2⟩:=hb
 exact⟨_,λi=>Ph (ho i) (ha1 i) (hb1 i) hm,GL hr ha2 hb2⟩
theorem AZ{r:R2}{pr:p2}(ho:∀i,Dq (Xs i) r)(hr:Au r pr)(ha:QE Xs a pa)(hb:QE Xs b pb)(hs:Kv b):QE Xs (.Subscript a b pos) (Cg pr pa pb):=by
 obtain⟨ta,ha1,ha2⟩:=ha
 obtain⟨tb,hb1,hb2⟩:=hb
 exact⟨_,λi=>Bm (ho i) (ha1 i) (hb1 i) hs,GL hr ha2 hb2⟩
theorem AD:QA Xs [] Lg:=⟨_,λ_=>Ay,λW ρ σ H Q K ok h q=>q [] [] H h (Step.refl ok.bag) rfl⟩
theorem AA{pr:pA}(ha:QE Xs a pa)(hr:QA Xs es pr)(hs:∀i,starEach (a::es) (Xs i).env=(false,eval a (Xs i).env)::starEach es (Xs i).env:=by intro _;rfl):QA Xs (a::es) (Lh pa pr):=by
 obtain⟨ta,ha1,ha2⟩:=ha
 obtain⟨tr,hr1,hr2⟩:=hr
 refine⟨_,λi=>Ad (ha1 i) (hr1 i) (hs i),λW ρ σ H Q K ok h q=>?_⟩
 exact ha2 W ρ σ H _ _ ok h λx f v H1 h1 s1 r1=>hr2 W ρ σ H1 _ _ (ok.step s1) h1 λxs vs H2 h2 s2 r2 =>
  q _ _ H2 h2 (s1.trans s2) ⟨v,vs,rfl,r1.step (ok.step s1) s2,r2.back s1⟩
theorem Li{r:List V->Hp->VK->Prop}{pr:pC}{t:TA}{p:pA}(hr:B1 r pr)(ha:GI t p):BO (F1 r t) (GJ pr p):=λW ρ σ H Q K ok h q =>
 ha W ρ σ H _ _ ok h λxs vs H1 h1 s1 r1=>hr W ρ σ H H1 Q K xs vs (ok.step s1) s1 r1 h1 λz h v' H' h3 s3 r3=>q z h v' H' h3 (s1.trans s3) r3
theorem Ap{id:String}{r:List V->Hp->VK->Prop}{pr:pC}{p:pA}{p1:Pos}(hc:∀i,BH (Xs i) (.builtin id) r)(hr:B1 r pr)(hm:∀i,(Xs i).mg x=none)(hv:bootBuiltins x=some (.builtin id))(ha:QA Xs (a::es) p)
  (hg:∀i,Gl (Xs i) x:=by intro _;rfl) (hn:x≠"__name__":=by decide +kernel) (hdb:(x==("__debug__":Str))=false:=by decide +kernel) (he:∀i,starEach (a::es) (Xs i).env=(false,eval a (Xs i).env)::starEach es (Xs i).env:=by intro _;rfl) (hpl:∀i,(backTo pos (starEach es (Xs i).env)).any (·.1)=false:=by intro _;rfl) :
  QE Xs (.Call (.Name x p1) (a::es) [] pos) (GJ pr p):=by
 obtain⟨t,h1,h2⟩:=ha
 exact⟨_,λi=>EN (hc i) (hg i) (hm i) hv (h1 i) hn hdb (he i) (hpl i),Li hr h2⟩
theorem CS{T:String}{r:List V->Hp->VK->Prop}{pr:pC}{p:pA}{p1:Pos}(hc:∀i,BH (Xs i) (.type T) r)(hr:B1 r pr)(hm:∀i,(Xs i).mg x=none)(hv:bootBuiltins x=some (.type T))(ha:QA Xs (a::es) p)
  (hg:∀i,Gl (Xs i) x:=by intro _;rfl) (hn:x≠"__name__":=by decide +kernel) (hdb:(x==("__debug__":Str))=false:=by decide +kernel) (he:∀i,starEach (a::es) (Xs i).env=(false,eval a (Xs i).env)::starEach es (Xs i).env:=by intro _;rfl) (hpl:∀i,(backTo pos (starEach es (Xs i).env)).any (·.1)=false:=by intro _;rfl) :
  QE Xs (.Call (.Name x p1) (a::es) [] pos) (GJ pr p):=by
 obtain⟨t,h1,h2⟩:=ha
 exact⟨_,λi=>Ko (hc i) (hg i) (hm i) hv (h1 i) hn hdb (he i) (hpl i),Li hr h2⟩
end
noncomputable def As:P->Fl->Fl
 |x,.bo=>if x.imm=true then .nw else .rf
 |x,.nw=>.nw
 |x,.fr=>.nw
 |x,.cl=>if x.imm=true then .nw else .cl
 |x,.rf=>if x.imm=true then .nw else .rf
 |x,.an=>if x.imm=true then .nw else .an
noncomputable def BX:List (P×Fl)->Fl
 |[]=>.nw
 |(x,f)::r=>(As x f).join (BX r)
def Lj(p:pA):pE:=λρ K=>p ρ λxs=>K (.tup (xs.map (·.1))) (BX xs)
def Lk(p:pA):pE:=λρ K=>p ρ λxs=>K (.lst (xs.map (·.1))) (BX xs)
section
variable{x:P}{g:Fl}{ar:List (P×Fl)}
theorem IW(ok:Ok W ρ σ H)(h2:RF W ρ σ Hs f H x v):As x f≠.bo/\As x f≠.fr/\Rp W.b (AC W ρ σ (As x f)) H x v:=by
 by_cases hi:x.imm=true
 ·have e:As x f=.nw:=by cases f<;>simp[As,hi]
  rw[e]
  exact⟨by simp,by simp,(h2.any ok).imm hi⟩
 ·cases f with
  |nw=>exact⟨by simp[As],by simp[As],h2.1⟩
  |fr=>exact⟨by simp[As],by simp[As],h2⟩
  |cl=>simp only[As,if_neg hi];exact⟨by simp,by simp,h2⟩
  |rf=>simp only[As,if_neg hi];exact⟨by simp,by simp,h2⟩
  |an=>simp only[As,if_neg hi];exact⟨by simp,by simp,h2⟩
  |bo =>
   simp only[As,if_neg hi]
   refine⟨by simp,by simp,?_⟩
   obtain⟨p,q1,q2,q3⟩:=h2
   have qo:=ok.ow (.inr q2)
   have nz:¬AC W ρ σ .rf p:=by
    simp only[AC,not_or,Classical.not_not]
    exact⟨qo.2.2.1,qo.1⟩
   have kk:∀{xs:List P} {vs:List V},AB W.b (Zf W ρ σ) H xs vs->AB W.b (AC W ρ σ .rf) H xs vs:=λh=>h.keep (λp o hz e=>⟨λz=>hz (z.elim .inl λz=>.inr (.inr z)),e⟩) λp vs e=>e
   cases x with
   |lst xs=>obtain⟨us,q4,q5⟩:=q3;exact⟨p,us,q1,nz,q4,kk q5⟩
   |dT ks xs=>obtain⟨us,q4,q0,q5⟩:=q3;exact⟨p,us,q1,nz,q4,q0,kk q5⟩
   |fT ks xs=>obtain⟨us,q4,q0,q5⟩:=q3;exact⟨p,us,q1,nz,q4,q0,kk q5⟩
   |dK ks xs=>obtain⟨us,q4,q0,q5⟩:=q3;exact⟨p,us,q1,nz,q4,q0,kk q5⟩
   |_=>exact q3.elim
theorem Ra{g j:Fl}(h1:g≠.bo)(h2:g≠.fr)(h3:j≠.bo)(h4:j≠.fr)(p:Addr)(z:AC W ρ σ (g.join j) p):AC W ρ σ g p/\AC W ρ σ j p:=by
 cases g<;>cases j<;>simp_all [Fl.join,AC]<;>rcases z with z|z<;>simp_all
theorem Ll{g j:Fl}(h1:g≠.bo)(h2:g≠.fr)(h3:j≠.bo)(h4:j≠.fr):g.join j≠.bo/\g.join j≠.fr:=by
 cases g<;>cases j<;>simp_all [Fl.join]
theorem BI.items:∀{ar:List (P×Fl)} {vs:List V},Ok W ρ σ H->BI W ρ σ Hs H ar vs->BX ar≠.bo/\BX ar≠.fr/\AB W.b (AC W ρ σ (BX ar)) H (ar.map (·.1)) vs
 |[],_,_,h=>⟨by simp[BX],by simp[BX],h⟩
 |(x,f)::r,vs,ok,h=>by
  obtain⟨v,t,h1,h2,h3⟩:=h
  obtain⟨n1,n2,h4⟩:=BI.items ok h3
  obtain⟨hgb,hgf,hx⟩:=IW ok h2
  have hj:=Ra (W:=W) (ρ:=ρ) (σ:=σ) hgb hgf n1 n2
  exact⟨(Ll hgb hgf n1 n2).1,(Ll hgb hgf n1 n2).2,v,t,h1,hx.keep (λp o hz e=>⟨λz=>hz (hj p z).1,e⟩) (λp vs e=>e),h4.keep (λp o hz e=>⟨λz=>hz (hj p z).2,e⟩) (λp vs e=>e)⟩
theorem RF.topped{g:Fl}(hb:g≠.bo)(hf:g≠.fr):g.top=g:=by cases g<;>simp_all [Fl.top]
end
section
variable{ι:Type}{Xs:ι->Cx}{a b:Expr}{pc:pE}
theorem IX:∀{xs:List (P×Fl)},P.imms (xs.map (·.1))=true->BX xs=.nw
 |[],_=>rfl
 |(x,f)::r,hi=>by
  simp only[map_cons,Lf,Bool.and_eq_true]at hi
  rw[BX,IX hi.2]
  have:As x f=.nw:=by cases f<;>simp[As,hi.1]
  rw[this];rfl
theorem Be{x1}{p:pA}(h:QA Xs es p)(hn:es.length=n:=by rfl)(hz:n<=sizeLine:=by decide):QE Xs (.Tuple es x1 pos) (Lj λρ K=>p ρ λxs=>xs.length=n/\K xs):=by
 obtain⟨t,h1,h2⟩:=h
 refine⟨_,λi=>Ps (h1 i),λW ρ σ H Q K ok hk q=>?_⟩
 refine h2 W ρ σ H _ _ ok hk λxs vs H1 ⟨hl,k1⟩ s1 r1=>⟨by rw[r1.length,hl];exact hz,λp hp=>?_⟩
 obtain⟨n1,n2,r2⟩:=BI.items (ok.step s1) r1
 have st:=s1.trans (Step.new (o:=.tup vs) s1.bag hp)
 refine q _ _ (.ref p) _ k1 st ?_
 have:=RF.newT (Hs:=H) (ok.step s1) r2 hp
 unfold B5 at this
 split at this
 ·rename_i hi
  rw[IX hi];exact this
 ·rw[RF.topped n1 n2]at this;exact this
theorem CU{p:pA}(h:QA Xs es p)(hn:es.length=n:=by rfl)(hz:n<=sizeLine:=by decide):QE Xs (.List es pos) (Lk λρ K=>p ρ λxs=>xs.length=n/\K xs):=by
 obtain⟨t,h1,h2⟩:=h
 refine⟨_,λi=>F0 (h1 i),λW ρ σ H Q K ok hk q=>?_⟩
 refine h2 W ρ σ H _ _ ok hk λxs vs H1 ⟨hl,k1⟩ s1 r1=>⟨by rw[r1.length,hl];exact hz,λp hp=>?_⟩
 obtain⟨n1,n2,r2⟩:=BI.items (ok.step s1) r1
 have st:=s1.trans (Step.new (o:=.lst vs) s1.bag hp)
 refine q _ _ (.ref p) _ k1 st ?_
 have:=RF.newL (ok.step s1) s1 r2 hp
 unfold B5 at this
 split at this
 ·rename_i hi
  rw[IX hi];exact this
 ·rw[RF.topped n1 n2]at this;exact this
end
noncomputable def IY(k:List AO):List Int:=k.map λx=>match x with|.inl i=>i|.inr _=>0
noncomputable def Lm(k:AO):Str:=match k with|.inr x=>x|.inl _=>⟨#[]⟩
theorem IZ(r:List Int):IY (Bd r)=r:=by simp[IY,map_map,Function.comp_def]
theorem Ln{ks ks':List (List Int)}(h:ks.map Bd=ks'.map Bd):ks=ks':=by
 have:=congrArg (map IY) h
 simpa[map_map,Function.comp_def,IZ]using this
theorem Rb{ks ks':List Str}(h:ks.map DF=ks'.map DF):ks=ks':=by
 have:=congrArg (map Lm) h
 simpa[map_map,Function.comp_def,Lm]using this
theorem Ia{α β:Type}{ks ks':List α}{vs vs':List β}(h1:ks.length=vs.length)(h2:ks'.length=vs'.length)(h:ks.zip vs=ks'.zip vs'):ks=ks'/\vs=vs':=by
 have a:=congrArg (map Prod.fst) h
 have b:=congrArg (map Prod.snd) h
 rw[map_fst_zip (by lia),map_fst_zip (by lia)]at a
 rw[map_snd_zip (by lia),map_snd_zip (by lia)]at b
 exact⟨a,b⟩
section
variable{b:Addr}{Z':Addr->Prop}
mutual
theorem Rp.fun(hz:Z b)(hb:∀vs,H b≠some (.tup vs)):∀{x y:P} {v:V},Rp b Z H x v->Rp b Z H y v->x=y
 |.non,y,v,h1,h2=>by
  rw[show v=_ from h1]at h2
  cases y<;>simp_all [Rp]
 |.bl _,y,v,h1,h2=>by
  rw[show v=_ from h1]at h2
  cases y<;>simp_all [Rp]
 |.int _,y,v,h1,h2=>by
  rw[show v=_ from h1]at h2
  cases y<;>simp_all [Rp]
 |.str _,y,v,h1,h2=>by
  rw[show v=_ from h1]at h2
  cases y<;>simp_all [Rp]
 |.bag,y,v,h1,h2=>by
  rw[show v=_ from h1]at h2
  cases y<;>simp_all [Rp]
 |.tup xs,y,v,h1,h2=>by
  obtain⟨p,vs,rfl,e2,e3⟩:=h1
  cases y with
  |tup ys =>
   obtain⟨q,us,f1,f2,f3⟩:=h2
   cases f1
   rw[e2]at f2
   cases f2
   rw[AB.fun hz hb e3 f3]
  |lst ys=>obtain⟨q,us,f1,_,f2,f3⟩:=h2;cases f1;rw[e2]at f2;cases f2
  |dT ks ys=>obtain⟨q,us,f1,_,f2,f3⟩:=h2;cases f1;rw[e2]at f2;cases f2
  |fT ks ys=>obtain⟨q,us,f1,_,⟨o,f2⟩,f3⟩:=h2;cases f1;rw[e2]at f2;cases f2
  |dK ks ys=>obtain⟨q,us,f1,_,f2,f3⟩:=h2;cases f1;rw[e2]at f2;cases f2
  |bag=>cases(show V.ref p=V.ref b from h2);exact absurd e2 (hb vs)
  |_=>cases h2
 |.lst xs,y,v,h1,h2=>by
  obtain⟨p,vs,rfl,e1,e2,e3⟩:=h1
  cases y with
  |lst ys =>
   obtain⟨q,us,f1,_,f2,f3⟩:=h2
   cases f1
   rw[e2]at f2
   cases f2
   rw[AB.fun hz hb e3 f3]
  |tup ys=>obtain⟨q,us,f1,f2,f3⟩:=h2;cases f1;rw[e2]at f2;cases f2
  |dT ks ys=>obtain⟨q,us,f1,_,f2,f3⟩:=h2;cases f1;rw[e2]at f2;cases f2
  |fT ks ys=>obtain⟨q,us,f1,_,⟨o,f2⟩,f3⟩:=h2;cases f1;rw[e2]at f2;cases f2
  |dK ks ys=>obtain⟨q,us,f1,_,f2,f3⟩:=h2;cases f1;rw[e2]at f2;cases f2
  |bag=>cases(show V.ref p=V.ref b from h2);exact absurd hz e1
  |_=>cases h2
 |.dT ks xs,y,v,h1,h2=>by
  obtain⟨p,vs,rfl,e1,e2,el,e3⟩:=h1
  cases y with
  |dT ks' ys =>
   obtain⟨q,us,f1,_,f2,fl,f3⟩:=h2
   cases f1
   rw[e2]at f2
   obtain⟨g1,g2⟩:=Ia (by rw[length_map];exact el.trans e3.length) (by rw[length_map];exact fl.trans f3.length) (HO.dT.inj (oI f2))
   have g1:=Ln g1
   subst g1;subst g2
   rw[AB.fun hz hb e3 f3]
  |fT ks' ys=>obtain⟨q,us,f1,_,⟨o,f2⟩,f3⟩:=h2;cases f1;rw[e2]at f2;cases f2
  |tup ys=>obtain⟨q,us,f1,f2,f3⟩:=h2;cases f1;rw[e2]at f2;cases f2
  |lst ys=>obtain⟨q,us,f1,_,f2,f3⟩:=h2;cases f1;rw[e2]at f2;cases f2
  |dK ks ys=>obtain⟨q,us,f1,_,f2,f3⟩:=h2;cases f1;rw[e2]at f2;cases f2
  |bag=>cases(show V.ref p=V.ref b from h2);exact absurd hz e1
  |_=>cases h2
 |.fT ks xs,y,v,h1,h2=>by
  obtain⟨p,vs,rfl,e1,⟨o,e2⟩,el,e3⟩:=h1
  cases y with
  |fT ks' ys =>
   obtain⟨q,us,f1,_,⟨o',f2⟩,fl,f3⟩:=h2
   cases f1
   rw[e2]at f2
   have f2:=(HO.frz.inj (oI f2)).2
   obtain⟨g1,g2⟩:=Ia (by rw[length_map];exact el.trans e3.length) (by rw[length_map];exact fl.trans f3.length) (HO.dT.inj f2)
   have g1:=Ln g1
   subst g1;subst g2
   rw[AB.fun hz hb e3 f3]
  |tup ys=>obtain⟨q,us,f1,f2,f3⟩:=h2;cases f1;rw[e2]at f2;cases f2
  |lst ys=>obtain⟨q,us,f1,_,f2,f3⟩:=h2;cases f1;rw[e2]at f2;cases f2
  |dT ks ys=>obtain⟨q,us,f1,_,f2,f3⟩:=h2;cases f1;rw[e2]at f2;cases f2
  |dK ks ys=>obtain⟨q,us,f1,_,f2,f3⟩:=h2;cases f1;rw[e2]at f2;cases f2
  |bag=>cases(show V.ref p=V.ref b from h2);exact absurd hz e1
  |_=>cases h2
 |.dK ks xs,y,v,h1,h2=>by
  obtain⟨p,vs,rfl,e1,e2,el,e3⟩:=h1
  cases y with
  |dK ks' ys =>
   obtain⟨q,us,f1,_,f2,fl,f3⟩:=h2
   cases f1
   rw[e2]at f2
   obtain⟨g1,g2⟩:=Ia (by rw[length_map];exact el.trans e3.length) (by rw[length_map];exact fl.trans f3.length) (HO.dK.inj (oI f2))
   have g1:=Rb g1
   subst g1;subst g2
   rw[AB.fun hz hb e3 f3]
  |tup ys=>obtain⟨q,us,f1,f2,f3⟩:=h2;cases f1;rw[e2]at f2;cases f2
  |lst ys=>obtain⟨q,us,f1,_,f2,f3⟩:=h2;cases f1;rw[e2]at f2;cases f2
  |dT ks ys=>obtain⟨q,us,f1,_,f2,f3⟩:=h2;cases f1;rw[e2]at f2;cases f2
  |fT ks ys=>obtain⟨q,us,f1,_,⟨o,f2⟩,f3⟩:=h2;cases f1;rw[e2]at f2;cases f2
  |bag=>cases(show V.ref p=V.ref b from h2);exact absurd hz e1
  |_=>cases h2
theorem AB.fun(hz:Z b)(hb:∀vs,H b≠some (.tup vs)):∀{xs ys:List P} {vs:List V},AB b Z H xs vs->AB b Z H ys vs->xs=ys
 |[],ys,vs,h1,h2=>by
  rw[show vs=[]from h1]at h2
  cases ys with
  |nil=>rfl
  |cons y r=>obtain⟨v,t,e,_⟩:=h2;cases e
 |x::xs,ys,vs,h1,h2=>by
  obtain⟨v,r,rfl,e2,e3⟩:=h1
  cases ys with
  |nil=>cases(show v::r=[]from h2)
  |cons y ys =>
   obtain⟨u,t,f1,f2,f3⟩:=h2
   cases f1
   rw[Rp.fun hz hb e2 f2,AB.fun hz hb e3 f3]
end
mutual
theorem Rp.avoid(hz:Z b)(hb:∀vs,H b≠some (.tup vs)){x:P}{p:Addr}(hx:Rp b Z H x (.ref p)):∀{y:P} {v:V},sizeOf y<sizeOf x->Rp b Z H y v->Rp b (λq=>Z q\/q=p) H y v
 |.non,_,_,h=>h
 |.bl _,_,_,h=>h
 |.int _,_,_,h=>h
 |.str _,_,_,h=>h
 |.bag,_,_,h=>h
 |.tup ys,v,hs,h=>by
  obtain⟨q,vs,e1,e2,e3⟩:=h
  exact⟨q,vs,e1,e2,AB.avoid hz hb hx (by simp at hs ⊢;lia) e3⟩
 |.lst ys,v,hs,h=>by
  obtain⟨q,vs,rfl,e1,e2,e3⟩:=id h
  refine⟨q,vs,rfl,λz=>z.elim e1 λz=>?_,e2,AB.avoid hz hb hx (by simp at hs ⊢;lia) e3⟩
  subst z
  rw[Rp.fun hz hb hx h]at hs
  exact Nat.lt_irrefl _ hs
 |.dT ks ys,v,hs,h=>by
  obtain⟨q,vs,rfl,e1,e2,el,e3⟩:=id h
  refine⟨q,vs,rfl,λz=>z.elim e1 λz=>?_,e2,el,AB.avoid hz hb hx (by simp at hs ⊢;lia) e3⟩
  subst z
  rw[Rp.fun hz hb hx h]at hs
  exact Nat.lt_irrefl _ hs
 |.fT ks ys,v,hs,h=>by
  obtain⟨q,vs,rfl,e1,e2,el,e3⟩:=id h
  refine⟨q,vs,rfl,λz=>z.elim e1 λz=>?_,e2,el,AB.avoid hz hb hx (by simp at hs ⊢;lia) e3⟩
  subst z
  rw[Rp.fun hz hb hx h]at hs
  exact Nat.lt_irrefl _ hs
 |.dK ks ys,v,hs,h=>by
  obtain⟨q,vs,rfl,e1,e2,el,e3⟩:=id h
  refine⟨q,vs,rfl,λz=>z.elim e1 λz=>?_,e2,el,AB.avoid hz hb hx (by simp at hs ⊢;lia) e3⟩
  subst z
  rw[Rp.fun hz hb hx h]at hs
  exact Nat.lt_irrefl _ hs
theorem AB.avoid(hz:Z b)(hb:∀vs,H b≠some (.tup vs)){x:P}{p:Addr}(hx:Rp b Z H x (.ref p)):∀{ys:List P} {vs:List V},sizeOf ys<sizeOf x->AB b Z H ys vs->AB b (λq=>Z q\/q=p) H ys vs
 |[],_,_,h=>h
 |y::ys,vs,hs,h=>by
  obtain⟨v,r,e1,e2,e3⟩:=h
  exact⟨v,r,e1,Rp.avoid hz hb hx (by simp at hs ⊢;lia) e2,AB.avoid hz hb hx (by simp at hs ⊢;lia) e3⟩
end
theorem Rp.toRc(hz:Z b)(hb:∀vs,H b≠some (.tup vs)){x:P}(hm:x.mut=true)(hx:Rp b Z H x (.ref p)):¬Z p/\Rc b (λq=>Z q\/q=p) H x p:=by
 cases x with
 |lst xs =>
  obtain⟨q,vs,e0,e1,e2,e3⟩:=id hx
  cases e0
  exact⟨e1,vs,e2,AB.avoid hz hb hx (by simp) e3⟩
 |dT ks xs =>
  obtain⟨q,vs,e0,e1,e2,el,e3⟩:=id hx
  cases e0
  exact⟨e1,vs,e2,el,AB.avoid hz hb hx (by simp;lia) e3⟩
 |fT ks xs =>
  obtain⟨q,vs,e0,e1,e2,el,e3⟩:=id hx
  cases e0
  exact⟨e1,vs,e2,el,AB.avoid hz hb hx (by simp;lia) e3⟩
 |dK ks xs =>
  obtain⟨q,vs,e0,e1,e2,el,e3⟩:=id hx
  cases e0
  exact⟨e1,vs,e2,el,AB.avoid hz hb hx (by simp;lia) e3⟩
 |_=>simp[P.mut]at hm
end
def A9(k:Nat)(x:P)(f:Fl)(ρ:List S)(K:List S->Prop):Prop :=
 if x.imm=true then K (ρ.set k (.sh x))else match f with
 |.nw=>K (ρ.set k (if x.mut=true then .own x else .fr x))
 |.fr=>K (ρ.set k (.fr x))
 |.cl=>K (ρ.set k (.sh x))
 |_=>False
section
variable{x:P}{k:Nat}
theorem Ok.nt(ok:Ok W ρ σ H):∀vs,H W.b≠some (.tup vs):=λvs e=>(ok.bag.neT e).1 rfl
theorem Ib(st:Step W.b W.a Hs H)(hn:∀p,Ag ρ' σ' p->Ag ρ σ p\/Hs p=none)(p:Addr)(o:HO)(hz:¬AC W ρ σ f p)(e:Hs p=some o):¬AC W ρ' σ' f p/\H p=some o:=by
 refine⟨λz=>hz ?_,st.same p o (λz=>hz (z▸AC.b)) e⟩
 have k:Ow W ρ' σ' p->Ow W ρ σ p:=λz=>z.elim .inl λz=>(hn p z).elim .inr λz=>by rw[e]at z;cases z
 cases f<;>simp only[AC]at z ⊢
 ·exact z.elim .inl λz=>.inr (z.elim (λz=>.inl (k z)) .inr)
 ·exact z.elim .inl λz=>.inr (z.elim (λz=>.inl (k z)) .inr)
 ·exact z.elim .inl λz=>.inr (k z)
 ·exact z.elim .inl λz=>.inr (z.elim (λz=>.inl (k z)) .inr)
 ·exact z
 ·exact z
theorem Rp.move(hb:Bag Hs W.b W.a)(st:Step W.b W.a Hs H)(hn:∀p,Ag ρ' σ' p->Ag ρ σ p\/Hs p=none)(h:Rp W.b (AC W ρ σ f) Hs x v):Rp W.b (AC W ρ' σ' f) H x v :=
 h.keep (Ib st hn) λp vs e=>st.same p _ (hb.neT e).1 e
theorem AB.move(hb:Bag Hs W.b W.a)(st:Step W.b W.a Hs H)(hn:∀p,Ag ρ' σ' p->Ag ρ σ p\/Hs p=none)(h:AB W.b (AC W ρ σ f) Hs xs vs):AB W.b (AC W ρ' σ' f) H xs vs :=
 h.keep (Ib st hn) λp vs e=>st.same p _ (hb.neT e).1 e
theorem Rc.move(hb:Bag Hs W.b W.a)(st:Step W.b W.a Hs H)(hp:p≠W.b)(hn:∀p,Ag ρ' σ' p->Ag ρ σ p\/Hs p=none)(h:Rc W.b (Zf W ρ σ) Hs x p):Rc W.b (Zf W ρ' σ') H x p:=by
 cases x with
 |lst xs=>obtain⟨vs,h1,h2⟩:=h;exact⟨vs,st.same p _ hp h1,h2.move hb st hn⟩
 |dT ks xs=>obtain⟨vs,h1,h0,h2⟩:=h;exact⟨vs,st.same p _ hp h1,h0,h2.move hb st hn⟩
 |fT ks xs=>obtain⟨vs,h1,h0,h2⟩:=h;exact⟨vs,h1.map λ_ e=>st.same p _ hp e,h0,h2.move hb st hn⟩
 |dK ks xs=>obtain⟨vs,h1,h0,h2⟩:=h;exact⟨vs,st.same p _ hp h1,h0,h2.move hb st hn⟩
 |_=>exact h.elim
theorem B6.move{s:S}{o:Option V}(hb:Bag Hs W.b W.a)(st:Step W.b W.a Hs H)(hn:∀p,Ag ρ' σ' p->Ag ρ σ p\/Hs p=none)(h:B6 W ρ σ Hs s o):B6 W ρ' σ' H s o:=by
 cases s with
 |emp=>trivial
 |sh x=>obtain⟨v,h1,h2⟩:=h;exact⟨v,h1,h2.move hb st hn⟩
 |fr x=>obtain⟨v,h1,h2⟩:=h;exact⟨v,h1,h2.move hb st hn⟩
 |own x=>obtain⟨p,h1,h2,h3,h4,h5,h6⟩:=h;exact⟨p,h1,h2,h3,h4,h5,h6.move hb st h4 hn⟩
theorem Ok.put{s:S}(ok:Ok W ρ σ Hs)(st:Step W.b W.a Hs H)(hk:k<ρ.length)(hn:∀p,Ag (ρ.set k s) (σ.set k (some v)) p->Ag ρ σ p\/Hs p=none)
  (hs:B6 W (ρ.set k s) (σ.set k (some v)) H s (some v)) (hu:∀y,s=.own y->∃p,v=.ref p/\Hs p=none):Ok W (ρ.set k s) (σ.set k (some v)) H where
 bag:=st.bag
 fb:=ok.fb
 old:=λp o hp e=>st.same p o hp (ok.old p o hp e)
 frm:=λp o e=>st.same p o (λz=>by rw[z,ok.fb]at e;cases e) (ok.frm p o e)
 oo:=(ok.step st).oo
 len:=by rw[length_set,length_set];exact ok.len
 slot:=λi s' e=>by
  by_cases hi:k=i
  ·subst hi
   rw[getElem?_set_self hk]at e
   cases e
   exact⟨some v,getElem?_set_self (by rw[ok.len];exact hk),hs⟩
  ·rw[getElem?_set_ne hi]at e
   obtain⟨o,h1,h2⟩:=ok.slot i s' e
   exact⟨o,by rw[getElem?_set_ne hi];exact h1,h2.move ok.bag st hn⟩
 uniq:=λi j x y h1 h2 h3=>by
  have old:∀i x,k≠i->(ρ.set k s)[i]?=some (.own x)->∃p o,σ[i]?=some (some (.ref p))/\Hs p=some o:=λi x hi e=>by
   rw[getElem?_set_ne hi]at e
   obtain⟨o,q1,p,q2,_,_,_,_,q3⟩:=ok.slot i _ e
   obtain⟨o',q4,_⟩:=q3.cell
   exact⟨p,o',by rw[q1,q2],q4⟩
  have new:∀i x,k=i->(ρ.set k s)[i]?=some (.own x)->∃p,v=.ref p/\Hs p=none:=λi x hi e=>by
   subst hi
   rw[getElem?_set_self hk]at e
   cases e
   exact hu x rfl
  have hks:k<σ.length:=by rw[ok.len];exact hk
  by_cases hi:k=i<;>by_cases hj:k=j
  ·exact hi.symm.trans hj
  ·exfalso
   obtain⟨p,e1,e2⟩:=new i x hi h1
   obtain⟨q,o,e3,e4⟩:=old j y hj h2
   rw[<-hi,getElem?_set_self hks,getElem?_set_ne hj,e3,e1]at h3
   cases h3
   rw[e2]at e4;cases e4
  ·exfalso
   obtain⟨p,e1,e2⟩:=new j y hj h2
   obtain⟨q,o,e3,e4⟩:=old i x hi h1
   rw[<-hj,getElem?_set_self hks,getElem?_set_ne hi,e3,e1]at h3
   cases h3
   rw[e2]at e4;cases e4
  ·rw[getElem?_set_ne hi]at h1 h3
   rw[getElem?_set_ne hj]at h2 h3
   exact ok.uniq i j x y h1 h2 h3
theorem FA{s:S}(hs:∀x,s≠.own x):∀p,Ag (ρ.set k s) (σ.set k (some v)) p->Ag ρ σ p:=λp ⟨i,x,h1,h2⟩=>by
 by_cases hi:k=i
 ·subst hi
  rcases Nat.lt_or_ge k ρ.length with q|q
  ·rw[getElem?_set_self q]at h1
   exact absurd (oI h1) (hs x)
  ·rw[getElem?_eq_none (by rw[length_set];exact q)]at h1
   cases h1
 ·rw[getElem?_set_ne hi]at h1 h2
  exact⟨i,x,h1,h2⟩
theorem Ok.set{K:List S->Prop}(ok:Ok W ρ σ Hs)(st:Step W.b W.a Hs H)(r:RF W ρ σ Hs f H x v)(h:A9 k x f ρ K):∃ρ',K ρ'/\Ok W ρ' (σ.set k (some v)) H:=by
 by_cases hk:ρ.length<=k
 ·have e1:∀s,ρ.set k s=ρ:=λs=>set_eq_of_length_le hk
  have e2:σ.set k (some v)=σ:=set_eq_of_length_le (by rw[ok.len];exact hk)
  rw[e2]
  refine⟨ρ,?_,ok.step st⟩
  unfold A9 at h
  simp only[e1]at h
  split at h
  ·exact h
  ·cases f<;>first|exact h|exact h.elim
 have hk:k<ρ.length:=Nat.lt_of_not_le hk
 have okH:=ok.step st
 have k1:∀(s:S),(∀x,s≠.own x)->B6 W (ρ.set k s) (σ.set k (some v)) H s (some v)->Ok W (ρ.set k s) (σ.set k (some v)) H:=λs hs hq =>
  ok.put st hk (λp z=>.inl (FA hs p z)) hq λy e=>absurd e (hs y)
 have k2:∀{s:S} {g:Fl},(∀x,s≠.own x)->Rp W.b (AC W ρ σ g) H x v->Rp W.b (AC W (ρ.set k s) (σ.set k (some v)) g) H x v:=λ{s g} hs hq =>
  Rp.move okH.bag (Step.refl okH.bag) (λp z=>.inl (FA hs p z)) hq
 unfold A9 at h
 split at h
 ·rename_i hi
  exact⟨_,h,k1 _ (λ_ z=>nomatch z) ⟨v,rfl,(r.any okH).imm hi⟩⟩
 ·cases f with
  |nw =>
   dsimp only at h
   by_cases hm:x.mut=true
   ·rw[if_pos hm]at h
    refine⟨_,h,?_⟩
    obtain⟨p,rfl,hp⟩:=r.2 hm
    have hn:∀q,Ag (ρ.set k (.own x)) (σ.set k (some (.ref p))) q->Ag ρ σ q\/Hs q=none:=λq ⟨i,y,h1,h2⟩=>by
     by_cases hi:k=i
     ·subst hi
      rw[getElem?_set_self (by rw[ok.len];exact hk)]at h2
      cases h2
      exact .inr hp
     ·rw[getElem?_set_ne hi]at h1 h2
      exact .inl ⟨i,y,h1,h2⟩
    obtain⟨nz,rc⟩:=Rp.toRc (b:=W.b) (Z:=Zf W ρ σ) AC.b okH.nt hm r.1
    have nzp:p≠W.b/\W.H₀ p=none:=by
     simp only[AC,not_or,Classical.not_not]at nz
     exact⟨nz.1,nz.2.2⟩
    have hF:W.F p=none:=by
     cases q:W.F p with
     |none=>rfl
     |some o=>rw[ok.frm p o q]at hp;cases hp
    have ha:p≠W.a:=ok.bag.na hp
    have zz:∀q,¬(Zf W ρ σ q\/q=p)->¬Zf W (ρ.set k (.own x)) (σ.set k (some (.ref p))) q:=λq hq z=>hq (by
     simp only[AC]at z ⊢
     rcases z with z|z|z
     ·exact .inl (.inl z)
     ·rcases z with z|z
      ·exact .inl (.inr (.inl (.inl z)))
      ·obtain⟨i,y,h1,h2⟩:=z
       by_cases hi:k=i
       ·subst hi
        rw[getElem?_set_self (by rw[ok.len];exact hk)]at h2
        cases h2
        exact .inr rfl
       ·rw[getElem?_set_ne hi]at h1 h2
        exact .inl (.inr (.inl (.inr ⟨i,y,h1,h2⟩)))
     ·exact .inl (.inr (.inr z)))
    have kk:∀{xs:List P} {vs:List V},AB W.b (λq=>Zf W ρ σ q\/q=p) H xs vs->AB W.b (Zf W (ρ.set k (.own x)) (σ.set k (some (.ref p)))) H xs vs:=λh=>h.keep (λq o hz e=>⟨zz q hz,e⟩) λq us e=>e
    refine ok.put st hk hn ⟨p,rfl,nzp.2,hF,nzp.1,ha,?_⟩ λy e=>⟨p,rfl,hp⟩
    cases x with
    |lst xs=>obtain⟨us,q4,q5⟩:=rc;exact⟨us,q4,kk q5⟩
    |dT ks xs=>obtain⟨us,q4,q0,q5⟩:=rc;exact⟨us,q4,q0,kk q5⟩
    |fT ks xs=>obtain⟨us,q4,q0,q5⟩:=rc;exact⟨us,q4,q0,kk q5⟩
    |dK ks xs=>obtain⟨us,q4,q0,q5⟩:=rc;exact⟨us,q4,q0,kk q5⟩
    |_=>exact rc.elim
   ·rw[if_neg hm]at h
    exact⟨_,h,k1 _ (λ_ z=>nomatch z) ⟨v,rfl,k2 (g:=.fr) (λ_ z=>nomatch z) r.1⟩⟩
  |fr=>exact⟨_,h,k1 _ (λ_ z=>nomatch z) ⟨v,rfl,k2 (g:=.fr) (λ_ z=>nomatch z) r⟩⟩
  |cl=>exact⟨_,h,k1 _ (λ_ z=>nomatch z) ⟨v,rfl,k2 (g:=.cl) (λ_ z=>nomatch z) r⟩⟩
  |_=>exact h.elim
end
def DZ(p:pE):pT:=λρ K=>p ρ λx _=>∃k,x=.bl k/\K k
def Lp(p q:pT):pT:=λρ K=>p ρ λc=>if c=true then q ρ K else K false
def Lq(p q:pT):pT:=λρ K=>p ρ λc=>if c=true then K true else q ρ K
def Lr(p:pT):pT:=λρ K=>p ρ λc=>K (!c)
def Ls(p q:pE):pE:=λρ K=>p ρ λx _=>∃c,x=.bl c/\if c=true then q ρ K else K (.bl false) .fr
def Lu(p:pE):pE:=λρ K=>p ρ λx _=>∃c,x=.bl c/\K (.bl (!c)) .fr
def GM(r r':p2)(pa pb pc:pE):pE:=λρ K=>pa ρ λx f=>pb ρ λy g=>r x f y g λz _=>∃k,z=.bl k/\if k=true then pc ρ λw h=>r' y g w h K else K (.bl false) .fr
section
variable{ι:Type}{Xs:ι->Cx}{a b:Expr}{qC:List Expr}{pc:pE}{p q:pT}
theorem GN{k:Bool}(ok:Ok W ρ σ H)(r:RF W ρ σ Hs f H (.bl k) v):v=.bl k:=r.any ok
theorem Bw{k:Int}(ok:Ok W ρ σ H)(r:RF W ρ σ Hs f H (.int k) v):v=.int k:=r.any ok
theorem Bo{k:Str}(ok:Ok W ρ σ H)(r:RF W ρ σ Hs f H (.str k) v):v=.str k:=r.any ok
theorem Ic{t:TE}(h:BO t pa):Du (Hv t) (DZ pa):=λW ρ σ H Q K ok hk q =>
 h W ρ σ H _ _ ok hk λx f v H1 ⟨k,e,h1⟩ s1 r1=>by
  subst e
  exact⟨k,GN (ok.step s1) r1,q k H1 h1 s1⟩
theorem Ai{op:CmpOp}{r:R2}{pr:p2}(ho:∀i,An (Xs i) (compareOp op) r)(hr:Au r pr)(ha:QE Xs a pa)(hb:QE Xs b pb)(hm:behindInMarks op b=false):QT Xs (.Compare a [op] [b] pos) (DZ (Cg pr pa pb)):=by
 obtain⟨ta,ha1,ha2⟩:=ha
 obtain⟨tb,hb1,hb2⟩:=hb
 exact⟨_,λi=>EK (ho i) (ha1 i) (hb1 i) hm,Ic (GL hr ha2 hb2)⟩
theorem Bf(h:QE Xs a pa)(he:∀i,∀whole,isTrue a (Xs i).env whole=(do let v <-whole;standAt a.pos;holding [v] (truthy v)):=by intro _ _;rfl):QT Xs a (DZ pa):=by
 obtain⟨ta,ha1,ha2⟩:=h
 exact⟨tB ta,λi=>Oz (ha1 i) (he i),Ic ha2⟩
theorem Bg(h:QT Xs a p):QT Xs (.UnaryOp .Not a pos) (Lr p):=by
 obtain⟨ta,ha1,ha2⟩:=h
 exact⟨_,λi=>O5 (ha1 i),λW ρ σ H Q K ok hk q=>ha2 W ρ σ H _ _ ok hk λc H1 h1 s1=>q _ H1 h1 s1⟩
theorem QW.pt(h:QW Xs a p):QT Xs a p:=let⟨t,h1,h2⟩:=h;⟨t,λi=>(h1 i).pt,h2⟩
theorem Dv(h:QT Xs a p):QW Xs (.BoolOp .And [a] pos) p:=let⟨t,h1,h2⟩:=h;⟨t,λi=>O3 (h1 i),h2⟩
theorem Da(h:QT Xs a p):QW Xs (.BoolOp .Or [a] pos) p:=let⟨t,h1,h2⟩:=h;⟨t,λi=>KR (h1 i),h2⟩
theorem Dw(ha:QT Xs a p)(hb:QW Xs (.BoolOp .And (b::qC) pos) q):QW Xs (.BoolOp .And (a::b::qC) pos) (Lp p q):=by
 obtain⟨ta,ha1,ha2⟩:=ha
 obtain⟨tb,hb1,hb2⟩:=hb
 refine⟨_,λi=>O4 (ha1 i) (hb1 i),λW ρ σ H Q K ok hk q=>ha2 W ρ σ H _ _ ok hk λc H1 h1 s1=>?_⟩
 cases c with
 |true=>exact hb2 W ρ σ H1 _ _ (ok.step s1) h1 λd H2 h2 s2=>q d H2 h2 (s1.trans s2)
 |false=>exact q false H1 h1 s1
theorem DG(ha:QT Xs a p)(hb:QW Xs (.BoolOp .Or (b::qC) pos) q):QW Xs (.BoolOp .Or (a::b::qC) pos) (Lq p q):=by
 obtain⟨ta,ha1,ha2⟩:=ha
 obtain⟨tb,hb1,hb2⟩:=hb
 refine⟨_,λi=>KS (ha1 i) (hb1 i),λW ρ σ H Q K ok hk q=>ha2 W ρ σ H _ _ ok hk λc H1 h1 s1=>?_⟩
 cases c with
 |false=>exact hb2 W ρ σ H1 _ _ (ok.step s1) h1 λd H2 h2 s2=>q d H2 h2 (s1.trans s2)
 |true=>exact q true H1 h1 s1
theorem GO{op}(h:QE Xs a pa):QE Xs (.BoolOp op [a] pos) pa:=let⟨t,h1,h2⟩:=h;⟨t,λi=>O8 (h1 i),h2⟩
theorem DH{k:Bool}:RF W ρ σ Hs .fr H (.bl k) (.bl k):=rfl
theorem EQ{k:Int}:RF W ρ σ Hs .fr H (.int k) (.int k):=rfl
theorem Ct{k:Str}:RF W ρ σ Hs .fr H (.str k) (.str k):=rfl
theorem GP(ha:QE Xs a pa)(hb:QE Xs (.BoolOp .And (b::qC) pos) pb):QE Xs (.BoolOp .And (a::b::qC) pos) (Ls pa pb):=by
 obtain⟨ta,ha1,ha2⟩:=ha
 obtain⟨tb,hb1,hb2⟩:=hb
 refine⟨_,λi=>O9 (ha1 i) (hb1 i),λW ρ σ H Q K ok hk q=>ha2 W ρ σ H _ _ ok hk λx f v H1 ⟨c,e,h1⟩ s1 r1=>?_⟩
 subst e
 refine⟨c,GN (ok.step s1) r1,?_⟩
 cases c with
 |true=>exact hb2 W ρ σ H1 _ _ (ok.step s1) h1 λd f v H2 h2 s2 r2=>q d f v H2 h2 (s1.trans s2) (r2.back s1)
 |false=>exact q _ _ _ H1 h1 s1 DH
theorem Re(ha:QE Xs a pa):QE Xs (.UnaryOp .Not a pos) (Lu pa):=by
 obtain⟨ta,ha1,ha2⟩:=ha
 refine⟨_,λi=>PB (ha1 i),λW ρ σ H Q K ok hk q=>ha2 W ρ σ H _ _ ok hk λx f v H1 ⟨c,e,h1⟩ s1 r1=>?_⟩
 subst e
 exact⟨c,GN (ok.step s1) r1,q _ _ _ H1 h1 s1 DH⟩
theorem Lv{r r':R2}{pr pr':p2}{tc:TE}(hr:Au r pr)(hr':Au r' pr')(ha:BO ta pa)(hb:BO tb pb)(hc:BO tc pc):BO (Hw r r' ta tb tc) (GM pr pr' pa pb pc):=λW ρ σ H Q K ok h q =>
 ha W ρ σ H _ _ ok h λx f v H1 h1 s1 r1=>hb W ρ σ H1 _ _ (ok.step s1) h1 λy g u H2 h2 s2 r2 =>
  hr W ρ σ H H2 _ _ x y f g v u ((ok.step s1).step s2) (s1.trans s2) (r1.step (ok.step s1) s2) (r2.back s1) h2 λz h v' H3 ⟨k,e,h3⟩ s3 r3=>by
   subst e
   have s13:=(s1.trans s2).trans s3
   refine⟨k,GN (ok.step s13) r3,?_⟩
   cases k with
   |false=>exact q _ _ _ H3 h3 s13 DH
   |true=>exact hc W ρ σ H3 _ _ (ok.step s13) h3 λz g' u' H4 h4 s4 r4=>hr' W ρ σ H H4 Q K y z g g' u u' (ok.step (s13.trans s4)) (s13.trans s4) ((r2.back s1).step (ok.step (s1.trans s2)) (s3.trans s4)) (r4.back s13) h4 λz h v' H' h3 s3 r3=>q z h v' H' h3 ((s13.trans s4).trans s3) r3
theorem Ie{op op':CmpOp}{r r':R2}{pr pr':p2}(ho:∀i,An (Xs i) (compareOp op) r)(hr:Au r pr)(ho':∀i,An (Xs i) (compareOp op') r')(hr':Au r' pr')(ha:QE Xs a pa)(hb:QE Xs b pb)(hc:QE Xs c pc)
  (hm:lastMarks [op,op'] [b,c]=false:=by with_unfolding_all rfl):QE Xs (.Compare a [op,op'] [b,c] pos) (GM pr pr' pa pb pc):=by
 obtain⟨ta,ha1,ha2⟩:=ha
 obtain⟨tb,hb1,hb2⟩:=hb
 obtain⟨tc,hc1,hc2⟩:=hc
 exact⟨_,λi=>Pj (ho i) (ho' i) (ha1 i) (hb1 i) (hc1 i) hm,Lv hr hr' ha2 hb2 hc2⟩
theorem Lw{op op':CmpOp}{r r':R2}{pr pr':p2}(ho:∀i,An (Xs i) (compareOp op) r)(hr:Au r pr)(ho':∀i,An (Xs i) (compareOp op') r')(hr':Au r' pr')(ha:QE Xs a pa)(hb:QE Xs b pb)(hc:QE Xs c pc)
  (hm:lastMarks [op,op'] [b,c]=false:=by with_unfolding_all rfl):QT Xs (.Compare a [op,op'] [b,c] pos) (DZ (GM pr pr' pa pb pc)):=by
 obtain⟨ta,ha1,ha2⟩:=ha
 obtain⟨tb,hb1,hb2⟩:=hb
 obtain⟨tc,hc1,hc2⟩:=hc
 exact⟨_,λi=>Pk (ho i) (ho' i) (ha1 i) (hb1 i) (hc1 i) hm,Ic (Lv hr hr' ha2 hb2 hc2)⟩
end
inductive Xn where
 |nm (x:Str)|vl (x f:Str) (v:P)
noncomputable instance:Coe Str Xn:=⟨Xn.nm⟩
noncomputable instance:Coe String Xn:=⟨λx=>Xn.nm (Str.ofString x)⟩
structure PEnds where
 nx:List S->Prop
 rt:P->Prop
 bk:List S->Prop:=λ_=>False
 ct:List S->Prop:=λ_=>False
 ex:Xn->(Xn->Hp->Prop)->Prop:=λ_ _=>False
noncomputable abbrev pS:=PEnds->List S->Prop
def Lx(W:Wd)(H:Hp)(x:P)(v:V):Prop:=Bag H W.b W.a/\(∀p o,p≠W.b->W.H₀ p=some o->H p=some o)/\Rp W.b (λp=>W.H₀ p≠none) H x v
structure RelD(W:Wd)(E:PEnds)(D:Ends):Prop where
 nx:∀ρ σ H,E.nx ρ->Ok W ρ σ H->D.nx σ H
 rt:∀x v H,E.rt x->Lx W H x v->D.rt v H
 bk:∀ρ σ H,E.bk ρ->Ok W ρ σ H->D.bk σ H
 ct:∀ρ σ H,E.ct ρ->Ok W ρ σ H->D.ct σ H
 noO:∀p,¬W.O p
 ex:∀n H EX,E.ex n EX->Bag H W.b W.a->(∀p o,p≠W.b->W.H₀ p=some o->H p=some o)->EX n H
def Dx(t:TS)(p:pS):Prop:=∀(W:Wd) (ρ:List S) (σ:St) (H:Hp) (D:Ends) (E:PEnds),Ok W ρ σ H->p E ρ->RelD W E D->t D σ H
def QS{ι:Type}(Xs:ι->Cx)(st:Stmt)(p:pS):Prop:=∃t,(∀i,PS (Xs i) st t)/\Dx t p
def BF{ι:Type}(Xs:ι->Cx)(st:List Stmt)(p:pS):Prop:=∃t,(∀i,BN (Xs i) st t)/\Dx t p
def Ly:pS:=λE ρ=>E.nx ρ
def Lz(p q:pS):pS:=λE ρ=>p { E with nx:=q E } ρ
def L0:pS:=λ_ _=>False
noncomputable def Cu(x:P)(f:Fl):Bool:=x.imm||(match f with|.cl=>false|.an=>false|_=>true)
def Aq(p:pE):pS:=λE ρ=>p ρ λx f=>Cu x f=true/\E.rt x
def L1(c:pT)(p q:pS):pS:=λE ρ=>c ρ λb=>if b=true then p E ρ else q E ρ
def Ig(p:pE)(k:Nat):pS:=λE ρ=>p ρ λx f=>A9 k x f ρ E.nx
section
variable{ι:Type}{Xs:ι->Cx}{st:Stmt}{qC:List Stmt}{p q:pS}{a:Expr}
theorem Aj:BF Xs [] Ly:=⟨_,λ_=>Dk,λW ρ σ H D E ok h r=>r.nx ρ σ H h ok⟩
theorem AL(h:QS Xs st p):BF Xs [st] p:=let⟨t,h1,h2⟩:=h;⟨t,λi=>CB (h1 i),h2⟩
theorem AS(h:QS Xs st p)(g:BF Xs qC q):BF Xs (st::qC) (Lz p q):=by
 obtain⟨t,h1,h2⟩:=h
 obtain⟨u,g1,g2⟩:=g
 exact⟨_,λi=>BG (h1 i) (g1 i),λW ρ σ H D E ok h r=>h2 W ρ σ H _ _ ok h ⟨λρ' σ' H' e ok'=>g2 W ρ' σ' H' D E ok' e r,r.rt,r.bk,r.ct,r.noO,r.ex⟩⟩
theorem BF.weak{p m:pS}(h:BF Xs qC p)(hw:∀E ρ,m E ρ->p E ρ):BF Xs qC m:=let⟨t,h1,h2⟩:=h;⟨t,h1,λW ρ σ H D E ok h r=>h2 W ρ σ H D E ok (hw E ρ h) r⟩
theorem Dy:QS Xs st L0:=⟨_,λ_=>PH,λ_ _ _ _ _ _ _ h _=>h.elim⟩
theorem RF.ret{x:P}(ok:Ok W ρ σ H)(h:RF W ρ σ Hs f H x v)(hr:Cu x f=true):Lx W H x v:=by
 refine⟨ok.bag,ok.old,?_⟩
 by_cases hi:x.imm=true
 ·exact(h.any ok).imm hi
 ·have k:∀{g:Fl},(∀p,W.H₀ p≠none->AC W ρ σ g p)->Rp W.b (AC W ρ σ g) H x v->Rp W.b (λp=>W.H₀ p≠none) H x v:=λ{g} hg h=>h.keep (λp o hz e=>⟨λz=>hz (hg p z),e⟩) λp vs e=>e
  cases f with
  |nw=>exact k (g:=.fr) (λp z=>.inr (.inr z)) h.1
  |fr=>exact k (g:=.fr) (λp z=>.inr (.inr z)) h
  |rf=>exact k (g:=.rf) (λp z=>.inr z) h
  |cl=>simp[Cu,hi]at hr
  |an=>simp[Cu,hi]at hr
  |bo =>
   obtain⟨p,h1,h2,h3⟩:=h
   have nb:=(ok.ow (.inr h2)).1
   have k2:∀{xs:List P} {vs:List V},AB W.b (Zf W ρ σ) H xs vs->AB W.b (λp=>W.H₀ p≠none) H xs vs:=λh=>h.keep (λp o hz e=>⟨λz=>hz (.inr (.inr z)),e⟩) λp vs e=>e
   cases x with
   |lst xs=>obtain⟨vs,h4,h5⟩:=h3;exact⟨p,vs,h1,λz=>z nb,h4,k2 h5⟩
   |dT ks xs=>obtain⟨vs,h4,h0,h5⟩:=h3;exact⟨p,vs,h1,λz=>z nb,h4,h0,k2 h5⟩
   |fT ks xs=>obtain⟨vs,h4,h0,h5⟩:=h3;exact⟨p,vs,h1,λz=>z nb,h4,h0,k2 h5⟩
   |dK ks xs=>obtain⟨vs,h4,h0,h5⟩:=h3;exact⟨p,vs,h1,λz=>z nb,h4,h0,k2 h5⟩
   |_=>exact h3.elim
theorem AQ(h:QE Xs a pa):QS Xs (.Return (some a) pos) (Aq pa):=by
 obtain⟨t,h1,h2⟩:=h
 exact⟨_,λi=>ED (h1 i),λW ρ σ H D E ok h r=>h2 W ρ σ H _ _ ok h λx f v H1 ⟨k0,k⟩ s1 r1=>r.rt x v H1 k (r1.ret (ok.step s1) k0)⟩
theorem Ah{pc:pT}{sa sb:List Stmt}(hc:QT Xs c pc)(ha:BF Xs sa p)(hb:BF Xs sb q):QS Xs (.If c sa sb pos) (L1 pc p q):=by
 obtain⟨tc,hc1,hc2⟩:=hc
 obtain⟨ta,ha1,ha2⟩:=ha
 obtain⟨tb,hb1,hb2⟩:=hb
 refine⟨_,λi=>Dl (hc1 i) (ha1 i) (hb1 i),λW ρ σ H D E ok hk r=>hc2 W ρ σ H _ _ ok hk λc H1 h1 s1=>?_⟩
 cases c with
 |true=>exact ha2 W ρ σ H1 D E (ok.step s1) h1 r
 |false=>exact hb2 W ρ σ H1 D E (ok.step s1) h1 r
theorem Rf{t:TE}{k:Nat}(h2:BO t pa):Dx (Dm t (CK k)) (Ig pa k):=λW ρ σ H D E ok h r =>
 h2 W ρ σ H _ _ ok h λx f v H1 hk s1 r1=>by
  obtain⟨ρ',e,ok'⟩:=Ok.set ok s1 r1 hk
  exact r.nx ρ' _ H1 e ok'
theorem Bh{k:Nat}(hN:∀i,(Xs i).N.Nodup)(h:QE Xs a pa)(hi:∀i,(Xs i).N[k]?=some x:=by intro _;rfl)(hx:∀i,DQ (Xs i).env.scope x:=by intro _;trivial)
  (hs:∀i,swapsWith a (some (.Name x pos')) pos.line (Xs i).env=pure false:=by intro _;rfl) (hf:∀i,(Xs i).fn x=true\/(Xs i).env.scope.names.lookup x=some .local:=by intro _;trivial):QS Xs (.Assign [.Name x pos'] a pos) (Ig pa k):=by
 obtain⟨t,h1,h2⟩:=h
 exact⟨_,λi=>Bs (hN i) (hi i) (hx i) (h1 i) (hs i) (hf i),Rf h2⟩
end
noncomputable abbrev pG:=P->Fl->List S->(List S->Prop)->Prop
def FB(g:TG)(p:pG):Prop:=∀(W:Wd) (ρ:List S) (σ:St) (Hs H:Hp) (x:P) (f:Fl) (v:V) (Q:St->Hp->Prop) (K:List S->Prop),Ok W ρ σ Hs->Step W.b W.a Hs H->RF W ρ σ Hs f H x v->p x f ρ K->(∀ρ' σ',K ρ'->Ok W ρ' σ' H->Q σ' H)->g v σ H Q
def QG{ι:Type}(Xs:ι->Cx)(tg:Expr)(p:pG):Prop:=∃g,(∀i,PG (Xs i) tg g)/\FB g p
def GQ:List Nat->List P->Fl->List S->(List S->Prop)->Prop
 |[],[],_,ρ,K=>K ρ
 |k::ks,x::xs,f,ρ,K=>A9 k x f ρ λρ'=>GQ ks xs f ρ' K
 |_,_,_,_,_=>False
def FC(ks:List Nat):pG:=λx f ρ K=>∃xs,x=.tup xs/\xs.length=ks.length/\GQ ks xs f.el ρ K
noncomputable def Dz:List Nat->DS
 |[]=>Hl
 |k::ks=>Fo (CK k) (Dz ks)
section
variable{ι:Type}{Xs:ι->Cx}
theorem L3(k:Nat):FB (CK k) (λx f ρ K=>A9 k x f ρ K):=λW ρ σ Hs H x f v Q K ok st r h q=>by
 obtain⟨ρ',e,ok'⟩:=Ok.set ok st r h
 exact q ρ' _ e ok'
theorem GR{k:Nat}(hN:∀i,(Xs i).N.Nodup)(hi:∀i,(Xs i).N[k]?=some x:=by intro _;rfl)(hx:∀i,DQ (Xs i).env.scope x:=by intro _;trivial)
  (hf:∀i,(Xs i).fn x=true\/(Xs i).env.scope.names.lookup x=some .local:=by intro _;trivial):QG Xs (.Name x pos) (A9 k):=⟨_,λi=>A8 (hN i) (hi i) (hx i) (hf i),L3 k⟩
theorem Rg{x:P}{k:Nat}{K:List S->Prop}(ok:Ok W ρ σ H)(r:Rp W.b (AC W ρ σ f) H x v)(h:A9 k x f.el ρ K) :
  ∃ρ',K ρ'/\Ok W ρ' (σ.set k (some v)) H/\∀p,Ag ρ' (σ.set k (some v)) p->Ag ρ σ p:=by
 unfold A9 at h
 split at h
 ·rename_i hi
  obtain⟨ρ',e,ok'⟩:=Ok.set (K:=λρ'=>ρ'=ρ.set k (.sh x)) ok (Step.refl ok.bag) (RF.ofEl (Hs:=H) r) (by unfold A9;rw[if_pos hi])
  subst e
  exact⟨_,h,ok',FA λ_ z=>nomatch z⟩
 ·rename_i hi
  have k1:∀(s:S),(∀x,s≠.own x)->K (ρ.set k s)->A9 k x f.el ρ (λρ'=>ρ'=ρ.set k s)->∃ρ',K ρ'/\Ok W ρ' (σ.set k (some v)) H/\∀p,Ag ρ' (σ.set k (some v)) p->Ag ρ σ p:=λs hs hk hp=>by
   obtain⟨ρ',e,ok'⟩:=Ok.set ok (Step.refl ok.bag) (RF.ofEl (Hs:=H) r) hp
   subst e
   exact⟨_,hk,ok',FA hs⟩
  cases f with
  |nw=>exact k1 (.fr x) (λ_ z=>nomatch z) h (by unfold A9;rw[if_neg hi];rfl)
  |fr=>exact k1 (.fr x) (λ_ z=>nomatch z) h (by unfold A9;rw[if_neg hi];rfl)
  |bo=>exact k1 (.fr x) (λ_ z=>nomatch z) h (by unfold A9;rw[if_neg hi];rfl)
  |cl=>exact k1 (.sh x) (λ_ z=>nomatch z) h (by unfold A9;rw[if_neg hi];rfl)
  |_=>exact h.elim
theorem L4{W:Wd}{H:Hp}{f:Fl}{Q:St->Hp->Prop}{K:List S->Prop}:∀{ks:List Nat} {xs:List P} {vs:List V} {ρ:List S} {σ:St},Ok W ρ σ H->AB W.b (AC W ρ σ f) H xs vs->GQ ks xs f.el ρ K->(∀ρ' σ',K ρ'->Ok W ρ' σ' H->Q σ' H)->Dz ks vs σ H Q
 |[],[],vs,ρ,σ,ok,r,h,q=>⟨r,q ρ σ h ok⟩
 |[],_::_,_,_,_,_,_,h,_=>h.elim
 |_::_,[],_,_,_,_,_,h,_=>h.elim
 |k::ks,x::xs,vs,ρ,σ,ok,r,h,q=>by
  obtain⟨v,t,e1,r1,r2⟩:=r
  subst e1
  obtain⟨ρ',hk,ok',sub⟩:=Rg ok r1 h
  exact⟨v,t,rfl,L4 ok' (AB.move ok.bag (Step.refl ok.bag) (λp z=>.inl (sub p z)) r2) hk q⟩
theorem L5{K:Fg}{ks:List Nat}(hn:ks.length=n):FB (Es K n (Dz ks)) (FC ks):=λW ρ σ Hs H x f v Q K ok st r h q=>by
 obtain⟨xs,rfl,hl,h⟩:=h
 obtain⟨p,vs,rfl,hc,r2⟩:=r.items rfl
 have hc:H p=some (.tup vs):=by
  obtain⟨p',vs',e1,e2,_⟩:=r.any (ok.step st)
  cases e1
  rcases hc with hc|hc
  ·rw[e2]at hc;cases hc
  ·exact hc
 exact⟨p,vs,rfl,.of hc,by rw[<-r2.length,hl,hn],L4 (ok.step st) r2 h q⟩
theorem L6{k1:Nat}{ks:List Nat}(hc:∀i,(Xs i).calm=true)(hK:∀i,(Xs i).K=Kf)(h:∀i,EE (Xs i) es (Dz ks))(hl:ks.length=n)
  (hn:∀i,(assignEach es (Xs i).env).length=n:=by intro _;rfl) (hst:∀i,(assignEach es (Xs i).env).findIdx? (·.1)=none:=by intro _;rfl):QG Xs (.Tuple es k1 pos) (FC ks) :=
 ⟨Es Kf n (Dz ks),λi=>by have:=KW (k:=k1) (pos:=pos) (hc i) (h i) (hn i) (hst i);rw[hK i]at this;exact this,L5 hl⟩
theorem Rh{a:Expr}{pg:pG}(he:QE Xs a pa)(hg:QG Xs tg pg)(hs:∀i,swapsWithSole [tg] a pos.line (Xs i).env=pure false:=by intro _;rfl)(hw:∀i,swappedStores [tg] a (Xs i).env=pure none:=by intro _;rfl)
  (h1:∀i,(assignEach [tg] (Xs i).env).map (·.2)=[assign tg (Xs i).env]:=by intro _;rfl):QS Xs (.Assign [tg] a pos) (λE ρ=>pa ρ λx f=>pg x f ρ E.nx):=by
 obtain⟨t,e1,e2⟩:=he
 obtain⟨g,g1,g2⟩:=hg
 exact⟨_,λi=>Hm (e1 i) (g1 i) (hs i) (hw i) (h1 i),λW ρ σ H D E ok h r=>e2 W ρ σ H _ _ ok h λx f v H1 hk s1 r1=>g2 W ρ σ H H1 x f v _ _ ok s1 r1 hk λρ' σ' e ok'=>r.nx ρ' σ' H1 e ok'⟩
end
noncomputable abbrev pF:=List P->(P->Prop)->Prop
def AJ(f:pF):Sp:=λvs H Q _=>∃(b a:Addr) (xs:List P) (K:P->Prop),Bag H b a/\AB b (λp=>p=b) H xs vs/\f xs K/\∀x v H',K x->Step b a H H'->Rp b (λp=>H p≠none) H' x v->Q v H'
noncomputable def D0(n:Nat)(xs:List P):List S:=xs.map S.sh++replicate (n - xs.length) S.emp
def Ih(f:pF)(pa:pA):pE:=λρ K=>pa ρ λxs=>f (xs.map (·.1)) λz=>K z .nw
theorem Ri(h:vs[i]?=some v):(start N vs)[i]?=some (some v):=by
 unfold start
 have hi:i<vs.length:=by
  rcases Nat.lt_or_ge i vs.length with q|q
  ·exact q
  ·rw[getElem?_eq_none q]at h;cases h
 rw[getElem?_append_left (by rw[length_map];exact hi),getElem?_map,h]
 rfl
theorem L7{x:P}:(D0 n xs)[i]?≠some (.own x):=by
 intro h
 have hm:=mem_of_getElem? h
 unfold D0 at hm
 rcases mem_append.mp hm with z|z
 ·obtain⟨y,_,e⟩:=mem_map.mp z
  cases e
 ·cases(mem_replicate.mp z).2
theorem Rj{b:Addr}(hb:Bag H b a)(r:AB b (λp=>p=b) H xs vs)(hl:xs.length<=N.length) :
  Ok ⟨b,a,H,λ_=>none,λ_=>False⟩ (D0 N.length xs) (start N vs) H where
 bag:=hb
 fb:=rfl
 old:=λ_ _ _ e=>e
 frm:=λ_ _ e=>nomatch e
 oo:=λ_ z=>z.elim
 len:=by
  have:=r.length
  simp only[start,D0,length_append,length_map,length_replicate]
  lia
 slot:=λi s e=>by
  have hv:=r.length
  unfold D0 at e
  rcases Nat.lt_or_ge i xs.length with q|q
  ·rw[getElem?_append_left (by rw[length_map];exact q),getElem?_map]at e
   obtain⟨v,h1,h2⟩:=r.get (i:=i) (x:=xs[i]) (by simp[q])
   simp only[getElem?_eq_getElem q,Option.map_some]at e
   cases e
   refine⟨some v,Ri h1,v,rfl,h2.keep (λp o hz e=>⟨λz=>hz ?_,e⟩) λp vs e=>e⟩
   rcases z with z|z
   ·exact z
   ·rcases z with z|⟨j,y,h3,_⟩
    ·exact z.elim
    ·exact absurd h3 L7
  ·rw[getElem?_append_right (by rw[length_map];exact q),length_map]at e
   have hm:=mem_of_getElem? e
   have e2:=(mem_replicate.mp hm).2
   subst e2
   have hi:i - xs.length<N.length - xs.length:=by
    rcases Nat.lt_or_ge (i - xs.length) (N.length - xs.length)with z|z
    ·exact z
    ·rw[getElem?_eq_none (by rw[length_replicate];exact z)]at e;cases e
   refine⟨none,?_,trivial⟩
   unfold start
   rw[getElem?_append_right (by rw[length_map,<-hv];exact q),length_map,<-hv,getElem?_replicate,if_pos hi]
 uniq:=λi j x y h1=>absurd h1 L7
section
variable{K:Fg}
theorem Av{st:Stmt}{k:Nat}{f:pF}(D:Ao K mg x st)(S:FnScope N ps (AN st))
  (hb:∀(kV doc pm:Value) (an:Option Addr) (cdv ct:Value) (us:List Value),us.length=ps.length->bindArgs (PySem.W.fnOf x x (DC st) (CO st) (AN st) .none kV doc pm an cdv ct) ⟨us,[]⟩=pure (ps.zip us))
  (len:∀xs K,f xs K->xs.length=ps.length) (hN:ps.length<=N.length)
  (hbody:∀(fa:Addr) (cdv:Value) (A:Around) (outer:List Env) (s:Shared) (H:Hp) (E:XK),Room k (A.deeper (PyProof.Rows.envOfC x (AN st) s.heap.objs.size fa cdv)) ->
   ∃p,BF (λ_:Unit=>(DU Cr P' w K mg base N x (AN st) fa cdv A outer s H E).nox) (CO st) p/\∀xs K,f xs K->p { nx:=λ_=>K .non,rt:=K } (D0 N.length xs)):Fn P' w K mg base x (k+1) ps (AJ f):=by
 refine E3 D S hb (λvs H Q E h=>?_) (λfa cdv A outer s H vs Q E hr h=>?_)
 ·obtain⟨b,a,xs,K,_,r,hf,_⟩:=h
  rw[<-r.length];exact len xs K hf
 ·obtain⟨b,a,xs,K',hbag,r,hf,hQ⟩:=h
  obtain⟨p,⟨t,h1,h2⟩,h3⟩:=hbody fa cdv A outer s H E hr
  refine⟨t,h1 (),h2 _ _ _ H _ _ (Rj hbag r (by rw[len xs K' hf];exact hN)) (h3 xs K' hf) ⟨λρ σ H' e ok=>?_,λy v H' e ro=>?_,λ_ _ _ e=>e.elim,λ_ _ _ e=>e.elim,λ_ z=>z,λ_ _ _ e=>e.elim⟩⟩
  ·exact hQ _ _ H' e ⟨ok.bag,ok.old⟩ rfl
  ·exact hQ y v H' e ⟨ro.1,ro.2.1⟩ ro.2.2
theorem Fn.imp{k:Nat}{sp sp':Sp}(F:Fn P' w K mg base x k ps sp)(h:∀vs H Q E,sp' vs H Q E->sp vs H Q E):Fn P' w K mg base x k ps sp':=by
 obtain⟨f,fd,F,r⟩:=F
 exact⟨f,fd,F.imp h,r⟩
end
section
variable{ι:Type}{Xs:ι->Cx}
theorem Rk{f:pF}{t:TA}{pa:pA}(h2:GI t pa):BO (EL (AJ f) [] E0 t) (Ih f pa):=λW ρ σ H Q K ok hk q =>
 h2 W ρ σ H _ _ ok hk λxs vs H1 h1 s1 r1=>by
  have ok1:=ok.step s1
  show AJ f (vs++[]) H1 Q E0
  rw[append_nil]
  refine⟨W.b,W.a,_,_,s1.bag,(r1.any ok1),h1,λx v H' k1 s2 r2=>q x .nw v H' k1 (s1.trans s2) ⟨r2.keep (λp o hz e=>⟨λz=>hz (ok1.dom z),e⟩) λp vs e=>e,λm=>?_⟩⟩
  have k2:∀p,¬H1 p≠none->H p=none:=λp z=>s1.free (Classical.not_not.mp z)
  cases x with
  |lst xs=>obtain⟨p,us,e,z,_⟩:=r2;exact⟨p,e,k2 p z⟩
  |dT ks xs=>obtain⟨p,us,e,z,_⟩:=r2;exact⟨p,e,k2 p z⟩
  |fT ks xs=>obtain⟨p,us,e,z,_⟩:=r2;exact⟨p,e,k2 p z⟩
  |dK ks xs=>obtain⟨p,us,e,z,_⟩:=r2;exact⟨p,e,k2 p z⟩
  |_=>simp[P.mut]at m
theorem AU{k:Nat}{f:pF}{p:Pos}{e:Expr}{pa:pA}(G:∀i,Fn (Xs i).prog (Xs i).w (Xs i).K (Xs i).mg (Xs i).base x k ps (AJ f))(hr:∀i,Room k (Xs i).A)
  (ha:QA Xs (e::es) pa) (hg:∀i,Gl (Xs i) x:=by intro _;rfl) (hdb:(x==("__debug__":Str))=false:=by decide +kernel) (he:∀i,starEach (e::es) (Xs i).env=(false,eval e (Xs i).env)::starEach es (Xs i).env:=by intro _;rfl) (hpl:∀i,(backTo pos (starEach es (Xs i).env)).any (·.1)=false:=by intro _;rfl) :
  QE Xs (.Call (.Name x p) (e::es) [] pos) (Ih f pa):=by
 obtain⟨t,h1,h2⟩:=ha
 exact⟨_,λi=>DX (G i) (hr i) (hg i) (h1 i) hdb (he i) (hpl i),Rk h2⟩
end
open Classical in
noncomputable def frz(W:Wd)(ρ:List S)(σ:St)(H:Hp):Hp:=λp=>if p=W.b\/Ow W ρ σ p then none else H p
noncomputable abbrev Wd.frz(W:Wd)(ρ:List S)(σ:St)(H:Hp):Wd:={ W with F:=L2.frz W ρ σ H }
noncomputable abbrev GS(W:Wd)(ρ:List S)(σ:St)(H1:Hp):(Addr->Prop)->List S->St->Hp->Prop:=λO' ρ' σ' H'=>O'=W.O/\Ok (W.frz ρ σ H1) ρ' σ' H'
noncomputable abbrev GU(W:Wd)(ρ:List S)(σ:St)(H1:Hp):(Addr->Prop)->List S->St->Hp->Prop:=λO' ρ' σ' H'=>(∀p,O' p->W.O p\/H1 p=none)/\ρ'=ρ/\σ'=σ/\Ok W ρ σ H'/\Step W.b W.a H1 H'
def DI(W:Wd)(Lt:(Addr->Prop)->List S->St->Hp->Prop)(J:It)(xs:List P)(f:Fl):Prop:=∀O' ρ' σ' H',Lt O' ρ' σ' H'->∀i,(i<xs.length->J.go i H')/\(xs.length<=i->J.stop i H') /\
 ∀v H'',J.yld i H' v H''->∀x,xs[i]?=some x->Step W.b W.a H' H''/\RF { W with O:=O' } ρ' σ' H' f H'' x v
noncomputable abbrev pI:=List S->(List P->Fl->Bool->Prop)->Prop
def L8(wi:TI)(p:pI):Prop:=∀(W:Wd) (ρ:List S) (σ:St) (H:Hp) (R:It->Hp->Prop) (K:List P->Fl->Bool->Prop),Ok W ρ σ H->p ρ K ->
 (∀xs f st J H1,K xs f st->Step W.b W.a H H1->DI W (GU W ρ σ H1) J xs f->(st=true->DI W (GS W ρ σ H1) J xs f)->R J H1)->wi σ H R
def QI{ι:Type}(Xs:ι->Cx)(tg e:Expr)(p:pI):Prop:=∃wi,(∀i,PI (Xs i) tg e wi)/\L8 wi p
section
variable{x:P}{k:Nat}
theorem FD(hz:¬(p=W.b\/Ow W ρ σ p)):frz W ρ σ H p=H p:=by unfold frz;rw[if_neg hz]
theorem GV(hz:p=W.b\/Ow W ρ σ p):frz W ρ σ H p=none:=by unfold frz;rw[if_pos hz]
theorem Rl(h:frz W ρ σ H p=some o):H p=some o/\p≠W.b/\¬Ow W ρ σ p:=by
 by_cases hz:p=W.b\/Ow W ρ σ p
 ·rw[GV hz]at h;cases h
 ·rw[FD hz]at h;exact⟨h,λz=>hz (.inl z),λz=>hz (.inr z)⟩
theorem Ok.frz(ok:Ok W ρ σ H):Ok (W.frz ρ σ H) ρ σ H where
 bag:=ok.bag
 fb:=GV (.inl rfl)
 old:=ok.old
 frm:=λp o e=>(Rl e).1
 oo:=λp h=>let⟨h1,h2,h3,h4,h5⟩:=ok.oo p h;⟨h1,GV (.inr (.inl h)),h3,h4,h5⟩
 len:=ok.len
 slot:=λi s e=>by
  obtain⟨o,h1,h2⟩:=ok.slot i s e
  refine⟨o,h1,?_⟩
  cases s with
  |emp=>trivial
  |sh x=>exact h2
  |fr x=>exact h2
  |own x =>
   obtain⟨p,q1,q2,q3,q4,q5,q6⟩:=h2
   exact⟨p,q1,q2,GV (.inr (.inr ⟨i,x,e,by rw[h1,q1]⟩)),q4,q5,q6⟩
 uniq:=ok.uniq
theorem Ok.thaw(ok0:Ok W ρ σ H)(ok:Ok (W.frz ρ σ H) ρ' σ' H'):Ok W ρ' σ' H' where
 bag:=ok.bag
 fb:=ok0.fb
 old:=ok.old
 frm:=λp o e=>by
  have hb:p≠W.b:=λz=>by rw[z,ok0.fb]at e;cases e
  have ho:¬Ow W ρ σ p:=λz=>by rw[(ok0.ow z).2.1]at e;cases e
  exact ok.frm p o ((FD λz=>z.elim hb ho).trans (ok0.frm p o e))
 oo:=λp h=>let⟨h1,h2,h3,h4,h5⟩:=ok.oo p h;⟨h1,(ok0.oo p h).2.1,h3,h4,h5⟩
 len:=ok.len
 slot:=λi s e=>by
  obtain⟨o,h1,h2⟩:=ok.slot i s e
  refine⟨o,h1,?_⟩
  cases s with
  |emp=>trivial
  |sh x=>exact h2
  |fr x=>exact h2
  |own x =>
   obtain⟨p,q1,q2,q3,q4,q5,q6⟩:=h2
   refine⟨p,q1,q2,?_,q4,q5,q6⟩
   cases hF:W.F p with
   |none=>rfl
   |some u =>
    have hb:p≠W.b:=q4
    have ho:¬Ow W ρ σ p:=λz=>by rw[(ok0.ow z).2.1]at hF;cases hF
    have q3:L2.frz W ρ σ H p=none:=q3
    rw[FD (λz=>z.elim hb ho),ok0.frm p u hF]at q3
    cases q3
 uniq:=ok.uniq
theorem D1(ok:Ok W ρ σ H)(hl:Ok (W.frz ρ σ H) ρ' σ' H')(hf:f=.nw\/f=.fr\/f=.cl):(∀p o,¬AC W ρ σ f p->H p=some o->¬AC W ρ' σ' f p/\H' p=some o)/\∀p vs,H p=some (.tup vs)->H' p=some (.tup vs):=by
 have hl:Ok (W.frz ρ σ H) ρ' σ' H':=hl
 have kb:∀p,¬AC W ρ σ f p->p≠W.b:=λp z e=>z (e▸AC.b)
 have ko:∀p,¬AC W ρ σ f p->¬Ow W ρ σ p:=λp z e=>z (by rcases hf with rfl|rfl|rfl<;>simp[AC,e])
 refine⟨λp o hz e=>?_,λp vs e=>?_⟩
 ·have hfz:L2.frz W ρ σ H p=some o:=(FD λz=>z.elim (kb p hz) (ko p hz)).trans e
  have hs:¬Ag ρ' σ' p:=λz=>by
   have:=(hl.ow (.inr z)).2.1
   have this:L2.frz W ρ σ H p=none:=this
   rw[hfz]at this;cases this
  refine⟨λz=>?_,hl.frm p o hfz⟩
  have hO:¬W.O p:=λz=>ko p hz (.inl z)
  rcases hf with rfl|rfl|rfl<;>simp only[AC,not_or]at z hz
  ·rcases z with z|(z|z)|z
   ·exact hz.1 z
   ·exact hO z
   ·exact hs z
   ·exact hz.2.2 z
  ·rcases z with z|(z|z)|z
   ·exact hz.1 z
   ·exact hO z
   ·exact hs z
   ·exact hz.2.2 z
  ·rcases z with z|(z|z)
   ·exact hz.1 z
   ·exact hO z
   ·exact hs z
 ·refine hl.frm p _ ((FD λz=>z.elim (ok.bag.neT e).1 λz=>?_).trans e)
  obtain⟨_,_,_,_,o,q1,q2⟩:=ok.ow z
  rw[e]at q1;cases q1
  exact q2 vs rfl
theorem Ii{O':Addr->Prop}(st:Step W.b W.a H H')(hO:∀p,O' p->W.O p\/H p=none)(p:Addr)(o:HO)(hz:¬AC W ρ σ f p)(e:H p=some o):¬AC { W with O:=O' } ρ σ f p/\H' p=some o:=by
 refine⟨λz=>hz ?_,st.same p o (λz=>hz (z▸AC.b)) e⟩
 have k:Ow { W with O:=O' } ρ σ p->Ow W ρ σ p:=λz=>z.elim (λz=>(hO p z).elim .inl λz=>by rw[e]at z;cases z) .inr
 cases f<;>simp only[AC]at z ⊢
 ·exact z.elim .inl λz=>.inr (z.elim (λz=>.inl (k z)) .inr)
 ·exact z.elim .inl λz=>.inr (z.elim (λz=>.inl (k z)) .inr)
 ·exact z.elim .inl λz=>.inr (k z)
 ·exact z.elim .inl λz=>.inr (z.elim (λz=>.inl (k z)) .inr)
 ·exact z
 ·exact z
noncomputable def CV(f:Fl):Bool:=match f with|.nw=>true|.fr=>true|.cl=>true|_=>false
theorem GW(h:CV f=true):f=.nw\/f=.fr\/f=.cl:=by cases f<;>simp_all [CV]
theorem Rm{K:Fg}(ok:Ok W ρ σ H)(r:RF W ρ σ Hs f H (.lst xs) (.ref p))(hc:H p=some (.lst vs))(rv:AB W.b (AC W ρ σ f) H xs vs) :
  DI W (GU W ρ σ H) (Cn K p) xs f.el/\(CV f=true->DI W (GS W ρ σ H) (Cn K p) xs f.el):=by
 have hpb:p≠W.b:=by
  obtain⟨q,us,e1,e2,_⟩:=r.any ok
  cases e1
  exact e2
 have core:∀O' ρ' σ' H',H' p=some (.lst vs)->AB W.b (AC { W with O:=O' } ρ' σ' f) H' xs vs->Bag H' W.b W.a->∀i,(i<xs.length->(Cn K p).go i H')/\(xs.length<=i->(Cn K p).stop i H') /\
   ∀v H'',(Cn K p).yld i H' v H''->∀x,xs[i]?=some x->Step W.b W.a H' H''/\RF { W with O:=O' } ρ' σ' H' f.el H'' x v:=λO' ρ' σ' H' e rr hb i=>by
  have hl:=rr.length
  refine⟨λhi=>⟨vs,vs[i]'(by lia),.of e,by simp[<-hl,hi]⟩,λhi=>⟨vs,.of e,by lia⟩,λv H'' y x hx=>?_⟩
  obtain⟨e2,y⟩:=y
  subst e2
  obtain⟨u,e3,e4⟩:=rr.get hx
  have e5:=y vs (.of e)
  rw[e3]at e5
  cases e5
  exact⟨Step.refl hb,RF.ofEl (W:={ W with O:=O' }) e4⟩
 refine⟨λO' ρ' σ' H' hl i=>?_,λhf O' ρ' σ' H' hl i=>?_⟩
 ·obtain⟨hO,rfl,rfl,ok',st⟩:=hl
  exact core _ _ _ H' (st.same p _ hpb hc) (rv.keep (Ii st hO) λq us e=>st.same q _ (ok.bag.neT e).1 e) st.bag i
 ·obtain⟨rfl,hl⟩:=hl
  have hk:=D1 ok hl (GW hf)
  have nz:¬AC W ρ σ f p:=by
   cases f with
   |nw=>obtain⟨q,us,e1,e2,_⟩:=r.1;cases e1;exact e2
   |fr=>obtain⟨q,us,e1,e2,_⟩:=r;cases e1;exact e2
   |cl=>obtain⟨q,us,e1,e2,_⟩:=r;cases e1;exact e2
   |_=>simp[CV]at hf
  exact core _ _ _ H' (hk.1 p _ nz hc).2 (rv.keep hk.1 hk.2) hl.bag i
theorem Ro{K:Fg}(ok:Ok W ρ σ H)(hc:H p=some (.tup vs))(rv:AB W.b (AC W ρ σ f) H xs vs) :
  DI W (GU W ρ σ H) (Dn K p) xs f.el/\(CV f=true->DI W (GS W ρ σ H) (Dn K p) xs f.el):=by
 have core:∀O' ρ' σ' H',H' p=some (.tup vs)->AB W.b (AC { W with O:=O' } ρ' σ' f) H' xs vs->Bag H' W.b W.a->∀i,(i<xs.length->(Dn K p).go i H')/\(xs.length<=i->(Dn K p).stop i H') /\
   ∀v H'',(Dn K p).yld i H' v H''->∀x,xs[i]?=some x->Step W.b W.a H' H''/\RF { W with O:=O' } ρ' σ' H' f.el H'' x v:=λO' ρ' σ' H' e rr hb i=>by
  have hl:=rr.length
  refine⟨λhi=>⟨vs,vs[i]'(by lia),.of e,by simp[<-hl,hi]⟩,λhi=>⟨vs,.of e,by lia⟩,λv H'' y x hx=>?_⟩
  obtain⟨e2,y⟩:=y
  subst e2
  obtain⟨u,e3,e4⟩:=rr.get hx
  have e5:=y vs (.of e)
  rw[e3]at e5
  cases e5
  exact⟨Step.refl hb,RF.ofEl (W:={ W with O:=O' }) e4⟩
 refine⟨λO' ρ' σ' H' hl i=>?_,λhf O' ρ' σ' H' hl i=>?_⟩
 ·obtain⟨hO,rfl,rfl,ok',st⟩:=hl
  exact core _ _ _ H' (st.same p _ (ok.bag.neT hc).1 hc) (rv.keep (Ii st hO) λq us e=>st.same q _ (ok.bag.neT e).1 e) st.bag i
 ·obtain⟨rfl,hl⟩:=hl
  have hk:=D1 ok hl (GW hf)
  exact core _ _ _ H' (hk.2 p _ hc) (rv.keep hk.1 hk.2) hl.bag i
end
def L9(p:pE):pI:=λρ K=>p ρ λx f=>∃xs,x=.lst xs/\K xs f.el (CV f)
def MA(p:pE):pI:=λρ K=>p ρ λx f=>∃xs,x=.tup xs/\K xs f.el (CV f)
noncomputable def DJ(lo:Int)(n:Nat):List P:=(List.range n).map λ(k:Nat)=>P.int (lo+k)
def MB(p:pA):pI:=λρ K=>p ρ λxs=>∃j f,xs=[(P.int j,f)]/\-(2 ^ 62)<=j/\j<2 ^ 62/\K (DJ 0 j.toNat) .fr true
def MC(p:pE):pI:=λρ K=>p ρ λx f=>∃z,x=.str z/\K (z.cps.toList.map λc=>P.str ⟨#[c]⟩) .fr true
theorem ER(lo:Int)(n:Nat):(DJ lo n).length=n:=by simp[DJ]
theorem Ij{lo:Int}{x:P}(h:(DJ lo n)[i]?=some x):i<n/\x=.int (lo+i):=by
 unfold DJ at h
 rw[getElem?_map]at h
 rcases Nat.lt_or_ge i n with q|q
 ·rw[getElem?_range q]at h
  exact⟨q,(oI h).symm⟩
 ·rw[getElem?_eq_none (by rw[length_range];exact q)]at h
  cases h
section
variable{ι:Type}{Xs:ι->Cx}{a:Expr}
theorem DK(hK:∀i,(Xs i).K=Kf)(h:QE Xs a pa):QI Xs tg a (L9 pa):=by
 obtain⟨t,h1,h2⟩:=h
 refine⟨Ka Kf t,λi=>by have:=Kc (tg:=tg) (h1 i);rw[hK i]at this;exact this,λW ρ σ H R K ok hk q=>h2 W ρ σ H _ _ ok hk λx f v H1 ⟨xs,e,k1⟩ s1 r1=>?_⟩
 subst e
 have ok1:=ok.step s1
 obtain⟨p,vs,e1,e2,e3⟩:=r1.items rfl
 subst e1
 have hc:H1 p=some (.lst vs):=by
  obtain⟨q,us,z1,z2,z3,_⟩:=r1.any ok1
  cases z1
  rcases e2 with z|z
  ·exact z
  ·rw[z3]at z;cases z
 have j:=Rm (K:=Kf) ok1 r1 hc e3
 exact⟨p,rfl,⟨vs,.of hc⟩,q xs _ _ _ H1 k1 s1 j.1 j.2⟩
theorem ES(hK:∀i,(Xs i).K=Kf)(h:QE Xs a pa):QI Xs tg a (MA pa):=by
 obtain⟨t,h1,h2⟩:=h
 refine⟨Kb Kf t,λi=>by have:=PV (tg:=tg) (h1 i);rw[hK i]at this;exact this,λW ρ σ H R K ok hk q=>h2 W ρ σ H _ _ ok hk λx f v H1 ⟨xs,e,k1⟩ s1 r1=>?_⟩
 subst e
 have ok1:=ok.step s1
 obtain⟨p,vs,e1,e2,e3⟩:=r1.items rfl
 subst e1
 have hc:H1 p=some (.tup vs):=by
  obtain⟨q,us,z1,z3,_⟩:=r1.any ok1
  cases z1
  rcases e2 with z|z
  ·rw[z3]at z;cases z
  ·exact z
 have j:=Ro (K:=Kf) ok1 hc e3
 exact⟨p,rfl,⟨vs,.of hc⟩,q xs _ _ _ H1 k1 s1 j.1 j.2⟩
theorem GX{Lt:(Addr->Prop)->List S->St->Hp->Prop}{J:It}(hlt:∀O' ρ' σ' H',Lt O' ρ' σ' H'->Bag H' W.b W.a)(hg:∀i H',i<xs.length->J.go i H')(hs:∀i H',xs.length<=i->J.stop i H')
  (hy:∀i H' v H'' x,J.yld i H' v H''->xs[i]?=some x->H''=H'/\x.imm=true/\∀(b:Addr) (Z:Addr->Prop),Rp b Z H' x v):DI W Lt J xs .fr:=λO' ρ' σ' H' hl i=>⟨hg i H',hs i H',λv H'' y x hx=>by
 obtain⟨e,hi,hr⟩:=hy i H' v H'' x y hx
 subst e
 exact⟨Step.refl (hlt _ _ _ _ hl),hr _ _⟩⟩
theorem MD{lo:Int}:DI W (GU W ρ σ H) (Co lo n) (DJ lo n) .fr/\(true=true->DI W (GS W ρ σ H) (Co lo n) (DJ lo n) .fr):=by
 have hy:∀i H' v H'' x,(Co lo n).yld i H' v H''->(DJ lo n)[i]?=some x->H''=H'/\x.imm=true/\∀(b:Addr) (Z:Addr->Prop),Rp b Z H' x v:=λi H' v H'' x y hx=>by
  obtain⟨e1,e2⟩:=y
  obtain⟨_,e3⟩:=Ij hx
  subst e3
  exact⟨e1,rfl,λ_ _=>e2⟩
 exact⟨GX (λ_ _ _ _ hl=>hl.2.2.2.1.bag) (λi H' h=>by rw[ER]at h;exact h) (λi H' h=>by rw[ER]at h;exact h) hy,
  λ_=>GX (λ_ _ _ _ hl=>hl.2.bag) (λi H' h=>by rw[ER]at h;exact h) (λi H' h=>by rw[ER]at h;exact h) hy⟩
theorem Ik{p:Pos}{pr:pA}(hm:∀i,(Xs i).mg "range"=none)(ha:QA Xs [a] pr)(hg:∀i,Gl (Xs i) "range":=by intro _;rfl)(hs:∀i,starEach [a] (Xs i).env=[(false,eval a (Xs i).env)]:=by intro _;rfl):QI Xs tg (.Call (.Name "range" p) [a] [] pos) (MB pr):=by
 obtain⟨t,h1,h2⟩:=ha
 refine⟨_,λi=>Fq (hg i) (hm i) (h1 i) (hs i),λW ρ σ H R K ok hk q=>h2 W ρ σ H _ _ ok hk λxs vs H1 ⟨j,f,e,b1,b2,k1⟩ s1 r1=>?_⟩
 subst e
 obtain⟨v,t,e1,e2,e3⟩:=r1
 subst e1
 cases(show t=[]from e3)
 cases Bw (ok.step s1) e2
 exact⟨j,rfl,b1,b2,q _ _ _ _ H1 k1 s1 MD.1 MD.2⟩
theorem ME(h:QE Xs a pa):QI Xs tg a (MC pa):=by
 obtain⟨t,h1,h2⟩:=h
 refine⟨_,λi=>Q6 (h1 i),λW ρ σ H R K ok hk q=>h2 W ρ σ H _ _ ok hk λx f v H1 ⟨z,e,k1⟩ s1 r1=>?_⟩
 subst e
 have hl:(z.cps.toList.map λc=>P.str ⟨#[c]⟩).length=(CP z).length:=by simp[CP]
 have hy:∀i H' v H'' x,(F8 (CP z)).yld i H' v H''->(z.cps.toList.map λc=>P.str ⟨#[c]⟩)[i]?=some x->H''=H'/\x.imm=true/\∀(b:Addr) (Z:Addr->Prop),Rp b Z H' x v:=λi H' v H'' x y hx=>by
  obtain⟨e1,e2⟩:=y
  unfold CP at e2
  rw[getElem?_map]at e2 hx
  cases hc:z.cps.toList[i]? with
  |none=>rw[hc]at hx;cases hx
  |some c =>
   rw[hc]at hx e2
   cases hx;cases e2
   exact⟨e1,rfl,λ_ _=>rfl⟩
 refine⟨z,Bo (ok.step s1) r1,q _ _ _ _ H1 k1 s1 ?_ λ_=>?_⟩
 ·exact GX (λ_ _ _ _ hl=>hl.2.2.2.1.bag) (λi H' h=>by rw[hl]at h;exact h) (λi H' h=>by rw[hl]at h;exact h) hy
 ·exact GX (λ_ _ _ _ hl=>hl.2.bag) (λi H' h=>by rw[hl]at h;exact h) (λi H' h=>by rw[hl]at h;exact h) hy
end
def Il(pi:pI)(pg:pG)(pb:pS):pS:=λE ρ=>pi ρ λxs f st=>st=true/\∃I:Nat->List S->Prop,I 0 ρ/\(∀i ρ' x,xs[i]?=some x->I i ρ'->pg x f ρ' λρ2=>pb { E with nx:=I (i+1),ct:=I (i+1),bk:=E.nx } ρ2)/\∀ρ',I xs.length ρ'->E.nx ρ'
section
variable{ι:Type}{Xs:ι->Cx}{a:Expr}{pi:pI}{pg:pG}{pb:pS}{pc:pT}{body:List Stmt}
theorem RelD.frz{E:PEnds}{D:Ends}(ok0:Ok W ρ σ H)(r:RelD W E D):RelD (W.frz ρ σ H) E D :=
 ⟨λρ' σ' H' e ok=>r.nx ρ' σ' H' e (ok0.thaw ok),r.rt,λρ' σ' H' e ok=>r.bk ρ' σ' H' e (ok0.thaw ok),λρ' σ' H' e ok=>r.ct ρ' σ' H' e (ok0.thaw ok),r.noO,r.ex⟩
theorem FE(hp:∀i,PassesOwn (model (Xs i).prog (Xs i).w) (Xs i).A (Xs i).env (Xs i).xe)(hc:∀i,(Xs i).calm=true)(hi:QI Xs tg a pi)(hg:QG Xs tg pg)(hb:BF Xs body pb)
  (hs:∀i,∀x,foldedSetIterable a (Xs i).env x=pure x:=by intro _ _;rfl):QS Xs (.For tg a body [] pos) (Il pi pg pb):=by
 obtain⟨wi,i1,i2⟩:=hi
 obtain⟨g,g1,g2⟩:=hg
 obtain⟨tb,b1,b2⟩:=hb
 refine⟨_,λi=>Ft (hp i) (hc i) (i1 i) (g1 i) (b1 i) (hs i),λW ρ σ H D E ok h r=>i2 W ρ σ H _ _ ok h λxs f st J H1 ⟨hst,I,h0,hturn,hend⟩ s1 _ jS=>?_⟩
 have jS:=jS hst
 have ok1:=ok.step s1
 have r1:=r.frz ok1
 refine⟨λi m σ' H'=>m=xs.length - i/\i<=xs.length/\∃ρ',I i ρ'/\Ok (W.frz ρ σ H1) ρ' σ' H',⟨xs.length,by simp,Nat.zero_le _,ρ,h0,ok1.frz⟩,?_⟩
 rintro i m σ' H' ⟨rfl,hi,ρ',hI,ok'⟩
 obtain⟨q1,q2,q3⟩:=jS W.O ρ' σ' H' ⟨rfl,ok'⟩ i
 by_cases hlt:i<xs.length
 ·refine .inr ⟨q1 hlt,λσ2 H2=>∃ρ2,I (i+1) ρ2/\Ok (W.frz ρ σ H1) ρ2 σ2 H2,λσ2 H2 ⟨ρ2,e1,e2⟩=>⟨xs.length - (i+1),by lia,rfl,hlt,ρ2,e1,e2⟩,λv H2 y=>?_⟩
  have hx:xs[i]?=some xs[i]:=by simp[hlt]
  obtain⟨y1,y2⟩:=q3 v H2 y _ hx
  refine g2 (W.frz ρ σ H1) ρ' σ' H' H2 _ f v _ _ ok' y1 y2 (hturn i ρ' _ hx hI) λρ2 σ2 e2 ok2=>?_
  exact b2 (W.frz ρ σ H1) ρ2 σ2 H2 _ _ ok2 e2 ⟨λρ3 σ3 H3 e ok3=>⟨ρ3,e,ok3⟩,r1.rt,λρ3 σ3 H3 e ok3=>r1.nx ρ3 σ3 H3 e ok3,λρ3 σ3 H3 e ok3=>⟨ρ3,e,ok3⟩,r.noO,r.ex⟩
 ·have e:i=xs.length:=by lia
  subst e
  exact .inl ⟨q2 (Nat.le_refl _),r1.nx ρ' σ' H' (hend ρ' hI) ok'⟩
end
noncomputable def Ch(ρ:List S)(qB:List (Option Nat)):List S:=qB.map λo=>match o with|none=>.emp|some j=>(ρ[j]?).getD .emp
abbrev GY(qB:List (Option Nat)):Prop:=qB.Pairwise λa b=>a=none\/a≠b
def A3(xs:List P)(step:P->(Option (P×Fl)->Prop)->Prop)(K:P->Fl->Prop):Prop:=∃(g:Fl) (I:Nat->List P->Prop),(g=.nw\/g=.cl)/\I 0 [] /\
 (∀i x ys,xs[i]?=some x->I i ys->step x λo=>match o with|some (y,h)=>(As y h).join g=g/\I (i+1) (ys++[y])|none=>I (i+1) ys)/\∀ys,I xs.length ys->K (.lst ys) g
def Im(pi:pI)(qB:List (Option Nat))(pg:pG)(pt:pT)(pe:pE):pE:=λρ K=>pi ρ λxs f _=>f≠.bo/\xs.length<=16777216 /\
 A3 xs (λx M=>pg x f (Ch ρ qB) λρ'=>pt ρ' λc=>if c=true then pe ρ' λy h=>M (some (y,h))else M none) K
section
variable{Wb:Wd}{ρb:List S}{σb:St}{x:P}{D:Addr}{k:Nat}
theorem B6.mv{s:S}{o:Option V}(hb:Wb.b=W.b)(ha:Wb.a=W.a)(h0:Wb.H₀=W.H₀)(hF:Wb.F=W.F)(hk:∀f p o,¬AC W ρ σ f p->H1 p=some o->¬AC Wb ρb σb f p/\H2 p=some o)(ht:∀p vs,H1 p=some (.tup vs)->H2 p=some (.tup vs))
  (hs:∀p o,p≠W.b->H1 p=some o->H2 p=some o) (h:B6 W ρ σ H1 s o):B6 Wb ρb σb H2 s o:=by
 cases s with
 |emp=>trivial
 |sh x=>obtain⟨v,h1,h2⟩:=h;exact⟨v,h1,by rw[hb];exact h2.keep (hk .cl) ht⟩
 |fr x=>obtain⟨v,h1,h2⟩:=h;exact⟨v,h1,by rw[hb];exact h2.keep (hk .fr) ht⟩
 |own x =>
  obtain⟨p,h1,h2,h3,h4,h5,h6⟩:=h
  refine⟨p,h1,by rw[h0];exact h2,by rw[hF];exact h3,by rw[hb];exact h4,by rw[ha];exact h5,?_⟩
  rw[hb]
  cases x with
  |lst xs=>obtain⟨vs,q1,q2⟩:=h6;exact⟨vs,hs p _ h4 q1,q2.keep (hk .fr) ht⟩
  |dT ks xs=>obtain⟨vs,q1,q0,q2⟩:=h6;exact⟨vs,hs p _ h4 q1,q0,q2.keep (hk .fr) ht⟩
  |fT ks xs=>obtain⟨vs,q1,q0,q2⟩:=h6;exact⟨vs,q1.map λ_ e=>hs p _ h4 e,q0,q2.keep (hk .fr) ht⟩
  |dK ks xs=>obtain⟨vs,q1,q0,q2⟩:=h6;exact⟨vs,hs p _ h4 q1,q0,q2.keep (hk .fr) ht⟩
  |_=>exact h6.elim
theorem GZ{s:S}(h:(Ch ρ qB)[i]?=some s):∃o,qB[i]?=some o/\s=(match o with|none=>.emp|some j=>(ρ[j]?).getD .emp):=by
 unfold Ch at h
 rw[getElem?_map]at h
 cases e:qB[i]? with
 |none=>rw[e]at h;cases h
 |some o=>rw[e]at h;exact⟨o,rfl,(oI h).symm⟩
theorem Rq(hp:GY qB){i':Nat}(h:qB[i]?=some (some j))(h':qB[i']?=some (some j)):i=i':=by
 have hi:i<qB.length:=by
  rcases Nat.lt_or_ge i qB.length with q|q
  ·exact q
  ·rw[getElem?_eq_none q]at h;cases h
 have hi':i'<qB.length:=by
  rcases Nat.lt_or_ge i' qB.length with q|q
  ·exact q
  ·rw[getElem?_eq_none q]at h';cases h'
 rw[getElem?_eq_getElem hi]at h
 rw[getElem?_eq_getElem hi']at h'
 have hw:=pairwise_iff_getElem.mp hp
 rcases Nat.lt_trichotomy i i' with q|q|q
 ·rcases hw i i' hi hi' q with z|z
  ·rw[oI h]at z;cases z
  ·exact absurd ((oI h).trans (oI h').symm) z
 ·exact q
 ·rcases hw i' i hi' hi q with z|z
  ·rw[oI h']at z;cases z
  ·exact absurd ((oI h').trans (oI h).symm) z
theorem Ga(h:qB[i]?=some (some j)):(L2.picked σ qB)[i]?=some ((σ[j]?).join):=by
 unfold L2.picked
 rw[getElem?_map,h]
 rfl
theorem MF(ok:Ok W ρ σ H)(h:Ag (Ch ρ qB) (L2.picked σ qB) p):Ag ρ σ p:=by
 obtain⟨i,x,h1,h2⟩:=h
 obtain⟨o,e1,e2⟩:=GZ h1
 cases o with
 |none=>cases e2
 |some j =>
  rw[Ga e1]at h2
  dsimp only at e2
  cases e3:ρ[j]? with
  |none=>rw[e3]at e2;cases e2
  |some s =>
   rw[e3]at e2
   cases e2
   obtain⟨o,q1,q2⟩:=ok.slot j _ e3
   rw[q1]at h2
   exact⟨j,x,e3,by rw[q1];exact congrArg some (oI h2)⟩
noncomputable abbrev Wd.blk(W:Wd)(ρ:List S)(σ:St)(D:Addr):Wd:={ W with O:=λp=>W.O p\/Ag ρ σ p\/p=D }
theorem Rr(hs:Ag ρb σb p->Ag ρ σ p\/H1 p=none)(hD:H1 D=none)(h:AC (W.blk ρ σ D) ρb σb f p):AC W ρ σ f p\/H1 p=none:=by
 have k:Ow (W.blk ρ σ D) ρb σb p->Ow W ρ σ p\/H1 p=none:=λz=>by
  rcases z with(z|z|z)|z
  ·exact .inl (.inl z)
  ·exact .inl (.inr z)
  ·subst z;exact .inr hD
  ·exact(hs z).elim (λz=>.inl (.inr z)) .inr
 cases f<;>simp only[AC]at h ⊢
 ·rcases h with h|h|h
  ·exact .inl (.inl h)
  ·exact(k h).elim (λz=>.inl (.inr (.inl z))) .inr
  ·exact .inl (.inr (.inr h))
 ·rcases h with h|h|h
  ·exact .inl (.inl h)
  ·exact(k h).elim (λz=>.inl (.inr (.inl z))) .inr
  ·exact .inl (.inr (.inr h))
 ·rcases h with h|h
  ·exact .inl (.inl h)
  ·exact(k h).elim (λz=>.inl (.inr z)) .inr
 ·rcases h with h|h|h
  ·exact .inl (.inl h)
  ·exact(k h).elim (λz=>.inl (.inr (.inl z))) .inr
  ·exact .inl (.inr (.inr h))
 ·exact .inl h
 ·exact .inl h
theorem Rs{l:List V}(ok:Ok W ρ σ H1)(hp:GY qB)(hD:H1 D=none)(st:Step W.b W.a H1 H2)(e:H2 D=some (.lst l)):Ok (W.blk ρ σ D) (Ch ρ qB) (L2.picked σ qB) H2 where
 bag:=st.bag
 fb:=ok.fb
 old:=λp o hp e=>st.same p o hp (ok.old p o hp e)
 frm:=λp o e=>st.same p o (λz=>by rw[z,ok.fb]at e;cases e) (ok.frm p o e)
 oo:=λp h=>by
  have k:Ow W ρ σ p->W.H₀ p=none/\W.F p=none/\p≠W.b/\p≠W.a/\∃o,H2 p=some o/\∀ys,o≠.tup ys:=λz=>by
   obtain⟨q1,q2,q3,q4,o,q5,q6⟩:=ok.ow z
   exact⟨q1,q2,q3,q4,o,st.same p o q3 q5,q6⟩
  rcases h with h|h|h
  ·exact k (.inl h)
  ·exact k (.inr h)
  ·subst h
   have nb:=ok.bag.nb hD
   refine⟨?_,?_,nb,ok.bag.na hD,_,e,λ_ z=>nomatch z⟩
   ·cases q:W.H₀ p with
    |none=>rfl
    |some o=>rw[ok.old p o nb q]at hD;cases hD
   ·cases q:W.F p with
    |none=>rfl
    |some o=>rw[ok.frm p o q]at hD;cases hD
 len:=by simp[L2.picked,Ch]
 slot:=λi s h=>by
  obtain⟨o,e1,e2⟩:=GZ h
  cases o with
  |none =>
   dsimp only at e2
   subst e2
   refine⟨none,?_,trivial⟩
   unfold L2.picked
   rw[getElem?_map,e1]
   rfl
  |some j =>
   dsimp only at e2
   refine⟨_,Ga e1,?_⟩
   cases e3:ρ[j]? with
   |none=>rw[e3]at e2;subst e2;trivial
   |some s' =>
    rw[e3]at e2
    have e2:s=s':=e2
    subst e2
    obtain⟨o,q1,q2⟩:=ok.slot j _ e3
    rw[q1]
    show B6 _ _ _ _ s o
    refine B6.mv (W:=W) (Wb:=W.blk ρ σ D) (ρ:=ρ) (σ:=σ) rfl rfl rfl rfl (λf p u hz eu=>⟨λz=>?_,st.same p u (λz=>hz (z▸AC.b)) eu⟩) (λp us e=>st.same p _ (ok.bag.neT e).1 e) (λp o hp e=>st.same p o hp e) q2
    rcases Rr (H1:=H1) (λz=>.inl (MF ok z)) hD z with z|z
    ·exact hz z
    ·rw[eu]at z;cases z
 uniq:=λi i' x y h1 h2 h3=>by
  obtain⟨o,e1,e2⟩:=GZ h1
  obtain⟨o',e1',e2'⟩:=GZ h2
  cases o with
  |none=>cases e2
  |some j =>
   cases o' with
   |none=>cases e2'
   |some j' =>
    dsimp only at e2 e2'
    cases e3:ρ[j]? with
    |none=>rw[e3]at e2;cases e2
    |some s =>
     cases e3':ρ[j']? with
     |none=>rw[e3']at e2';cases e2'
     |some s' =>
      rw[e3]at e2;rw[e3']at e2'
      cases e2;cases e2'
      obtain⟨o,q1,q2⟩:=ok.slot j _ e3
      obtain⟨o',q1',q2'⟩:=ok.slot j' _ e3'
      rw[Ga e1,Ga e1',q1,q1']at h3
      have h4:o=o':=oI h3
      subst h4
      have:=ok.uniq j j' x y e3 e3' (by rw[q1,q1'])
      subst this
      exact Rq hp e1 e1'
theorem Rt{h g:Fl}{Hq:Hp}(ok:Ok (W.blk ρ σ D) ρ' σ' H2)(hg:g=.nw\/g=.cl)(r:RF (W.blk ρ σ D) ρ' σ' Hq h H2 y v)(hj:(As y h).join g=g):Rp W.b (λq=>AC W ρ σ g q\/q=D) H2 y v:=by
 obtain⟨n1,n2,r2⟩:=IW ok r
 have hi:As y h=.nw\/As y h=.cl:=by
  rcases hg with rfl|rfl<;>cases e:As y h<;>simp_all [Fl.join]
 refine r2.keep (λq o hz e=>⟨λz=>hz ?_,e⟩) λq us e=>e
 have ow:(Ow W ρ σ q\/q=D)->Ow (W.blk ρ σ D) ρ' σ' q:=λz=>.inl (z.elim (λz=>z.elim .inl λz=>.inr (.inl z)) λz=>.inr (.inr z))
 rcases hg with rfl|rfl
 ·have hi2:As y h=.nw:=by rcases hi with z|z<;>simp_all [Fl.join]
  rw[hi2]
  simp only[AC]at z ⊢
  rcases z with(z|z|z)|z
  ·exact .inl z
  ·exact .inr (.inl (ow (.inl z)))
  ·exact .inr (.inr z)
  ·exact .inr (.inl (ow (.inr z)))
 ·rcases hi with z'|z'<;>rw[z']<;>simp only[AC]at z ⊢
  ·rcases z with(z|z)|z
   ·exact .inl z
   ·exact .inr (.inl (ow (.inl z)))
   ·exact .inr (.inl (ow (.inr z)))
  ·rcases z with(z|z)|z
   ·exact .inl z
   ·exact .inr (ow (.inl z))
   ·exact .inr (ow (.inr z))
theorem Ru{wi:TI}{tt:TT}{pi:pI}{pg:pG}{pt:pT}(hp:GY qB)(hi:L8 wi pi)(hg:FB g pg)(ht:Du tt pt)(he:BO te pe):BO (IN wi qB g tt te) (Im pi qB pg pt pe):=by
 intro W ρ σ H Q K ok hk q
 refine hi W ρ σ H _ _ ok hk λxs f _ J H1 ⟨hfb,hlen,gf,I,hgf,h0,hturn,hend⟩ s1 jC _=>?_
 have ok1:=ok.step s1
 have stD:∀{D H2},H1 D=none->Step W.b W.a H1 H2->∀{o},Step W.b W.a H1 (AE H2 D o):=λ{D H2} hD s {o}=>⟨s.bag.put (ok1.bag.nb hD) (ok1.bag.na hD),λp u hp e=>by rw[AV (A7 e hD)];exact s.same p u hp e⟩
 intro D hD
 refine⟨λi m ys H2=>m=xs.length - i/\i<=xs.length/\∃ps,I i ps/\H2 D=some (.lst ys)/\AB W.b (λq=>AC W ρ σ gf q\/q=D) H2 ps ys/\Step W.b W.a H1 H2/\ps.length<=i,⟨xs.length,by simp,Nat.zero_le _,[],h0,Al,rfl,stD hD (Step.refl ok1.bag),Nat.le_refl _⟩,?_⟩
 rintro i m ys H2 ⟨rfl,hi,ps,hI,eD,rps,s2,hpl⟩
 refine⟨eD,?_⟩
 have ok2:=ok1.step s2
 have nDb:=ok1.bag.nb hD
 have nDa:=ok1.bag.na hD
 obtain⟨j1,j2,j3⟩:=jC (λp=>W.O p\/p=D) ρ σ H2 ⟨λp z=>z.elim .inl λz=>.inr (z▸hD),rfl,rfl,ok2,s2⟩ i
 by_cases hlt:i<xs.length
 ·refine .inr ⟨j1 hlt,λzs H'=>∃ps,I (i+1) ps/\H' D=some (.lst zs)/\AB W.b (λq=>AC W ρ σ gf q\/q=D) H' ps zs/\Step W.b W.a H1 H'/\ps.length<=i+1,λzs H' ⟨ps,z⟩=>⟨xs.length - (i+1),by lia,rfl,hlt,ps,z⟩,λv H3 y=>?_⟩
  have hx:xs[i]?=some xs[i]:=by simp[hlt]
  obtain⟨y1,y2⟩:=j3 v H3 y _ hx
  have okb:=Rs ok1 hp hD s2 eD
  have y3:RF (W.blk ρ σ D) (Ch ρ qB) (L2.picked σ qB) H2 f H3 xs[i] v:=by
   have sub:∀{f:Fl} {q:Addr},AC (W.blk ρ σ D) (Ch ρ qB) (L2.picked σ qB) f q->AC { W with O:=λp=>W.O p\/p=D } ρ σ f q:=λ{f q} z=>by
    have k:Ow (W.blk ρ σ D) (Ch ρ qB) (L2.picked σ qB) q->Ow { W with O:=λp=>W.O p\/p=D } ρ σ q:=λz=>by
     rcases z with(z|z|z)|z
     ·exact .inl (.inl z)
     ·exact .inr z
     ·exact .inl (.inr z)
     ·exact .inr (MF ok1 z)
    cases f<;>simp only[AC]at z ⊢
    ·exact z.elim .inl λz=>.inr (z.elim (λz=>.inl (k z)) .inr)
    ·exact z.elim .inl λz=>.inr (z.elim (λz=>.inl (k z)) .inr)
    ·exact z.elim .inl λz=>.inr (k z)
    ·exact z.elim .inl λz=>.inr (z.elim (λz=>.inl (k z)) .inr)
    ·exact z
    ·exact z
   have kp:∀{f:Fl},Rp W.b (AC { W with O:=λp=>W.O p\/p=D } ρ σ f) H3 xs[i] v->Rp W.b (AC (W.blk ρ σ D) (Ch ρ qB) (L2.picked σ qB) f) H3 xs[i] v:=λ{f} h=>h.keep (λq o hz e=>⟨λz=>hz (sub z),e⟩) λq us e=>e
   cases f with
   |bo=>exact absurd rfl hfb
   |nw=>exact⟨kp (f:=.fr) y2.1,y2.2⟩
   |fr=>exact kp (f:=.fr) y2
   |cl=>exact kp (f:=.cl) y2
   |rf=>exact kp (f:=.rf) y2
   |an=>exact kp (f:=.an) y2
  have keepD:∀{Ha Hb:Hp},Step W.b W.a Ha Hb->Ha D=some (.lst ys)->Hb D=some (.lst ys):=λs e=>s.same D _ nDb e
  have keepR:∀{Ha Hb:Hp} {o:HO},Bag Ha W.b W.a->Ha D=some (.lst ys)->Step W.b W.a Ha Hb->AB W.b (λq=>AC W ρ σ gf q\/q=D) Ha ps ys->AB W.b (λq=>AC W ρ σ gf q\/q=D) (AE Hb D o) ps ys:=λ{Ha Hb o} hb eDa s h =>
   h.keep (λq u hz e=>⟨hz,by rw[AV (λz=>hz (.inr z))];exact s.same q u (λz=>hz (.inl (z▸AC.b))) e⟩) λq us e=>by
    rw[AV (λz=>by rw[z,eDa]at e;cases e)]
    exact s.same q _ (hb.neT e).1 e
  have keepR':∀{Ha Hb:Hp},Bag Ha W.b W.a->Step W.b W.a Ha Hb->AB W.b (λq=>AC W ρ σ gf q\/q=D) Ha ps ys->AB W.b (λq=>AC W ρ σ gf q\/q=D) Hb ps ys:=λ{Ha Hb} hb s h =>
   h.keep (λq u hz e=>⟨hz,s.same q u (λz=>hz (.inl (z▸AC.b))) e⟩) λq us e=>s.same q _ (hb.neT e).1 e
  refine hg (W.blk ρ σ D) _ _ H2 H3 _ f v _ _ okb y1 y3 (hturn i _ ps hx hI) λρ4 σ4 k4 ok4=>?_
  refine ht (W.blk ρ σ D) ρ4 σ4 H3 _ _ ok4 k4 λc H5 k5 s5=>?_
  have s25:=y1.trans s5
  cases c with
  |false=>exact⟨ps,k5,keepD s25 eD,keepR' ok2.bag s25 rps,s2.trans s25,by lia⟩
  |true =>
   refine he (W.blk ρ σ D) ρ4 σ4 H5 _ _ (ok4.step s5) k5 λy h u H6 ⟨k6,k7⟩ s6 r6=>?_
   have s26:=s25.trans s6
   refine⟨keepD s26 eD,?_,ps++[y],k7,Al,?_,stD hD (s2.trans s26),by rw[length_append];simp;lia⟩
   ·have:=rps.length
    have e16:sizeLine=16777216:=rfl
    lia
   ·refine(keepR ok2.bag eD s26 rps).snoc ?_
    have r7:=Rt (D:=D) (ok4.step (s5.trans s6)) hgf r6 k6
    refine r7.keep (λq u hz e=>⟨hz,by rw[AV (λz=>hz (.inr z))];exact e⟩) λq us e=>by
     rw[AV (λz=>by rw[z,keepD s26 eD]at e;cases e)]
     exact e
 ·have e:i=xs.length:=by lia
  subst e
  refine .inl ⟨j2 (Nat.le_refl _),q _ gf _ H2 (hend ps hI) (s1.trans s2) ?_⟩
  have nz:∀g,¬AC W ρ σ g D:=λg z=>ok1.dom z hD
  have rps2:AB W.b (AC W ρ σ gf) H2 ps ys:=rps.keep (λq o hz e=>⟨λz=>hz (.inl z),e⟩) λq us e=>e
  rcases hgf with rfl|rfl
  ·exact⟨⟨D,ys,rfl,nz .fr,eD,rps2⟩,λ_=>⟨D,rfl,s1.free hD⟩⟩
  ·exact⟨D,ys,rfl,nz .cl,eD,rps2⟩
end
section
variable{ι:Type}{Xs:ι->Cx}{N':List Str}{elt iter:Expr}{ifs:List Expr}{sc:Scope}{pi:pI}{pg:pG}{pt:pT}
noncomputable abbrev Ip(Xs:ι->Cx)(N':List Str)(scope:Scope):ι×CompP->Cx:=λq=>(Xs q.1).comp N' scope q.2
def Iq(Xs:ι->Cx)(qB:List (Option Nat))(tg:Expr)(p:pG):Prop:=∃g,(∀i,PG (Xs i) tg g)/\FB g p/\E2 qB g
def Ir(Xs:ι->Cx)(ifs:List Expr)(p:pT):Prop:=∃t,(∀i,E1 (Xs i) ifs t)/\Du t p
def MG:pT:=λ_ K=>K true
theorem Bp:Ir Xs [] MG:=⟨_,λ_=>LH,λW ρ σ H Q K ok h q=>q true H h (Step.refl ok.bag)⟩
theorem Rv(h:QT Xs c pt):Ir Xs [c] pt:=let⟨t,h1,h2⟩:=h;⟨t,λi=>Qv (h1 i),h2⟩
theorem Ci{k:Nat}(hp:qB[k]?=some none)(hN:∀i,(Xs i).N.Nodup)(hi:∀i,(Xs i).N[k]?=some x:=by intro _;rfl)(hx:∀i,DQ (Xs i).env.scope x:=by intro _;trivial)
  (hf:∀i,(Xs i).fn x=true\/(Xs i).env.scope.names.lookup x=some .local:=by intro _;trivial):Iq Xs qB (.Name x pos) (A9 k):=⟨_,λi=>A8 (hN i) (hi i) (hx i) (hf i),L3 k,LI hp⟩
theorem D2{k1:Nat}(hp:qB[i]?=some none)(hp':qB[j]?=some none)(hc:∀i,(Xs i).calm=true)(hK:∀i,(Xs i).K=Kf)(h:∀q,EE (Xs q) es (Dz [i,j]))
  (hn:∀i,(assignEach es (Xs i).env).length=2:=by intro _;rfl) (hst:∀i,(assignEach es (Xs i).env).findIdx? (·.1)=none:=by intro _;rfl):Iq Xs qB (.Tuple es k1 pos) (FC [i,j]) :=
 ⟨Es Kf 2 (Dz [i,j]),λi=>by have:=KW (k:=k1) (pos:=pos) (hc i) (h i) (hn i) (hst i);rw[hK i]at this;exact this,L5 rfl,Qx hp hp'⟩
theorem Bi(S:CompScope N sc N' qB scope)(hp:GY qB)(hc:∀i,(Xs i).calm=true)(hi:QI Xs tg iter pi)(hg:Iq (Ip Xs N' scope) qB tg pg)(ht:Ir (Ip Xs N' scope) ifs pt)(he:QE (Ip Xs N' scope) elt pe)
  (hN:∀i,(Xs i).N=N:=by intro _;rfl) (hsc:∀i,(Xs i).env.scope=sc:=by intro _;rfl) (hs:∀i,∀x,foldedSetIterable iter (Xs i).env x=pure x:=by intro _ _;rfl) :
  QE Xs (.ListComp elt [⟨tg,iter,ifs,0⟩] scope pos) (Im pi qB pg pt pe):=by
 obtain⟨wi,i1,i2⟩:=hi
 obtain⟨g,g1,g2,g3⟩:=hg
 obtain⟨tt,t1,t2⟩:=ht
 obtain⟨te,e1,e2⟩:=he
 exact⟨_,λi=>LJ S (hc i) (i1 i) g3 (λp=>g1 (i,p)) (λp=>t1 (i,p)) (λp=>e1 (i,p)) (hN i) (hsc i) (hs i),Ru hp i2 g2 t2 e2⟩
end
theorem MH{h:Fl}(hi:y.imm=true):As y h=.nw:=by cases h<;>simp[As,hi]
section
variable{α:Type}{as:List α}{enc:α->P}{step:P->(Option (P×Fl)->Prop)->Prop}{K:P->Fl->Prop}
theorem MI{x:P}(h:(as.map enc)[i]?=some x):∃a,as[i]?=some a/\a∈as/\x=enc a/\as.take (i+1)=as.take i++[a]:=by
 rw[getElem?_map]at h
 cases ha:as[i]? with
 |none=>rw[ha]at h;cases h
 |some a =>
  rw[ha]at h
  exact⟨a,rfl,mem_of_getElem? ha,(oI h).symm,by rw[take_add_one,ha];rfl⟩
theorem A3.filter(t:α->Bool)(g:α->P)(hi:∀a∈as,t a=true->(g a).imm=true)(hs:∀a∈as,∀M:Option (P×Fl)->Prop,(∀h,M (if t a=true then some (g a,h)else none))->step (enc a) M)(hK:K (.lst ((as.filter t).map g)) .nw):A3 (as.map enc) step K:=by
 refine⟨.nw,λi ys=>ys=((as.take i).filter t).map g,.inl rfl,rfl,λi x ys hx hys=>?_,λys hys=>?_⟩
 ·obtain⟨a,_,hm,rfl,ht⟩:=MI hx
  subst hys
  refine hs a hm _ λh=>?_
  have key:((as.take (i+1)).filter t).map g=((as.take i).filter t).map g++if t a=true then [g a]else []:=by
   rw[ht,filter_append,map_append]
   cases e:t a<;>simp[e]
  cases e:t a
  ·show((as.take i).filter t).map g=((as.take (i+1)).filter t).map g
   rw[key,e];simp
  ·refine⟨by rw[MH (hi a hm e)];rfl,?_⟩
   show((as.take i).filter t).map g++[g a]=((as.take (i+1)).filter t).map g
   rw[key,e];simp
 ·rw[length_map,take_length]at hys
  subst hys
  exact hK
theorem A3.map(g:α->P)(hi:∀a∈as,(g a).imm=true)(hs:∀a∈as,∀M:Option (P×Fl)->Prop,(∀h,M (some (g a,h)))->step (enc a) M)(hK:K (.lst (as.map g)) .nw):A3 (as.map enc) step K :=
 A3.filter (λ_=>true) g (λa m _=>hi a m) (λa m M h=>hs a m M h) (by rw[filter_eq_self.mpr λ_ _=>rfl];exact hK)
inductive Each{α β:Type}(R:α->β->Prop):List α->List β->Prop where
 |nil:Each R [] []
 |cons {a b as bs}:R a b->Each R as bs->Each R (a::as) (b::bs)
theorem Each.snoc{β:Type}{R:α->β->Prop}{a:α}{b:β}(h:R a b):∀{as:List α} {bs:List β},Each R as bs->Each R (as++[a]) (bs++[b])
 |_,_,.nil=>.cons h .nil
 |_,_,.cons r t=>.cons r (Each.snoc h t)
theorem Each.length{β:Type}{R:α->β->Prop}:∀{as:List α} {bs:List β},Each R as bs->as.length=bs.length
 |_,_,.nil=>rfl
 |_,_,.cons _ t=>by rw[length_cons,length_cons,Each.length t]
theorem Each.mem{β:Type}{R:α->β->Prop}:∀{as:List α} {bs:List β},Each R as bs->∀b∈bs,∃a∈as,R a b
 |_,_,.nil,b,h=>by cases h
 |_,_,.cons r t,b,h=>by
  rcases mem_cons.mp h with rfl|h
  ·exact⟨_,mem_cons_self,r⟩
  ·obtain⟨a,h1,h2⟩:=Each.mem t b h
   exact⟨a,mem_cons_of_mem _ h1,h2⟩
theorem A3.rel{β:Type}(g:β->P)(R:α->β->Prop)(hs:∀a∈as,∀M:Option (P×Fl)->Prop,(∀b h,R a b->M (some (g b,h)))->step (enc a) M)(hg:∀b,(g b).imm=true)(hK:∀bs,Each R as bs->K (.lst (bs.map g)) .nw):A3 (as.map enc) step K:=by
 refine⟨.nw,λi ys=>∃bs,ys=bs.map g/\Each R (as.take i) bs,.inl rfl,⟨[],rfl,.nil⟩,λi x ys hx hys=>?_,λys hys=>?_⟩
 ·obtain⟨a,_,hm,rfl,ht⟩:=MI hx
  obtain⟨bs,rfl,he⟩:=hys
  refine hs a hm _ λb h hr=>⟨by rw[MH (hg b)];rfl,bs++[b],by simp,?_⟩
  rw[ht]
  exact he.snoc hr
 ·obtain⟨bs,rfl,he⟩:=hys
  rw[length_map,take_length]at he
  exact hK bs he
end
def CW(C:Int->Int->Prop)(g:Int->Int->P):p2:=λx _ y _ K=>match x,y with
 |.int i,.int j=>C i j/\K (g i j) .fr
 |_,_=>False
noncomputable abbrev CT:Int->Int->Prop:=λ_ _=>True
noncomputable def Ak:P->Option V
 |.non=>some .non|.bl k=>some (.bl k)|.int i=>some (.int i)|.str x=>some (.str x)|_=>none
theorem Iu{x:P}(h:Ak x=some v):RF W ρ σ Hs .fr H x v:=by
 cases x<;>simp only[Ak]at h<;>first|(cases h;rfl)|cases h
section
variable{C:Int->Int->Prop}{g:Int->Int->V}{gp:Int->Int->P}
theorem Rw(hg:∀i j,Ak (gp i j)=some (g i j)):Au (rI C g) (CW C gp):=λW ρ σ Hs H Q K x y f h v u ok st rx ry hp q=>by
 unfold CW at hp
 split at hp
 ·cases Bw ok rx
  cases Bw ok ry
  exact⟨_,_,rfl,rfl,hp.1,q _ _ _ H hp.2 (Step.refl ok.bag) (Iu (hg _ _))⟩
 ·exact hp.elim
theorem ET(hg:∀i j,Ak (gp i j)=some (g i j)):Au (Bu g) (CW CT gp):=λW ρ σ Hs H Q K x y f h v u ok st rx ry hp q=>by
 unfold CW at hp
 split at hp
 ·cases Bw ok rx
  cases Bw ok ry
  exact⟨_,_,rfl,rfl,q _ _ _ H hp.2 (Step.refl ok.bag) (Iu (hg _ _))⟩
 ·exact hp.elim
end
abbrev Rx:p2:=CW CT λi j=>.int (i+j)
abbrev Ry:p2:=CW CT λi j=>.int (i - j)
abbrev Rz:p2:=CW Fw λi j=>.int (i ^ j.toNat)
abbrev R0:p2:=CW CT λi j=>.bl (decide (i<j))
abbrev R1:p2:=CW CT λi j=>.bl (decide (i<=j))
abbrev R3:p2:=CW CT λi j=>.bl (decide (j<i))
abbrev R4:p2:=CW CT λi j=>.bl (decide (j<=i))
theorem R5:Au (Bu λi j=>.int (i+j)) Rx:=ET λ_ _=>rfl
theorem Gb:Au (Bu λi j=>.int (i - j)) Ry:=ET λ_ _=>rfl
theorem FF:Au (rI Fw λi j=>.int (i ^ j.toNat)) Rz:=Rw λ_ _=>rfl
theorem MJ:Au (Bu λi j=>.bl (decide (i<j))) R0:=ET λ_ _=>rfl
theorem EU:Au (Bu λi j=>.bl (decide (i<=j))) R1:=ET λ_ _=>rfl
theorem MK:Au (Bu λi j=>.bl (decide (j<i))) R3:=ET λ_ _=>rfl
theorem ML:Au (Bu λi j=>.bl (decide (j<=i))) R4:=ET λ_ _=>rfl
section
variable{ι:Type}{Xs:ι->Cx}{a b:Expr}
end
def EV(C:Str->Str->Prop)(g:Str->Str->P):p2:=λx _ y _ K=>match x,y with
 |.str i,.str j=>C i j/\K (g i j) .fr
 |_,_=>False
theorem Iv{r:R2}{C:Str->Str->Prop}{gp:Str->Str->P}{g:Str->Str->V}(hg:∀i j,Ak (gp i j)=some (g i j))(hr:∀i j H Q,C i j->Q (g i j) H->r (.str i) (.str j) H Q):Au r (EV C gp):=λW ρ σ Hs H Q K x y f h v u ok st rx ry hp q=>by
 unfold EV at hp
 split at hp
 ·cases Bo ok rx
  cases Bo ok ry
  exact hr _ _ H Q hp.1 (q _ _ _ H hp.2 (Step.refl ok.bag) (Iu (hg _ _)))
 ·exact hp.elim
noncomputable abbrev ST:Str->Str->Prop:=λ_ _=>True
abbrev R6:p2:=EV (λi j=>i.length+j.length<=16777216) λi j=>.str (i++j)
abbrev R7:p2:=EV ST λi j=>.bl (decide (i.cps.toList<j.cps.toList))
abbrev R8:p2:=EV ST λi j=>.bl (!decide (j.cps.toList<i.cps.toList))
theorem MM:Au (λx y H Q=>∃i j,x=.str i/\y=.str j/\i.length+j.length<=sizeLine/\Q (.str (i++j)) H) R6:=Iv (g:=λi j=>.str (i++j)) (λ_ _=>rfl) λi j H Q c q=>⟨i,j,rfl,rfl,c,q⟩
theorem R9:Au (λx y H Q=>∃i j,x=.str i/\y=.str j/\Q (.bl (decide (i.cps.toList<j.cps.toList))) H) R7:=Iv (g:=λi j=>.bl (decide (i.cps.toList<j.cps.toList))) (λ_ _=>rfl) λi j H Q c q=>⟨i,j,rfl,rfl,q⟩
theorem Gc:Au (λx y H Q=>∃i j,x=.str i/\y=.str j/\Q (.bl (!decide (j.cps.toList<i.cps.toList))) H) R8:=Iv (g:=λi j=>.bl (!decide (j.cps.toList<i.cps.toList))) (λ_ _=>rfl) λi j H Q c q=>⟨i,j,rfl,rfl,q⟩
noncomputable def P.isNon:P->Bool
 |.non=>true|_=>false
def FH:p2:=λx f y _ K=>match x,y with
 |.lst xs,.int i=>∃z,atI xs i=some z/\K z f.el
 |.tup xs,.int i=>∃z,atI xs i=some z/\K z f.el
 |.str z,.int i=>z.length<=16777216/\∃c,atI z.cps.toList i=some c/\K (.str ⟨#[c]⟩) .fr
 |_,_=>False
theorem AB.atI{b:Addr}{i:Int}{z:P}(h:AB b Z H xs vs)(e:L2.atI xs i=some z):∃v,L2.atI vs i=some v/\Rp b Z H z v:=by
 unfold L2.atI at e ⊢
 rw[h.length]at e
 cases hj:DV vs.length i with
 |none=>rw[hj]at e;cases e
 |some j =>
  rw[hj]at e
  exact h.get (i:=j) e
noncomputable def MN:R2:=λx y H Q=>(∃p i xs,x=.ref p/\y=.int i/\(H p=some (.lst xs)\/H p=some (.tup xs))/\∃v,atI xs i=some v/\Q v H)\/Kw x y H Q
theorem Aa:Dq X MN:=λvalue slice qA s σ H x y v u Q I rx ry h hs=>by
 rcases h with⟨p,i,xs,e1,e2,h,w,hw,q⟩|h
 ·rcases h with h|h
  ·exact Ky value slice qA s σ H x y v u Q I rx ry ⟨p,xs,i,w,e1,e2,.of h,hw,q⟩ hs
  ·exact QK value slice qA s σ H x y v u Q I rx ry ⟨p,xs,i,w,e1,e2,.of h,hw,q⟩ hs
 ·exact Hz value slice qA s σ H x y v u Q I rx ry h hs
theorem Ab:Au MN FH:=λW ρ σ Hs H Q K x y f h v u ok st rx ry hp q=>by
 unfold FH at hp
 split at hp
 ·obtain⟨z,e,hk⟩:=hp
  cases Bw ok ry
  obtain⟨p,vs,rfl,hc,r⟩:=rx.items rfl
  obtain⟨w,e2,r2⟩:=r.atI e
  exact .inl ⟨p,_,vs,rfl,rfl,hc,w,e2,q _ _ _ H hk (Step.refl ok.bag) (RF.ofEl r2)⟩
 ·obtain⟨z,e,hk⟩:=hp
  cases Bw ok ry
  obtain⟨p,vs,rfl,hc,r⟩:=rx.items rfl
  obtain⟨w,e2,r2⟩:=r.atI e
  exact .inl ⟨p,_,vs,rfl,rfl,hc,w,e2,q _ _ _ H hk (Step.refl ok.bag) (RF.ofEl r2)⟩
 ·obtain⟨hz,c,e,hk⟩:=hp
  cases Bw ok ry
  cases Bo ok rx
  exact .inr ⟨_,_,c,rfl,rfl,hz,e,q _ _ _ H hk (Step.refl ok.bag) Ct⟩
 ·exact hp.elim
def pCat:p2:=λx f y g K=>match x,y with
 |.lst xs,.lst ys=>xs.length+ys.length<=16777216/\K (.lst (xs++ys)) ((B5 f xs).join (B5 g ys))
 |.tup xs,.tup ys=>(P.imms xs=true/\P.imms ys=true)/\xs.length+ys.length<=16777216/\K (.tup (xs++ys)) .fr
 |_,_=>False
theorem Cv(ok:Ok W ρ σ H)(r:RF W ρ σ Hs f H (.lst xs) v):∃p vs,v=.ref p/\H p=some (.lst vs)/\AB W.b (AC W ρ σ f) H xs vs:=by
 obtain⟨p,vs,rfl,hc,r2⟩:=r.items rfl
 obtain⟨q,us,e1,_,e3,_⟩:=r.any ok
 cases e1
 rcases hc with hc|hc
 ·exact⟨p,vs,rfl,hc,r2⟩
 ·rw[e3]at hc;cases hc
theorem Cw(ok:Ok W ρ σ H)(r:RF W ρ σ Hs f H (.tup xs) v):∃p vs,v=.ref p/\H p=some (.tup vs)/\AB W.b (AC W ρ σ f) H xs vs:=by
 obtain⟨p,vs,rfl,hc,r2⟩:=r.items rfl
 obtain⟨q,us,e1,e3,_⟩:=r.any ok
 cases e1
 rcases hc with hc|hc
 ·rw[e3]at hc;cases hc
 ·exact⟨p,vs,rfl,hc,r2⟩
theorem Gd{g:Fl}(ok:Ok W ρ σ H)(st:Step W.b W.a Hs H)(hb:g≠.bo)(hf:g≠.fr)(hr:AB W.b (AC W ρ σ g) H xs vs)(hp:H p=none):RF W ρ σ Hs g (AE H p (.lst vs)) (.lst xs) (.ref p):=by
 have:=RF.newL ok st hr hp
 unfold B5 at this
 split at this
 ·rename_i hi
  cases g with
  |bo=>exact absurd rfl hb
  |fr=>exact absurd rfl hf
  |nw=>exact this
  |cl=>exact this.1.keep (λq o hz e=>⟨λz=>hz (z.elim .inl λz=>.inr (.inl z)),e⟩) λq us e=>e
  |rf=>exact this.1.keep (λq o hz e=>⟨λz=>hz (z.elim .inl λz=>.inr (.inr z)),e⟩) λq us e=>e
  |an=>exact this.1.keep (λq o hz e=>⟨λz=>hz (.inl z),e⟩) λq us e=>e
 ·rw[RF.topped hb hf]at this;exact this
theorem BI.one{x:P}(h:BI W ρ σ Hs H [(x,f)] vs):∃v,vs=[v]/\RF W ρ σ Hs f H x v:=by
 obtain⟨v,t,rfl,h2,h3⟩:=h
 cases(show t=[]from h3)
 exact⟨v,rfl,h2⟩
theorem BI.two{x:P}{g:Fl}(h:BI W ρ σ Hs H [(x,f),(y,g)] vs):∃v u,vs=[v,u]/\RF W ρ σ Hs f H x v/\RF W ρ σ Hs g H y u:=by
 obtain⟨v,t,rfl,h2,h3⟩:=h
 obtain⟨u,rfl,h4⟩:=BI.one h3
 exact⟨v,u,rfl,h2,h4⟩
def p1(g:P->Fl->(P->Fl->Prop)->Prop):pC:=λxs K=>match xs with|[(x,f)]=>g x f K|_=>False
def Iw:pC:=p1 λx _ K=>match x with
 |.lst xs=>K (.int xs.length) .fr
 |.tup xs=>K (.int xs.length) .fr
 |.str z=>z.length<=16777216/\K (.int z.length) .fr
 |_=>False
noncomputable def MO:List V->Hp->VK->Prop:=λxs H Q=>(∃p ys,xs=[.ref p]/\(H p=some (.lst ys)\/H p=some (.tup ys))/\Q (.int ys.length) H)\/∃z,xs=[.str z]/\z.length<=sizeLine/\Q (.int z.length) H
theorem BP:BH X (.builtin "len") MO:=by
 intro qA s σ H xs us Q I r h
 rcases h with⟨p,ys,rfl,hp,q⟩|h
 ·exact K1 qA s σ H _ us Q I r ⟨p,ys,rfl,hp.elim (λz=>.inl (.of z)) (λz=>.inr (.of z)),q⟩
 ·exact K2 qA s σ H _ us Q I r h
theorem BQ:B1 MO Iw:=λW ρ σ Hs H Q K xs vs ok st r hp q=>by
 unfold Iw p1 at hp
 split at hp
 ·obtain⟨v,rfl,rv⟩:=r.one
  split at hp
  ·obtain⟨p,us,rfl,c,r1⟩:=Cv ok rv
   exact .inl ⟨p,us,rfl,.inl c,by rw[<-r1.length];exact q _ _ _ H hp (Step.refl ok.bag) EQ⟩
  ·obtain⟨p,us,rfl,c,r1⟩:=Cw ok rv
   exact .inl ⟨p,us,rfl,.inr c,by rw[<-r1.length];exact q _ _ _ H hp (Step.refl ok.bag) EQ⟩
  ·cases Bo ok rv
   exact .inr ⟨_,rfl,hp.1,q _ _ _ H hp.2 (Step.refl ok.bag) EQ⟩
  ·exact hp.elim
 ·exact hp.elim
def Ix:pC:=p1 λx f K=>match x with
 |.lst xs=>K (.lst xs) (B5 f xs)
 |.tup xs=>K (.lst xs) (B5 f xs)
 |_=>False
theorem SA:B1 (λxs H Q=>∃p ys,xs=[.ref p]/\(H p=some (.lst ys)\/H p=some (.tup ys))/\∀l,H l=none->Q (.ref l) (AE H l (.lst ys))) Ix:=λW ρ σ Hs H Q K xs vs ok st r hp q=>by
 unfold Ix p1 at hp
 split at hp
 ·obtain⟨v,rfl,rv⟩:=r.one
  split at hp
  ·obtain⟨p,us,rfl,c,r1⟩:=Cv ok rv
   exact⟨p,us,rfl,.inl c,λl hl=>q _ _ _ _ hp (Step.new ok.bag hl) (RF.newL ok st r1 hl)⟩
  ·obtain⟨p,us,rfl,c,r1⟩:=Cw ok rv
   exact⟨p,us,rfl,.inr c,λl hl=>q _ _ _ _ hp (Step.new ok.bag hl) (RF.newL ok st r1 hl)⟩
  ·exact hp.elim
 ·exact hp.elim
def Iy:pC:=p1 λx f K=>match x with
 |.lst xs=>K (.tup xs) (B5 f xs)
 |_=>False
theorem Gf:B1 (λxs H Q=>∃p ys,xs=[.ref p]/\H p=some (.lst ys)/\∀l,H l=none->Q (.ref l) (AE H l (.tup ys))) Iy:=λW ρ σ Hs H Q K xs vs ok st r hp q=>by
 unfold Iy p1 at hp
 split at hp
 ·obtain⟨v,rfl,rv⟩:=r.one
  split at hp
  ·obtain⟨p,us,rfl,c,r1⟩:=Cv ok rv
   exact⟨p,us,rfl,c,λl hl=>q _ _ _ _ hp (Step.new ok.bag hl) (RF.newT ok r1 hl)⟩
  ·exact hp.elim
 ·exact hp.elim
def Iz:pC:=p1 λx f K=>∃bs:List Bool,x=.lst (bs.map P.bl)/\K (.bl (bs.all id)) .fr
theorem DL:B1 (λxs H Q=>∃(p:Addr) (bs:List Bool),xs=[.ref p]/\Am Kf H p (bs.map V.bl)/\Q (.bl (bs.all id)) H) Iz:=λW ρ σ Hs H Q K xs vs ok st r hp q=>by
 unfold Iz p1 at hp
 split at hp
 ·obtain⟨v,rfl,rv⟩:=r.one
  obtain⟨bs,rfl,hk⟩:=hp
  obtain⟨p,us,rfl,c,r1⟩:=Cv ok rv
  rw[AB.bls.mp r1]at c
  exact⟨p,bs,rfl,.of c,q _ _ _ H hk (Step.refl ok.bag) DH⟩
 ·exact hp.elim
def I0:pC:=p1 λx f K=>∃ss:List Str,x=.lst (ss.map P.str)/\ss.length<64/\∀ss':List Str,ss'.Perm ss->sortedS ss'=true->K (.lst (ss'.map P.str)) .nw
theorem SB:B1 (λxs H Q=>∃(p:Addr) (ss:List Str),xs=[.ref p]/\H p=some (.lst (ss.map V.str))/\ss.length<64/\∀(l:Addr) (ss':List Str),H l=none->ss'.Perm ss->sortedS ss'=true->Q (.ref l) (AE H l (.lst (ss'.map V.str)))) I0:=λW ρ σ Hs H Q K xs vs ok st r hp q=>by
 unfold I0 p1 at hp
 split at hp
 ·obtain⟨v,rfl,rv⟩:=r.one
  obtain⟨ss,rfl,h64,hk⟩:=hp
  obtain⟨p,us,rfl,c,r1⟩:=Cv ok rv
  rw[AB.strs.mp r1]at c
  exact⟨p,ss,rfl,c,h64,λl ss' hl h1 h2=>q _ _ _ _ (hk ss' h1 h2) (Step.new ok.bag hl) (Gd (g:=.nw) ok st (by simp) (by simp) (AB.strs.mpr rfl) hl)⟩
 ·exact hp.elim
noncomputable def EW:P->String
 |.non=>"NoneType" | .bl _=>"bool" | .int _=>"int" | .str _=>"str" | .tup _=>"tuple" | .lst _=>"list" | .dT _ _=>"dict" | .dK _ _=>"dict" | .fT _ _=>"dict" | .bag=>"list"
noncomputable def FI(n:String)(x:P):Bool:=decide (EW x=n)||(decide (n="int")&&decide (EW x="bool"))
def MP(n:String)(p:pE):pE:=λρ K=>p ρ λx _=>K (.bl (FI n x)) .fr
theorem SC(K:Fg){n:String}(hn:n="bool"\/n="int"\/n="tuple"\/n="list"\/n="str")(x:P):PySem.W.kitOne K (.type (EW x)) (.type n)=some (FI n x):=by
 rcases hn with rfl|rfl|rfl|rfl|rfl<;>cases x<;>rfl
theorem SD{K:Fg}{b:Addr}{x:P}(hb:Bag H b a)(h:Rp b Z H x v):TyOf K H v (.type (EW x)):=by
 cases x with
 |non=>rw[show v=_ from h];exact .non
 |bl k=>rw[show v=_ from h];exact .bl k
 |int k=>rw[show v=_ from h];exact .int k
 |str k=>rw[show v=_ from h];exact .str k
 |bag=>rw[show v=_ from h];obtain⟨l,e⟩:=hb.atb;exact .lst e
 |tup xs=>obtain⟨p,vs,e,e2,_⟩:=h;rw[e];exact .tup e2
 |lst xs=>obtain⟨p,vs,e,_,e2,_⟩:=h;rw[e];exact .lst e2
 |dT ks xs=>obtain⟨p,vs,e,_,e2,_⟩:=h;rw[e];exact .dT e2
 |fT ks xs=>obtain⟨p,vs,e,_,⟨o,e2⟩,_⟩:=h;rw[e];exact .fT e2
 |dK ks xs=>obtain⟨p,vs,e,_,e2,_⟩:=h;rw[e];exact .dK e2
section
variable{ι:Type}{Xs:ι->Cx}{a:Expr}
theorem CD{n:String}{p1 p2:Pos}(hn:n="bool"\/n="int"\/n="tuple"\/n="list"\/n="str")(hK:∀i,(Xs i).K=Kf)(hm:∀i,(Xs i).mg "isinstance"=none)(hm2:∀i,(Xs i).mg x=none)(hv2:bootBuiltins x=some (.type n))(h:QE Xs a pa)
  (hg:∀i,Gl (Xs i) "isinstance":=by intro _;rfl) (hg2:∀i,Gl (Xs i) x:=by intro _;rfl) (hx:x≠"__name__":=by decide +kernel) (hdx:(x==("__debug__":Str))=false:=by decide +kernel)
  (he:∀i,starEach [a,.Name x p2] (Xs i).env=[(false,eval a (Xs i).env),(false,eval (.Name x p2) (Xs i).env)]:=by intro _;rfl) :
  QE Xs (.Call (.Name "isinstance" p1) [a,.Name x p2] [] pos) (MP n pa):=by
 obtain⟨t,h1,h2⟩:=h
 refine⟨F1 (λxs H Q=>∃x t n b,xs=[x,.ty n]/\TyOf Kf H x t/\PySem.W.kitOne Kf t (.type n)=some b/\Q (.bl b) H) (Bl t (Bl (tC (.ty n)) CC)),λi=>?_,λW ρ σ H Q K ok hk q=>h2 W ρ σ H _ _ ok hk λx f v H1 k1 s1 r1=>?_⟩
 ·have hc:BH (Xs i) (.builtin "isinstance") (λxs H Q=>∃x t n b,xs=[x,.ty n]/\TyOf Kf H x t/\PySem.W.kitOne Kf t (.type n)=some b/\Q (.bl b) H):=by
   rw[<-hK i];exact Q7
  refine EN hc (hg i) (hm i) nofun (Ad (h1 i) (Ad (Oy (v:=.ty n) (hg2 i) (hm2 i) hv2 rfl hx hdx) Ay (by rfl)) ?_) nofun nofun ?_ ?_
  ·exact he i
  ·exact he i
  ·rfl
 ·exact⟨v,.type (EW x),n,_,rfl,SD s1.bag (r1.any (ok.step s1)),SC Kf hn x,q _ _ _ H1 k1 s1 DH⟩
end
end L2
namespace L2
open PySem PySem.Spec PyProof.Rows PySem.SeqAt
mutual
noncomputable def AG:P->P->Bool
 |.non,.non=>true
 |.bl a,.bl b=>a==b
 |.int a,.int b=>a==b
 |.str a,.str b=>a==b
 |.bl a,.int b=>(if a then 1 else 0)==b
 |.int a,.bl b=>a==(if b then 1 else 0)
 |.tup xs,.tup ys=>A1 xs ys
 |.lst xs,.lst ys=>A1 xs ys
 |_,_=>false
noncomputable def A1:List P->List P->Bool
 |[],[]=>true
 |x::xs,y::ys=>AG x y&&A1 xs ys
 |_,_=>false
end
noncomputable def P.pl:Nat->P->Bool
 |_,.non=>true|_,.bl _=>true|_,.int _=>true|_,.str _=>true
 |n+1,.tup xs=>xs.all (P.pl n)
 |n+1,.lst xs=>xs.all (P.pl n)
 |_,_=>false
theorem MQ:∀{xs ys:List P} {e:Nat->Bool},(∀j x y,xs[j]?=some x->ys[j]?=some y->e j=AG x y)->((List.range (min xs.length ys.length)).all e&&xs.length==ys.length)=A1 xs ys
 |[],[],e,_=>rfl
 |[],_::_,e,_=>by simp[A1]
 |_::_,[],e,_=>by simp[A1]
 |x::xs,y::ys,e,h=>by
  have ih:=MQ (xs:=xs) (ys:=ys) (e:=λj=>e (j+1)) λj a b h1 h2=>h (j+1) a b (by simpa using h1) (by simpa using h2)
  have h0:=h 0 x y rfl rfl
  rw[A1,<-ih,<-h0]
  have e1:min (x::xs).length (y::ys).length=min xs.length ys.length+1:=by simp
  rw[e1,range_succ_eq_map,all_cons,all_map]
  have e2:((x::xs).length==(y::ys).length)=(xs.length==ys.length):=by
   rw[Bool.eq_iff_iff];simp
  rw[e2,Bool.and_assoc]
  rfl
theorem B3{x:P}(sx:Ak x=some v)(q:AI v v'):(x=.non/\v'=.none)\/(∃b,x=.bl b/\v'=.bool b)\/(∃i t,x=.int i/\v'=.int i t)\/∃z t,x=.str z/\v'=.str z t:=by
 cases x with
 |non=>cases(oI (show some _=some v from sx));exact .inl ⟨rfl,q⟩
 |bl b=>cases(oI (show some _=some v from sx));exact .inr (.inl ⟨b,rfl,q⟩)
 |int i=>cases(oI (show some _=some v from sx));obtain⟨t,e⟩:=(show∃t,_=Value.int _ t from q);exact .inr (.inr (.inl ⟨i,t,rfl,e⟩))
 |str i=>cases(oI (show some _=some v from sx));obtain⟨t,e⟩:=(show∃t,_=Value.str _ t from q);exact .inr (.inr (.inr ⟨i,t,rfl,e⟩))
 |_=>cases sx
theorem MR{x:P}{u:V}(sx:Ak x=some v)(sy:Ak y=some u)(qv:AI v v')(qu:AI u u'):EqAt A s v' u' (AG x y):=by
 rcases B3 sx qv with⟨rfl,rfl⟩|⟨_,rfl,rfl⟩|⟨_,_,rfl,rfl⟩|⟨_,_,rfl,rfl⟩
 ·rcases B3 sy qu with⟨rfl,rfl⟩|⟨_,rfl,rfl⟩|⟨_,_,rfl,rfl⟩|⟨_,_,rfl,rfl⟩<;>simp only[AG,Bool.not_false,Bool.not_true]
  ·exact EqAt.same _
  ·exact EqAt.none_bool _
  ·exact EqAt.none_int _ _
  ·exact EqAt.none_str _ _
 ·rcases B3 sy qu with⟨rfl,rfl⟩|⟨_,rfl,rfl⟩|⟨_,_,rfl,rfl⟩|⟨_,_,rfl,rfl⟩<;>simp only[AG,Bool.not_false,Bool.not_true]
  ·exact EqAt.bool_none _
  ·exact EqAt.bool_bool _ _
  ·exact EqAt.bool_int _ _ _
  ·exact EqAt.bool_str _ _ _
 ·rcases B3 sy qu with⟨rfl,rfl⟩|⟨_,rfl,rfl⟩|⟨_,_,rfl,rfl⟩|⟨_,_,rfl,rfl⟩<;>simp only[AG,Bool.not_false,Bool.not_true]
  ·exact EqAt.int_none _ _
  ·exact EqAt.int_bool _ _ _
  ·exact EqAt.int_int _ _ _ _
  ·exact EqAt.int_str _ _ _ _
 ·rcases B3 sy qu with⟨rfl,rfl⟩|⟨_,rfl,rfl⟩|⟨_,_,rfl,rfl⟩|⟨_,_,rfl,rfl⟩<;>simp only[AG,Bool.not_false,Bool.not_true]
  ·exact EqAt.str_none _ _
  ·exact EqAt.str_bool _ _ _
  ·exact EqAt.str_int _ _ _ _
  ·exact EqAt.str_str _ _ _ _
theorem SE{x:P}{u:V}(sx:Ak x=some v)(sy:Ak y=some u)(qv:AI v v')(qu:AI u u'):RcNeAt A s v' u' (!AG x y):=by
 rcases B3 sx qv with⟨rfl,rfl⟩|⟨_,rfl,rfl⟩|⟨_,_,rfl,rfl⟩|⟨_,_,rfl,rfl⟩
 ·rcases B3 sy qu with⟨rfl,rfl⟩|⟨_,rfl,rfl⟩|⟨_,_,rfl,rfl⟩|⟨_,_,rfl,rfl⟩<;>simp only[AG,Bool.not_false,Bool.not_true]
  ·exact RcNeAt.none_none
  ·exact RcNeAt.none_bool _
  ·exact RcNeAt.none_int _ _
  ·exact RcNeAt.none_str _ _
 ·rcases B3 sy qu with⟨rfl,rfl⟩|⟨_,rfl,rfl⟩|⟨_,_,rfl,rfl⟩|⟨_,_,rfl,rfl⟩<;>simp only[AG,Bool.not_false,Bool.not_true]
  ·exact RcNeAt.bool_none _
  ·exact RcNeAt.bool_bool _ _
  ·exact RcNeAt.bool_int _ _ _
  ·exact RcNeAt.bool_str _ _ _
 ·rcases B3 sy qu with⟨rfl,rfl⟩|⟨_,rfl,rfl⟩|⟨_,_,rfl,rfl⟩|⟨_,_,rfl,rfl⟩<;>simp only[AG,Bool.not_false,Bool.not_true]
  ·exact RcNeAt.int_none _ _
  ·exact RcNeAt.int_bool _ _ _
  ·exact RcNeAt.int_int _ _ _ _
  ·exact RcNeAt.int_str _ _ _ _
 ·rcases B3 sy qu with⟨rfl,rfl⟩|⟨_,rfl,rfl⟩|⟨_,_,rfl,rfl⟩|⟨_,_,rfl,rfl⟩<;>simp only[AG,Bool.not_false,Bool.not_true]
  ·exact RcNeAt.str_none _ _
  ·exact RcNeAt.str_bool _ _ _
  ·exact RcNeAt.str_int _ _ _ _
  ·exact RcNeAt.str_str _ _ _ _
theorem SF{x:P}{u:V}(sx:Ak x=some v)(sy:Ak y=some u)(qv:AI v v')(qu:AI u u'):RcAt A s v' u' (AG x y):=by
 rcases B3 sx qv with⟨rfl,rfl⟩|⟨_,rfl,rfl⟩|⟨_,_,rfl,rfl⟩|⟨_,_,rfl,rfl⟩
 ·rcases B3 sy qu with⟨rfl,rfl⟩|⟨_,rfl,rfl⟩|⟨_,_,rfl,rfl⟩|⟨_,_,rfl,rfl⟩<;>simp only[AG,Bool.not_false,Bool.not_true]
  ·exact RcAt.none_none
  ·exact RcAt.none_bool _
  ·exact RcAt.none_int _ _
  ·exact RcAt.none_str _ _
 ·rcases B3 sy qu with⟨rfl,rfl⟩|⟨_,rfl,rfl⟩|⟨_,_,rfl,rfl⟩|⟨_,_,rfl,rfl⟩<;>simp only[AG,Bool.not_false,Bool.not_true]
  ·exact RcAt.bool_none _
  ·exact RcAt.bool_bool _ _
  ·exact RcAt.bool_int _ _ _
  ·exact RcAt.bool_str _ _ _
 ·rcases B3 sy qu with⟨rfl,rfl⟩|⟨_,rfl,rfl⟩|⟨_,_,rfl,rfl⟩|⟨_,_,rfl,rfl⟩<;>simp only[AG,Bool.not_false,Bool.not_true]
  ·exact RcAt.int_none _ _
  ·exact RcAt.int_bool _ _ _
  ·exact RcAt.int_int _ _ _ _
  ·exact RcAt.int_str _ _ _ _
 ·rcases B3 sy qu with⟨rfl,rfl⟩|⟨_,rfl,rfl⟩|⟨_,_,rfl,rfl⟩|⟨_,_,rfl,rfl⟩<;>simp only[AG,Bool.not_false,Bool.not_true]
  ·exact RcAt.str_none _ _
  ·exact RcAt.str_bool _ _ _
  ·exact RcAt.str_int _ _ _ _
  ·exact RcAt.str_str _ _ _ _
theorem SG{u:V}{l:Addr}(hl:s.heap.IsList l qE)(hu:A.units<cLine)(sy:Ak y=some u)(qu:AI u u'):EqAt A s (.ref l) u' false:=by
 cases y with
 |non=>cases(oI (show some _=some u from sy));cases(show _=Value.none from qu);exact EqAt.list_none hl hu
 |bl _=>cases(oI (show some _=some u from sy));cases(show _=Value.bool _ from qu);exact EqAt.list_bool _ hl hu
 |int _=>cases(oI (show some _=some u from sy));obtain⟨_,e_qu⟩:=(show∃t,_=Value.int _ t from qu);subst e_qu;exact EqAt.list_int _ _ hl hu
 |str _=>cases(oI (show some _=some u from sy));obtain⟨_,e_qu⟩:=(show∃t,_=Value.str _ t from qu);subst e_qu;exact EqAt.list_str _ _ hl hu
 |_=>cases sy
theorem SH{u:V}{l:Addr}(hl:s.heap.IsList l qE)(hu:A.units<cLine)(sy:Ak y=some u)(qu:AI u u'):EqAt A s u' (.ref l) false:=by
 cases y with
 |non=>cases(oI (show some _=some u from sy));cases(show _=Value.none from qu);exact EqAt.none_list hl hu
 |bl _=>cases(oI (show some _=some u from sy));cases(show _=Value.bool _ from qu);exact EqAt.bool_list _ hl hu
 |int _=>cases(oI (show some _=some u from sy));obtain⟨_,e_qu⟩:=(show∃t,_=Value.int _ t from qu);subst e_qu;exact EqAt.int_list _ _ hl hu
 |str _=>cases(oI (show some _=some u from sy));obtain⟨_,e_qu⟩:=(show∃t,_=Value.str _ t from qu);subst e_qu;exact EqAt.str_list _ _ hl hu
 |_=>cases sy
theorem SI{u:V}{l:Addr}(hl:s.heap.IsTuple l qE)(hu:A.units<cLine)(sy:Ak y=some u)(qu:AI u u'):EqAt A s (.ref l) u' false:=by
 cases y with
 |non=>cases(oI (show some _=some u from sy));cases(show _=Value.none from qu);exact EqAt.tuple_none hl hu
 |bl _=>cases(oI (show some _=some u from sy));cases(show _=Value.bool _ from qu);exact EqAt.tuple_bool _ hl hu
 |int _=>cases(oI (show some _=some u from sy));obtain⟨_,e_qu⟩:=(show∃t,_=Value.int _ t from qu);subst e_qu;exact EqAt.tuple_int _ _ hl hu
 |str _=>cases(oI (show some _=some u from sy));obtain⟨_,e_qu⟩:=(show∃t,_=Value.str _ t from qu);subst e_qu;exact EqAt.tuple_str _ _ hl hu
 |_=>cases sy
theorem SJ{u:V}{l:Addr}(hl:s.heap.IsTuple l qE)(hu:A.units<cLine)(sy:Ak y=some u)(qu:AI u u'):EqAt A s u' (.ref l) false:=by
 cases y with
 |non=>cases(oI (show some _=some u from sy));cases(show _=Value.none from qu);exact EqAt.none_tuple hl hu
 |bl _=>cases(oI (show some _=some u from sy));cases(show _=Value.bool _ from qu);exact EqAt.bool_tuple _ hl hu
 |int _=>cases(oI (show some _=some u from sy));obtain⟨_,e_qu⟩:=(show∃t,_=Value.int _ t from qu);subst e_qu;exact EqAt.int_tuple _ _ hl hu
 |str _=>cases(oI (show some _=some u from sy));obtain⟨_,e_qu⟩:=(show∃t,_=Value.str _ t from qu);subst e_qu;exact EqAt.str_tuple _ _ hl hu
 |_=>cases sy
theorem SK{u:V}{l:Addr}(hl:s.heap.IsList l qE)(hu:A.units<cLine)(sy:Ak y=some u)(qu:AI u u'):RcNeAt A s (.ref l) u' true:=by
 cases y with
 |non=>cases(oI (show some _=some u from sy));cases(show _=Value.none from qu);exact RcNeAt.list_none hl hu
 |bl _=>cases(oI (show some _=some u from sy));cases(show _=Value.bool _ from qu);exact RcNeAt.list_bool _ hl hu
 |int _=>cases(oI (show some _=some u from sy));obtain⟨_,e_qu⟩:=(show∃t,_=Value.int _ t from qu);subst e_qu;exact RcNeAt.list_int _ _ hl hu
 |str _=>cases(oI (show some _=some u from sy));obtain⟨_,e_qu⟩:=(show∃t,_=Value.str _ t from qu);subst e_qu;exact RcNeAt.list_str _ _ hl hu
 |_=>cases sy
theorem SL{u:V}{l:Addr}(hl:s.heap.IsList l qE)(hu:A.units<cLine)(sy:Ak y=some u)(qu:AI u u'):RcNeAt A s u' (.ref l) true:=by
 cases y with
 |non=>cases(oI (show some _=some u from sy));cases(show _=Value.none from qu);exact RcNeAt.none_list hl hu
 |bl _=>cases(oI (show some _=some u from sy));cases(show _=Value.bool _ from qu);exact RcNeAt.bool_list _ hl hu
 |int _=>cases(oI (show some _=some u from sy));obtain⟨_,e_qu⟩:=(show∃t,_=Value.int _ t from qu);subst e_qu;exact RcNeAt.int_list _ _ hl hu
 |str _=>cases(oI (show some _=some u from sy));obtain⟨_,e_qu⟩:=(show∃t,_=Value.str _ t from qu);subst e_qu;exact RcNeAt.str_list _ _ hl hu
 |_=>cases sy
theorem SM{u:V}{l:Addr}(hl:s.heap.IsTuple l qE)(hu:A.units<cLine)(sy:Ak y=some u)(qu:AI u u'):RcNeAt A s (.ref l) u' true:=by
 cases y with
 |non=>cases(oI (show some _=some u from sy));cases(show _=Value.none from qu);exact RcNeAt.tuple_none hl hu
 |bl _=>cases(oI (show some _=some u from sy));cases(show _=Value.bool _ from qu);exact RcNeAt.tuple_bool _ hl hu
 |int _=>cases(oI (show some _=some u from sy));obtain⟨_,e_qu⟩:=(show∃t,_=Value.int _ t from qu);subst e_qu;exact RcNeAt.tuple_int _ _ hl hu
 |str _=>cases(oI (show some _=some u from sy));obtain⟨_,e_qu⟩:=(show∃t,_=Value.str _ t from qu);subst e_qu;exact RcNeAt.tuple_str _ _ hl hu
 |_=>cases sy
theorem SN{u:V}{l:Addr}(hl:s.heap.IsTuple l qE)(hu:A.units<cLine)(sy:Ak y=some u)(qu:AI u u'):RcNeAt A s u' (.ref l) true:=by
 cases y with
 |non=>cases(oI (show some _=some u from sy));cases(show _=Value.none from qu);exact RcNeAt.none_tuple hl hu
 |bl _=>cases(oI (show some _=some u from sy));cases(show _=Value.bool _ from qu);exact RcNeAt.bool_tuple _ hl hu
 |int _=>cases(oI (show some _=some u from sy));obtain⟨_,e_qu⟩:=(show∃t,_=Value.int _ t from qu);subst e_qu;exact RcNeAt.int_tuple _ _ hl hu
 |str _=>cases(oI (show some _=some u from sy));obtain⟨_,e_qu⟩:=(show∃t,_=Value.str _ t from qu);subst e_qu;exact RcNeAt.str_tuple _ _ hl hu
 |_=>cases sy
theorem SO{u:V}{l:Addr}(hl:s.heap.IsList l qE)(hu:A.units<cLine)(sy:Ak y=some u)(qu:AI u u'):RcAt A s (.ref l) u' false:=by
 cases y with
 |non=>cases(oI (show some _=some u from sy));cases(show _=Value.none from qu);exact RcAt.list_none hl hu
 |bl _=>cases(oI (show some _=some u from sy));cases(show _=Value.bool _ from qu);exact RcAt.list_bool _ hl hu
 |int _=>cases(oI (show some _=some u from sy));obtain⟨_,e_qu⟩:=(show∃t,_=Value.int _ t from qu);subst e_qu;exact RcAt.list_int _ _ hl hu
 |str _=>cases(oI (show some _=some u from sy));obtain⟨_,e_qu⟩:=(show∃t,_=Value.str _ t from qu);subst e_qu;exact RcAt.list_str _ _ hl hu
 |_=>cases sy
theorem SQ{u:V}{l:Addr}(hl:s.heap.IsList l qE)(hu:A.units<cLine)(sy:Ak y=some u)(qu:AI u u'):RcAt A s u' (.ref l) false:=by
 cases y with
 |non=>cases(oI (show some _=some u from sy));cases(show _=Value.none from qu);exact RcAt.none_list hl hu
 |bl _=>cases(oI (show some _=some u from sy));cases(show _=Value.bool _ from qu);exact RcAt.bool_list _ hl hu
 |int _=>cases(oI (show some _=some u from sy));obtain⟨_,e_qu⟩:=(show∃t,_=Value.int _ t from qu);subst e_qu;exact RcAt.int_list _ _ hl hu
 |str _=>cases(oI (show some _=some u from sy));obtain⟨_,e_qu⟩:=(show∃t,_=Value.str _ t from qu);subst e_qu;exact RcAt.str_list _ _ hl hu
 |_=>cases sy
theorem SR{u:V}{l:Addr}(hl:s.heap.IsTuple l qE)(hu:A.units<cLine)(sy:Ak y=some u)(qu:AI u u'):RcAt A s (.ref l) u' false:=by
 cases y with
 |non=>cases(oI (show some _=some u from sy));cases(show _=Value.none from qu);exact RcAt.tuple_none hl hu
 |bl _=>cases(oI (show some _=some u from sy));cases(show _=Value.bool _ from qu);exact RcAt.tuple_bool _ hl hu
 |int _=>cases(oI (show some _=some u from sy));obtain⟨_,e_qu⟩:=(show∃t,_=Value.int _ t from qu);subst e_qu;exact RcAt.tuple_int _ _ hl hu
 |str _=>cases(oI (show some _=some u from sy));obtain⟨_,e_qu⟩:=(show∃t,_=Value.str _ t from qu);subst e_qu;exact RcAt.tuple_str _ _ hl hu
 |_=>cases sy
theorem SS{u:V}{l:Addr}(hl:s.heap.IsTuple l qE)(hu:A.units<cLine)(sy:Ak y=some u)(qu:AI u u'):RcAt A s u' (.ref l) false:=by
 cases y with
 |non=>cases(oI (show some _=some u from sy));cases(show _=Value.none from qu);exact RcAt.none_tuple hl hu
 |bl _=>cases(oI (show some _=some u from sy));cases(show _=Value.bool _ from qu);exact RcAt.bool_tuple _ hl hu
 |int _=>cases(oI (show some _=some u from sy));obtain⟨_,e_qu⟩:=(show∃t,_=Value.int _ t from qu);subst e_qu;exact RcAt.int_tuple _ _ hl hu
 |str _=>cases(oI (show some _=some u from sy));obtain⟨_,e_qu⟩:=(show∃t,_=Value.str _ t from qu);subst e_qu;exact RcAt.str_tuple _ _ hl hu
 |_=>cases sy
theorem B7{b:Addr}{x:P}(hp:x.pl n=true)(r:Rp b Z H x v):Ak x=some v\/(∃m xs,n=m+1/\x=.tup xs/\xs.all (P.pl m)=true)\/∃m xs,n=m+1/\x=.lst xs/\xs.all (P.pl m)=true:=by
 cases x with
 |non=>exact .inl (by rw[show v=_ from r];rfl)
 |bl k=>exact .inl (by rw[show v=_ from r];rfl)
 |int k=>exact .inl (by rw[show v=_ from r];rfl)
 |str k=>exact .inl (by rw[show v=_ from r];rfl)
 |tup xs=>cases n with
  |zero=>simp[P.pl]at hp
  |succ m=>exact .inr (.inl ⟨m,xs,rfl,rfl,by simpa[P.pl]using hp⟩)
 |lst xs=>cases n with
  |zero=>simp[P.pl]at hp
  |succ m=>exact .inr (.inr ⟨m,xs,rfl,rfl,by simpa[P.pl]using hp⟩)
 |_=>cases n<;>simp[P.pl]at hp
theorem SU:∀(n:Nat) {x:P},x.pl n=true->AG x x=true:=by
 intro n
 induction n with
 |zero=>intro x hx;cases x<;>simp[P.pl]at hx<;>simp[AG]
 |succ n ih =>
  have hs:∀{xs:List P},xs.all (P.pl n)=true->A1 xs xs=true:=by
   intro xs
   induction xs with
   |nil=>intro _;rfl
   |cons x r ihr =>
    intro h
    rw[all_cons,Bool.and_eq_true]at h
    rw[A1,ih h.1,ihr h.2];rfl
  intro x hx
  cases x<;>simp only[P.pl]at hx<;>simp only[AG,beq_self_eq_true]
  ·cases hx
  ·exact hs hx
  ·exact hs hx
  ·cases hx
  ·cases hx
  ·cases hx
theorem MS(n:Nat)(xs:List P)(h:xs.all (P.pl n)=true):A1 xs xs=true:=by
 induction xs with
 |nil=>rfl
 |cons x r ihr =>
  rw[all_cons,Bool.and_eq_true]at h
  rw[A1,SU n h.1,ihr h.2];rfl
theorem MT{b:Addr}:∀(n:Nat) {x y:P} {v:V},x.pl n=true->y.pl n=true->Rp b Z H x v->Rp b Z H y v->x=y:=by
 intro n
 induction n with
 |zero =>
  intro x y v hx hy rx ry
  cases x<;>simp[P.pl]at hx<;>cases y<;>simp[P.pl]at hy<;>(rw[show v=_ from rx]at ry)<;>first|rfl|(cases ry;rfl)|cases ry
 |succ n ih =>
  have hs:∀{xs ys:List P} {vs:List V},xs.all (P.pl n)=true->ys.all (P.pl n)=true->AB b Z H xs vs->AB b Z H ys vs->xs=ys:=by
   intro xs
   induction xs with
   |nil =>
    intro ys vs _ _ r1 r2
    rw[show vs=[]from r1]at r2
    cases ys with
    |nil=>rfl
    |cons y r=>obtain⟨_,_,e,_⟩:=r2;cases e
   |cons x r ihr =>
    intro ys vs h1 h2 r1 r2
    obtain⟨v,t,rfl,q1,q2⟩:=r1
    cases ys with
    |nil=>cases(show v::t=[]from r2)
    |cons y ys =>
     obtain⟨_,_,e,q3,q4⟩:=r2
     cases e
     rw[all_cons,Bool.and_eq_true]at h1 h2
     rw[ih h1.1 h2.1 q1 q3,ihr h1.2 h2.2 q2 q4]
  intro x y v hx hy rx ry
  rcases B7 hx rx with sx|⟨m,xs,e,rfl,px⟩|⟨m,xs,e,rfl,px⟩
  ·rcases B7 hy ry with sy|⟨m,ys,e,rfl,py⟩|⟨m,ys,e,rfl,py⟩
   ·cases x<;>simp only[Ak]at sx<;>cases sx<;>cases y<;>simp only[Ak]at sy<;>cases sy<;>rfl
   ·obtain⟨p,us,rfl,_⟩:=ry
    cases x<;>simp[Ak]at sx
   ·obtain⟨p,us,rfl,_⟩:=ry
    cases x<;>simp[Ak]at sx
  ·cases e
   obtain⟨p,vs,rfl,e1,r1⟩:=rx
   rcases B7 hy ry with sy|⟨m,ys,e,rfl,py⟩|⟨m,ys,e,rfl,py⟩
   ·cases y<;>simp[Ak]at sy
   ·cases e
    obtain⟨p2,us,e3,e2,r2⟩:=ry
    cases e3
    rw[e1]at e2;cases e2
    rw[hs px py r1 r2]
   ·obtain⟨p2,us,e3,_,e2,r2⟩:=ry
    cases e3
    rw[e1]at e2;cases e2
  ·cases e
   obtain⟨p,vs,rfl,_,e1,r1⟩:=rx
   rcases B7 hy ry with sy|⟨m,ys,e,rfl,py⟩|⟨m,ys,e,rfl,py⟩
   ·cases y<;>simp[Ak]at sy
   ·obtain⟨p2,us,e3,e2,r2⟩:=ry
    cases e3
    rw[e1]at e2;cases e2
   ·cases e
    obtain⟨p2,us,e3,_,e2,r2⟩:=ry
    cases e3
    rw[e1]at e2;cases e2
    rw[hs px py r1 r2]
theorem JA{b:Addr}{Z:Addr->Prop}{H:Hp}{n:Nat}:∀{xs ys:List P} {vs:List V},xs.all (P.pl n)=true->ys.all (P.pl n)=true->AB b Z H xs vs->AB b Z H ys vs->xs=ys
 |[],ys,vs,_,_,r1,r2=>by
  rw[show vs=[]from r1]at r2
  cases ys with
  |nil=>rfl
  |cons y r=>obtain⟨_,_,e,_⟩:=r2;cases e
 |x::xs,ys,vs,h1,h2,r1,r2=>by
  obtain⟨v,t,rfl,q1,q2⟩:=r1
  cases ys with
  |nil=>cases(show v::t=[]from r2)
  |cons y ys =>
   obtain⟨_,_,e,q3,q4⟩:=r2
   cases e
   rw[all_cons,Bool.and_eq_true]at h1 h2
   rw[MT n h1.1 h2.1 q1 q3,JA h1.2 h2.2 q2 q4]
theorem DM(I:Inv X qA σ H s)(e:H p=some (.tup vs)):∃qE:List Value,AM vs qE/\s.heap.IsTuple p qE.toArray:=by
 obtain⟨qE,r,t,_⟩:=I.tuple (.of e)
 exact⟨qE,r,t⟩
theorem DN(I:Inv X qA σ H s)(e:H p=some (.lst vs)):∃qE:List Value,AM vs qE/\s.heap.IsList p qE.toArray:=by
 obtain⟨qE,r,t,_⟩:=I.list (.of e)
 exact⟨qE,r,t.isList⟩
theorem Gg(A:Around):A.in1.units=A.units+1:=rfl
noncomputable def Db(xs ys:List P)(j:Nat):Bool:=match xs[j]?,ys[j]? with|some x,some y=>AG x y|_,_=>true
theorem EY{ys:List P}:((List.range (min xs.length ys.length)).all (Db xs ys)&&xs.length==ys.length)=A1 xs ys:=MQ λj x y h1 h2=>by unfold Db;rw[h1,h2]
theorem Gh{x:P}(h:xs.all (P.pl m)=true)(e:xs[i]?=some x):x.pl m=true:=all_eq_true.mp h x (mem_of_getElem? e)
theorem MU(I:Inv X qA σ H s){b:Addr}:∀(n:Nat) {A:Around} {x y:P} {v u:V} {v' u':Value},A.units+n<cLine->x.pl n=true->y.pl n=true->Rp b Z H x v->Rp b Z H y u->AI v v'->AI u u'->EqAt A s v' u' (AG x y):=by
 intro n
 induction n with
 |zero =>
  intro A x y v u v' u' hu hx hy rx ry qv qu
  rcases B7 hx rx with sx|⟨m,xs,e,_⟩|⟨m,xs,e,_⟩
  ·rcases B7 hy ry with sy|⟨m,ys,e,_⟩|⟨m,ys,e,_⟩
   ·exact MR sx sy qv qu
   ·cases e
   ·cases e
  ·cases e
  ·cases e
 |succ n ih =>
  intro A x y v u v' u' hu hx hy rx ry qv qu
  have hu0:A.units<cLine:=by lia
  have hu1:A.in1.units+n<cLine:=by rw[Gg];lia
  have pc:∀{xs ys:List P} {vs us:List V} {qE its2:List Value},xs.all (P.pl n)=true->ys.all (P.pl n)=true->AB b Z H xs vs->AB b Z H ys us->AM vs qE->AM us its2->∀j (h1:j<qE.toArray.size) (h2:j<its2.toArray.size),EqAt A.in1 s qE.toArray[j] its2.toArray[j] (Db xs ys j):=by
   intro xs ys vs us qE its2 px py r1 r2 w1 w2 j h1 h2
   have l1:=r1.length
   have l2:=r2.length
   have l3:=w1.length
   have l4:=w2.length
   rw[size_toArray]at h1 h2
   obtain⟨v1,e1,q1⟩:=r1.get (i:=j) (x:=xs[j]'(by lia)) (by simp[l1,l3,h1])
   obtain⟨v2,e2,q2⟩:=r2.get (i:=j) (x:=ys[j]'(by lia)) (by simp[l2,l4,h2])
   obtain⟨u1,g1,k1⟩:=w1.get e1
   obtain⟨u2,g2,k2⟩:=w2.get e2
   have ex:xs[j]?=some (xs[j]'(by lia)):=by simp[l1,l3,h1]
   have ey:ys[j]?=some (ys[j]'(by lia)):=by simp[l2,l4,h2]
   have z1:qE.toArray[j]=u1:=by
    have:qE[j]?=some qE[j]:=by simp[h1]
    rw[this]at g1
    simpa using oI g1
   have z2:its2.toArray[j]=u2:=by
    have:its2[j]?=some its2[j]:=by simp[h2]
    rw[this]at g2
    simpa using oI g2
   rw[z1,z2]
   have:Db xs ys j=AG (xs[j]'(by lia)) (ys[j]'(by lia)):=by unfold Db;rw[ex,ey]
   rw[this]
   exact ih hu1 (Gh px ex) (Gh py ey) q1 q2 k1 k2
  rcases B7 hx rx with sx|⟨m,xs,e,rfl,px⟩|⟨m,xs,e,rfl,px⟩
  ·rcases B7 hy ry with sy|⟨m,ys,e,rfl,py⟩|⟨m,ys,e,rfl,py⟩
   ·exact MR sx sy qv qu
   ·obtain⟨p,us,rfl,e2,r2⟩:=ry
    cases(show u'=Value.ref p from qu)
    obtain⟨qE,_,hl⟩:=DM I e2
    have:AG x (.tup ys)=false:=by cases x<;>simp[Ak]at sx<;>simp only[AG]
    rw[this]
    exact SJ hl hu0 sx qv
   ·obtain⟨p,us,rfl,_,e2,r2⟩:=ry
    cases(show u'=Value.ref p from qu)
    obtain⟨qE,_,hl⟩:=DN I e2
    have:AG x (.lst ys)=false:=by cases x<;>simp[Ak]at sx<;>simp only[AG]
    rw[this]
    exact SH hl hu0 sx qv
  ·cases e
   obtain⟨p,vs,rfl,e1,r1⟩:=id rx
   cases(show v'=Value.ref p from qv)
   obtain⟨qE,w1,hl⟩:=DM I e1
   rcases B7 hy ry with sy|⟨m,ys,e,rfl,py⟩|⟨m,ys,e,rfl,py⟩
   ·have:AG (.tup xs) y=false:=by cases y<;>simp[Ak]at sy<;>simp only[AG]
    rw[this]
    exact SI hl hu0 sy qu
   ·cases e
    obtain⟨p2,us,rfl,e2,r2⟩:=id ry
    cases(show u'=Value.ref p2 from qu)
    obtain⟨its2,w2,hl2⟩:=DM I e2
    have key:=RcAt.tuples (A:=A) hl hl2 hu0 (pc px py r1 r2 w1 w2)
    rw[size_toArray,size_toArray,<-w1.length,<-w2.length,<-r1.length,<-r2.length,EY]at key
    rw[show AG (.tup xs) (.tup ys)=A1 xs ys by simp only[AG]]
    by_cases hpp:p=p2
    ·subst hpp
     rw[e1]at e2
     cases e2
     have:A1 xs ys=true:=by
      have h0:∀zs:List P,zs.all (P.pl n)=true->A1 zs zs=true:=MS n
      rw[JA (b:=b) (H:=H) (n:=n) px py r1 r2]
      exact h0 ys py
     rw[this]
     exact EqAt.same _
    ·exact EqAt.of_refs hpp key
   ·obtain⟨p2,us,rfl,_,e2,r2⟩:=ry
    cases(show u'=Value.ref p2 from qu)
    obtain⟨its2,_,hl2⟩:=DN I e2
    rw[show AG (.tup xs) (.lst ys)=false by simp only[AG]]
    exact EqAt.tuple_list hl hl2 hu0
  ·cases e
   obtain⟨p,vs,rfl,_,e1,r1⟩:=id rx
   cases(show v'=Value.ref p from qv)
   obtain⟨qE,w1,hl⟩:=DN I e1
   rcases B7 hy ry with sy|⟨m,ys,e,rfl,py⟩|⟨m,ys,e,rfl,py⟩
   ·have:AG (.lst xs) y=false:=by cases y<;>simp[Ak]at sy<;>simp only[AG]
    rw[this]
    exact SG hl hu0 sy qu
   ·obtain⟨p2,us,rfl,e2,r2⟩:=ry
    cases(show u'=Value.ref p2 from qu)
    obtain⟨its2,_,hl2⟩:=DM I e2
    rw[show AG (.lst xs) (.tup ys)=false by simp only[AG]]
    exact EqAt.list_tuple hl hl2 hu0
   ·cases e
    obtain⟨p2,us,rfl,_,e2,r2⟩:=id ry
    cases(show u'=Value.ref p2 from qu)
    obtain⟨its2,w2,hl2⟩:=DN I e2
    rw[show AG (.lst xs) (.lst ys)=A1 xs ys by simp only[AG]]
    by_cases hpp:p=p2
    ·subst hpp
     rw[e1]at e2
     cases e2
     have:A1 xs ys=true:=by
      have h0:∀zs:List P,zs.all (P.pl n)=true->A1 zs zs=true:=MS n
      rw[JA (b:=b) (H:=H) (n:=n) px py r1 r2]
      exact h0 ys py
     rw[this]
     exact EqAt.same _
    ·by_cases hz:qE.length=its2.length
     ·have key:=RcAt.lists (A:=A) hl hl2 (by simpa using hz) hu0 (pc px py r1 r2 w1 w2)
      rw[<-EY]
      have l1:=r1.length
      have l2:=r2.length
      have l3:=w1.length
      have l4:=w2.length
      have e5:min xs.length ys.length=qE.toArray.size:=by rw[size_toArray];lia
      have e6:(xs.length==ys.length)=true:=by rw[beq_iff_eq];lia
      rw[e5,e6,Bool.and_true]
      exact EqAt.of_refs hpp key
     ·have l1:=r1.length
      have l2:=r2.length
      have l3:=w1.length
      have l4:=w2.length
      have e6:(xs.length==ys.length)=false:=by rw[beq_eq_false_iff_ne];lia
      rw[<-EY,e6,Bool.and_false]
      exact EqAt.of_refs hpp (RcAt.lists_lengths hl hl2 (by simpa using hz) hu0)
theorem MV(I:Inv X qA σ H s){b:Addr}(hu1:A.in1.units+n<cLine){ys:List P}{us:List V}{qE its2:List Value}(px:xs.all (P.pl n)=true)(py:ys.all (P.pl n)=true)
  (r1:AB b Z H xs vs) (r2:AB b Z H ys us) (w1:AM vs qE) (w2:AM us its2):∀j (h1:j<qE.toArray.size) (h2:j<its2.toArray.size),EqAt A.in1 s qE.toArray[j] its2.toArray[j] (Db xs ys j):=by
 intro j h1 h2
 have l1:=r1.length
 have l2:=r2.length
 have l3:=w1.length
 have l4:=w2.length
 rw[size_toArray]at h1 h2
 obtain⟨v1,e1,q1⟩:=r1.get (i:=j) (x:=xs[j]'(by lia)) (by simp[l1,l3,h1])
 obtain⟨v2,e2,q2⟩:=r2.get (i:=j) (x:=ys[j]'(by lia)) (by simp[l2,l4,h2])
 obtain⟨u1,g1,k1⟩:=w1.get e1
 obtain⟨u2,g2,k2⟩:=w2.get e2
 have ex:xs[j]?=some (xs[j]'(by lia)):=by simp[l1,l3,h1]
 have ey:ys[j]?=some (ys[j]'(by lia)):=by simp[l2,l4,h2]
 have z1:qE.toArray[j]=u1:=by
  have:qE[j]?=some qE[j]:=by simp[h1]
  rw[this]at g1
  simpa using oI g1
 have z2:its2.toArray[j]=u2:=by
  have:its2[j]?=some its2[j]:=by simp[h2]
  rw[this]at g2
  simpa using oI g2
 rw[z1,z2]
 have:Db xs ys j=AG (xs[j]'(by lia)) (ys[j]'(by lia)):=by unfold Db;rw[ex,ey]
 rw[this]
 exact MU I n hu1 (Gh px ex) (Gh py ey) q1 q2 k1 k2
theorem MW(I:Inv X qA σ H s){b:Addr}{x:P}{u:V}(hu:A.units+n+1<cLine)(hx:x.pl n=true)(hy:y.pl n=true)(rx:Rp b Z H x v)(ry:Rp b Z H y u)(qv:AI v v')(qu:AI u u') :
  RcAt A s v' u' (AG x y)/\RcNeAt A s v' u' (!AG x y):=by
 have hu0:A.units<cLine:=by lia
 rcases B7 hx rx with sx|⟨m,xs,e,rfl,px⟩|⟨m,xs,e,rfl,px⟩
 ·rcases B7 hy ry with sy|⟨m,ys,e,rfl,py⟩|⟨m,ys,e,rfl,py⟩
  ·exact⟨SF sx sy qv qu,SE sx sy qv qu⟩
  ·obtain⟨p,us,rfl,e2,r2⟩:=ry
   cases(show u'=Value.ref p from qu)
   obtain⟨qE,_,hl⟩:=DM I e2
   have:AG x (.tup ys)=false:=by cases x<;>simp[Ak]at sx<;>simp only[AG]
   rw[this]
   exact⟨SS hl hu0 sx qv,SN hl hu0 sx qv⟩
  ·obtain⟨p,us,rfl,_,e2,r2⟩:=ry
   cases(show u'=Value.ref p from qu)
   obtain⟨qE,_,hl⟩:=DN I e2
   have:AG x (.lst ys)=false:=by cases x<;>simp[Ak]at sx<;>simp only[AG]
   rw[this]
   exact⟨SQ hl hu0 sx qv,SL hl hu0 sx qv⟩
 ·subst e
  obtain⟨p,vs,rfl,e1,r1⟩:=id rx
  cases(show v'=Value.ref p from qv)
  obtain⟨qE,w1,hl⟩:=DM I e1
  rcases B7 hy ry with sy|⟨m',ys,e,rfl,py⟩|⟨m',ys,e,rfl,py⟩
  ·have:AG (.tup xs) y=false:=by cases y<;>simp[Ak]at sy<;>simp only[AG]
   rw[this]
   exact⟨SR hl hu0 sy qu,SM hl hu0 sy qu⟩
  ·cases e
   obtain⟨p2,us,rfl,e2,r2⟩:=id ry
   cases(show u'=Value.ref p2 from qu)
   obtain⟨its2,w2,hl2⟩:=DM I e2
   have hp:=MV I (A:=A) (n:=m) (by rw[Gg];lia) px py r1 r2 w1 w2
   have key:=RcAt.tuples (A:=A) hl hl2 hu0 hp
   have key2:=RcNeAt.tuples (A:=A) hl hl2 hu0 hp
   rw[size_toArray,size_toArray,<-w1.length,<-w2.length,<-r1.length,<-r2.length,EY]at key key2
   rw[show AG (.tup xs) (.tup ys)=A1 xs ys by simp only[AG]]
   exact⟨key,key2⟩
  ·obtain⟨p2,us,rfl,_,e2,r2⟩:=ry
   cases(show u'=Value.ref p2 from qu)
   obtain⟨its2,_,hl2⟩:=DN I e2
   rw[show AG (.tup xs) (.lst ys)=false by simp only[AG]]
   exact⟨RcAt.tuple_list hl hl2 hu0,RcNeAt.tuple_list hl hl2 hu0⟩
 ·subst e
  obtain⟨p,vs,rfl,_,e1,r1⟩:=id rx
  cases(show v'=Value.ref p from qv)
  obtain⟨qE,w1,hl⟩:=DN I e1
  rcases B7 hy ry with sy|⟨m',ys,e,rfl,py⟩|⟨m',ys,e,rfl,py⟩
  ·have:AG (.lst xs) y=false:=by cases y<;>simp[Ak]at sy<;>simp only[AG]
   rw[this]
   exact⟨SO hl hu0 sy qu,SK hl hu0 sy qu⟩
  ·obtain⟨p2,us,rfl,e2,r2⟩:=ry
   cases(show u'=Value.ref p2 from qu)
   obtain⟨its2,_,hl2⟩:=DM I e2
   rw[show AG (.lst xs) (.tup ys)=false by simp only[AG]]
   exact⟨RcAt.list_tuple hl hl2 hu0,RcNeAt.list_tuple hl hl2 hu0⟩
  ·cases e
   obtain⟨p2,us,rfl,_,e2,r2⟩:=id ry
   cases(show u'=Value.ref p2 from qu)
   obtain⟨its2,w2,hl2⟩:=DN I e2
   rw[show AG (.lst xs) (.lst ys)=A1 xs ys by simp only[AG]]
   have l1:=r1.length
   have l2:=r2.length
   have l3:=w1.length
   have l4:=w2.length
   by_cases hz:qE.length=its2.length
   ·have hp:=MV I (A:=A) (n:=m) (by rw[Gg];lia) px py r1 r2 w1 w2
    have key:=RcAt.lists (A:=A) hl hl2 (by simpa using hz) hu0 hp
    have key2:=RcNeAt.lists (A:=A) hl hl2 (by simpa using hz) hu0 hp
    rw[<-EY]
    have e5:min xs.length ys.length=qE.toArray.size:=by rw[size_toArray];lia
    have e6:(xs.length==ys.length)=true:=by rw[beq_iff_eq];lia
    rw[e5,e6,Bool.and_true]
    exact⟨key,key2⟩
   ·have e6:(xs.length==ys.length)=false:=by rw[beq_eq_false_iff_ne];lia
    rw[<-EY,e6,Bool.and_false]
    exact⟨RcAt.lists_lengths hl hl2 (by simpa using hz) hu0,RcNeAt.lists_lengths hl hl2 (by simpa using hz) hu0⟩
noncomputable def MX:R2:=λv u H Q=>∃(b:Addr) (Z:Addr->Prop) (x y:P),x.pl 9=true/\y.pl 9=true/\Rp b Z H x v/\Rp b Z H y u/\Q (.bl (AG x y)) H
noncomputable def MY:R2:=λv u H Q=>∃(b:Addr) (Z:Addr->Prop) (x y:P),x.pl 9=true/\y.pl 9=true/\Rp b Z H x v/\Rp b Z H y u/\Q (.bl (!AG x y)) H
theorem BJ{k:Nat}(hr:Room k X.A):An X (compareOp .Eq) MX:=by
 intro qA s σ H x y v u Q I rx ry h
 obtain⟨b,Z,px,py,h1,h2,r1,r2,q⟩:=h
 exact(MW I (A:=X.A) (by have:=hr.units;lia) h1 h2 r1 r2 rx ry).1 _ _ _ _ ⟨.bl _,H,I,rfl,q⟩
theorem Cy{k:Nat}(hr:Room k X.A):An X (compareOp .NotEq) MY:=by
 intro qA s σ H x y v u Q I rx ry h
 obtain⟨b,Z,px,py,h1,h2,r1,r2,q⟩:=h
 exact(MW I (A:=X.A) (by have:=hr.units;lia) h1 h2 r1 r2 rx ry).2 _ _ _ _ ⟨.bl _,H,I,rfl,q⟩
def JB:p2:=λx _ y _ K=>(x.pl 9=true/\y.pl 9=true)/\K (.bl (AG x y)) .fr
def MZ:p2:=λx _ y _ K=>(x.pl 9=true/\y.pl 9=true)/\K (.bl (!AG x y)) .fr
theorem BK:Au MX JB:=λW ρ σ Hs H Q K x y f h v u ok st rx ry hp q =>
 ⟨W.b,_,x,y,hp.1.1,hp.1.2,rx.any ok,ry.any ok,q _ _ _ H hp.2 (Step.refl ok.bag) DH⟩
theorem Cz:Au MY MZ:=λW ρ σ Hs H Q K x y f h v u ok st rx ry hp q =>
 ⟨W.b,_,x,y,hp.1.1,hp.1.2,rx.any ok,ry.any ok,q _ _ _ H hp.2 (Step.refl ok.bag) DH⟩
@[simp] theorem Ma(n:Nat)(i:Int):(P.int i).pl n=true:=by cases n<;>rfl
@[simp] theorem Mb(n:Nat)(i:Str):(P.str i).pl n=true:=by cases n<;>rfl
@[simp] theorem SV(n:Nat)(i:Bool):(P.bl i).pl n=true:=by cases n<;>rfl
@[simp] theorem SW(n:Nat):P.non.pl n=true:=by cases n<;>rfl
@[simp] theorem SX(n:Nat)(xs:List P):(P.tup xs).pl (n+1)=xs.all (P.pl n):=rfl
@[simp] theorem SY(n:Nat)(xs:List P):(P.lst xs).pl (n+1)=xs.all (P.pl n):=rfl
theorem JC{α:Type}{f:α->P}(h:∀a,(f a).pl n=true)(xs:List α):(xs.map f).all (P.pl n)=true:=by
 rw[all_map,all_eq_true];intro a _;exact h a
@[simp] theorem SZ(n:Nat)(xs:List Int):(xs.map P.int).all (P.pl n)=true:=JC (λa=>Ma n a) xs
@[simp] theorem Sa(n:Nat)(xs:List Str):(xs.map P.str).all (P.pl n)=true:=JC (λa=>Mb n a) xs
mutual
noncomputable def P.nb:P->Bool
 |.non=>true|.int _=>true|.str _=>true|.tup xs=>P.nbs xs|.lst xs=>P.nbs xs|_=>false
noncomputable def P.nbs:List P->Bool
 |[]=>true
 |x::r=>x.nb&&P.nbs r
end
mutual
theorem D3:∀{x y:P},x.nb=true->y.nb=true->(AG x y=true↔x=y)
 |.non,y,_,hy=>by cases y<;>simp_all [AG,P.nb]
 |.bl _,y,hx,_=>by simp[P.nb]at hx
 |.int _,y,_,hy=>by cases y<;>simp_all [AG,P.nb]
 |.str _,y,_,hy=>by cases y<;>simp_all [AG,P.nb]
 |.bag,y,hx,_=>by simp[P.nb]at hx
 |.tup xs,y,hx,hy=>by
  cases y with
  |tup ys =>
   rw[P.nb]at hx hy
   rw[show AG (.tup xs) (.tup ys)=A1 xs ys by simp only[AG],JD hx hy]
   simp
  |_=>simp[AG]
 |.lst xs,y,hx,hy=>by
  cases y with
  |lst ys =>
   rw[P.nb]at hx hy
   rw[show AG (.lst xs) (.lst ys)=A1 xs ys by simp only[AG],JD hx hy]
   simp
  |_=>simp[AG]
 |.dT _ _,y,hx,_=>by simp[P.nb]at hx
 |.fT _ _,y,hx,_=>by simp[P.nb]at hx
 |.dK _ _,y,hx,_=>by simp[P.nb]at hx
theorem JD:∀{xs ys:List P},P.nbs xs=true->P.nbs ys=true->(A1 xs ys=true↔xs=ys)
 |[],[],_,_=>by simp[A1]
 |[],_::_,_,_=>by simp[A1]
 |_::_,[],_,_=>by simp[A1]
 |x::xs,y::ys,hx,hy=>by
  rw[P.nbs,Bool.and_eq_true]at hx hy
  rw[A1,Bool.and_eq_true,D3 hx.1 hy.1,JD hx.2 hy.2]
  simp
end
theorem FJ{α:Type}{f:α->P}(h:∀a,(f a).nb=true):∀xs:List α,P.nbs (xs.map f)=true
 |[]=>by simp[P.nbs]
 |x::r=>by rw[map_cons,P.nbs,h x,FJ h r];rfl
noncomputable def JE(neg:Bool):R2:=λv u H Q=>∃(b p:Addr) (Z:Addr->Prop) (x:P) (ys:List P) (us:List V),u=.ref p/\(H p=some (.lst us)\/H p=some (.tup us))/\x.pl 8=true/\ys.all (P.pl 8)=true/\Rp b Z H x v/\AB b Z H ys us/\Q (.bl (if neg=true then !(ys.any λy=>AG y x)else ys.any λy=>AG y x)) H
section
variable{k:Nat}
open Classical in
theorem Mc(hr:Room k X.A){b:Addr}{x:P}{ys:List P}{us:List V}{qE:List Value}(I:Inv X qA σ H s)(rx:AI v v')(w:AM us qE)
  (h1:x.pl 8=true) (h2:ys.all (P.pl 8)=true) (r1:Rp b Z H x v) (r2:AB b Z H ys us) :
  ∃e:Value->Bool,(∀y,y∈qE.toArray->EqAt X.A.in1 s y v' (e y))/\qE.toArray.any e=ys.any λy=>AG y x:=by
 have at_:∀j y,qE[j]?=some y->∃z u,ys[j]?=some z/\z∈ys/\Rp b Z H z u/\AI u y:=λj y hj=>by
  have l1:=r2.length
  have l2:=w.length
  have hlt:j<qE.length:=by
   rcases Nat.lt_or_ge j qE.length with q|q
   ·exact q
   ·rw[getElem?_eq_none q]at hj;cases hj
  have ey:ys[j]?=some (ys[j]'(by lia)):=by simp[l1,l2,hlt]
  obtain⟨u,e1,e2⟩:=r2.get ey
  obtain⟨y',e3,e4⟩:=w.get e1
  rw[hj]at e3
  cases e3
  exact⟨_,u,ey,mem_of_getElem? ey,e2,e4⟩
 refine⟨λy=>decide (∃z u,z∈ys/\Rp b Z H z u/\AI u y/\AG z x=true),λy hy=>?_,?_⟩
 ·have hy:y∈qE:=by simpa using hy
  obtain⟨j,hj,e⟩:=getElem_of_mem hy
  obtain⟨z,u,ez,mz,rz,qz⟩:=at_ j y (by rw[<-e];simp[hj])
  have eqa:=MU I 8 (A:=X.A.in1) (by rw[Gg];have:=hr.units;lia) (all_eq_true.mp h2 z mz) h1 rz r1 qz rx
  have:decide (∃z u,z∈ys/\Rp b Z H z u/\AI u y/\AG z x=true)=AG z x:=by
   rw[Bool.eq_iff_iff,decide_eq_true_iff]
   constructor
   ·rintro⟨z',u',m',rz',qz',hh⟩
    cases qz.inj qz'
    rw[MT 8 (all_eq_true.mp h2 z mz) (all_eq_true.mp h2 z' m') rz rz']
    exact hh
   ·exactλhh=>⟨z,u,mz,rz,qz,hh⟩
  show EqAt X.A.in1 s y v' (decide _)
  rw[this]
  exact eqa
 ·rw[Bool.eq_iff_iff,any_toArray,any_eq_true,any_eq_true]
  constructor
  ·rintro⟨y,_,hh⟩
   obtain⟨z,u,m,_,_,hh⟩:=of_decide_eq_true hh
   exact⟨z,m,hh⟩
  ·rintro⟨z,m,hh⟩
   obtain⟨j,hj,e⟩:=getElem_of_mem m
   obtain⟨u,e1,e2⟩:=r2.get (i:=j) (x:=z) (by rw[<-e];simp[hj])
   obtain⟨y,e3,e4⟩:=w.get e1
   exact⟨y,mem_of_getElem? e3,decide_eq_true ⟨z,u,m,e2,e4,hh⟩⟩
theorem JF(hr:Room k X.A):An X (compareOp .In) (JE false):=by
 intro qA s σ H x y v u Q I rx ry h
 obtain⟨b,p,Z,px,ys,us,rfl,hp,h1,h2,r1,r2,q⟩:=h
 cases ry
 rcases hp with hp|hp
 ·obtain⟨qE,w,hl⟩:=DN I hp
  obtain⟨e,he,ha⟩:=Mc hr I rx w h1 h2 r1 r2
  exact in_listAt e hl he (by rw[ha];exact⟨.bl _,H,I,rfl,q⟩)
 ·obtain⟨qE,w,hl⟩:=DM I hp
  obtain⟨e,he,ha⟩:=Mc hr I rx w h1 h2 r1 r2
  exact in_tupleAt e hl he (by rw[ha];exact⟨.bl _,H,I,rfl,q⟩)
end
def JG(neg:Bool):p2:=λx _ y _ K=>∃ys,y.items=some ys/\(x.pl 8=true/\ys.all (P.pl 8)=true)/\K (.bl (if neg=true then !(ys.any λy=>AG y x)else ys.any λy=>AG y x)) .fr
abbrev Sb:p2:=JG false
theorem Sc(neg:Bool):Au (JE neg) (JG neg):=λW ρ σ Hs H Q K x y f h v u ok st rx ry hp q=>by
 obtain⟨ys,e,⟨h1,h2⟩,hk⟩:=hp
 have ra:=RF.items (f:=.an) (W:=W) (ρ:=ρ) (σ:=σ) (Hs:=Hs) (ry.any ok) e
 obtain⟨p,vs,rfl,hc,r2⟩:=ra
 exact⟨W.b,p,_,x,ys,vs,rfl,hc,h1,h2,rx.any ok,r2,q _ _ _ H hk (Step.refl ok.bag) DH⟩
theorem JH:Au (JE false) Sb:=Sc false
end L2
namespace L2
open PySem PySem.Spec PyProof.Rows
noncomputable def cut{α:Type}(xs:List α)(lo hi:Option Int):List α:=(xs.drop (HT.sIx xs.length 0 lo)).take (HT.sIx xs.length xs.length hi - HT.sIx xs.length 0 lo)
noncomputable abbrev pO:=List S->(Option Int->Prop)->Prop
def Sd(t:TO)(p:pO):Prop:=∀(W:Wd) (ρ:List S) (σ:St) (H:Hp) (Q:Option Int->Hp->Prop) (K:Option Int->Prop),Ok W ρ σ H->p ρ K->(∀o H',K o->Step W.b W.a H H'->Q o H')->t σ H Q
def QO{ι:Type}(Xs:ι->Cx)(e:Option Expr)(p:pO):Prop:=∃t,(∀i,PO (Xs i) e t)/\Sd t p
noncomputable def Md:pO:=λ_ K=>K none
noncomputable def Mf(p:pE):pO:=λρ K=>p ρ λx _=>match x with|.int i=>K (some i)|_=>False
def Mg(pe:pE)(pl ph:pO):pE:=λρ K=>pe ρ λx f=>pl ρ λlo=>ph ρ λhi=>match x with
 |.lst xs=>K (.lst (cut xs lo hi)) (B5 f (cut xs lo hi))
 |.tup xs=>K (.tup (cut xs lo hi)) f.el
 |.str z=>z.length<=16777216/\K (.str (Txt.slice z lo hi)) .fr
 |_=>False
section
variable{ι:Type}{Xs:ι->Cx}{e:Expr}{lo hi:Option Expr}{pl ph:pO}{p2:Pos}
theorem Gi:QO Xs none Md:=⟨_,λ_=>Ew,λW ρ σ H Q K ok h q=>q none H h (Step.refl ok.bag)⟩
theorem Gj(h:QE Xs e pe):QO Xs (some e) (Mf pe):=by
 obtain⟨t,h1,h2⟩:=h
 refine⟨_,λi=>Ey (h1 i),λW ρ σ H Q K ok hk q=>h2 W ρ σ H _ _ ok hk λx f v H1 k1 s1 r1=>?_⟩
 split at k1
 ·exact⟨_,Bw (ok.step s1) r1,q _ H1 k1 s1⟩
 ·exact k1.elim
noncomputable def Mj(K:Fg):V->Option Int->Option Int->Hp->VK->Prop:=λx lo hi H Q=>(Kz K x lo hi H Q\/Lb x lo hi H Q)\/LL x lo hi H Q
theorem Se:CM X (Mj X.K):=CM.or (CM.or F3 RG) LN
theorem AB.cut{b:Addr}{lo hi:Option Int}(h:AB b Z H xs vs):AB b Z H (L2.cut xs lo hi) (CN vs lo hi):=by
 unfold L2.cut CN
 rw[h.length]
 exact(h.drop _).take _
theorem Gk(hK:∀i,(Xs i).K=Kf)(he:QE Xs e pe)(hl:QO Xs lo pl)(hh:QO Xs hi ph):QE Xs (.Subscript e (.Slice lo hi none p2) pos) (Mg pe pl ph):=by
 obtain⟨te,e1,e2⟩:=he
 obtain⟨tl,l1,l2⟩:=hl
 obtain⟨th,h1,h2⟩:=hh
 refine⟨Ks (Mj Kf) te tl th,λi=>Ez (by rw[<-hK i];exact Se) (e1 i) (l1 i) (h1 i),λW ρ σ H Q K ok hk q=>e2 W ρ σ H _ _ ok hk λx f v H1 k1 s1 r1=>l2 W ρ σ H1 _ _ (ok.step s1) k1 λo H2 k2 s2=>h2 W ρ σ H2 _ _ ((ok.step s1).step s2) k2 λo' H3 k3 s3=>?_⟩
 have s13:=(s1.trans s2).trans s3
 have ok3:=ok.step s13
 have r3:=r1.step (ok.step s1) (s2.trans s3)
 split at k3
 ·obtain⟨p,us,rfl,c,rv⟩:=Cv ok3 r3
  exact .inl (.inl ⟨p,us,rfl,.of c,λl hl=>q _ _ _ _ k3 (s13.trans (Step.new s13.bag hl)) (RF.newL ok3 s13 rv.cut hl)⟩)
 ·obtain⟨p,us,rfl,c,rv⟩:=Cw ok3 r3
  refine .inl (.inr ⟨p,us,rfl,c,λhw=>q _ _ _ _ k3 s13 ?_,λhw l hl=>q _ _ _ _ k3 (s13.trans (Step.new s13.bag hl)) ?_⟩)
  ·rename_i xs0
   have e:L2.cut xs0 o o'=xs0:=by
    unfold L2.cut
    rw[rv.length,hw.1,hw.2,drop_zero,Nat.sub_zero,<-rv.length,take_length]
   rw[e]
   exact RF.ofEl (f:=f) ⟨p,us,rfl,c,rv⟩
  ·exact RF.ofEl (f:=f) ⟨l,_,rfl,Al,(rv.cut).step (Step.new s13.bag hl) s13.bag⟩
 ·cases Bo ok3 r3
  exact .inr ⟨_,rfl,k3.1,q _ _ _ _ k3.2 s13 Ct⟩
 ·exact k3.elim
end
section
variable{x x':P}{k:Nat}
theorem EZ(ok:Ok W ρ σ H)(h:Ag ρ σ p)(hf:f=.cl\/f=.fr):(∀q u,¬AC W ρ σ f q->H q=some u->¬AC W ρ σ f q/\AE H p o q=some u)/\∀q us,H q=some (.tup us)->AE H p o q=some (.tup us):=by
 obtain⟨_,_,_,_,o',q1,q2⟩:=ok.ow (.inr h)
 refine⟨λq u hz e=>⟨hz,?_⟩,λq us e=>?_⟩
 ·rw[AV (λz=>hz (by subst z;rcases hf with rfl|rfl<;>simp[AC,Ow,h]))]
  exact e
 ·rw[AV (λz=>by subst z;rw[e]at q1;cases q1;exact q2 us rfl)]
  exact e
theorem Ok.mut(ok:Ok W ρ σ H)(hk:ρ[k]?=some (.own x))(hs:σ[k]?=some (some (.ref p)))(no:∀ys,o≠.tup ys)(hrc:Rc W.b (Zf W ρ σ) (AE H p o) x' p):Ok W (ρ.set k (.own x')) σ (AE H p o):=by
 have how:Ag ρ σ p:=⟨k,x,hk,hs⟩
 obtain⟨g0,gF,gb,ga,o',q1,q2⟩:=ok.ow (.inr how)
 have kl:k<ρ.length:=by
  rcases Nat.lt_or_ge k ρ.length with q|q
  ·exact q
  ·rw[getElem?_eq_none q]at hk;cases hk
 have get:∀(i:Nat) (y:P),(ρ.set k (S.own x'))[i]?=some (S.own y)->∃z,ρ[i]?=some (S.own z):=λi y e=>by
  by_cases hi:k=i
  ·subst hi;exact⟨x,hk⟩
  ·rw[getElem?_set_ne hi]at e;exact⟨y,e⟩
 have ows:∀q,Ag (ρ.set k (.own x')) σ q↔Ag ρ σ q:=λq=>by
  constructor
  ·rintro⟨i,y,h1,h2⟩
   obtain⟨z,e⟩:=get i y h1
   exact⟨i,z,e,h2⟩
  ·rintro⟨i,y,h1,h2⟩
   by_cases hi:k=i
   ·subst hi;exact⟨k,x',getElem?_set_self kl,h2⟩
   ·exact⟨i,y,by rw[getElem?_set_ne hi];exact h1,h2⟩
 have zz:∀f q,AC W (ρ.set k (.own x')) σ f q↔AC W ρ σ f q:=λf q=>by
  have:Ow W (ρ.set k (.own x')) σ q↔Ow W ρ σ q:=or_congr Iff.rfl (ows q)
  cases f<;>simp only[AC,this]
 have zf:∀f,AC W (ρ.set k (.own x')) σ f=AC W ρ σ f:=λf=>funext λq=>propext (zz f q)
 refine⟨ok.bag.put gb ga,ok.fb,λq u hq e=>?_,λq u e=>?_,λq hq=>?_,by rw[length_set];exact ok.len,λi s e=>?_,λi j y z h1 h2 h3=>?_⟩
 ·rw[AV (λz=>by subst z;rw[g0]at e;cases e)]
  exact ok.old q u hq e
 ·rw[AV (λz=>by subst z;rw[gF]at e;cases e)]
  exact ok.frm q u e
 ·obtain⟨h1,h2,h3,h4,u,h5,h6⟩:=ok.oo q hq
  refine⟨h1,h2,h3,h4,?_⟩
  by_cases hqp:q=p
  ·subst hqp;exact⟨o,Al,no⟩
  ·exact⟨u,by rw[AV hqp];exact h5,h6⟩
 ·by_cases hi:k=i
  ·subst hi
   rw[getElem?_set_self kl]at e
   cases e
   exact⟨_,hs,p,rfl,g0,gF,gb,ga,by rw[show Zf W (ρ.set k (.own x')) σ=Zf W ρ σ from zf .fr];exact hrc⟩
  ·rw[getElem?_set_ne hi]at e
   obtain⟨u,h1,h2⟩:=ok.slot i s e
   refine⟨u,h1,?_⟩
   cases s with
   |emp=>trivial
   |sh y =>
    obtain⟨v,e1,e2⟩:=h2
    have kk:=EZ (o:=o) ok how (.inl rfl)
    exact⟨v,e1,by rw[show Zc W (ρ.set k (.own x')) σ=Zc W ρ σ from zf .cl];exact e2.keep kk.1 kk.2⟩
   |fr y =>
    obtain⟨v,e1,e2⟩:=h2
    have kk:=EZ (o:=o) ok how (.inr rfl)
    exact⟨v,e1,by rw[show Zf W (ρ.set k (.own x')) σ=Zf W ρ σ from zf .fr];exact e2.keep kk.1 kk.2⟩
   |own y =>
    obtain⟨r,e1,e2,e3,e4,e5,e6⟩:=h2
    have kk:=EZ (o:=o) ok how (f:=.fr) (.inr rfl)
    have nrp:r≠p:=λz=>by
     subst z
     exact hi (ok.uniq k i x y hk e (by rw[hs,h1,e1]))
    refine⟨r,e1,e2,e3,e4,e5,?_⟩
    rw[show Zf W (ρ.set k (.own x')) σ=Zf W ρ σ from zf .fr]
    cases y with
    |lst xs=>obtain⟨vs,z1,z2⟩:=e6;exact⟨vs,by rw[AV nrp];exact z1,z2.keep kk.1 kk.2⟩
    |dT ks xs=>obtain⟨vs,z1,z0,z2⟩:=e6;exact⟨vs,by rw[AV nrp];exact z1,z0,z2.keep kk.1 kk.2⟩
    |fT ks xs=>obtain⟨vs,z1,z0,z2⟩:=e6;exact⟨vs,z1.map λ_ e=>by rw[AV nrp];exact e,z0,z2.keep kk.1 kk.2⟩
    |dK ks xs=>obtain⟨vs,z1,z0,z2⟩:=e6;exact⟨vs,by rw[AV nrp];exact z1,z0,z2.keep kk.1 kk.2⟩
    |_=>exact e6.elim
 ·obtain⟨y',e1⟩:=get i y h1
  obtain⟨z',e2⟩:=get j z h2
  exact ok.uniq i j y' z' e1 e2 h3
theorem Ok.ownL(ok:Ok W ρ σ H)(hk:ρ[k]?=some (.own (.lst xs))):∃p vs,σ[k]?=some (some (.ref p))/\H p=some (.lst vs)/\AB W.b (Zf W ρ σ) H xs vs/\Ag ρ σ p:=by
 obtain⟨o,h1,p,h2,_,_,_,_,vs,h3,h4⟩:=ok.slot k _ hk
 subst h2
 exact⟨p,vs,h1,h3,h4,k,_,hk,h1⟩
theorem Ok.mutL{ys:List P}{vs us:List V}(ok:Ok W ρ σ H)(hk:ρ[k]?=some (.own (.lst xs)))(hs:σ[k]?=some (some (.ref p)))(hr:AB W.b (Zf W ρ σ) H ys us):Ok W (ρ.set k (.own (.lst ys))) σ (AE H p (.lst us)):=by
 have kk:=EZ (o:=HO.lst us) ok ⟨k,_,hk,hs⟩ (f:=.fr) (.inr rfl)
 exact ok.mut hk hs (λ_ z=>nomatch z) ⟨us,Al,hr.keep kk.1 kk.2⟩
end
def Gm(k:Nat)(pe:pE):pS:=λE ρ=>match ρ[k]? with
 |some (.own (.lst xs))=>pe ρ λy f=>As y f=.nw/\xs.length<16777216/\E.nx (ρ.set k (.own (.lst (xs++[y]))))
 |_=>False
noncomputable def frzS(k:Nat)(ρ:List S):List S:=match ρ[k]? with
 |some (.own x)=>ρ.set k (.fr x)
 |_=>ρ
def Mk(k:Nat)(p:pS):pS:=λE ρ=>p E (frzS k ρ)
theorem JI(ok:Ok W ρ σ H)(r:RF W ρ σ Hs f H y v)(h:As y f=.nw):Rp W.b (Zf W ρ σ) H y v:=by
 have:=(IW ok r).2.2
 rw[h]at this
 exact this
section
variable{ι:Type}{Xs:ι->Cx}{a b:Expr}{p1:Pos}{k:Nat}{t u:TE}
theorem Ok.stepL{k:Nat}(ok:Ok W ρ σ H)(st:Step W.b W.a H H')(hs:σ[k]?=some (some (.ref p)))(hc:H p=some (.lst vs))(hr:AB W.b (Zf W ρ σ) H xs vs)(ho:Ag ρ σ p):H' p=some (.lst vs)/\AB W.b (Zf W ρ σ) H' xs vs :=
 ⟨st.same p _ (ok.ow (.inr ho)).2.2.1 hc,hr.step (f:=.fr) st ok.bag⟩
theorem Sf(h2:BO t pa):Dx (Fk (Dr Kf "list" F5 (DR k) (Bl t CC))) (Gm k pa):=λW ρ σ H D E ok hk r=>by
 unfold Gm at hk
 split at hk
 ·rename_i xs e
  obtain⟨p,vs,hs,hc,hr,ho⟩:=ok.ownL e
  refine⟨.ref p,hs,.inl ⟨rfl,vs,.of hc⟩,h2 W ρ σ H _ _ ok hk λy f v H1 ⟨k1,k2,k3⟩ s1 r1=>?_⟩
  have ok1:=ok.step s1
  obtain⟨hc1,hr1⟩:=ok.stepL s1 hs hc hr ho
  refine⟨p,vs,v,rfl,rfl,hc1,by rw[<-hr.length];exact k2,r.nx _ _ _ k3 (ok1.mutL (vs:=vs) e hs (hr1.snoc (JI ok1 r1 k1)))⟩
 ·exact hk.elim
theorem JJ(hK:∀i,(Xs i).K=Kf)(ha:QE Xs a pa)(hN:∀i,(Xs i).N[k]?=some x:=by intro _;rfl)(hv:∀i,EB (Xs i).env.scope x:=by intro _;trivial)(hd:(x==("__debug__":Str))=false:=by decide)(hcd:(x==("__classdict__":Str))=false:=by decide)
  (hl:(qI.endLine==qH.line)=true:=by rfl) (hs:∀i,swapsWith (.Call (.Attribute (.Name x p1) "append" qI) [a] [] qH) none pos.line (Xs i).env=pure false:=by intro _;rfl)
  (hb:∀i,attributeBase (.Name x p1) "append" (Xs i).env (eval (.Name x p1) (Xs i).env)=eval (.Name x p1) (Xs i).env:=by intro _;rfl)
  (hst:∀i,starEach [a] (Xs i).env=[(false,eval a (Xs i).env)]:=by intro _;rfl):QS Xs (.Expr (.Call (.Attribute (.Name x p1) "append" qI) [a] [] qH) pos) (Gm k pa):=by
 obtain⟨t,h1,h2⟩:=ha
 refine⟨_,λi=>?_,Sf (Kf:=Kf) h2⟩
 rw[<-hK i]
 exact Hi (Ds PySem.F.plainAttrs_list PySem.F.slot_list_append PySem.F.type_list_append F6 (Fh (hN i) (hv i) hd hcd) (Ad (h1 i) Ay (hst i)) (hb i) (by rw[hst i];rfl) hl (hst i) rfl) (hs i)
theorem Ok.frzS(hO:∀p,¬W.O p)(ok:Ok W ρ σ H):Ok W (frzS k ρ) σ H:=by
 unfold L2.frzS
 split
 ·rename_i x e
  obtain⟨o,h1,p,h2,g0,gF,gb,ga,rc⟩:=ok.slot k _ e
  subst h2
  have kl:k<ρ.length:=by
   rcases Nat.lt_or_ge k ρ.length with q|q
   ·exact q
   ·rw[getElem?_eq_none q]at e;cases e
  have hks:k<σ.length:=by rw[ok.len];exact kl
  have eσ:σ.set k (some (.ref p))=σ:=by
   apply ext_getElem?
   intro i
   by_cases hi:k=i
   ·subst hi;rw[getElem?_set_self hks,h1]
   ·rw[getElem?_set_ne hi]
  have hn:=FA (ρ:=ρ) (σ:=σ) (k:=k) (v:=.ref p) (s:=.fr x) (λ_ z=>nomatch z)
  have key:=ok.put (v:=.ref p) (s:=.fr x) (Step.refl ok.bag) kl (λq z=>.inl (hn q z)) ?_ (λy z=>nomatch z)
  ·rw[eσ]at key;exact key
  ·refine⟨.ref p,rfl,?_⟩
   rw[eσ]at hn ⊢
   have kk:∀q o,¬Zf W ρ σ q->H q=some o->¬Zf W (ρ.set k (.fr x)) σ q/\H q=some o:=Ib (f:=.fr) (Step.refl ok.bag) (λq z=>.inl (hn q z))
   have np:¬Zf W (ρ.set k (.fr x)) σ p:=by
    intro z
    simp only[AC]at z
    rcases z with z|(z|z)|z
    ·exact gb z
    ·-- owned around: the same cell
     exact hO p z
    ·obtain⟨i,y,q1,q2⟩:=z
     by_cases hi:k=i
     ·subst hi;rw[getElem?_set_self kl]at q1;cases q1
     ·rw[getElem?_set_ne hi]at q1
      exact hi (ok.uniq k i x y e q1 (by rw[h1,q2]))
    ·exact z g0
   cases x with
   |lst xs=>obtain⟨vs,z1,z2⟩:=rc;exact⟨p,vs,rfl,np,z1,z2.keep kk λq us e=>e⟩
   |dT ks xs=>obtain⟨vs,z1,z0,z2⟩:=rc;exact⟨p,vs,rfl,np,z1,z0,z2.keep kk λq us e=>e⟩
   |fT ks xs=>obtain⟨vs,z1,z0,z2⟩:=rc;exact⟨p,vs,rfl,np,z1,z0,z2.keep kk λq us e=>e⟩
   |dK ks xs=>obtain⟨vs,z1,z0,z2⟩:=rc;exact⟨p,vs,rfl,np,z1,z0,z2.keep kk λq us e=>e⟩
   |_=>exact rc.elim
 ·exact ok
theorem Sg{st:Stmt}{p:pS}(k:Nat)(h:QS Xs st p):QS Xs st (Mk k p):=by
 obtain⟨t,h1,h2⟩:=h
 exact⟨t,h1,λW ρ σ H D E ok hk r=>h2 W _ σ H D E (ok.frzS r.noO) hk r⟩
end
end L2
namespace L2
open PySem PySem.Spec PyProof.Rows PySem.W
theorem Sh{F:PySem.Fin->Shared->Prop}(ho:s.heap.get? a=some (seqObj "list" us.toArray n))(h2:us.length<2)(h:F (.done (.ret .none)) { s with heap:=sortedHeap s.heap a us us.toArray }) :
  wpAny (model prog w) A (Builtin.«list.sort» ⟨[.ref a],[]⟩) F E s:=by
 have ha:=Heap.lt_size ho
 rw[list_sort_plain]
 refine wB (listItems_at ho rfl (wB (listUpdate_at ho rfl ?_)))
 have ho1:=get?_update_seq ho (λ_=>#[])
 refine wB (seqEpoch_at ho1 rfl (wB (wpAny_newTuple (wB (wpAny_newList (wpAny_holding ?_))))))
 have ho6:(((s.heap.update a (Obj.mapSeq λ_=>#[])).push (seqObj "tuple" us.toArray 0)).push (seqObj "list" #[] 0)).get? a=_ :=
  (Heap.get?_push_ne _ a _ (by rw[size_push',Heap.size_update];exact Nat.ne_of_lt (Nat.lt_succ_of_lt ha))).trans ((Heap.get?_push_ne _ a _ (by rw[Heap.size_update];exact Nat.ne_of_lt ha)).trans ho1)
 have hz:us.toArray.size<2:=by rw[size_toArray];exact h2
 dsimp only
 rw[if_pos hz,if_pos hz]
 refine wB (wP ?_)
 rw[StateT.run_pure]
 refine wB (wP (wB (seqEpoch_at ho6 rfl (wB (listUpdate_at ho6 rfl ?_ (hsz2:=?_))))))
 ·simp only[bne_self_eq_false,Bool.false_eq_true,if_false]
  have e:(arrOf (SortSt.mk' general' (us.toArray.zip us.toArray) #[] 7 none)).map (·.2)=us.toArray:=by
   show((us.toArray.zip us.toArray).map (·.2))=us.toArray
   apply Array.ext'
   simp[map_snd_zip]
  rw[<-e]at h
  exact wP h
 ·rw[Array.size_map]
  show(us.toArray.zip us.toArray).size<=_
  rw[Array.size_zip,sizeLine_eq]
  lia
theorem Si{l:Addr}(hl:s.heap.IsList l us.toArray)(h2:us.length<2)(q:Q (.ref (s.heap.objs.size+1)) { s with heap:=sortedAll s.heap us us.toArray }) :
  wpAny (model prog w) A (call (.builtin "sorted") [.ref l]) Q E s:=by
 refine Calls.call_function_entry kind_sorted plain_sorted entry_sorted (args_sorted1 _) ?_
 unfold Builtin.«sorted»
 refine wB (m:=checkCount "sorted" 1 1 _) (wP (wB (collect_list hl (wB (wpAny_newList ?_ (by rw[sizeLine_eq];lia))) (by rw[sizeLine_eq];lia))))
 have hsz:((s.heap.push (seqObj "list" #[] 0)).update s.heap.objs.size (Obj.mapSeq (·++us.toArray))).objs.size=s.heap.objs.size+1:=by
  rw[Heap.size_update,size_push']
 have hoL:=Heap.get?_push_size ((s.heap.push (seqObj "list" #[] 0)).update s.heap.objs.size (Obj.mapSeq (·++us.toArray))) (o:=seqObj "list" us.toArray 0) rfl
 rw[hsz]at hoL
 show wpAny _ _ _ _ _ { s with heap:=((s.heap.push (seqObj "list" #[] 0)).update s.heap.objs.size (Obj.mapSeq (·++us.toArray))).push (seqObj "list" us.toArray 0) }
 rw[hsz]
 exact wB (wpAny_holding (wpAny_call_entry slot_list_sort ⟨_,hoL,rfl⟩ entry_list_sort (Sh hoL h2 ⟨_,rfl,wP ⟨_,rfl,q⟩⟩) (args_list_sort _)))
noncomputable abbrev Ea(ps:List (Addr×List Int)):List V:=ps.map λq=>V.ref q.1
def CY(rs:List (List Int)):Prop:=rs.Pairwise λa b=>HT.lexLt b a=false
theorem Ml:∀{ps:List (Addr×List Int)} {us:List Value},AM (Ea ps) us->us=ps.map λq=>Value.ref q.1
 |[],_,.nil=>rfl
 |q::r,_,.cons e t=>by rw[Ml t,show _=Value.ref q.1 from e];rfl
theorem Mm:∀(ps:List (Addr×List Int)),AM (Ea ps) (ps.map λq=>Value.ref q.1)
 |[]=>.nil
 |q::r=>.cons rfl (Mm r)
theorem Sj(M:Model)(h:Heap)(i:Int)(t:Tok):Looks M h (typeOf (.int i t)) (.type "int"):=λA Q E s _ q=>wP q
theorem Mn{h:Heap}:∀{ps:List (Addr×List Int)},(∀q∈ps,∃us,IntsAre us q.2/\∃o n,h.get? q.1=some o/\o.cls=.type "tuple"/\o.data=.seq us.toArray n)->(∀q∈ps,0<q.2.length) ->
  ∃fs,KatTups h (ps.map λq=>Value.ref q.1) fs/\fs.length=ps.length/\∀v∈fs,∃i t,v=Value.int i t
 |[],_,_=>⟨[],.nil,rfl,λv hv=>nomatch hv⟩
 |q::r,h1,h2=>by
  obtain⟨fs,a,b,c⟩:=Mn (ps:=r) (λq hq=>h1 q (mem_cons_of_mem _ hq)) λq hq=>h2 q (mem_cons_of_mem _ hq)
  obtain⟨us,i1,o,n,e1,e2,e3⟩:=h1 q mem_cons_self
  have h0:=h2 q mem_cons_self
  generalize q.2=qs at i1 h0
  have hl:=i1.length
  match us,i1,e3 with
  |v::us,i1,e3 =>
   obtain⟨i,t,ev⟩:∃i t,v=Value.int i t:=by cases i1 with|cons i t _=>exact⟨i,t,rfl⟩
   refine⟨v::fs,.cons e1 e2 e3 (by simp) a,by simp[b],λx hx=>?_⟩
   rcases mem_cons.mp hx with rfl|hx
   ·exact⟨i,t,ev⟩
   ·exact c x hx
  |[],i1,e3=>exfalso;simp at hl;lia
end L2
namespace L2
open PySem PySem.Spec PyProof.Rows
section
variable{κ κ':Type}[DecidableEq κ][DecidableEq κ']
noncomputable def CZ:List κ->List P->κ->Option P
 |k0::ks,v::vs,k=>if k0=k then some v else CZ ks vs k
 |_,_,_=>none
noncomputable def Cj(ks:List κ)(k:κ):List κ:=if k∈ks then ks else ks++[k]
noncomputable def Dc(ks:List κ)(vs:List P)(k:κ)(x:P):List P:=if k∈ks then zipWith (λk0 v=>if k0=k then x else v) ks vs else vs++[x]
theorem Gn{b:Addr}{Z:Addr->Prop}{H:Hp}{g:κ->κ'}(hg:∀a c,g a=g c->a=c):∀{ks:List κ} {xs:List P} {vs:List V} {k:κ},AB b Z H xs vs->ks.length=xs.length ->
  (∀z,CZ ks xs k=some z->∃v,Bn ((ks.map g).zip vs) (g k)=some v/\Rp b Z H z v)/\(CZ ks xs k=none->Bn ((ks.map g).zip vs) (g k)=none)
 |[],[],vs,k,_,_=>⟨(λz h=>(nomatch h)),(λ_=>rfl)⟩
 |k0::ks,x::xs,vs,k,r,hl=>by
  obtain⟨v,t,rfl,r1,r2⟩:=r
  have ih:=Gn (k:=k) hg r2 (by simpa using hl)
  simp only[CZ,map_cons,zip_cons_cons]
  by_cases e:k0=k
  ·subst e
   rw[if_pos rfl,F7 rfl]
   exact⟨(λz h=>⟨v,rfl,by cases h;exact r1⟩),(λh=>(nomatch h))⟩
  ·rw[if_neg e]
   have ne:¬g k0=g k:=λz=>e (hg _ _ z)
   have:Bn ((g k0,v)::(ks.map g).zip t) (g k)=Bn ((ks.map g).zip t) (g k):=by unfold Bn;rw[find?_cons];simp[ne]
   rw[this]
   exact ih
theorem Mo{g:κ->κ'}(hg:∀a c,g a=g c->a=c){k:κ}{v:V}:∀(ks:List κ) (vs:List V),((ks.map g).zip vs).map (λkv=>if kv.1=g k then(kv.1,v)else kv)=(ks.map g).zip (zipWith (λk0 u=>if k0=k then v else u) ks vs)
 |[],_=>by simp
 |_::_,[]=>by simp
 |k0::ks,u::vs=>by
  simp only[map_cons,zip_cons_cons,zipWith_cons_cons,Mo hg ks vs]
  by_cases e:k0=k
  ·subst e;simp
  ·have ne:¬g k0=g k:=λz=>e (hg _ _ z)
   simp[e,ne]
theorem JK{g:κ->κ'}(hg:∀a c,g a=g c->a=c){k:κ}:∀{ks:List κ} {vs:List V},ks.length=vs.length->((((ks.map g).zip vs).any λkv=>decide (kv.1=g k))=true↔k∈ks)
 |[],_,_=>by simp
 |k0::ks,[],h=>by simp at h
 |k0::ks,u::vs,h=>by
  simp only[map_cons,zip_cons_cons,any_cons,Bool.or_eq_true,decide_eq_true_iff,JK (k:=k) hg (show ks.length=vs.length by simpa using h),mem_cons]
  constructor
  ·rintro(z|z)
   ·exact .inl (hg _ _ z).symm
   ·exact .inr z
  ·rintro(z|z)
   ·exact .inl (by rw[z])
   ·exact .inr z
theorem Sk{g:κ->κ'}(hg:∀a c,g a=g c->a=c){ks:List κ}{k:κ}(hl:ks.length=vs.length):Bz ((ks.map g).zip vs) (g k) v=((Cj ks k).map g).zip (if k∈ks then zipWith (λk0 u=>if k0=k then v else u) ks vs else vs++[v]):=by
 unfold Bz Cj
 by_cases hk:k∈ks
 ·rw[if_pos ((JK hg hl).mpr hk),if_pos hk,if_pos hk,Mo hg]
 ·rw[if_neg (λz=>hk ((JK hg hl).mp z)),if_neg hk,if_neg hk,map_append,zip_append (by simpa using hl)]
  rfl
theorem Mp{b:Addr}{Z:Addr->Prop}{H:Hp}{x:P}{v:V}(rx:Rp b Z H x v){k:κ}:∀{ks:List κ} {xs:List P} {vs:List V},AB b Z H xs vs->ks.length=xs.length ->
  AB b Z H (zipWith (λk0 y=>if k0=k then x else y) ks xs) (zipWith (λk0 u=>if k0=k then v else u) ks vs)
 |[],[],vs,r,_=>by simp[AB]
 |k0::ks,y::xs,vs,r,hl=>by
  obtain⟨u,t,rfl,r1,r2⟩:=r
  refine⟨_,_,rfl,?_,Mp rx r2 (by simpa using hl)⟩
  by_cases e:k0=k
  ·dsimp only;rw[if_pos e,if_pos e];exact rx
  ·dsimp only;rw[if_neg e,if_neg e];exact r1
theorem Mq{b:Addr}{g:κ->κ'}(hg:∀a c,g a=g c->a=c){ks:List κ}{k:κ}{x:P}(r:AB b Z H xs vs)(hl:ks.length=xs.length)(rx:Rp b Z H x v) :
  ∃vs',Bz ((ks.map g).zip vs) (g k) v=((Cj ks k).map g).zip vs'/\AB b Z H (Dc ks xs k x) vs':=by
 refine⟨_,Sk hg (hl.trans r.length),?_⟩
 unfold Dc
 split
 ·exact Mp rx r hl
 ·exact r.snoc rx
theorem Mr{ks:List κ}{k:κ}{x:P}(hl:ks.length=xs.length):(Cj ks k).length=(Dc ks xs k x).length:=by
 unfold Cj Dc
 split
 ·rw[length_zipWith];lia
 ·simp[hl]
end
theorem JL(a c:List Int)(h:Bd a=Bd c):a=c:=by rw[<-IZ a,h,IZ]
theorem Ms(a c:Str)(h:DF a=DF c):a=c:=Sum.inr.inj h
noncomputable def Ca:P->Option (List Int)
 |.tup xs=>xs.mapM λx=>match x with|.int i=>some i|_=>none
 |_=>none
@[simp] theorem Sl(r:List Int):Ca (.tup (r.map P.int))=some r:=by
 simp only[Ca]
 induction r with
 |nil=>rfl
 |cons x r ih=>rw[map_cons,mapM_cons,ih];rfl
theorem Mt{x:P}(h:Ca x=some r):x=.tup (r.map P.int):=by
 cases x with
 |tup xs =>
  simp only[Ca]at h
  congr 1
  induction xs generalizing r with
  |nil=>cases h;rfl
  |cons y xs ih =>
   rw[mapM_cons]at h
   cases y with
   |int i =>
    cases e:(xs.mapM λx=>match x with|.int i=>some i|_=>none)with
    |none=>rw[e]at h;cases h
    |some r'=>rw[e]at h;cases h;rw[ih e];rfl
   |_=>cases h
 |_=>cases h
def Mu(pd pk:pE):pE:=λρ K=>pd ρ λx f=>pk ρ λy _=>match x with
 |.dT ks vs=>∃r z,Ca y=some r/\CZ ks vs r=some z/\K z f.el
 |.dK ks vs=>match y with|.str k=>∃z,CZ ks vs k=some z/\K z f.el|_=>False
 |.fT ks vs=>∃r z,Ca y=some r/\CZ ks vs r=some z/\K z f.el
 |_=>False
def pDGetOr(pd pk px:pE):pE:=λρ K=>pd ρ λx f=>(x.mut=true/\∀xs,x≠.lst xs)/\pk ρ λy _=>px ρ λz _=>match x with
 |.dT ks vs=>∃r,Ca y=some r/\P.imms vs=true/\z.imm=true/\K ((CZ ks vs r).getD z) .fr
 |.dK ks vs=>match y with|.str k=>P.imms vs=true/\z.imm=true/\K ((CZ ks vs k).getD z) .fr|_=>False
 |_=>False
theorem Mv{ks:List (List Int)}(ok:Ok W ρ σ H)(r:RF W ρ σ Hs f H (.dT ks xs) v):∃p vs,v=.ref p/\p≠W.b/\H p=some (.dT ((ks.map Bd).zip vs))/\ks.length=xs.length/\AB W.b (AC W ρ σ f) H xs vs:=by
 cases f with
 |bo=>obtain⟨p,e,o,us,h1,h2,h3⟩:=r;exact⟨p,us,e,(ok.ow (.inr o)).2.2.1,h1,h2,h3⟩
 |nw=>obtain⟨p,us,e,z,h1,h2,h3⟩:=r.1;exact⟨p,us,e,λq=>z (q▸AC.b),h1,h2,h3⟩
 |fr=>obtain⟨p,us,e,z,h1,h2,h3⟩:=r;exact⟨p,us,e,λq=>z (q▸AC.b (f:=.fr)),h1,h2,h3⟩
 |cl=>obtain⟨p,us,e,z,h1,h2,h3⟩:=r;exact⟨p,us,e,λq=>z (q▸AC.b (f:=.cl)),h1,h2,h3⟩
 |rf=>obtain⟨p,us,e,z,h1,h2,h3⟩:=r;exact⟨p,us,e,λq=>z (q▸AC.b (f:=.rf)),h1,h2,h3⟩
 |an=>obtain⟨p,us,e,z,h1,h2,h3⟩:=r;exact⟨p,us,e,λq=>z (q▸AC.b (f:=.an)),h1,h2,h3⟩
theorem Sm{ks:List Str}(ok:Ok W ρ σ H)(r:RF W ρ σ Hs f H (.dK ks xs) v):∃p vs,v=.ref p/\p≠W.b/\H p=some (.dK ((ks.map DF).zip vs))/\ks.length=xs.length/\AB W.b (AC W ρ σ f) H xs vs:=by
 cases f with
 |bo=>obtain⟨p,e,o,us,h1,h2,h3⟩:=r;exact⟨p,us,e,(ok.ow (.inr o)).2.2.1,h1,h2,h3⟩
 |nw=>obtain⟨p,us,e,z,h1,h2,h3⟩:=r.1;exact⟨p,us,e,λq=>z (q▸AC.b),h1,h2,h3⟩
 |fr=>obtain⟨p,us,e,z,h1,h2,h3⟩:=r;exact⟨p,us,e,λq=>z (q▸AC.b (f:=.fr)),h1,h2,h3⟩
 |cl=>obtain⟨p,us,e,z,h1,h2,h3⟩:=r;exact⟨p,us,e,λq=>z (q▸AC.b (f:=.cl)),h1,h2,h3⟩
 |rf=>obtain⟨p,us,e,z,h1,h2,h3⟩:=r;exact⟨p,us,e,λq=>z (q▸AC.b (f:=.rf)),h1,h2,h3⟩
 |an=>obtain⟨p,us,e,z,h1,h2,h3⟩:=r;exact⟨p,us,e,λq=>z (q▸AC.b (f:=.an)),h1,h2,h3⟩
theorem Sn{ks:List (List Int)}(ok:Ok W ρ σ H)(r:RF W ρ σ Hs f H (.fT ks xs) v):∃p vs,v=.ref p/\p≠W.b/\Fz H p ((ks.map Bd).zip vs)/\ks.length=xs.length/\AB W.b (AC W ρ σ f) H xs vs:=by
 cases f with
 |bo=>obtain⟨p,e,o,us,h1,h2,h3⟩:=r;exact⟨p,us,e,(ok.ow (.inr o)).2.2.1,h1,h2,h3⟩
 |nw=>obtain⟨p,us,e,z,h1,h2,h3⟩:=r.1;exact⟨p,us,e,λq=>z (q▸AC.b),h1,h2,h3⟩
 |fr=>obtain⟨p,us,e,z,h1,h2,h3⟩:=r;exact⟨p,us,e,λq=>z (q▸AC.b (f:=.fr)),h1,h2,h3⟩
 |cl=>obtain⟨p,us,e,z,h1,h2,h3⟩:=r;exact⟨p,us,e,λq=>z (q▸AC.b (f:=.cl)),h1,h2,h3⟩
 |rf=>obtain⟨p,us,e,z,h1,h2,h3⟩:=r;exact⟨p,us,e,λq=>z (q▸AC.b (f:=.rf)),h1,h2,h3⟩
 |an=>obtain⟨p,us,e,z,h1,h2,h3⟩:=r;exact⟨p,us,e,λq=>z (q▸AC.b (f:=.an)),h1,h2,h3⟩
theorem JM{x:P}(ok:Ok W ρ σ H)(hk:Ca x=some r)(rx:RF W ρ σ Hs f H x v):∃q,v=.ref q/\H q=some (.tup ((Bd r).map kV)):=by
 rw[Mt hk]at rx
 obtain⟨q,us,e,c,r1⟩:=Cw ok rx
 rw[AB.ints.mp r1]at c
 exact⟨q,e,by rw[c];simp[Bd,map_map,Function.comp_def,kV]⟩
section
variable{ι:Type}{Xs:ι->Cx}{o i e:Expr}{pd pk px:pE}
theorem Mw(hu:∀j,(Xs j).A.units+1<cLine)(ho:QE Xs o pd)(hi:QE Xs i pk)(hs:IH i):QE Xs (.Subscript o i pos) (Mu pd pk):=by
 obtain⟨td,d1,d2⟩:=ho
 obtain⟨tk,k1,k2⟩:=hi
 refine⟨_,λj=>Qj (hu j) (d1 j) (k1 j) hs,λW ρ σ H Q K ok hk q=>d2 W ρ σ H _ _ ok hk λx f v H1 h1 s1 r1=>k2 W ρ σ H1 _ _ (ok.step s1) h1 λy g u H2 h2 s2 r2=>?_⟩
 have s12:=s1.trans s2
 have ok2:=ok.step s12
 have r1':=r1.step (ok.step s1) s2
 split at h2
 ·obtain⟨r,z,e1,e2,e3⟩:=h2
  obtain⟨p,us,rfl,_,c1,c2,c3⟩:=Mv ok2 r1'
  obtain⟨q2,rfl,c4⟩:=JM ok2 e1 r2
  obtain⟨w,a1,a2⟩:=(Gn JL (k:=r) c3 c2).1 z e2
  exact⟨p,w,rfl,by rw[<-a1];exact DB.t c1 c4,q z _ w H2 e3 s12 (RF.ofEl a2)⟩
 ·split at h2
  ·obtain⟨z,e2,e3⟩:=h2
   rename_i ks vs _ k
   obtain⟨p,us,rfl,_,c1,c2,c3⟩:=Sm ok2 r1'
   cases Bo ok2 r2
   obtain⟨w,a1,a2⟩:=(Gn Ms (k:=k) c3 c2).1 z e2
   exact⟨p,w,rfl,by rw[<-a1];exact DB.k (k:=Sum.inr k) c1,q z _ w H2 e3 s12 (RF.ofEl a2)⟩
  ·exact h2.elim
 ·obtain⟨r,z,e1,e2,e3⟩:=h2
  obtain⟨p,us,rfl,_,⟨o,c1⟩,c2,c3⟩:=Sn ok2 r1'
  obtain⟨q2,rfl,c4⟩:=JM ok2 e1 r2
  obtain⟨w,a1,a2⟩:=(Gn JL (k:=r) c3 c2).1 z e2
  exact⟨p,w,rfl,by rw[<-a1];exact .inr ⟨_,_,_,.inr ⟨o,c1⟩,rfl,c4,rfl⟩,q z _ w H2 e3 s12 (RF.ofEl a2)⟩
 ·exact h2.elim
def Mx:pE:=λ_ K=>K (.dT [] []) .nw
theorem Sq:QE Xs (.Dict [] [] pos) Mx:=⟨_,λ_=>Qn,λW ρ σ H Q K ok hk q=>λp hp=>q _ _ _ _ hk (Step.new ok.bag hp) ⟨⟨p,[],rfl,λz=>ok.dom (f:=.fr) z hp,Al,rfl,rfl⟩,λ_=>⟨p,rfl,hp⟩⟩⟩
end
def Gp(k:Nat)(pk pe:pE):pS:=λE ρ=>match ρ[k]? with
 |some (.own (.dT ks vs))=>pe ρ λy f=>pk ρ λz _=>∃r,Ca z=some r/\As y f=.nw/\ks.length<16777216/\E.nx (ρ.set k (.own (.dT (Cj ks r) (Dc ks vs r y))))
 |some (.own (.dK ks vs))=>pe ρ λy f=>pk ρ λz _=>∃r,z=.str r/\As y f=.nw/\ks.length<16777216/\E.nx (ρ.set k (.own (.dK (Cj ks r) (Dc ks vs r y))))
 |_=>False
section
variable{ι:Type}{Xs:ι->Cx}{a b:Expr}{p1:Pos}{k:Nat}{t u:TE}
theorem Sr(h1:BO t pa)(h2:BO u pb):Dx (K9 (DR k) t u) (Gp k pa pb):=λW ρ σ H D E ok hk r=>by
 unfold Gp at hk
 split at hk
 ·rename_i ks xs e
  obtain⟨w,hs,p,e2,_,_,gb,_,vs,c1,c2,c3⟩:=ok.slot k _ e
  subst e2
  have ho:Ag ρ σ p:=⟨k,_,e,hs⟩
  refine h2 W ρ σ H _ _ ok hk λy f v H1 ky s1 ry=>⟨.ref p,hs,h1 W ρ σ H1 _ _ (ok.step s1) ky λz fz vz H2 ⟨rr,k0,k1,k2,k3⟩ s2 rz=>?_⟩
  have s12:=s1.trans s2
  have ok2:=ok.step s12
  obtain⟨q,rfl,c4⟩:=JM ok2 k0 rz
  have c1':=s12.same p _ gb c1
  have c3':AB W.b (Zf W ρ σ) H2 xs vs:=c3.step (f:=.fr) s12 ok.bag
  have ry':=JI ok2 (ry.step (ok.step s1) s2) k1
  refine⟨p,_,rfl,DW.t c1' c4 (by rw[length_zip,length_map];exact Nat.lt_of_le_of_lt (Nat.min_le_left _ _) k2),r.nx _ _ _ k3 ?_⟩
  obtain⟨vs',f1,f2⟩:=Mq JL (k:=rr) c3' c2 ry'
  rw[f1]
  have kk:=EZ (o:=HO.dT (((Cj ks rr).map Bd).zip vs')) ok2 ho (f:=.fr) (.inr rfl)
  exact ok2.mut e hs (λ_ z=>nomatch z) ⟨vs',Al,Mr c2,f2.keep kk.1 kk.2⟩
 ·rename_i ks xs e
  obtain⟨w,hs,p,e2,_,_,gb,_,vs,c1,c2,c3⟩:=ok.slot k _ e
  subst e2
  have ho:Ag ρ σ p:=⟨k,_,e,hs⟩
  refine h2 W ρ σ H _ _ ok hk λy f v H1 ky s1 ry=>⟨.ref p,hs,h1 W ρ σ H1 _ _ (ok.step s1) ky λz fz vz H2 ⟨rr,k0,k1,k2,k3⟩ s2 rz=>?_⟩
  have s12:=s1.trans s2
  have ok2:=ok.step s12
  subst k0
  cases Bo ok2 rz
  have c1':=s12.same p _ gb c1
  have c3':AB W.b (Zf W ρ σ) H2 xs vs:=c3.step (f:=.fr) s12 ok.bag
  have ry':=JI ok2 (ry.step (ok.step s1) s2) k1
  refine⟨p,_,rfl,DW.k (k:=Sum.inr rr) c1' (by rw[length_zip,length_map];exact Nat.lt_of_le_of_lt (Nat.min_le_left _ _) k2),r.nx _ _ _ k3 ?_⟩
  obtain⟨vs',f1,f2⟩:=Mq Ms (k:=rr) c3' c2 ry'
  rw[show(Sum.inr rr:AO)=DF rr from rfl,f1]
  have kk:=EZ (o:=HO.dK (((Cj ks rr).map DF).zip vs')) ok2 ho (f:=.fr) (.inr rfl)
  exact ok2.mut e hs (λ_ z=>nomatch z) ⟨vs',Al,Mr c2,f2.keep kk.1 kk.2⟩
 ·exact hk.elim
theorem Ss(hu:∀i,(Xs i).A.units+1<cLine)(ha:QE Xs a pa)(hb:QE Xs b pb)(hN:∀i,(Xs i).N[k]?=some x:=by intro _;rfl)(hv:∀i,EB (Xs i).env.scope x:=by intro _;trivial)(hd:(x==("__debug__":Str))=false:=by decide)(hcd:(x==("__classdict__":Str))=false:=by decide)
  (hs:∀i,swapsWith b (some (.Subscript (.Name x p1) a pos')) pos.line (Xs i).env=pure false:=by intro _;rfl):QS Xs (.Assign [.Subscript (.Name x p1) a pos'] b pos) (Gp k pa pb):=by
 obtain⟨t,e1,e2⟩:=ha
 obtain⟨u,g1,g2⟩:=hb
 exact⟨_,λi=>Qk (hu i) (Fh (hN i) (hv i) hd hcd) (e1 i) (g1 i) (hs i),Sr e2 g2⟩
end
end L2
namespace L2
open PySem PySem.Spec PyProof.Rows PySem.W
def CF(h:Heap)(d:Addr)(es:Array DictEntry)(ep:Nat):Prop:=∃o,h.get? d=some o/\o.ExactDict/\o.data=.dict es ep
theorem CF.typeIs{d:Addr}{es:Array DictEntry}{ep:Nat}(x:CF s.heap d es ep):s.TypeIs (.ref d) "dict":=let⟨o,e,c,_⟩:=x;⟨o,e,c.1⟩
theorem CF.keep{d:Addr}{es:Array DictEntry}{ep:Nat}(x:CF h d es ep)(k:∀o,h.get? d=some o->h'.get? d=some o):CF h' d es ep:=let⟨o,e,r⟩:=x;⟨o,k o e,r⟩
theorem CF.lt{d:Addr}{es:Array DictEntry}{ep:Nat}(x:CF h d es ep):d<h.objs.size:=let⟨_,e,_⟩:=x;Heap.lt_size e
section
variable{d:Addr}{es:Array DictEntry}{ep:Nat}
theorem Su(hd:(d==sysModules)=false)(hm:CF s.heap d es ep)
  (hQ:Q (.ref s.heap.objs.size) { s with heap:=s.heap.push { cls:=.type "dict_keyiterator",data:=.fields #[.ref d,.int 0 0,.int es.size 0,.int ep 0] } }):wpAny (model prog w) A (pyIter (.ref d)) Q E s:=by
 obtain⟨o,ho,hc,hdat⟩:=id hm
 refine wpAny_pyIter_slot hm.typeIs F.slot_dict_iter (wpAny_call_entry F.slot_dict_iter hm.typeIs F.entry_dict_iter ?body (F.args_dict_iter_1 _))
 unfold Builtin.«dict.__iter__» Builtin.Dict.dictSlotNone
 refine wB (wB (wpAny_notOrdered_dict hm.typeIs ?_))
 show wpAny _ _ (pure (Value.ref d)) _ _ s
 refine wP ?_
 show wpAny _ _ (Builtin.Dict.showsAll d >>= _) _ _ s
 unfold Builtin.Dict.showsAll
 rw[if_neg (show¬_ by rw[hd];simp)]
 refine wB (wP (wB (wpAny_dictEntries ho hdat (wB (wpAny_dictEpoch ho hdat (wB (wpAny_newObj_type (wP ⟨_,rfl,"dict_keyiterator",_,⟨_,Heap.get?_push_size _ rfl,rfl⟩,F.slot_dict_keyiterator_next.lookup,?_⟩))))))))
 simpa[rawInt]using hQ
theorem Sv{Q:Option Value->Shared->Prop}(hit:s.heap.IsKeyIter it d i es.size ep)(hm:CF s.heap d es ep)(hi:i<es.size)
  (hQ:∀h',h'.IsKeyIter it d (i+1) es.size ep->Heap.SameBut it s.heap h'->Q (some es[i].key) { s with heap:=h' }):wpAny (model prog w) A (pyNext (.ref it)) Q E s:=by
 obtain⟨o,ho,hc,hd⟩:=id hit
 obtain⟨od,hod,hcd,hdd⟩:=id hm
 have hown:Builtin.Dict_items.ownsTuple "dict_keyiterator"=false:=by decide
 unfold pyNext
 refine wB (wpAny_attempt (wpAny_callSpecial?_slot (name:=Str.ofString "__next__") hit.typeIs F.slot_dict_keyiterator_next (wpAny_call_entry F.slot_dict_keyiterator_next hit.typeIs F.entry_dict_keyiterator_next ?body (F.args_dict_keyiterator_next_1 _))))
 refine wB (wP (wB (wB ?_)))
 first
  |refine wB (wpAny_typeNameOfWhole_keyiter hit.typeIs (wP (wB (wpAny_fieldsOf ho hd ?_))))
  |refine wB (wpAny_typeNameOf_keyiter hit.typeIs (wP (wB (wpAny_fieldsOf ho hd ?_))))
 simp only[hown,Bool.false_eq_true,if_false]
 show wpAny _ _ (if(Value.ref d==Value.none)=true then _ else _) _ _ s
 rw[if_neg (show¬(Value.ref d==Value.none)=true from Bool.false_ne_true)]
 refine wB (wP (wB (wpAny_dictEntries hod hdd ?_)))
 rw[if_neg (by simp)]
 refine wB (wP (wB (wpAny_dictEpoch hod hdd ?_)))
 rw[if_neg (by simp)]
 refine wP ?_
 simp only[show¬((i:Int)<0) by lia,if_false,Int.toNat_natCast,Array.getElem?_eq_getElem hi]
 refine wB ?_
 first
  |refine wB (wpAny_typeNameOfWhole_keyiter hit.typeIs (wP (wB (wpAny_isOneOf_keyiter hit.typeIs ?_))))
  |refine wB (wpAny_typeNameOf_keyiter hit.typeIs (wP (wB (wpAny_isOneOf_keyiter hit.typeIs ?_))))
 show wpAny _ _ (setField (.ref it) 1 (rawInt ((i:Int)+1)) >>= _) _ _ s
 refine wB (wpAny_setField ho hd (by simp) ?_)
 have hit':(s.heap.update it (Obj.mapFields (·.setIfInBounds 1 (rawInt ((i:Int)+1))))).IsKeyIter it d (i+1) es.size ep :=
  ⟨_,Heap.get?_update_self _ ho (Obj.isFreed_of_fields (Obj.data_mapFields hd _)),(Obj.cls_mapFields ..).trans hc,by rw[Obj.data_mapFields hd]<;>simp[rawInt]⟩
 refine wB (wpAny_holding (wB (wpAny_isOneOf_keyiter (s:={ s with heap:=s.heap.update it (Obj.mapFields (·.setIfInBounds 1 (rawInt ((i:Int)+1)))) }) hit'.typeIs ?_)))
 show wpAny _ _ (pure es[i].key) _ _ _
 exact wP (wP ⟨_,rfl,wP (hQ _ hit' (Heap.SameBut.update ..))⟩)
theorem Sw{Q:Option Value->Shared->Prop}(hh:A.handled=none)(hit:s.heap.IsKeyIter it d es.size es.size ep)(hm:CF s.heap d es ep)(hQ:∀h',Heap.ExtBut it s.heap h'->Q none { s with heap:=h' }):wpAny (model prog w) A (pyNext (.ref it)) Q E s:=by
 obtain⟨o,ho,hc,hd⟩:=id hit
 obtain⟨od,hod,hcd,hdd⟩:=id hm
 have hown:Builtin.Dict_items.ownsTuple "dict_keyiterator"=false:=by decide
 unfold pyNext
 refine wB (wpAny_attempt (wpAny_callSpecial?_slot (name:=Str.ofString "__next__") hit.typeIs F.slot_dict_keyiterator_next (wpAny_call_entry F.slot_dict_keyiterator_next hit.typeIs F.entry_dict_keyiterator_next ?body (F.args_dict_keyiterator_next_1 _))))
 refine wB (wP (wB (wB ?_)))
 first
  |refine wB (wpAny_typeNameOfWhole_keyiter hit.typeIs (wP (wB (wpAny_fieldsOf ho hd ?_))))
  |refine wB (wpAny_typeNameOf_keyiter hit.typeIs (wP (wB (wpAny_fieldsOf ho hd ?_))))
 simp only[hown,Bool.false_eq_true,if_false]
 show wpAny _ _ (if(Value.ref d==Value.none)=true then _ else _) _ _ s
 rw[if_neg (show¬(Value.ref d==Value.none)=true from Bool.false_ne_true)]
 refine wB (wP (wB (wpAny_dictEntries hod hdd ?_)))
 rw[if_neg (by simp)]
 refine wB (wP (wB (wpAny_dictEpoch hod hdd ?_)))
 rw[if_neg (by simp)]
 refine wP ?_
 simp only[show¬((es.size:Int)<0) by lia,if_false,Int.toNat_natCast,Array.getElem?_eq_none (Nat.le_refl es.size)]
 refine wB ?_
 first
  |refine wB (wpAny_typeNameOfWhole_keyiter hit.typeIs (wP ?_))
  |refine wB (wpAny_typeNameOf_keyiter hit.typeIs (wP ?_))
 show wpAny _ _ (setField (.ref it) 0 .none >>= _) _ _ s
 refine wB (wpAny_setField ho hd (by simp) ?_)
 show wpAny _ _ (newExc (.type "StopIteration") [] >>= _) _ _ _
 refine wB ?_
 simp only[newExc,newTuple]
 refine wB (wpAny_newObj_type ?nx (by size_fits))
 refine wB (m:=firstArgMember _ _) (wpAny_of_eq (a:=Value.none) (by first|rfl|(simp only[firstArgMember];rfl)) (wpAny_newObj_type ?ny (by size_fits)))
 simp only[raiseNew]
 refine wB (wpAny_handled ?_)
 rw[show A.in1.handled=none from hh]
 refine wB (wP (wpAny_throw ?_))
 refine wB (wpAny_isInstance (T:="StopIteration") (b:=true) ⟨_,Heap.get?_push_size _ rfl,rfl⟩ isSubtype_stop ?fin)
 exact wP (hQ _ (((Heap.SameBut.update ..).extBut.push _).push _))
theorem Sx(hh:A.handled=none)(I d:Addr)(hne:d≠I)(es:Array DictEntry)(ep:Nat) :
  Walks prog w A I [I,d] [I] es.size (λi v=>∃h:i<es.size,v=es[i].key) (λi h=>h.IsKeyIter I d i es.size ep/\CF h d es ep) where
 sub:=λb hb=>by simp at hb;simp[hb]
 frame:=λ_ _ _ st hk=>⟨st.1.at λo e=>hk I (by simp) o e,st.2.keep λo e=>hk d (by simp) o e⟩
 item:=λi s Q E hi st hQ=>Sv st.1 st.2 hi λh' hit' hs' =>
  hQ _ h' s.toks ⟨hi,rfl⟩ ⟨hit',st.2.keep λo e=>hs'.extBut d o hne e⟩ λb o hb e=>hs'.extBut b o (λh=>hb (by simp[h])) e
 done:=λs Q E st hQ=>Sw hh st.1 st.2 λh' he'=>hQ h' s.toks λb o hb e=>he' b o (λh=>hb (by simp[h])) e
 self:=λ_ _ _ _ st hQ=>wpAny_pyIter_keyiter st.1 hQ
theorem Sy(lo:(d==sysModules)=false):KdlSrc prog w "dict" d d es.size (λi v=>∃h:i<es.size,v=es[i].key) (λh=>CF h d es ep) where
 type:=λ_ hm=>hm.typeIs
 there:=λ_ hm=>⟨hm.lt,hm.lt⟩
 keep:=λ_ _ hm hk=>hm.keep λo e=>hk d (.inl rfl) o e
 notList:=by decide
 notTuple:=by decide
 hint:=λ_ _ _ _ hm hq=>kdl_hint_dict hm.typeIs hq
 iter:=λ_ _ hh hm=>⟨_,_,(λ_ _ hq=>Su lo hm hq),Sx hh _ d (Nat.ne_of_lt hm.lt) es ep,⟨⟨_,Heap.get?_push_size _ rfl,rfl,rfl⟩,hm.keep λo e=>Heap.get?_push_of_some _ e⟩⟩
end
noncomputable abbrev Ae(r:List Int):P:=.tup (r.map P.int)
noncomputable def Mz:List V->Hp->VK->Prop:=λxs H Q=>∃(p:Addr) (qF:List (List AO×V)),xs=[.ref p]/\H p=some (.dT qF) /\
 ∀(l:Addr) (ps:List (Addr×List AO)),H l=none->ps.map (·.2)=qF.map (·.1)->(∀q∈ps,H q.1=some (.tup (q.2.map kV)))->Q (.ref l) (AE H l (.lst (ps.map λq=>V.ref q.1)))
theorem JN:∀{qF:List (List AO×V)} {xs:List (List AO×Addr×Value)},Paired (λ(p:List AO×V) (q:List AO×Addr×Value)=>p.1=q.1/\H q.2.1=some (.tup (p.1.map kV))/\AI p.2 q.2.2) qF xs ->
  (xs.map λx=>(x.2.1,x.1)).map (·.2)=qF.map (·.1)/\∀q∈(xs.map λx=>(x.2.1,x.1)),H q.1=some (.tup (q.2.map kV))
 |_,_,.nil=>⟨rfl,λq hq=>nomatch hq⟩
 |_,_,.cons r t=>by
  obtain⟨a,b⟩:=JN t
  refine⟨by simp only[map_cons];rw[a,r.1],λq hq=>?_⟩
  rw[map_cons]at hq
  rcases mem_cons.mp hq with rfl|hq
  ·have:=r.2.1;rw[r.1]at this;exact this
  ·exact b q hq
theorem Sz{qF:List (List AO×V)}(hok:Ar P' w H h)(e:H p=some (.dT qF)) :
  ∃(es:Array DictEntry) (ep:Nat) (ps:List (Addr×List AO)),CF h p es ep/\(p==sysModules)=false/\qF.length<=sizeLine/\ps.map (·.2)=qF.map (·.1)/\(∀q∈ps,H q.1=some (.tup (q.2.map kV)))/\es.toList.map (·.key)=ps.map λq=>Value.ref q.1:=by
 obtain⟨z,hd,xs,rel,o,es,ep,h1,h2,h3,h4,_⟩:=hok p _ e
 exact⟨es,ep,xs.map λx=>(x.2.1,x.1),⟨o,h1,h2,h3⟩,hd,z,(JN rel).1,(JN rel).2,by rw[h4,map_map,map_map];rfl⟩
theorem S0{es:Array DictEntry}{acc:Array Value}(h:ItemsOf (λi v=>∃h:i<es.size,v=es[i].key) acc n)(hn:n=es.size):acc.toList=es.toList.map (·.key):=by
 apply ext_getElem?
 intro i
 have hl:acc.size=es.size:=by rw[<-hn];exact h.1
 by_cases hi:i<acc.size
 ·obtain⟨h',e⟩:=h.2 i acc[i] (by simp[hi])
  rw[getElem?_map]
  simp[hi,h',e]
 ·rw[getElem?_eq_none (by simpa using hi),getElem?_eq_none (by simp;lia)]
theorem S1(ps:List (Addr×List AO)):AM (ps.map λq=>V.ref q.1) (ps.map λq=>Value.ref q.1):=by
 induction ps with
 |nil=>exact .nil
 |cons q r ih=>exact .cons rfl ih
theorem S2(hc:X.calm=true):BH X (.type "list") Mz:=by
 intro qA s σ H xs us Q I r h
 obtain⟨p,qF,rfl,hp,k⟩:=h
 obtain⟨u,rfl,ru⟩:=r.one
 cases ru
 obtain⟨es,ep,ps,rd,hd,hz,e1,e2,e3⟩:=Sz I.hok hp
 have b:=congrArg length e1
 simp at b
 have hl:es.size=qF.length:=by
  have a:=congrArg length e3
  simp at a
  lia
 refine kdl_call (Sy hd) (I.ok.hd hc) rd (by lia) λh' tk acc c' hk hS hacc=>?_
 have ei:=S0 hacc rfl
 refine⟨.ref s.heap.objs.size,_,I.laid (t':=tk) (o:=.lst (ps.map λq=>V.ref q.1)) hk (Nat.le_refl _) ⟨?_,acc.toList,c',?_,?_⟩,rfl,k _ ps (I.hok.fresh (Nat.le_refl _)) e1 e2⟩
 ·rw[length_map];lia
 ·rw[ei,e3];exact S1 ps
 ·simpa using hS
def JO:pC:=p1 λx f K=>match x with
 |.dT ks vs=>K (.lst (ks.map Ae)) .nw
 |_=>False
theorem JP{b:Addr}{Z:Addr->Prop}{H:Hp}:∀{ps:List (Addr×List Int)},(∀q∈ps,H q.1=some (.tup (q.2.map V.int)))->AB b Z H (ps.map λq=>Ae q.2) (ps.map λq=>V.ref q.1)
 |[],_=>rfl
 |q::r,h=>⟨_,_,rfl,⟨q.1,_,rfl,h q mem_cons_self,AB.ints.mpr rfl⟩,JP λp hp=>h p (mem_cons_of_mem _ hp)⟩
theorem S3(r:List Int):(Bd r).map kV=r.map V.int:=by simp[Bd,map_map,Function.comp_def,kV]
theorem S4{ps:List (Addr×List AO)}{ks:List (List Int)}(h:ps.map (·.2)=ks.map Bd):∃ps':List (Addr×List Int),ps'.map (·.1)=ps.map (·.1)/\ps'.map (·.2)=ks/\∀q'∈ps',(q'.1,Bd q'.2)∈ps:=by
 induction ps generalizing ks with
 |nil =>
  cases ks with
  |nil=>exact⟨[],rfl,rfl,λ_ h=>nomatch h⟩
  |cons k ks=>simp at h
 |cons q r ih =>
  cases ks with
  |nil=>simp at h
  |cons k ks =>
   simp only[map_cons,List.cons.injEq]at h
   obtain⟨ps',a,b,c⟩:=ih h.2
   refine⟨(q.1,k)::ps',by simp[a],by simp[b],λq' hq=>?_⟩
   rcases mem_cons.mp hq with rfl|hq
   ·simp[<-h.1]
   ·exact mem_cons_of_mem _ (c q' hq)
theorem S5:B1 Mz JO:=λW ρ σ Hs H Q K xs vs ok st r hp q=>by
 unfold JO p1 at hp
 split at hp
 ·obtain⟨v,rfl,rv⟩:=r.one
  split at hp
  ·rename_i ks vs2
   obtain⟨p,us,rfl,_,c1,c2,c3⟩:=Mv ok rv
   refine⟨p,_,rfl,c1,λl ps hl e1 e2=>q _ _ _ _ hp (Step.new ok.bag hl) ?_⟩
   rw[map_fst_zip (by rw[length_map,c2,c3.length];exact Nat.le_refl _)]at e1
   obtain⟨ps',a,b,c⟩:=S4 e1
   have hr:AB W.b (AC W ρ σ .nw) H (ks.map Ae) (ps.map λq=>V.ref q.1):=by
    have:=JP (b:=W.b) (Z:=AC W ρ σ .nw) (H:=H) (ps:=ps') λq' hq=>by
     have:=e2 _ (c q' hq)
     rw[S3]at this
     exact this
    have e3:(ps'.map λq=>V.ref q.1)=ps.map λq=>V.ref q.1:=by
     have:=congrArg (map V.ref) a
     simpa[map_map,Function.comp_def]using this
    have e4:(ps'.map λq=>Ae q.2)=ks.map Ae:=by
     rw[<-b,map_map];rfl
    rw[e3,e4]at this
    exact this
   exact Gd ok st (by simp) (by simp) hr hl
  ·exact hp.elim
 ·exact hp.elim
theorem M0{b:Addr}{Z:Addr->Prop}{H:Hp}:∀{rs:List (List Int)} {vs:List V},AB b Z H (rs.map Ae) vs->∃ps:List (Addr×List Int),vs=Ea ps/\ps.map (·.2)=rs/\∀q∈ps,H q.1=some (.tup (q.2.map V.int))
 |[],vs,h=>⟨[],h,rfl,λ_ h=>nomatch h⟩
 |r::rs,vs,h=>by
  obtain⟨v,t,rfl,⟨p,us,rfl,e,e2⟩,h2⟩:=h
  obtain⟨ps,a,b,c⟩:=M0 h2
  rw[AB.ints.mp e2]at e
  refine⟨(p,r)::ps,by rw[a];rfl,by rw[map_cons,b],λq hq=>?_⟩
  rcases mem_cons.mp hq with rfl|hq
  ·exact e
  ·exact c q hq
end L2
namespace HT
open PySem PyProof.Rows
section
open PySem.SeqAt
open PySem.AutoSeq1 (wpAny_loadPart')
open PySem.MeetsSeq PySem.MeetsSeq2 PySem.MeetsSeq3
end
end HT
namespace L2
open PySem PySem.Spec PyProof.Rows
noncomputable def FK(K : Fg)(l1 l2 : Addr) : It :=
  ⟨λi H => ∃xs ys, Am K H l1 xs /\ Am K H l2 ys /\ i < xs.length /\ i < ys.length,
   λi H v H' => ∃T x y, H T = none /\ v = .ref T /\ H' = AE H T (.tup [x, y]) /\ ∀xs ys, Am K H l1 xs -> Am K H l2 ys -> xs[i]? = some x /\ ys[i]? = some y,
   λi H => ∃xs ys, Am K H l1 xs /\ Am K H l2 ys /\ (xs.length <= i \/ ys.length <= i)⟩
theorem S6{P:Program}{K:Fg}{x1}{z TI TO i1 i2:Addr}(D:ZipApart z TI TO i1 i2 l1 l2) :
  Turn P w K (.Tuple elts x1 pos) (FK K l1 l2) [z,TI,TO,i1,i2] z (λi h=>IsZip h z TI TO .none/\IsPair h TI (.ref i1) (.ref i2)/\(∃a b,IsPair h TO a b)/\h.IsListIter i1 l1 i/\h.IsListIter i2 l2 i) where
 mem:=by simp
 obj:=λi h st b hb=>by
  obtain⟨hz,hTI,⟨a,c,hTO⟩,⟨o1,e1,_,d1⟩,⟨o2,e2,_,d2⟩⟩:=st
  simp only[mem_cons,not_mem_nil,or_false]at hb
  rcases hb with rfl|rfl|rfl|rfl|rfl
  ·exact⟨_,hz,λv q=>nomatch q⟩
  ·exact⟨_,hTI,λv q=>nomatch q⟩
  ·exact⟨_,hTO,λv q=>nomatch q⟩
  ·exact⟨_,e1,λv q=>by rw[d1]at q;cases q⟩
  ·exact⟨_,e2,λv q=>by rw[d2]at q;cases q⟩
 keep:=λi h h' st k=>by
  obtain⟨hz,hTI,⟨a,c,hTO⟩,⟨o1,e1,r1⟩,⟨o2,e2,r2⟩⟩:=st
  exact⟨k z (by simp) _ hz,k TI (by simp) _ hTI,⟨a,c,k TO (by simp) _ hTO⟩,⟨o1,k i1 (by simp) _ e1,r1⟩,⟨o2,k i2 (by simp) _ e2,r2⟩⟩
 item:=by
  intro X hP hw hK hc i qA s σ H E I hf st hg
  subst hP hw hK
  obtain⟨hz,hTI,⟨a,c,hTO⟩,h1,h2⟩:=st
  obtain⟨xs,ys,q1,q2,g1,g2⟩:=hg
  obtain⟨qE,rv,pq,hzl⟩:=I.list q1
  have p:=pq.isList
  obtain⟨its2,rv2,pq2,hzl2⟩:=I.list q2
  have p2:=pq2.isList
  have hx:xs[i]?=some xs[i]:=by simp[g1]
  have hy:ys[i]?=some ys[i]:=by simp[g2]
  obtain⟨u,hu,ru⟩:=rv.get hx
  obtain⟨u2,hu2,ru2⟩:=rv2.get hy
  refine wpAny_pyNext_zip_item D hz hTI hTO h1 h2 p p2 (x:=u) (y:=u2) (by simpa using hu) (by simpa using hu2) λh' a1 a2 a3 a4 a5 a6 hk=>⟨_,rfl,wpAny_letOwnedTupleGo_zip a1 λh'' hz'' hs''=>?_⟩
  have hfr:H s.heap.objs.size=none:=I.fresh
  have J:Inv X qA σ (AE H s.heap.objs.size (.tup [xs[i],ys[i]])) { s with heap:=s.heap.push { cls:=.type "tuple",data:=.seq #[u,u2] } } :=
   I.laid (t':=s.toks) (λb o q=>Heap.get?_push_of_some _ q) (Nat.le_refl _) ⟨by show 2<=sizeLine;decide,[u,u2],.cons ru (.cons ru2 .nil),Cf.new _ _⟩
  have hlt:∀b∈[z,TI,TO,i1,i2],b≠s.heap.objs.size:=λb hb e=>by
   have o:∃o,s.heap.get? b=some o:=by
    simp only[mem_cons,not_mem_nil,or_false]at hb
    obtain⟨o1,e1,_⟩:=h1
    obtain⟨o2,e2,_⟩:=h2
    rcases hb with rfl|rfl|rfl|rfl|rfl
    ·exact⟨_,hz⟩
    ·exact⟨_,hTI⟩
    ·exact⟨_,hTO⟩
    ·exact⟨_,e1⟩
    ·exact⟨_,e2⟩
   obtain⟨o,q⟩:=o
   exact absurd (Heap.lt_size q) (by rw[e];exact Nat.lt_irrefl _)
  have hn:∀b∈[z,TI,TO,i1,i2],AE H s.heap.objs.size (.tup [xs[i],ys[i]]) b=none:=λb hb=>by rw[AV (hlt b hb)];exact(hf b hb).1
  have nz:s.heap.objs.size≠z:=(hlt z (by simp)).symm
  have J2:Inv X qA σ (AE H s.heap.objs.size (.tup [xs[i],ys[i]])) { s with heap:=h'' }:=by
   refine Inv.turnedL (s:={ s with heap:=s.heap.push { cls:=.type "tuple",data:=.seq #[u,u2] } }) (h':=h'') (t':=s.toks) (ch:=[z,TO,i1,i2]) J (λb o hb q=>?_) (λb hb=>⟨hn b ?_,(hf b ?_).2⟩)
   ·simp only[mem_cons,not_mem_nil,or_false,not_or]at hb
    by_cases e:b=s.heap.objs.size
    ·subst e
     have q':=q
     rw[show(s.heap.push { cls:=.type "tuple",data:=.seq #[u,u2] }).get? s.heap.objs.size=some _ from Heap.get?_push_size _ rfl]at q'
     cases q'
     exact hs''.extBut _ _ nz a5
    ·have q0:s.heap.get? b=some o:=by rw[<-Heap.get?_push_ne _ _ _ e];exact q
     exact hs''.extBut _ _ hb.1 (hk b o hb.1 hb.2.1 hb.2.2.1 hb.2.2.2 q0)
   ·simp only[mem_cons,not_mem_nil,or_false]at hb ⊢;rcases hb with h|h|h|h<;>simp[h]
   ·simp only[mem_cons,not_mem_nil,or_false]at hb ⊢;rcases hb with h|h|h|h<;>simp[h]
  refine⟨.ref s.heap.objs.size,_,J2,rfl,⟨_,_,_,hfr,rfl,rfl,λxs' ys' z1 z2=>?_⟩,?_,hn⟩
  ·rw[I.list_inj z1 q1,I.list_inj z2 q2];exact⟨hx,hy⟩
  ·obtain⟨o1,e1,r1⟩:=a3
   obtain⟨o2,e2,r2⟩:=a4
   exact⟨hz'',hs''.extBut _ _ D.TIz (hk _ _ D.TIz D.TITO D.TIi1 D.TIi2 hTI),⟨_,_,hs''.extBut _ _ D.TOz a2⟩,⟨o1,hs''.extBut _ _ D.i1z e1,r1⟩,⟨o2,hs''.extBut _ _ D.i2z e2,r2⟩⟩
 done:=by
  intro X hP hw hK hc i qA s σ H E I hf st hg
  subst hP hw hK
  obtain⟨hz,hTI,⟨a,c,hTO⟩,h1,h2⟩:=st
  obtain⟨xs,ys,q1,q2,g⟩:=hg
  obtain⟨qE,rv,pq,hzl⟩:=I.list q1
  have p:=pq.isList
  obtain⟨its2,rv2,pq2,hzl2⟩:=I.list q2
  have p2:=pq2.isList
  have l1:=rv.length
  have l2:=rv2.length
  refine wpAny_pyNext_zip_end (I.ok.hd hc) D hz hTI hTO h1 h2 p p2 (by simp;lia) λh' hk=>⟨rfl,I.turnedL (t':=s.toks) (ch:=[z,TO,i1,i2]) (λb o hb q=>?_) λb hb=>hf b ?_⟩
  ·simp only[mem_cons,not_mem_nil,or_false,not_or]at hb
   exact hk b o hb.1 hb.2.1 hb.2.2.1 hb.2.2.2 q
  ·simp only[mem_cons,not_mem_nil,or_false]at hb ⊢;rcases hb with h|h|h|h<;>simp[h]
 self:=λ_ _ _ _ _ st h=>wpAny_pyIter_zip st.1 h
def M1(K:Fg)(ta:TA):TI:=λσ H R=>ta σ H λvs H1=>∃l1 l2 xs ys,vs=[.ref l1,.ref l2]/\Am K H1 l1 xs/\Am K H1 l2 ys/\R (FK K l1 l2) H1
theorem S7{a b:Expr}{ta:TA}{p:Pos}{x1}(hg:Gl X "zip")(hm:X.mg "zip"=none)(ha:PA X [a,b] ta)(hs:starEach [a,b] X.env=[(false,eval a X.env),(false,eval b X.env)]:=by rfl)(hs2:starEach [b] X.env=[(false,eval b X.env)]:=by rfl) :
  PI X (.Tuple elts x1 tp) (.Call (.Name "zip" p) [a,b] [] pos) (M1 X.K ta):=by
 intro qA s σ H R I h
 refine Call_ (EC I hg hm LZ (PyProof.Rows.callWith_type1 (AK (ha pos qA s σ H _ I h) λus s1 ⟨vs,H1,I1,r1,q1⟩=>?_) (by rw[hs,hs2]) (by rw[hs2];rfl)))
 obtain⟨l1,l2,xs,ys,rfl,q2,q3,q⟩:=q1
 obtain⟨u,v,rfl,ru,rv⟩:=r1.two
 cases(show u=Value.ref l1 from ru)
 cases(show v=Value.ref l2 from rv)
 obtain⟨qE,r1,pq1,_⟩:=I1.list q2
 have p1:=pq1.isList
 obtain⟨its2,r2,pq2,_⟩:=I1.list q3
 have p2:=pq2.isList
 refine call_zip_2 p1 p2 λh' hz hTI hTO i1 i2 _ hk=>?_
 have I2:Inv X qA σ H1 { s1 with heap:=h' }:=I1.kept (t':=s1.toks) hk
 have lt1:l1<s1.heap.objs.size:=by obtain⟨_,e,_⟩:=p1;exact Heap.lt_size e
 have lt2:l2<s1.heap.objs.size:=by obtain⟨_,e,_⟩:=p2;exact Heap.lt_size e
 refine wpAny_pyIter_zip hz ⟨_,[s1.heap.objs.size+4,s1.heap.objs.size+2,s1.heap.objs.size+3,s1.heap.objs.size,s1.heap.objs.size+1],_,_,H1,rfl,I2,S6 (zipApart_new lt1 lt2),⟨hz,hTI,⟨_,_,hTO⟩,i1,i2⟩,λb hb=>?_,q⟩
 have hb':s1.heap.objs.size<=b:=by
  simp only[mem_cons,not_mem_nil,or_false]at hb
  rcases hb with h|h|h|h|h<;>rw[h]<;>first|exact Nat.le_add_right _ _|exact Nat.le_refl _
 exact I1.fpOk hb' (I1.hok.fresh hb')
noncomputable def M2:R2:=λx y H Q=>∃a b ns ms,x=.ref a/\y=.ref b/\H a=some (.tup (ns.map V.int))/\H b=some (.tup (ms.map V.int))/\Q (.bl (HT.lexLt ns ms)) H
theorem S8{k:Nat}(hr:Room k X.A):An X (compareOp .Lt) M2:=by
 intro qA s σ H x y v u Q I rx ry h
 obtain⟨a,b,ns,ms,e1,e2,h1,h2,q⟩:=h
 exact QD hr.units0 qA s σ H x y v u Q I rx ry ⟨a,b,ns,ms,e1,e2,.of h1,.of h2,q⟩
def M3(g:List Int->List Int->Bool):p2:=λx _ y _ K=>∃ns ms,Ca x=some ns/\Ca y=some ms/\K (.bl (g ns ms)) .fr
abbrev S9:p2:=M3 HT.lexLt
theorem M4{x:P}(ok:Ok W ρ σ H)(hk:Ca x=some ns)(r:RF W ρ σ Hs f H x v):∃a,v=.ref a/\H a=some (.tup (ns.map V.int)):=by
 rw[Mt hk]at r
 obtain⟨p,us,e,c,r1⟩:=Cw ok r
 rw[AB.ints.mp r1]at c
 exact⟨p,e,c⟩
theorem TB:Au M2 S9:=λW ρ σ Hs H Q K x y f h v u ok st rx ry hp q=>by
 obtain⟨ns,ms,e1,e2,hk⟩:=hp
 obtain⟨a,rfl,c1⟩:=M4 ok e1 rx
 obtain⟨b,rfl,c2⟩:=M4 ok e2 ry
 exact⟨a,b,ns,ms,rfl,rfl,c1,c2,q _ _ _ H hk (Step.refl ok.bag) DH⟩
noncomputable def BR(x y:P):P:=.tup [x,y]
def M5(pa pb:pE):pI:=λρ K=>pa ρ λx f=>pb ρ λy g=>∃xs ys,x=.lst xs/\y=.lst ys/\(P.imms xs=true/\P.imms ys=true)/\K (zipWith BR xs ys) .fr (CV f&&CV g)
section
variable{ι:Type}{Xs:ι->Cx}{a b:Expr}{p1:Pos}{x1:Nat}
theorem TC(hK:∀i,(Xs i).K=Kf)(hm:∀i,(Xs i).mg "zip"=none)(ha:QE Xs a pa)(hb:QE Xs b pb)(hg:∀i,Gl (Xs i) "zip":=by intro _;rfl)(hs:∀i,starEach [a,b] (Xs i).env=[(false,eval a (Xs i).env),(false,eval b (Xs i).env)]:=by intro _;rfl)(hs2:∀i,starEach [b] (Xs i).env=[(false,eval b (Xs i).env)]:=by intro _;rfl) :
  QI Xs (.Tuple elts x1 tp) (.Call (.Name "zip" p1) [a,b] [] pos) (M5 pa pb):=by
 obtain⟨ta,a1,a2⟩:=ha
 obtain⟨tb,b1,b2⟩:=hb
 refine⟨M1 Kf (Bl ta (Bl tb CC)),λi=>?_,λW ρ σ H R K ok hk q=>a2 W ρ σ H _ _ ok hk λx f v H1 h1 s1 r1=>b2 W ρ σ H1 _ _ (ok.step s1) h1 λy g u H2 ⟨xs,ys,e1,e2,⟨i1,i2⟩,hk2⟩ s2 r2=>?_⟩
 ·have:=S7 (elts:=elts) (x1:=x1) (tp:=tp) (p:=p1) (pos:=pos) (hg i) (hm i) (Ad (a1 i) (Ad (b1 i) Ay (by rw[hs2 i];rfl)) (by rw[hs i,hs2 i])) (hs i) (hs2 i)
  rw[hK i]at this
  exact this
 ·subst e1;subst e2
  have s12:=s1.trans s2
  have ok2:=ok.step s12
  have r1':=r1.step (ok.step s1) s2
  obtain⟨l1,vs,rfl,c1,rv1⟩:=Cv ok2 r1'
  obtain⟨l2,us,rfl,c2,rv2⟩:=Cv ok2 r2
  have nb:∀{f:Fl} {xs:List P} {l:Addr} {Hs:Hp},RF W ρ σ Hs f H2 (.lst xs) (.ref l)->l≠W.b:=λr=>by
   obtain⟨p',us',e1,e2,_⟩:=r.any ok2;cases e1;exact e2
  have nb1:=nb r1'
  have nb2:=nb r2
  have len1:=rv1.length
  have len2:=rv2.length
  have core:∀O' ρ' σ' H',H' l1=some (.lst vs)->H' l2=some (.lst us)->(∀p vs,H2 p=some (.tup vs)->H' p=some (.tup vs))->Bag H' W.b W.a->∀i,(i<(zipWith BR xs ys).length->(FK Kf l1 l2).go i H')/\((zipWith BR xs ys).length<=i->(FK Kf l1 l2).stop i H') /\
    ∀v H'',(FK Kf l1 l2).yld i H' v H''->∀x,(zipWith BR xs ys)[i]?=some x->Step W.b W.a H' H''/\RF { W with O:=O' } ρ' σ' H' .fr H'' x v:=λO' ρ' σ' H' g1 g2 gt hb i=>by
   refine⟨λhi=>?_,λhi=>?_,λv H'' yl x hx=>?_⟩
   ·rw[length_zipWith]at hi
    exact⟨vs,us,.of g1,.of g2,by lia,by lia⟩
   ·rw[length_zipWith]at hi
    exact⟨vs,us,.of g1,.of g2,by lia⟩
   ·obtain⟨T,x',y',hT,rfl,rfl,e⟩:=yl
    obtain⟨e1,e2⟩:=e vs us (.of g1) (.of g2)
    rw[getElem?_zipWith]at hx
    cases ex:xs[i]? with
    |none=>rw[ex]at hx;simp at hx
    |some px =>
     cases ey:ys[i]? with
     |none=>rw[ex,ey]at hx;simp at hx
     |some py =>
      rw[ex,ey]at hx
      have hx:BR px py=x:=by simpa using hx
      subst hx
      obtain⟨v1,a1,a2⟩:=rv1.get ex
      obtain⟨v2,b1,b2⟩:=rv2.get ey
      rw[e1]at a1;cases a1
      rw[e2]at b1;cases b1
      have m1:px.imm=true:=E6.mp i1 px (mem_of_getElem? ex)
      have m2:py.imm=true:=E6.mp i2 py (mem_of_getElem? ey)
      refine⟨Step.new hb hT,?_⟩
      have k1:Rp W.b (AC { W with O:=O' } ρ' σ' .fr) (AE H' T (.tup [x',y'])) px x':=(((a2.imm m1:Rp W.b (λ_=>True) H2 px x').keep (Z':=λ_=>True) (H':=AE H' T (.tup [x',y'])) (λp o hz=>absurd trivial hz) (λp ws e=>by rw[AV (A7 (gt p ws e) hT)];exact gt p ws e)).imm m1)
      have k2:Rp W.b (AC { W with O:=O' } ρ' σ' .fr) (AE H' T (.tup [x',y'])) py y':=(((b2.imm m2:Rp W.b (λ_=>True) H2 py y').keep (Z':=λ_=>True) (H':=AE H' T (.tup [x',y'])) (λp o hz=>absurd trivial hz) (λp ws e=>by rw[AV (A7 (gt p ws e) hT)];exact gt p ws e)).imm m2)
      exact⟨T,[x',y'],rfl,Al,x',[y'],rfl,k1,y',[],rfl,k2,rfl⟩
  refine⟨l1,l2,vs,us,rfl,.of c1,.of c2,q _ _ _ _ H2 hk2 s12 (λO' ρ' σ' H' hl i=>?_) (λhst O' ρ' σ' H' hl i=>?_)⟩
  ·obtain⟨_,rfl,rfl,ok',st⟩:=hl
   exact core O' _ _ H' (st.same l1 _ nb1 c1) (st.same l2 _ nb2 c2) (λp ws e=>st.same p _ (ok2.bag.neT e).1 e) st.bag i
  ·obtain⟨rfl,hl⟩:=hl
   rw[Bool.and_eq_true]at hst
   have k1:=D1 ok2 hl (GW hst.1)
   have k2:=D1 ok2 hl (GW hst.2)
   have nz:∀{f:Fl} {xs:List P} {l:Addr} {Hs:Hp},CV f=true->RF W ρ σ Hs f H2 (.lst xs) (.ref l)->¬AC W ρ σ f l:=λ{f xs l Hs} hf r=>by
    cases f with
    |nw=>obtain⟨q,us,e1,e2,_⟩:=r.1;cases e1;exact e2
    |fr=>obtain⟨q,us,e1,e2,_⟩:=r;cases e1;exact e2
    |cl=>obtain⟨q,us,e1,e2,_⟩:=r;cases e1;exact e2
    |_=>simp[CV]at hf
   exact core _ _ _ H' (k1.1 l1 _ (nz hst.1 r1') c1).2 (k2.1 l2 _ (nz hst.2 r2) c2).2 k1.2 hl.bag i
end
end L2
namespace L2
open PySem
noncomputable abbrev BA(ns:List Str):P:=.tup (ns.map P.str)
noncomputable abbrev Ba(q:List Int×Int):P:=.tup [Ae q.1,.int q.2]
noncomputable abbrev Aw(t:List (List Int×Int)):P:=.lst (t.map Ba)
noncomputable abbrev D4(t:List (List Int×Int)):P:=.dT (t.map (·.1)) (t.map λq=>.int q.2)
@[simp] theorem Dd(r:List Int):(Ae r).imm=true:=by simp
@[simp] theorem Gq(q:List Int×Int):(Ba q).imm=true:=by simp
@[simp] theorem TD(t:List (List Int×Int)):P.imms (t.map Ba)=true:=E7 Gq t
@[simp] theorem M6(t:List (List Int)):P.imms (t.map Ae)=true:=E7 Dd t
@[simp] theorem TF(n:Nat)(r:List Int):(Ae r).pl (n+1)=true:=by simp
@[simp] theorem M7(n:Nat)(q:List Int×Int):(Ba q).pl (n+2)=true:=by simp
@[simp] theorem TH(n:Nat)(t:List (List Int×Int)):(t.map Ba).all (P.pl (n+2))=true:=JC (M7 n) t
theorem JQ(a b:Int):AG (.int a) (.int b)=decide (a=b):=by simp only[AG];rw[Bool.eq_iff_iff];simp
theorem M8(a b:Str):AG (.str a) (.str b)=decide (a=b):=by simp only[AG];rw[Bool.eq_iff_iff];simp
theorem M9(a b:Bool):AG (.bl a) (.bl b)=decide (a=b):=by simp only[AG];rw[Bool.eq_iff_iff];simp
theorem FL(r:List Int):(Ae r).nb=true:=by rw[P.nb];exact FJ (λ_=>rfl) r
theorem JR(q:List Int×Int):(Ba q).nb=true:=by rw[P.nb,P.nbs,P.nbs,P.nbs,FL];rfl
theorem JS(t:List (List Int×Int)):(Aw t).nb=true:=by rw[P.nb];exact FJ JR t
theorem JT(r:List Str):(BA r).nb=true:=by rw[P.nb];exact FJ (λ_=>rfl) r
theorem NA{a b:List Int}(h:a.map P.int=b.map P.int):a=b:=by
 have:=congrArg (map λp=>match p with|P.int i=>i|_=>0) h
 simpa[map_map,Function.comp_def]using this
theorem NB{a b:List Str}(h:a.map P.str=b.map P.str):a=b:=by
 have:=congrArg (map λp=>match p with|P.str i=>i|_=>⟨#[]⟩) h
 simpa[map_map,Function.comp_def]using this
theorem JU{a b:List Int}(h:Ae a=Ae b):a=b:=NA (P.tup.inj h)
theorem NC{a b:List Int×Int}(h:Ba a=Ba b):a=b:=by
 have h:=P.tup.inj h
 simp only[List.cons.injEq]at h
 exact Prod.ext (JU h.1) (P.int.inj h.2.1)
theorem Gr{α:Type}{f:α->P}(hf:∀a b,f a=f b->a=b):∀{a b:List α},a.map f=b.map f->a=b
 |[],[],_=>rfl
 |[],_::_,h=>by simp at h
 |_::_,[],h=>by simp at h
 |x::a,y::b,h=>by
  simp only[map_cons,List.cons.injEq]at h
  rw[hf x y h.1,Gr hf h.2]
theorem TK{a b:List (List Int×Int)}(h:Aw a=Aw b):a=b:=Gr (λ_ _=>NC) (P.lst.inj h)
theorem ND(a b:List Int):AG (Ae a) (Ae b)=decide (a=b):=by
 rw[Bool.eq_iff_iff,D3 (FL a) (FL b),decide_eq_true_iff];exact⟨JU,λh=>by rw[h]⟩
theorem NE(a b:List (List Int×Int)):AG (Aw a) (Aw b)=decide (a=b):=by
 rw[Bool.eq_iff_iff,D3 (JS a) (JS b),decide_eq_true_iff];exact⟨TK,λh=>by rw[h]⟩
theorem NF(a b:List Str):AG (BA a) (BA b)=decide (a=b):=by
 rw[Bool.eq_iff_iff,D3 (JT a) (JT b),decide_eq_true_iff];exact⟨λh=>NB (P.tup.inj h),λh=>by rw[h]⟩
noncomputable def B8(t:List (List Int×Int))(r:List Int)(c:Int):List (List Int×Int):=if r∈t.map (·.1)then t.map (λq=>if q.1=r then(q.1,c)else q)else t++[(r,c)]
noncomputable def Bq(t:List (List Int×Int))(r:List Int):Option Int:=(t.find? λq=>decide (q.1=r)).map (·.2)
theorem NG(r:List Int):∀t:List (List Int×Int),CZ (t.map (·.1)) (t.map λq=>P.int q.2) r=(Bq t r).map P.int
 |[]=>rfl
 |q::t=>by
  simp only[map_cons,CZ]
  unfold Bq
  rw[find?_cons]
  by_cases e:q.1=r
  ·rw[if_pos e];simp[e]
  ·rw[if_neg e,NG r t];simp[e,Bq]
theorem NH(r:List Int)(c:Int):∀t:List (List Int×Int),zipWith (λk0 v=>if k0=r then P.int c else v) (t.map (·.1)) (t.map λq=>P.int q.2)=(t.map (λq=>if q.1=r then(q.1,c)else q)).map λq=>P.int q.2
 |[]=>rfl
 |q::t=>by
  simp only[map_cons,zipWith_cons_cons,NH r c t]
  by_cases e:q.1=r<;>simp[e]
theorem TL(t:List (List Int×Int))(r:List Int)(c:Int):P.dT (Cj (t.map (·.1)) r) (Dc (t.map (·.1)) (t.map λq=>P.int q.2) r (.int c))=D4 (B8 t r c):=by
 unfold Cj Dc B8 D4
 by_cases h:r∈t.map (·.1)
 ·rw[if_pos h,if_pos h,if_pos h,NH]
  congr 1
  rw[map_map]
  refine map_congr_left λq _=>?_
  by_cases e:q.1=r<;>simp[e]
 ·rw[if_neg h,if_neg h,if_neg h];simp
theorem TM(t:List (List Int×Int))(r:List Int)(c:Int):(B8 t r c).length<=t.length+1:=by
 unfold B8;split<;>simp
theorem TQ{t:List (List Int×Int)}{c:Int}(h:∀q∈t,q.1.length=n)(hr:r.length=n):∀q∈B8 t r c,q.1.length=n:=by
 unfold B8
 split
 ·intro q hq
  obtain⟨p,hp,rfl⟩:=mem_map.mp hq
  split
  ·exact h p hp
  ·exact h p hp
 ·intro q hq
  rcases mem_append.mp hq with z|z
  ·exact h q z
  ·rw[mem_singleton.mp z];exact hr
theorem TR(t:List (List Int×Int))(r:List Int)(c:Int):(B8 t r c).map (·.1)=if r∈t.map (·.1)then t.map (·.1)else t.map (·.1)++[r]:=by
 unfold B8
 split
 ·rw[map_map]
  refine map_congr_left λq _=>?_
  by_cases e:q.1=r<;>simp[e]
 ·simp
theorem TU{t:List (List Int×Int)}{c:Int}(h:(t.map (·.1)).Nodup):((B8 t r c).map (·.1)).Nodup:=by
 rw[TR]
 split
 ·exact h
 ·rename_i hn
  rw[nodup_append]
  exact⟨h,by simp,λa ha b hb=>by rw[mem_singleton.mp hb];exactλe=>hn (e▸ha)⟩
theorem NI:∀{a b:List (List Int)},a.Perm b->CY a->CY b->a=b
 |[],b,h,_,_=>(nil_perm.mp h).symm
 |x::xs,[],h,_,_=>absurd h.length_eq (by simp)
 |x::xs,y::ys,h,h1,h2=>by
  have e:x=y:=by
   have hx:x∈y::ys:=h.mem_iff.mp mem_cons_self
   have hy:y∈x::xs:=h.mem_iff.mpr mem_cons_self
   rcases mem_cons.mp hx with e|hx
   ·exact e
   ·rcases mem_cons.mp hy with e|hy
    ·exact e.symm
    ·exact E4 x y ((pairwise_cons.mp h2).1 x hx) ((pairwise_cons.mp h1).1 y hy)
  subst e
  rw[NI ((perm_cons x).mp h) (pairwise_cons.mp h1).2 (pairwise_cons.mp h2).2]
noncomputable def Eb(x:List Int):List (List Int)->List (List Int)
 |[]=>[x]
 |y::r=>if HT.lexLt y x=true then y::Eb x r else x::y::r
noncomputable def D5:List (List Int)->List (List Int)
 |[]=>[]
 |x::r=>Eb x (D5 r)
theorem JV(x:List Int):∀r,(Eb x r).Perm (x::r)
 |[]=>List.Perm.refl _
 |y::r=>by
  unfold Eb
  split
  ·exact((JV x r).cons y).trans (List.Perm.swap x y r)
  ·exact List.Perm.refl _
theorem FM:∀r,(D5 r).Perm r
 |[]=>List.Perm.refl _
 |x::r=>(JV x (D5 r)).trans ((FM r).cons x)
theorem NJ(x:List Int):∀{r},CY r->CY (Eb x r)
 |[],_=>pairwise_singleton _ _
 |y::r,h=>by
  unfold Eb
  have h1:=pairwise_cons.mp h
  split
  ·rename_i hl
   refine pairwise_cons.mpr ⟨λz hz=>?_,NJ x h1.2⟩
   rcases mem_cons.mp ((JV x r).mem_iff.mp hz)with e|hz
   ·rw[e]
    cases e2:HT.lexLt x y
    ·rfl
    ·have:=GH _ _ _ hl e2;rw[IU]at this;cases this
   ·exact h1.1 z hz
  ·rename_i hl
   have hl:HT.lexLt y x=false:=by simpa using hl
   refine pairwise_cons.mpr ⟨λz hz=>?_,h⟩
   rcases mem_cons.mp hz with e|hz
   ·rw[e];exact hl
   ·cases e2:HT.lexLt z x
    ·rfl
    ·rcases Lc z y x e2 with q|q
     ·rw[h1.1 z hz]at q;cases q
     ·rw[hl]at q;cases q
theorem JW:∀r,CY (D5 r)
 |[]=>List.Pairwise.nil
 |x::r=>NJ x (JW r)
theorem TV{rs rs':List (List Int)}(h:rs'.Perm rs)(hs:CY rs'):rs'=D5 rs:=NI (h.trans (FM rs).symm) hs (JW rs)
noncomputable def BV(t:List (List Int×Int)):List (List Int×Int):=((D5 (t.map (·.1))).filter λr=>decide ((Bq t r).getD 0≠0)).map λr=>(r,(Bq t r).getD 0)
theorem TW{t:List (List Int×Int)}(h:r∈t.map (·.1)):∃c,Bq t r=some c:=by
 obtain⟨q,hq,e⟩:=mem_map.mp h
 unfold Bq
 cases hf:t.find? λq=>decide (q.1=r)with
 |some p=>exact⟨p.2,rfl⟩
 |none=>exact absurd (decide_eq_true e) (by simpa using find?_eq_none.mp hf q hq)
def JX:pF:=λxs K=>∃n b:Int,xs=[.bag,.int n,.int b]/\0<=n/\n<=100/\0<b/\b<2 ^ 64/\∀r:List Int,(r.length:Int)=n->(∀x∈r,0<=x/\x<b)->K (Ae r)
def NK:pF:=λxs K=>xs=[.bag]/\∀c:Int,1<=c->c<=1000000000000->K (.int c)
def Rows(t:List (List Int×Int)):Prop:=t.length<2\/∃n,0<n/\∀q∈t,q.1.length=n
theorem QS.weak{ι:Type}{Xs:ι->Cx}{st:Stmt}{p m:pS}(h:QS Xs st p)(hw:∀E ρ,m E ρ->p E ρ):QS Xs st m:=let⟨t,h1,h2⟩:=h;⟨t,h1,λW ρ σ H D E ok h r=>h2 W ρ σ H D E ok (hw E ρ h) r⟩
structure Drawn(n:Nat)(t:List (List Int×Int)):Prop where
 len:t.length<=40
 rows:∀q∈t,q.1.length=n
 nd:(t.map (·.1)).Nodup
 row:∀q∈t,∀x∈q.1,0<=x/\x<=9
 cnt:∀q∈t,1<=q.2/\q.2<=1000000000000
theorem NL{t:List (List Int×Int)}{c:Int}(h:q∈B8 t r c):q∈t\/q=(r,c):=by
 unfold B8 at h
 split at h
 ·obtain⟨p,hp,e⟩:=mem_map.mp h
  by_cases z:p.1=r
  ·rw[if_pos z,z]at e;exact .inr e.symm
  ·rw[if_neg z]at e;exact .inl (e▸hp)
 ·rcases mem_append.mp h with z|z
  ·exact .inl z
  ·exact .inr (mem_singleton.mp z)
structure DrawnI(n i:Nat)(t:List (List Int×Int)):Prop where
 len:t.length<=i
 rows:∀q∈t,q.1.length=n
 nd:(t.map (·.1)).Nodup
 row:∀q∈t,∀x∈q.1,0<=x/\x<=9
 cnt:∀q∈t,1<=q.2/\q.2<=1000000000000
theorem DrawnI.nil:DrawnI n 0 []:=⟨by simp,by simp,by simp,by simp,by simp⟩
theorem DrawnI.put{t:List (List Int×Int)}(h:DrawnI n i t){c:Int}(hr:r.length=n)(hx:∀x∈r,0<=x/\x<=9)(h1:1<=c)(h2:c<=1000000000000):DrawnI n (i+1) (B8 t r c) where
 len:=Nat.le_trans (TM t r c) (Nat.add_le_add_right h.len 1)
 rows:=TQ h.rows hr
 nd:=TU h.nd
 row:=λq hq=>(NL hq).elim (h.row q) λe=>by rw[e];exact hx
 cnt:=λq hq=>(NL hq).elim (h.cnt q) λe=>by rw[e];exact⟨h1,h2⟩
theorem DrawnI.out{t:List (List Int×Int)}(h:DrawnI n i t)(hi:i<=40):Drawn n t:=⟨Nat.le_trans h.len hi,h.rows,h.nd,h.row,h.cnt⟩
def NM:pF:=λxs K=>∃qG,xs=[.bag,BA qG]/\qG.length<=9/\∀t,Drawn qG.length t->K (Aw (BV t))
noncomputable def C0(n:Nat)(r:List Int):Bool:=decide (r.length=n)&&r.all λx=>decide (0<=x/\x<=9)
noncomputable def C1:List (List Int)->Bool
 |a::b::r=>HT.lexLt a b&&C1 (b::r)
 |_=>true
noncomputable def Gs(n:Nat)(t:List (List Int×Int)):Bool:=(t.all λq=>C0 n q.1&&decide (1<=q.2))&&C1 (t.map (·.1))
def NN:pF:=λxs K=>∃qG r,xs=[BA qG,Ae r]/\r.length<=1000/\K (.bl (C0 qG.length r))
def NO:pF:=λxs K=>∃rs:List (List Int),xs=[.lst (rs.map Ae)]/\rs.length<=1000/\K (.bl (C1 rs))
def NP:pF:=λxs K=>∃qG t,xs=[BA qG,Aw t]/\t.length<=1000/\(∀q∈t,q.1.length<=1000)/\K (.bl (Gs qG.length t))
end L2
namespace L2
open PySem PySem.Spec PyProof.Rows
theorem TX{a b:List Str}:(a.map P.str=b.map P.str)=(a=b):=propext ⟨NB,λh=>by rw[h]⟩
theorem TY{a b:List Int}:(a.map P.int=b.map P.int)=(a=b):=propext ⟨NA,λh=>by rw[h]⟩
theorem TZ{a b:List (List Int×Int)}:(a.map Ba=b.map Ba)=(a=b):=propext ⟨λh=>Gr (λ_ _=>NC) h,λh=>by rw[h]⟩
theorem Ta{a b:List (List Int)}:(a.map Ae=b.map Ae)=(a=b):=propext ⟨λh=>Gr (λ_ _=>JU) h,λh=>by rw[h]⟩
theorem Tb(t:List (List Int×Int)):(BV t).length<=t.length:=by
 unfold BV
 rw[length_map]
 refine Nat.le_trans (length_filter_le _ _) ?_
 rw[(FM _).length_eq,length_map];exact Nat.le_refl _
theorem NQ{t:List (List Int×Int)}(h:q∈BV t):q.1∈t.map (·.1):=by
 unfold BV at h
 obtain⟨r,hr,rfl⟩:=mem_map.mp h
 exact(FM _).mem_iff.mp (mem_filter.mp hr).1
theorem NR:∀(t:List (List Int)),C1 t=true↔∀k a b,t[k]?=some a->t[k+1]?=some b->HT.lexLt a b=true
 |[]=>by simp[C1]
 |[x]=>by simp[C1]
 |x::y::r=>by
  have ih:=NR (y::r)
  unfold C1
  rw[Bool.and_eq_true,ih]
  constructor
  ·rintro⟨h1,h2⟩ k a b ha hb
   cases k with
   |zero=>simp at ha hb;rw[<-ha,<-hb];exact h1
   |succ k=>exact h2 k a b (by simpa using ha) (by simpa using hb)
  ·intro h
   exact⟨h 0 x y rfl rfl,λk a b ha hb=>h (k+1) a b (by simpa using ha) (by simpa using hb)⟩
end L2
namespace L2
open PySem PySem.Spec PyProof.Rows PySem.W PySem.SeqAt
end L2
namespace L2
open PySem PySem.Spec PyProof.Rows PySem.W
def JY:pC:=λxs K=>match xs with
 |[(.int i,_),(.int j,_)]=>K (.int (if j<i then j else i)) .fr
 |_=>False
def JZ:pC:=λxs K=>match xs with
 |[(.int i,_),(.int j,_)]=>K (.int (if j > i then j else i)) .fr
 |_=>False
theorem Tc:B1 (λxs H Q=>∃i j,xs=[.int i,.int j]/\Q (.int (if j<i then j else i)) H) JY:=λW ρ σ Hs H Q K xs vs ok st r hp q=>by
 unfold JY at hp
 split at hp
 ·obtain⟨v,u,rfl,r1,r2⟩:=r.two
  cases Bw ok r1
  cases Bw ok r2
  exact⟨_,_,rfl,q _ _ _ H hp (Step.refl ok.bag) EQ⟩
 ·exact hp.elim
theorem Td:B1 (λxs H Q=>∃i j,xs=[.int i,.int j]/\Q (.int (if j > i then j else i)) H) JZ:=λW ρ σ Hs H Q K xs vs ok st r hp q=>by
 unfold JZ at hp
 split at hp
 ·obtain⟨v,u,rfl,r1,r2⟩:=r.two
  cases Bw ok r1
  cases Bw ok r2
  exact⟨_,_,rfl,q _ _ _ H hp (Step.refl ok.bag) EQ⟩
 ·exact hp.elim
end L2
namespace PySem
open PySem.Sem (wp)
end PySem
namespace L2
open PySem PySem.Spec PyProof.Rows PySem.W
end L2
namespace L2
open PySem PySem.Spec PyProof.Rows
noncomputable def Ja:Bool->Keyed->Array Keyed->Nat->Nat->Nat->StateT SortSt Sem (Option Nat):=sortPriv% PySem.Builtin.gallop
noncomputable def Te:Array Keyed->Array Keyed->StateT SortSt Sem (Array Keyed):=sortPriv% PySem.Builtin.mergeLo
noncomputable def Tf:Array Keyed->Array Keyed->StateT SortSt Sem (Array Keyed):=sortPriv% PySem.Builtin.mergeHi
structure Cmp(M:Model)(A:Around)(E:VS)(s:Shared)(κ:SortKind)(O:KeyOrd)(ky:Keyed->O.α)(mem:Keyed->Prop):Prop where
 ask:∀x y,mem x->mem y->∀(R:Option Bool->SortSt->Prop) (st:SortSt),kindOf st=κ->R (some (O.blt (ky x) (ky y))) st->wpS M A E s (lt' x y) R st
section
variable{M:Model}{κ:SortKind}{ky:Keyed->O.α}{mem:Keyed->Prop}
theorem BL{x:Keyed}{R:Keyed->SortSt->Prop}(e:qD[i]?=some x)(h:R x st):wpS M A E s (elem' qD i) R st:=by
 rw[elem'_eq,e]
 exact wpS_pure h
noncomputable def Ck(ky:Keyed->O.α)(left:Bool)(key x:Keyed):Bool:=if left=true then O.blt (ky x) (ky key)else !O.blt (ky key) (ky x)
theorem NS(C:Cmp M A E s κ O ky mem){left:Bool}{key:Keyed}{base hint:Nat}{R:Option Nat->SortSt->Prop}(hk:kindOf st=κ)(hkey:mem key)(p:Nat->Bool)
  (harr:∀i,i<n->∃x,qD[base+i]?=some x/\mem x/\p i=Ck ky left key x) (hh:hint<n) (mono:∀i j,i<=j->j<n->p j=true->p i=true)
  (h:∀k,k<=n->(∀i,i<k->p i=true)->(∀i,k<=i->i<n->p i=false)->R (some k) st):wpS M A E s (Ja left key qD base n hint) R st:=by
 have hb:∀i,i<n->∀{R:Option Bool->SortSt->Prop},R (some (p i)) st->wpS M A E s (do let x <-elem' qD (base+i);if left=true then lt' x key else do let z <-lt' key x;pure (z.map λq=>!q)) R st:=by
  intro i hi R hR
  obtain⟨x,e,hm,hp⟩:=harr i hi
  refine wpS_bind (BL e ?_)
  cases left with
  |true =>
   rw[if_pos rfl]
   refine C.ask _ _ hm hkey _ _ hk ?_
   rw[hp]at hR;exact hR
  |false =>
   rw[if_neg (by simp)]
   refine wpS_bind (C.ask _ _ hkey hm _ _ hk (wpS_pure ?_))
   rw[hp]at hR;exact hR
 have mono':∀i j,i<=j->j<n->p i=false->p j=false:=λi j hij hj hi=>by
  cases e:p j with
  |false=>rfl
  |true=>rw[mono i j hij hj e]at hi;cases hi
 have half:∀lo hi,lo<=hi->hi<=n->(∀i,i<lo->p i=true)->(∀i,hi<=i->i<n->p i=false)->∀(F:Nat->Option (Option Nat)×Nat×Nat->StateT SortSt Sem (ForInStep (Option (Option Nat)×Nat×Nat))),
   (∀x lo hi,¬lo≥hi->lo+(hi - lo) / 2<n->∀(R':ForInStep (Option (Option Nat)×Nat×Nat)->SortSt->Prop),R' (.yield (if p (lo+(hi - lo) / 2)=true then(none,lo+(hi - lo) / 2+1,hi)else(none,lo,lo+(hi - lo) / 2))) st->wpS M A E s (F x (none,lo,hi)) R' st) ->
   (∀x lo hi,lo≥hi->∀(R':ForInStep (Option (Option Nat)×Nat×Nat)->SortSt->Prop),R' (.done (none,lo,hi)) st->wpS M A E s (F x (none,lo,hi)) R' st) ->
   ∀(R':Option (Option Nat)×Nat×Nat->SortSt->Prop),(∀k,k<=n->(∀i,i<k->p i=true)->(∀i,k<=i->i<n->p i=false)->R' (none,k,k) st)->wpS M A E s (forIn [0:n] (none,lo,hi) F) R' st:=by
  intro lo hi h1 h2 h3 h4 F hF hF0 R' hR
  refine wpS_forRange (I:=λx c st'=>st'=st/\∃lo hi,c=(none,lo,hi)/\lo<=hi/\hi<=n/\(∀i,i<lo->p i=true)/\(∀i,hi<=i->i<n->p i=false)/\hi - lo<=n - x) ?_ ?_ ⟨rfl,lo,hi,rfl,h1,h2,h3,h4,by lia⟩
  ·rintro x c st' _ hx ⟨rfl,lo,hi,rfl,h1,h2,h3,h4,h5⟩
   by_cases hg:lo≥hi
   ·refine hF0 x lo hi hg _ ?_
    have e:lo=hi:=by lia
    subst e
    exact hR lo h2 h3 h4
   ·refine hF x lo hi hg (by lia) _ ?_
    cases e:p (lo+(hi - lo) / 2)with
    |true =>
     rw[if_pos rfl]
     exact⟨rfl,_,_,rfl,by lia,h2,λi hi'=>mono i _ (by lia) (by lia) e,h4,by lia⟩
    |false =>
     rw[if_neg (by simp)]
     exact⟨rfl,_,_,rfl,by lia,by lia,h3,λi h6 h7=>mono' _ i h6 h7 e,by lia⟩
  ·rintro c st' ⟨rfl,lo,hi,rfl,h1,h2,h3,h4,h5⟩
   have e:lo=hi:=by lia
   subst e
   exact hR lo h2 h3 h4
 refine wpS_bind (hb hint hh ?_)
 cases e0:p hint with
 |true =>
  dsimp only
  rw[if_pos rfl]
  refine wpS_bind (wpS_mono (wpS_forRange (I:=λx c st'=>st'=st/\∃la o,c=(none,la,o)/\la<o/\x+1<=o/\hint+la<n/\p (hint+la)=true)
   (Q:=λc st'=>st'=st/\∃la o,c=(none,la,o)/\la<o/\hint+la<n/\p (hint+la)=true/\(n - hint<=o\/(hint+o<n/\p (hint+o)=false))) ?s1 ?f1 ⟨rfl,0,1,rfl,by lia,by lia,by lia,e0⟩) ?g1)
  case s1 =>
   rintro x c st' _ hx ⟨rfl,la,o,rfl,h1,h2,h3,h4⟩
   dsimp only
   by_cases hg:o≥n - hint
   ·rw[if_pos hg]
    exact wpS_pure ⟨rfl,la,o,rfl,h1,h3,h4,.inl hg⟩
   ·rw[if_neg hg]
    refine wpS_bind (hb (hint+o) (by lia) ?_)
    cases e1:p (hint+o)with
    |true=>exact wpS_pure ⟨rfl,o,2 * o+1,rfl,by lia,by lia,by lia,e1⟩
    |false=>exact wpS_pure ⟨rfl,la,o,rfl,h1,h3,h4,.inr ⟨by lia,e1⟩⟩
  case f1 =>
   rintro c st' ⟨rfl,la,o,rfl,h1,h2,h3,h4⟩
   exact⟨rfl,la,o,rfl,h1,h3,h4,.inl (by lia)⟩
  case g1 =>
   rintro c st' ⟨rfl,la,o,rfl,h1,h3,h4,h5⟩
   dsimp only
   refine wpS_bind (half (hint+la+1) (hint+min o (n - hint)) (by lia) (by lia) (λi hi=>mono i (hint+la) (by lia) h3 h4) (λi hi hn=>?_) _ ?_ ?_ _ λk k1 k2 k3=>wpS_pure (h k k1 k2 k3))
   ·rcases h5 with h5|⟨h5,h6⟩
    ·lia
    ·exact mono' (hint+o) i (by lia) hn h6
   ·intro x lo hi hg hm R' hR
    dsimp only
    rw[if_neg hg]
    refine wpS_bind (hb _ hm ?_)
    cases e1:p (lo+(hi - lo) / 2)with
    |true=>rw[e1,if_pos rfl]at hR;exact wpS_pure hR
    |false=>rw[e1,if_neg (by simp)]at hR;exact wpS_pure hR
   ·intro x lo hi hg R' hR
    dsimp only
    rw[if_pos hg]
    exact wpS_pure hR
 |false =>
  dsimp only
  rw[if_neg (by simp)]
  refine wpS_bind (wpS_mono (wpS_forRange (I:=λx c st'=>st'=st/\∃la o,c=(none,la,o)/\la<o/\x+1<=o/\la<=hint/\p (hint - la)=false)
   (Q:=λc st'=>st'=st/\∃la o,c=(none,la,o)/\la<o/\la<=hint/\p (hint - la)=false/\(hint+1<=o\/(o<=hint/\p (hint - o)=true))) ?s1 ?f1 ⟨rfl,0,1,rfl,by lia,by lia,by lia,e0⟩) ?g1)
  case s1 =>
   rintro x c st' _ hx ⟨rfl,la,o,rfl,h1,h2,h3,h4⟩
   dsimp only
   by_cases hg:o≥hint+1
   ·rw[if_pos hg]
    exact wpS_pure ⟨rfl,la,o,rfl,h1,h3,h4,.inl hg⟩
   ·rw[if_neg hg]
    refine wpS_bind (hb (hint - o) (by lia) ?_)
    cases e1:p (hint - o)with
    |true=>exact wpS_pure ⟨rfl,la,o,rfl,h1,h3,h4,.inr ⟨by lia,e1⟩⟩
    |false=>exact wpS_pure ⟨rfl,o,2 * o+1,rfl,by lia,by lia,by lia,e1⟩
  case f1 =>
   rintro c st' ⟨rfl,la,o,rfl,h1,h2,h3,h4⟩
   exact⟨rfl,la,o,rfl,h1,h3,h4,.inl (by lia)⟩
  case g1 =>
   rintro c st' ⟨rfl,la,o,rfl,h1,h3,h4,h5⟩
   dsimp only
   refine wpS_bind (half (hint+1 - min o (hint+1)) (hint - la) (by lia) (by lia) (λi hi=>?_) (λi hi hn=>mono' (hint - la) i hi hn h4) _ ?_ ?_ _ λk k1 k2 k3=>wpS_pure (h k k1 k2 k3))
   ·rcases h5 with h5|⟨h5,h6⟩
    ·lia
    ·exact mono i (hint - o) (by lia) (by lia) h6
   ·intro x lo hi hg hm R' hR
    dsimp only
    rw[if_neg hg]
    refine wpS_bind (hb _ hm ?_)
    cases e1:p (lo+(hi - lo) / 2)with
    |true=>rw[e1,if_pos rfl]at hR;exact wpS_pure hR
    |false=>rw[e1,if_neg (by simp)]at hR;exact wpS_pure hR
   ·intro x lo hi hg R' hR
    dsimp only
    rw[if_pos hg]
    exact wpS_pure hR
end
section
variable{ky:Keyed->O.α}
abbrev Af(ky:Keyed->O.α)(x y:Keyed):Prop:=O.kle (ky x) (ky y)
abbrev Ac(ky:Keyed->O.α)(l:List Keyed):Prop:=l.Pairwise (Af ky)
structure Mi(ky:Keyed->O.α)(a b out:List Keyed)(ia ib:Nat):Prop where
 perm:(out++(a.drop ia++b.drop ib)).Perm (a++b)
 srt:Ac ky out
 le:∀x∈out,∀y,y∈a.drop ia\/y∈b.drop ib->Af ky x y
variable{a b out:List Keyed}{ia ib k:Nat}
theorem NT{l:List Keyed}{k:Nat}{x:Keyed}(h:x∈l.take k\/x∈l.drop k):x∈l:=by
 rw[<-take_append_drop k l];exact mem_append.mpr h
theorem BB{l:List Keyed}(h:Ac ky l)(k:Nat):Ac ky (l.take k)/\Ac ky (l.drop k)/\∀x∈l.take k,∀y∈l.drop k,Af ky x y:=by
 have h':Ac ky (l.take k++l.drop k):=by rw[take_append_drop];exact h
 obtain⟨h1,h2,h3⟩:=pairwise_append.mp h'
 exact⟨h1,h2,h3⟩
theorem Mi.manyA(m:Mi ky a b out ia ib)(sa:Ac ky a)(k:Nat)(hb:∀x∈(a.drop ia).take k,∀y∈b.drop ib,Af ky x y):Mi ky a b (out++(a.drop ia).take k) (ia+k) ib where
 perm:=by
  have e:a.drop ia=(a.drop ia).take k++a.drop (ia+k):=by rw[<-drop_drop];exact(take_append_drop _ _).symm
  have:=m.perm
  rw[e]at this
  simpa[append_assoc]using this
 srt:=by
  refine pairwise_append.mpr ⟨m.srt,(BB (BB sa ia).2.1 k).1,λx hx y hy=>m.le x hx y (.inl (NT (.inl hy)))⟩
 le:=λx hx y hy=>by
  rcases mem_append.mp hx with hx|hx
  ·refine m.le x hx y ?_
   rcases hy with hy|hy
   ·rw[<-drop_drop]at hy;exact .inl (NT (.inr hy))
   ·exact .inr hy
  ·rcases hy with hy|hy
   ·rw[<-drop_drop]at hy
    exact(BB (BB sa ia).2.1 k).2.2 x hx y hy
   ·exact hb x hx y hy
theorem Mi.swap(m:Mi ky a b out ia ib):Mi ky b a out ib ia where
 perm:=((perm_append_comm).append_left out).trans (m.perm.trans perm_append_comm)
 srt:=m.srt
 le:=λx hx y hy=>m.le x hx y hy.symm
theorem Mi.manyB(m:Mi ky a b out ia ib)(sb:Ac ky b)(k:Nat)(ha:∀x∈(b.drop ib).take k,∀y∈a.drop ia,Af ky x y):Mi ky a b (out++(b.drop ib).take k) ia (ib+k):=(m.swap.manyA sb k ha).swap
theorem NU{l:List Keyed}{x:Keyed}(e:l[i]?=some x):(l.drop i).take 1=[x]:=by
 have hi:i<l.length:=by
  rcases Nat.lt_or_ge i l.length with q|q
  ·exact q
  ·rw[getElem?_eq_none q]at e;cases e
 rw[getElem?_eq_getElem hi]at e
 rw[drop_eq_getElem_cons hi]
 simp[oI e]
theorem Mi.oneA(m:Mi ky a b out ia ib)(sa:Ac ky a){x:Keyed}(e:a[ia]?=some x)(hb:∀y∈b.drop ib,Af ky x y):Mi ky a b (out++[x]) (ia+1) ib:=by
 have:=m.manyA sa 1 (by rw[NU e];intro z hz;rw[mem_singleton.mp hz];exact hb)
 rw[NU e]at this;exact this
theorem Mi.oneB(m:Mi ky a b out ia ib)(sb:Ac ky b){x:Keyed}(e:b[ib]?=some x)(ha:∀y∈a.drop ia,Af ky x y):Mi ky a b (out++[x]) ia (ib+1):=(m.swap.oneA sb e ha).swap
theorem Ec{l:List Keyed}(h:Ac ky l){x:Keyed}(e:l[i]?=some x):∀y∈l.drop i,Af ky x y:=by
 have hi:i<l.length:=by
  rcases Nat.lt_or_ge i l.length with q|q
  ·exact q
  ·rw[getElem?_eq_none q]at e;cases e
 rw[getElem?_eq_getElem hi]at e
 have h2:=(BB h i).2.1
 rw[drop_eq_getElem_cons hi,oI e]at h2 ⊢
 intro y hy
 rcases mem_cons.mp hy with rfl|hy
 ·exact KeyOrd.kle_refl _
 ·exact(pairwise_cons.mp h2).1 y hy
structure MDone(ky:Keyed->O.α)(a b m:List Keyed):Prop where
 perm:m.Perm (a++b)
 srt:Ac ky m
theorem Mi.done(m:Mi ky a b out ia ib)(sa:Ac ky a)(sb:Ac ky b)(h:a.length<=ia\/b.length<=ib):MDone ky a b (out++a.drop ia++b.drop ib) where
 perm:=by rw[append_assoc];exact m.perm
 srt:=by
  rw[append_assoc]
  refine pairwise_append.mpr ⟨m.srt,?_,λx hx y hy=>m.le x hx y (mem_append.mp hy)⟩
  rcases h with h|h
  ·rw[drop_eq_nil_of_le h];exact(BB sb ib).2.1
  ·rw[drop_eq_nil_of_le h,append_nil];exact(BB sa ia).2.1
theorem Mi.lastA(m:Mi ky a b out ia ib)(sa:Ac ky a)(sb:Ac ky b)(h:∀x∈b.drop ib,∀y∈a.drop ia,Af ky x y):MDone ky a b (out++b.drop ib++a.drop ia) where
 perm:=by rw[append_assoc];exact((perm_append_comm).append_left out).trans m.perm
 srt:=by
  rw[append_assoc]
  exact pairwise_append.mpr ⟨m.srt,pairwise_append.mpr ⟨(BB sb ib).2.1,(BB sa ia).2.1,h⟩,λx hx y hy=>m.le x hx y (mem_append.mp hy).symm⟩
end
theorem Gu(a:Array Keyed)(i:Nat):(a.extract i a.size).toList=a.toList.drop i:=by
 rw[Array.toList_extract,extract_eq_take_drop]
 rw[take_of_length_le (by rw[length_drop,Array.length_toList];lia)]
theorem Jb(a:Array Keyed)(i k:Nat):(a.extract i (i+k)).toList=(a.toList.drop i).take k:=by
 rw[Array.toList_extract,extract_eq_take_drop,Nat.add_sub_cancel_left]
section
variable{M:Model}{κ:SortKind}{ky:Keyed->O.α}{mem:Keyed->Prop}
noncomputable abbrev Bj(st:SortSt)(g:Nat):SortSt:=SortSt.mk' (kindOf st) (arrOf st) (pendingOf st) g (failedOf st)
noncomputable def Tg:Nat->StateT SortSt Sem Unit:=sortPriv% PySem.Builtin.setMinGallop
theorem Gv{g:Nat}{R:Unit->SortSt->Prop}(h:R () (Bj st g)):wpS M A E s (Tg g) R st:=wpS_modify (f:=λst=>Bj st g) h
theorem BS{a:Array Keyed}{x:Keyed}(e:a.toList[i]?=some x):a[i]?=some x:=by rw[<-Array.getElem?_toList];exact e
theorem Ed{l:List Keyed}(h:i<l.length):∃x,l[i]?=some x/\x∈l:=⟨l[i],getElem?_eq_getElem h,getElem_mem h⟩
theorem FN{l:List Keyed}{y:Keyed}(h:y∈l.drop i):∃j,i<=j/\l[j]?=some y:=by
 obtain⟨n,hn⟩:=getElem?_of_mem h
 exact⟨i+n,Nat.le_add_right _ _,by rw[<-getElem?_drop];exact hn⟩
theorem Gw{l:List Keyed}{k:Nat}{y:Keyed}(h:y∈(l.drop i).take k):∃j,j<k/\l[i+j]?=some y:=by
 obtain⟨n,hn⟩:=getElem?_of_mem h
 rw[getElem?_take]at hn
 split at hn
 ·exact⟨n,‹_›,by rw[<-getElem?_drop];exact hn⟩
 ·cases hn
theorem Jc(C:Cmp M A E s κ O ky mem){key:Keyed}{base hint:Nat}{R:Option Nat->SortSt->Prop}(hk:kindOf st=κ)(hkey:mem key)(hm:∀x∈qD.toList,mem x)
  (hs:∀i j x y,base<=i->i<=j->j<base+n->qD.toList[i]?=some x->qD.toList[j]?=some y->Af ky x y) (hn:base+n<=qD.size) (hh:hint<n)
  (h:∀k,k<=n->(∀i x,i<k->qD.toList[base+i]?=some x->Af ky x key)->(∀i x,k<=i->i<n->qD.toList[base+i]?=some x->O.klt (ky key) (ky x))->R (some k) st):wpS M A E s (Ja false key qD base n hint) R st:=by
 have hat:∀i,i<n->∃x,qD.toList[base+i]?=some x/\x∈qD.toList:=λi hi=>Ed (by rw[Array.length_toList];lia)
 refine NS C hk hkey (λi=>match qD.toList[base+i]? with|some x=>Ck ky false key x|none=>false) (λi hi=>?_) hh (λi j hij hj hp=>?_) (λk k1 k2 k3=>h k k1 (λi x hi e=>?_) (λi x hi hin e=>?_))
 ·obtain⟨x,e,hx⟩:=hat i hi
  exact⟨x,BS e,hm x hx,by rw[e]⟩
 ·obtain⟨x,e,hx⟩:=hat i (by lia)
  obtain⟨y,e2,hy⟩:=hat j hj
  simp only[e2,Ck,Bool.false_eq_true,if_false,Bool.not_eq_true']at hp
  simp only[e,Ck,Bool.false_eq_true,if_false,Bool.not_eq_true']
  exact KeyOrd.kle_trans (hs _ _ x y (by lia) (by lia) (by lia) e e2) hp
 ·have:=k2 i hi
  simp only[e,Ck,Bool.false_eq_true,if_false,Bool.not_eq_true']at this
  exact this
 ·have:=k3 i hi hin
  simp only[e,Ck,Bool.false_eq_true,if_false,Bool.not_eq_false']at this
  exact this
theorem Jd(C:Cmp M A E s κ O ky mem){key:Keyed}{base hint:Nat}{R:Option Nat->SortSt->Prop}(hk:kindOf st=κ)(hkey:mem key)(hm:∀x∈qD.toList,mem x)
  (hs:∀i j x y,base<=i->i<=j->j<base+n->qD.toList[i]?=some x->qD.toList[j]?=some y->Af ky x y) (hn:base+n<=qD.size) (hh:hint<n)
  (h:∀k,k<=n->(∀i x,i<k->qD.toList[base+i]?=some x->O.klt (ky x) (ky key))->(∀i x,k<=i->i<n->qD.toList[base+i]?=some x->Af ky key x)->R (some k) st):wpS M A E s (Ja true key qD base n hint) R st:=by
 have hat:∀i,i<n->∃x,qD.toList[base+i]?=some x/\x∈qD.toList:=λi hi=>Ed (by rw[Array.length_toList];lia)
 refine NS C hk hkey (λi=>match qD.toList[base+i]? with|some x=>Ck ky true key x|none=>false) (λi hi=>?_) hh (λi j hij hj hp=>?_) (λk k1 k2 k3=>h k k1 (λi x hi e=>?_) (λi x hi hin e=>?_))
 ·obtain⟨x,e,hx⟩:=hat i hi
  exact⟨x,BS e,hm x hx,by rw[e]⟩
 ·obtain⟨x,e,hx⟩:=hat i (by lia)
  obtain⟨y,e2,hy⟩:=hat j hj
  simp only[e2,Ck,if_true]at hp
  simp only[e,Ck,if_true]
  exact KeyOrd.klt_of_kle_of_klt (hs _ _ x y (by lia) (by lia) (by lia) e e2) hp
 ·have:=k2 i hi
  simp only[e,Ck,if_true]at this
  exact this
 ·have:=k3 i hi hin
  simp only[e,Ck,if_true]at this
  exact this
theorem D6{l:List Keyed}(h:Ac ky l){x y:Keyed}(hij:i<=j)(e:l[i]?=some x)(e2:l[j]?=some y):Af ky x y:=by
 refine Ec h e y ?_
 have:(l.drop i)[j - i]?=some y:=by rw[getElem?_drop,show i+(j - i)=j by lia];exact e2
 exact mem_of_getElem? this
end
section
variable{M:Model}{κ:SortKind}{ky:Keyed->O.α}{mem:Keyed->Prop}
theorem AW{α:Type}{c:Prop}[Decidable c]{x y:StateT SortSt Sem α}{R:α->SortSt->Prop}(h1:c->wpS M A E s x R st)(h2:¬c->wpS M A E s y R st):wpS M A E s (if c then x else y) R st:=by
 split
 ·exact h1 ‹_›
 ·exact h2 ‹_›
structure MLo(ky:Keyed->O.α)(a b out:Array Keyed)(ia ib:Nat):Prop where
 mi:Mi ky a.toList b.toList out.toList ia ib
 ha:ia+1<a.size
 hb:ib<b.size
theorem Gx{α β γ:Type}{F:β->γ->StateT SortSt Sem α}{I:β->γ->Prop}{c:Prop}[Decidable c]{t:StateT SortSt Sem α}{x:β}{y:γ}{R:α->SortSt->Prop}(k:∀b g,I b g->wpS M A E s (F b g) R st)
  (h1:(∀b g,I b g->wpS M A E s (F b g) R st)->c->wpS M A E s t R st) (h2:¬c->I x y):wpS M A E s (if c then t else F x y) R st:=AW (h1 k) (λh=>k _ _ (h2 h))
theorem NV{α β:Type}{F:β->StateT SortSt Sem α}{c:Prop}[Decidable c]{x y:β}{R:α->SortSt->Prop}(k:∀z,wpS M A E s (F z) R st):wpS M A E s (if c then F x else F y) R st:=AW (λ_=>k _) (λ_=>k _)
theorem Th(C:Cmp M A E s κ O ky mem){a b:Array Keyed}{R:Array Keyed->SortSt->Prop}(hk:kindOf st=κ)(ma:∀x∈a.toList,mem x)(mb:∀x∈b.toList,mem x)(sa:Ac ky a.toList)(sb:Ac ky b.toList)
  (ha:0<a.size) (hb:0<b.size) (h1:∀x y,b.toList[0]?=some x->y∈a.toList->Af ky x y) (h2:∀x∈b.toList,∀y,a.toList[a.size - 1]?=some y->Af ky x y)
  (h:∀m g,MDone ky a.toList b.toList m.toList->R m (Bj st g)):wpS M A E s (Te a b) R st:=by
 have la:a.toList.length=a.size:=Array.length_toList
 have lb:b.toList.length=b.size:=Array.length_toList
 have ata:∀i,i<a.size->∃x,a.toList[i]?=some x/\mem x:=λi hi=>let⟨x,e,hx⟩:=Ed (l:=a.toList) (i:=i) (by lia);⟨x,e,ma x hx⟩
 have atb:∀i,i<b.size->∃x,b.toList[i]?=some x/\mem x:=λi hi=>let⟨x,e,hx⟩:=Ed (l:=b.toList) (i:=i) (by lia);⟨x,e,mb x hx⟩
 have fin:∀(out:Array Keyed) ia ib g,Mi ky a.toList b.toList out.toList ia ib->(a.size<=ia\/b.size<=ib)->R (out++a.extract ia a.size++b.extract ib b.size) (Bj st g):=λout ia ib g m hz=>by
  refine h _ g ?_
  rw[Array.toList_append,Array.toList_append,Gu,Gu]
  exact m.done sa sb (by rw[la,lb];exact hz)
 have finA:∀(out:Array Keyed) ia ib g,Mi ky a.toList b.toList out.toList ia ib->ia+1=a.size->R (out++b.extract ib b.size++a.extract ia a.size) (Bj st g):=λout ia ib g m hz=>by
  refine h _ g ?_
  rw[Array.toList_append,Array.toList_append,Gu,Gu]
  refine m.lastA sa sb λx hx y hy=>?_
  obtain⟨j,hj,e⟩:=FN hy
  have hj2:j<a.toList.length:=by
   rcases Nat.lt_or_ge j a.toList.length with q|q
   ·exact q
   ·rw[getElem?_eq_none q]at e;cases e
  have ej:j=a.size - 1:=by lia
  rw[ej]at e
  exact h2 x (mem_of_mem_drop hx) y e
 refine wpS_bind (wpS_lift (wpAny_rule ⟨rfl,?_⟩))
 obtain⟨b0,eb0,mb0⟩:=atb 0 hb
 refine wpS_bind (BL (BS eb0) ?_)
 have m0:Mi ky a.toList b.toList (#[b0]:Array Keyed).toList 0 1:=by
  have:Mi ky a.toList b.toList [] 0 0:=⟨by simp,List.Pairwise.nil,λx hx=>by cases hx⟩
  exact this.oneB sb eb0 (λy hy=>h1 b0 y eb0 (by simpa using hy))
 dsimp -zeta only
 by_cases hb1:1=b.size
 ·rw[if_pos (by simpa using hb1)]
  exact wpS_pure (fin _ 0 1 (gallopOf st) m0 (.inr (by lia)))
 rw[if_neg (by simpa using hb1)]
 by_cases ha1:0+1=a.size
 ·rw[if_pos (by simpa using ha1)]
  exact wpS_pure (finA _ 0 1 (gallopOf st) m0 ha1)
 rw[if_neg (by simpa using ha1)]
 refine wpS_bind (wpS_get ?_)
 refine wpS_bind (wpS_mono (wpS_forRange (I:=λx c st'=>(∃g,st'=Bj st g)/\∃out ia ib mg,c=(none,out,ia,ib,mg)/\MLo ky a b out ia ib/\x+1<=ia+ib)
  (Q:=λc st'=>∃m r,c=(some m,r)/\R m st') ?step ?fin ⟨⟨gallopOf st,rfl⟩,_,_,_,_,rfl,⟨m0,by lia,by lia⟩,by lia⟩) ?post)
 case post =>
  rintro c st' ⟨m,r,rfl,hr⟩
  exact wpS_pure hr
 case fin =>
  rintro c st' ⟨_,out,ia,ib,mg,rfl,m,hx⟩
  have:=m.ha
  have:=m.hb
  lia
 case step =>
  rintro x c st' _ hx ⟨⟨g,rfl⟩,out,ia,ib,mg,rfl,m,hx1⟩
  dsimp -zeta only
  refine wpS_bind (wpS_mono (wpS_forRange (I:=λy c st'=>st'=Bj st g/\∃out ia ib ac bc,c=(none,out,ia,ib,ac,bc)/\MLo ky a b out ia ib/\x+1+y<=ia+ib)
   (Q:=λc st'=>(∃m r,c=(some m,r)/\R m st')\/(st'=Bj st g/\∃out ia ib ac bc,c=(none,out,ia,ib,ac,bc)/\MLo ky a b out ia ib/\x+1<=ia+ib)) ?step1 ?fin1 ⟨rfl,_,_,_,_,_,rfl,m,by lia⟩) ?post1)
  case fin1 =>
   rintro c st' ⟨_,out,ia,ib,ac,bc,rfl,m,hx⟩
   have:=m.ha
   have:=m.hb
   lia
  case step1 =>
   rintro y c st' _ hy ⟨rfl,out,ia,ib,ac,bc,rfl,m,hx2⟩
   have hia:=m.ha
   have hib:=m.hb
   obtain⟨xa,ea,mxa⟩:=ata ia (by lia)
   obtain⟨xb,eb,mxb⟩:=atb ib hib
   dsimp -zeta only
   refine wpS_bind (BL (BS eb) (wpS_bind (BL (BS ea) (wpS_bind (C.ask _ _ mxb mxa _ _ hk ?_)))))
   cases hlt:O.blt (ky xb) (ky xa)with
   |true =>
    dsimp -zeta only
    rw[if_pos rfl]
    have m':=m.mi.oneB sb eb λz hz=>KeyOrd.kle_trans (KeyOrd.kle_of_klt hlt) (Ec sa ea z hz)
    rw[<-Array.toList_push]at m'
    refine wpS_bind (BL (BS eb) ?_)
    by_cases hz:ib+1=b.size
    ·rw[if_pos (by simpa using hz)]
     exact wpS_pure (.inl ⟨_,_,rfl,fin _ _ _ g m' (.inr (by lia))⟩)
    ·rw[if_neg (by simpa using hz)]
     split
     ·exact wpS_pure (.inr ⟨rfl,_,_,_,_,_,rfl,⟨m',hia,by lia⟩,by lia⟩)
     ·exact wpS_pure ⟨rfl,_,_,_,_,_,rfl,⟨m',hia,by lia⟩,by lia⟩
   |false =>
    dsimp -zeta only
    rw[if_neg (by simp)]
    have m':=m.mi.oneA sa ea λz hz=>KeyOrd.kle_trans hlt (Ec sb eb z hz)
    rw[<-Array.toList_push]at m'
    refine wpS_bind (BL (BS ea) ?_)
    by_cases hz:ia+1+1=a.size
    ·rw[if_pos (by simpa using hz)]
     exact wpS_pure (.inl ⟨_,_,rfl,finA _ _ _ g m' hz⟩)
    ·rw[if_neg (by simpa using hz)]
     split
     ·exact wpS_pure (.inr ⟨rfl,_,_,_,_,_,rfl,⟨m',by lia,hib⟩,by lia⟩)
     ·exact wpS_pure ⟨rfl,_,_,_,_,_,rfl,⟨m',by lia,hib⟩,by lia⟩
  case post1 =>
   rintro c st' (⟨m',r,rfl,hr⟩|⟨rfl,out,ia,ib,ac,bc,rfl,m,hx1⟩)
   ·exact wpS_pure ⟨m',_,rfl,hr⟩
   dsimp -zeta only
   refine wpS_bind (wpS_lift (wpAny_rule ⟨rfl,?_⟩))
   refine wpS_bind (wpS_mono (wpS_forRange (I:=λy c st'=>(∃g,st'=Bj st g)/\∃out ia ib mg ac bc,c=(none,out,ia,ib,mg,ac,bc)/\MLo ky a b out ia ib/\x+1+2 * y<=ia+ib)
    (Q:=λc st'=>(∃m r,c=(some m,r)/\R m st')\/((∃g,st'=Bj st g)/\∃out ia ib mg ac bc,c=(none,out,ia,ib,mg,ac,bc)/\MLo ky a b out ia ib/\x+2<=ia+ib)) ?step2 ?fin2 ⟨⟨g,rfl⟩,_,_,_,_,_,_,rfl,m,by lia⟩) ?post2)
   case fin2 =>
    rintro c st' ⟨_,out,ia,ib,mg,ac,bc,rfl,m,hx⟩
    have:=m.ha
    have:=m.hb
    lia
   case post2 =>
    rintro c st' (⟨m',r,rfl,hr⟩|⟨⟨g,rfl⟩,out,ia,ib,mg,ac,bc,rfl,m,hx1⟩)
    ·exact wpS_pure ⟨m',_,rfl,hr⟩
    ·dsimp -zeta only
     exact wpS_bind (Gv (wpS_pure ⟨⟨_,rfl⟩,_,_,_,_,rfl,m,by lia⟩))
   case step2 =>
    rintro y c st' _ hy ⟨⟨g,rfl⟩,out,ia,ib,mg,ac,bc,rfl,m,hx2⟩
    have hia:=m.ha
    have hib:=m.hb
    obtain⟨xb,eb,mxb⟩:=atb ib hib
    extract_lets -merge c1 c2 c3 c4 c5 c6 c7 c8 c9 c10 c11 c12 jp c13
    refine NV (F:=λz=>jp () z) λz=>?_
    subst c13 jp c12 c11 c10 c9 c8 c7 c6 c5 c4 c3 c2 c1
    dsimp -zeta only
    refine wpS_bind (Gv ?_)
    refine wpS_bind (BL (BS eb) (wpS_bind (Jc (base:=ia) (n:=a.size - ia) (hint:=0) C hk mxb ma (λi j x y _ hij _ e1 e2=>D6 sa hij e1 e2) (by lia) (by lia) λk k1 k2 k3=>?_)))
    have m1:=m.mi.manyA sa k λx hx z hz=>by
     obtain⟨j,hj,e⟩:=Gw hx
     exact KeyOrd.kle_trans (k2 j x hj e) (Ec sb eb z hz)
    have up:∀z∈a.toList.drop (ia+k),Af ky xb z:=λz hz=>by
     obtain⟨j,hj,e⟩:=FN hz
     have hj2:j<a.toList.length:=by
      rcases Nat.lt_or_ge j a.toList.length with q|q
      ·exact q
      ·rw[getElem?_eq_none q]at e;cases e
     exact KeyOrd.kle_of_klt (k3 (j - ia) z (by lia) (by lia) (by rw[show ia+(j - ia)=j by lia];exact e))
    dsimp -zeta only
    extract_lets -merge d1 jp d2 d3
    refine Gx (F:=λo n=>jp () o n) (I:=λo nk=>¬nk+1=a.size/\nk<a.size/\ia<=nk/\Mi ky a.toList b.toList o.toList nk ib/\∀z∈a.toList.drop nk,Af ky xb z) (λo nk h=>?_) (λkey hk0=>?_) (λhk0=>?_)
    ·clear m1 up k2 k3
     obtain⟨hz,hz2,hz3,m1,up⟩:=h
     subst d3 d2 jp d1
     dsimp -zeta only
     refine wpS_bind (BL (BS eb) ?_)
     have m2:=m1.oneB sb eb up
     rw[<-Array.toList_push]at m2
     refine AW (λhy=>wpS_pure (.inl ⟨_,_,rfl,fin _ _ _ _ m2 (.inr (by have:=eq_of_beq hy;lia))⟩)) (λhy=>?_)
     have hy:¬ib+1=b.size:=by simpa using hy
     obtain⟨xa,ea,mxa⟩:=ata nk (by lia)
     refine wpS_bind (BL (BS ea) (wpS_bind (Jd (base:=ib+1) (n:=b.size - (ib+1)) (hint:=0) C hk mxa mb (λi j x y _ hij _ e1 e2=>D6 sb hij e1 e2) (by lia) (by lia) λl l1 l2 l3=>?_)))
     have m3:=m2.manyB sb l λx hx z hz=>by
      obtain⟨j,hj,e⟩:=Gw hx
      exact KeyOrd.kle_trans (KeyOrd.kle_of_klt (l2 j x hj e)) (Ec sa ea z hz)
     have up2:∀z∈b.toList.drop (ib+1+l),Af ky xa z:=λz hz=>by
      obtain⟨j,hj,e⟩:=FN hz
      have hj2:j<b.toList.length:=by
       rcases Nat.lt_or_ge j b.toList.length with q|q
       ·exact q
       ·rw[getElem?_eq_none q]at e;cases e
      exact l3 (j - (ib+1)) z (by lia) (by lia) (by rw[show ib+1+(j - (ib+1))=j by lia];exact e)
     dsimp -zeta only
     extract_lets -merge e1 e2 jq e3 e4
     refine Gx (F:=λo n=>jq () o n) (I:=λo nl=>nl<b.size/\ib+1<=nl/\Mi ky a.toList b.toList o.toList nk nl/\∀z∈b.toList.drop nl,Af ky xa z) (λo nl h=>?_) (λkey hl0=>?_) (λhl0=>?_)
     ·clear m3 up2 l2 l3
      obtain⟨hw,hw2,m3,up2⟩:=h
      subst e4 e3 jq e2 e1
      dsimp -zeta only
      refine wpS_bind (BL (BS ea) ?_)
      have m4:=m3.oneA sa ea up2
      rw[<-Array.toList_push]at m4
      refine AW (λhv=>wpS_pure (.inl ⟨_,_,rfl,finA _ _ _ _ m4 (by simpa using hv)⟩)) (λhv=>?_)
      have hv:¬nk+1+1=a.size:=by simpa using hv
      exact AW (λ_=>wpS_pure (.inr ⟨⟨_,rfl⟩,_,nk+1,nl,_,_,_,rfl,⟨m4,by lia,by lia⟩,by lia⟩)) (λ_=>wpS_pure ⟨⟨_,rfl⟩,_,nk+1,nl,_,_,_,rfl,⟨m4,by lia,by lia⟩,by lia⟩)
     ·rw[<-Jb,<-Array.toList_append]at m3
      exact AW (λhw=>wpS_pure (.inl ⟨_,_,rfl,fin _ _ _ _ m3 (.inr (Nat.le_of_eq (eq_of_beq hw).symm))⟩)) (λhw=>key _ _ ⟨Nat.lt_of_le_of_ne (by lia) λq=>hw (beq_iff_eq.mpr q),Nat.le_add_right _ _,m3,up2⟩)
     ·have hl1:l=0:=by lia
      clear_value jq
      subst hl1
      rw[take_zero,append_nil]at m3
      exact⟨by lia,Nat.le_refl _,m3,up2⟩
    ·rw[<-Jb,<-Array.toList_append]at m1
     exact AW (λhz=>wpS_pure (.inl ⟨_,_,rfl,finA _ _ _ _ m1 (eq_of_beq hz)⟩)) (λhz=>AW (λhz2=>wpS_pure (.inl ⟨_,_,rfl,fin _ _ _ _ m1 (.inl (Nat.le_of_eq (eq_of_beq hz2).symm))⟩)) (λhz2=>key _ _ ⟨λq=>hz (beq_iff_eq.mpr q),Nat.lt_of_le_of_ne (by lia) λq=>hz2 (beq_iff_eq.mpr q),Nat.le_add_right _ _,m1,up⟩))
    ·have hk1:k=0:=by lia
     clear_value jp
     subst hk1
     rw[take_zero,append_nil]at m1
     exact⟨by lia,by lia,Nat.le_refl _,m1,up⟩
end
section
variable{ky:Keyed->O.α}
structure Mh(ky:Keyed->O.α)(a b out:List Keyed)(na nb:Nat):Prop where
 perm:((a.take na++b.take nb)++out.reverse).Perm (a++b)
 srt:Ac ky out.reverse
 le:∀y∈out,∀x,x∈a.take na\/x∈b.take nb->Af ky x y
variable{a b out:List Keyed}{na nb:Nat}
theorem Mh.swap(m:Mh ky a b out na nb):Mh ky b a out nb na where
 perm:=((perm_append_comm).append_right _).trans (m.perm.trans perm_append_comm)
 srt:=m.srt
 le:=λy hy x hx=>m.le y hy x hx.symm
theorem NW{l:List Keyed}(h:i<=n):l.take n=l.take i++(l.take n).drop i:=by
 have:=(take_append_drop i (l.take n)).symm
 rw[take_take,Nat.min_eq_left h]at this
 exact this
theorem Mh.manyA(m:Mh ky a b out na nb)(sa:Ac ky a)(hj:j<=na)(hb:∀x∈(a.take na).drop j,∀y∈b.take nb,Af ky y x):Mh ky a b (out++((a.take na).drop j).reverse) j nb where
 perm:=by
  have:=m.perm
  rw[NW hj]at this
  rw[reverse_append,reverse_reverse]
  generalize (a.take na).drop j=g at this ⊢
  refine List.Perm.trans ?_ this
  rw[append_assoc,append_assoc,append_assoc]
  refine List.Perm.append_left _ ?_
  rw[<-append_assoc,<-append_assoc]
  exact List.Perm.append_right _ perm_append_comm
 srt:=by
  rw[reverse_append,reverse_reverse]
  refine pairwise_append.mpr ⟨(BB (BB sa na).1 j).2.1,m.srt,λx hx y hy=>m.le y (mem_reverse.mp hy) x (.inl ?_)⟩
  exact mem_of_mem_drop hx
 le:=λy hy x hx=>by
  rcases mem_append.mp hy with hy|hy
  ·refine m.le y hy x ?_
   rcases hx with hx|hx
   ·exact .inl (by rw[NW hj];exact mem_append_left _ hx)
   ·exact .inr hx
  ·have hy:=mem_reverse.mp hy
   rcases hx with hx|hx
   ·have s2:=(BB sa na).1
    have e:(a.take na).take j=a.take j:=by rw[take_take,Nat.min_eq_left hj]
    exact(BB s2 j).2.2 x (by rw[e];exact hx) y hy
   ·exact hb y hy x hx
theorem Mh.manyB(m:Mh ky a b out na nb)(sb:Ac ky b)(hj:j<=nb)(ha:∀x∈(b.take nb).drop j,∀y∈a.take na,Af ky y x):Mh ky a b (out++((b.take nb).drop j).reverse) na j:=(m.swap.manyA sb hj ha).swap
theorem NX{l:List Keyed}{x:Keyed}(h:0<n)(e:l[n - 1]?=some x):(l.take n).drop (n - 1)=[x]:=by
 have hi:n - 1<l.length:=by
  rcases Nat.lt_or_ge (n - 1) l.length with q|q
  ·exact q
  ·rw[getElem?_eq_none q]at e;cases e
 rw[getElem?_eq_getElem hi]at e
 have e1:=oI e
 rw[drop_take,show n - (n - 1)=1 by lia,drop_eq_getElem_cons hi,e1]
 rfl
theorem Mh.oneA(m:Mh ky a b out na nb)(sa:Ac ky a)(h0:0<na){x:Keyed}(e:a[na - 1]?=some x)(hb:∀y∈b.take nb,Af ky y x):Mh ky a b (out++[x]) (na - 1) nb:=by
 have:=m.manyA sa (Nat.sub_le na 1) (by rw[NX h0 e];intro z hz;rw[mem_singleton.mp hz];exact hb)
 rw[NX h0 e]at this;exact this
theorem Mh.oneB(m:Mh ky a b out na nb)(sb:Ac ky b)(h0:0<nb){x:Keyed}(e:b[nb - 1]?=some x)(ha:∀y∈a.take na,Af ky y x):Mh ky a b (out++[x]) na (nb - 1):=(m.swap.oneA sb h0 e ha).swap
theorem FO{l:List Keyed}(h:Ac ky l){x:Keyed}(h0:0<n)(e:l[n - 1]?=some x):∀y∈l.take n,Af ky y x:=λy hy=>by
 obtain⟨i,hi⟩:=getElem?_of_mem hy
 rw[getElem?_take]at hi
 split at hi
 ·exact D6 h (by lia) hi e
 ·cases hi
theorem Mh.done(m:Mh ky a b out na nb)(sa:Ac ky a)(sb:Ac ky b)(h:na=0\/nb=0):MDone ky a b (a.take na++b.take nb++out.reverse) where
 perm:=m.perm
 srt:=by
  refine pairwise_append.mpr ⟨?_,m.srt,λx hx y hy=>m.le y (mem_reverse.mp hy) x (mem_append.mp hx)⟩
  rcases h with h|h
  ·rw[h,take_zero,nil_append];exact(BB sb nb).1
  ·rw[h,take_zero,append_nil];exact(BB sa na).1
theorem Mh.firstB(m:Mh ky a b out na nb)(sa:Ac ky a)(sb:Ac ky b)(h:∀x∈b.take nb,∀y∈a.take na,Af ky x y):MDone ky a b (b.take nb++a.take na++out.reverse) where
 perm:=((perm_append_comm).append_right _).trans m.perm
 srt:=pairwise_append.mpr ⟨pairwise_append.mpr ⟨(BB sb nb).1,(BB sa na).1,h⟩,m.srt,λx hx y hy=>m.le y (mem_reverse.mp hy) x (mem_append.mp hx).symm⟩
end
theorem Gy(a:Array Keyed)(n:Nat):(a.extract 0 n).toList=a.toList.take n:=by
 rw[Array.toList_extract,extract_eq_take_drop]
 simp
theorem Je(a:Array Keyed)(i n:Nat):(a.extract i n).toList=(a.toList.take n).drop i:=by
 rw[Array.toList_extract,extract_eq_take_drop,drop_take]
section
variable{M:Model}{κ:SortKind}{ky:Keyed->O.α}{mem:Keyed->Prop}
structure MHi(ky:Keyed->O.α)(a b out:Array Keyed)(na nb:Nat):Prop where
 mi:Mh ky a.toList b.toList out.toList na nb
 ha:0<na
 hb:1<nb
 la:na<=a.size
 lb:nb<=b.size
theorem Ti(C:Cmp M A E s κ O ky mem){a b:Array Keyed}{R:Array Keyed->SortSt->Prop}(hk:kindOf st=κ)(ma:∀x∈a.toList,mem x)(mb:∀x∈b.toList,mem x)(sa:Ac ky a.toList)(sb:Ac ky b.toList)
  (ha:0<a.size) (hb:0<b.size) (h1:∀x y,b.toList[0]?=some x->y∈a.toList->Af ky x y) (h2:∀x∈b.toList,∀y,a.toList[a.size - 1]?=some y->Af ky x y)
  (h:∀m g,MDone ky a.toList b.toList m.toList->R m (Bj st g)):wpS M A E s (Tf a b) R st:=by
 have la:a.toList.length=a.size:=Array.length_toList
 have lb:b.toList.length=b.size:=Array.length_toList
 have ata:∀i,i<a.size->∃x,a.toList[i]?=some x/\mem x:=λi hi=>let⟨x,e,hx⟩:=Ed (l:=a.toList) (i:=i) (by lia);⟨x,e,ma x hx⟩
 have atb:∀i,i<b.size->∃x,b.toList[i]?=some x/\mem x:=λi hi=>let⟨x,e,hx⟩:=Ed (l:=b.toList) (i:=i) (by lia);⟨x,e,mb x hx⟩
 have fin:∀(out:Array Keyed) na nb g,Mh ky a.toList b.toList out.toList na nb->(na=0\/nb=0)->R (a.extract 0 na++b.extract 0 nb++out.reverse) (Bj st g):=λout na nb g m hz=>by
  refine h _ g ?_
  rw[Array.toList_append,Array.toList_append,Gy,Gy,Array.toList_reverse]
  exact m.done sa sb hz
 have finB:∀(out:Array Keyed) na nb g,Mh ky a.toList b.toList out.toList na nb->nb=1->R (b.extract 0 nb++a.extract 0 na++out.reverse) (Bj st g):=λout na nb g m hz=>by
  refine h _ g ?_
  rw[Array.toList_append,Array.toList_append,Gy,Gy,Array.toList_reverse]
  refine m.firstB sa sb λx hx y hy=>?_
  obtain⟨i,hi⟩:=getElem?_of_mem hx
  rw[getElem?_take]at hi
  split at hi
  ·have:i=0:=by lia
   rw[this]at hi
   exact h1 x y hi (mem_of_mem_take hy)
  ·cases hi
 refine wpS_bind (wpS_lift (wpAny_rule ⟨rfl,?_⟩))
 obtain⟨a0,ea0,ma0⟩:=ata (a.size - 1) (by lia)
 refine wpS_bind (BL (BS ea0) ?_)
 have m0:Mh ky a.toList b.toList (#[a0]:Array Keyed).toList (a.size - 1) b.size:=by
  have e1:a.toList.take a.size=a.toList:=take_of_length_le (by lia)
  have e2:b.toList.take b.size=b.toList:=take_of_length_le (by lia)
  have:Mh ky a.toList b.toList [] a.size b.size:=⟨by rw[e1,e2];simp,List.Pairwise.nil,λx hx=>by cases hx⟩
  exact this.oneA sa ha ea0 (λy hy=>h2 y (by rw[e2]at hy;exact hy) a0 ea0)
 refine AW (λhz=>wpS_pure (fin _ _ _ (gallopOf st) m0 (.inl (eq_of_beq hz)))) (λhz=>?_)
 have hz:¬a.size - 1=0:=by simpa using hz
 refine AW (λhw=>wpS_pure (finB _ _ _ (gallopOf st) m0 (eq_of_beq hw))) (λhw=>?_)
 have hw:¬b.size=1:=by simpa using hw
 refine wpS_bind (wpS_get ?_)
 refine wpS_bind (wpS_mono (wpS_forRange (I:=λx c st'=>(∃g,st'=Bj st g)/\∃na nb out mg,c=(none,na,nb,out,mg)/\MHi ky a b out na nb/\na+nb+x+1<=a.size+b.size)
  (Q:=λc st'=>∃m r,c=(some m,r)/\R m st') ?step ?fin ⟨⟨gallopOf st,rfl⟩,_,_,_,_,rfl,⟨m0,by lia,by lia,by lia,by lia⟩,by lia⟩) ?post)
 case post =>
  rintro c st' ⟨m,r,rfl,hr⟩
  exact wpS_pure hr
 case fin =>
  rintro c st' ⟨_,na,nb,out,mg,rfl,m,hx⟩
  have:=m.ha
  have:=m.hb
  lia
 case step =>
  rintro x c st' _ hx ⟨⟨g,rfl⟩,na,nb,out,mg,rfl,m,hx1⟩
  refine wpS_bind (wpS_mono (wpS_forRange (I:=λy c st'=>st'=Bj st g/\∃na nb out ac bc,c=(none,na,nb,out,ac,bc)/\MHi ky a b out na nb/\na+nb+x+1+y<=a.size+b.size)
   (Q:=λc st'=>(∃m r,c=(some m,r)/\R m st')\/(st'=Bj st g/\∃na nb out ac bc,c=(none,na,nb,out,ac,bc)/\MHi ky a b out na nb/\na+nb+x+1<=a.size+b.size)) ?step1 ?fin1 ⟨rfl,_,_,_,_,_,rfl,m,by lia⟩) ?post1)
  case fin1 =>
   rintro c st' ⟨_,na,nb,out,ac,bc,rfl,m,hx⟩
   have:=m.ha
   have:=m.hb
   lia
  case step1 =>
   rintro y c st' _ hy ⟨rfl,na,nb,out,ac,bc,rfl,m,hx2⟩
   have hia:=m.ha
   have hib:=m.hb
   have hla:=m.la
   have hlb:=m.lb
   obtain⟨xa,ea,mxa⟩:=ata (na - 1) (by lia)
   obtain⟨xb,eb,mxb⟩:=atb (nb - 1) (by lia)
   refine wpS_bind (BL (BS eb) (wpS_bind (BL (BS ea) (wpS_bind (C.ask _ _ mxb mxa _ _ hk ?_)))))
   cases hlt:O.blt (ky xb) (ky xa)with
   |true =>
    refine AW (λ_=>?_) (λhn=>absurd rfl hn)
    have m':=m.mi.oneA sa hia ea λz hz=>KeyOrd.kle_trans (FO sb (by lia) eb z hz) (KeyOrd.kle_of_klt hlt)
    rw[<-Array.toList_push]at m'
    refine wpS_bind (BL (BS ea) ?_)
    refine AW (λhz=>wpS_pure (.inl ⟨_,_,rfl,fin _ _ _ g m' (.inl (eq_of_beq hz))⟩)) (λhz=>?_)
    have hz:¬na - 1=0:=by simpa using hz
    exact AW (λ_=>wpS_pure (.inr ⟨rfl,na - 1,nb,_,_,_,rfl,⟨m',by lia,hib,by lia,hlb⟩,by lia⟩)) (λ_=>wpS_pure ⟨rfl,na - 1,nb,_,_,_,rfl,⟨m',by lia,hib,by lia,hlb⟩,by lia⟩)
   |false =>
    refine AW (λhn=>by cases hn) (λ_=>?_)
    have m':=m.mi.oneB sb (by lia) eb λz hz=>KeyOrd.kle_trans (FO sa hia ea z hz) hlt
    rw[<-Array.toList_push]at m'
    refine wpS_bind (BL (BS eb) ?_)
    refine AW (λhz=>wpS_pure (.inl ⟨_,_,rfl,finB _ _ _ g m' (eq_of_beq hz)⟩)) (λhz=>?_)
    have hz:¬nb - 1=1:=by simpa using hz
    exact AW (λ_=>wpS_pure (.inr ⟨rfl,na,nb - 1,_,_,_,rfl,⟨m',hia,by lia,hla,by lia⟩,by lia⟩)) (λ_=>wpS_pure ⟨rfl,na,nb - 1,_,_,_,rfl,⟨m',hia,by lia,hla,by lia⟩,by lia⟩)
  case post1 =>
   rintro c st' (⟨m',r,rfl,hr⟩|⟨rfl,na,nb,out,ac,bc,rfl,m,hx1⟩)
   ·exact wpS_pure ⟨m',_,rfl,hr⟩
   refine wpS_bind (wpS_lift (wpAny_rule ⟨rfl,?_⟩))
   refine wpS_bind (wpS_mono (wpS_forRange (I:=λy c st'=>(∃g,st'=Bj st g)/\∃na nb out mg ac bc,c=(none,na,nb,out,mg,ac,bc)/\MHi ky a b out na nb/\na+nb+x+1+2 * y<=a.size+b.size)
    (Q:=λc st'=>(∃m r,c=(some m,r)/\R m st')\/((∃g,st'=Bj st g)/\∃na nb out mg ac bc,c=(none,na,nb,out,mg,ac,bc)/\MHi ky a b out na nb/\na+nb+x+2<=a.size+b.size)) ?step2 ?fin2 ⟨⟨g,rfl⟩,_,_,_,_,_,_,rfl,m,by lia⟩) ?post2)
   case fin2 =>
    rintro c st' ⟨_,na,nb,out,mg,ac,bc,rfl,m,hx⟩
    have:=m.ha
    have:=m.hb
    lia
   case post2 =>
    rintro c st' (⟨m',r,rfl,hr⟩|⟨⟨g,rfl⟩,na,nb,out,mg,ac,bc,rfl,m,hx1⟩)
    ·exact wpS_pure ⟨m',_,rfl,hr⟩
    ·exact wpS_bind (Gv (wpS_pure ⟨⟨_,rfl⟩,na,nb,_,_,rfl,m,by lia⟩))
   case step2 =>
    rintro y c st' _ hy ⟨⟨g,rfl⟩,na,nb,out,mg,ac,bc,rfl,m,hx2⟩
    have hia:=m.ha
    have hib:=m.hb
    have hla:=m.la
    have hlb:=m.lb
    obtain⟨xb,eb,mxb⟩:=atb (nb - 1) (by lia)
    extract_lets -merge c1 c2 c3 c4 c5 c6 c7 c8 c9 c10 c11 c12 jp c13
    refine NV (F:=λz=>jp () z) λz=>?_
    subst c13 jp c12 c11 c10 c9 c8 c7 c6 c5 c4 c3 c2 c1
    dsimp -zeta only
    refine wpS_bind (Gv ?_)
    refine wpS_bind (BL (BS eb) (wpS_bind (Jc (base:=0) (n:=na) (hint:=na - 1) C hk mxb ma (λi j x y _ hij _ e1 e2=>D6 sa hij e1 e2) (by lia) (by lia) λk k1 k2 k3=>?_)))
    have m1:=m.mi.manyA sa k1 λx hx z hz=>by
     rw[drop_take]at hx
     obtain⟨i,hi,e⟩:=Gw hx
     exact KeyOrd.kle_trans (FO sb (by lia) eb z hz) (KeyOrd.kle_of_klt (k3 (k+i) x (by lia) (by lia) (by rw[Nat.zero_add];exact e)))
    have up:∀z∈a.toList.take k,Af ky z xb:=λz hz=>by
     obtain⟨i,hi⟩:=getElem?_of_mem hz
     rw[getElem?_take]at hi
     split at hi
     ·exact k2 i z (by lia) (by rw[Nat.zero_add];exact hi)
     ·cases hi
    dsimp -zeta only
    extract_lets -merge d1 d2 jp d3 d4
    refine Gx (F:=λn o=>jp () n o) (I:=λnk o=>¬nk=0/\nk<=na/\Mh ky a.toList b.toList o.toList nk nb/\∀z∈a.toList.take nk,Af ky z xb) (λnk o h=>?_) (λkey hk0=>?_) (λhk0=>?_)
    ·clear m1 up k2 k3
     obtain⟨hz,k1',m1,up⟩:=h
     subst d4 d3 jp d2 d1
     dsimp -zeta only
     refine wpS_bind (BL (BS eb) ?_)
     have m2:=m1.oneB sb (by lia) eb up
     rw[<-Array.toList_push]at m2
     refine AW (λhy=>wpS_pure (.inl ⟨_,_,rfl,finB _ _ _ _ m2 (eq_of_beq hy)⟩)) (λhy=>?_)
     have hy:¬nb - 1=1:=λq=>hy (beq_iff_eq.mpr q)
     obtain⟨xa,ea,mxa⟩:=ata (nk - 1) (by lia)
     refine wpS_bind (BL (BS ea) (wpS_bind (Jd (base:=0) (n:=nb - 1) (hint:=nb - 1 - 1) C hk mxa mb (λi j x y _ hij _ e1 e2=>D6 sb hij e1 e2) (by lia) (by lia) λl l1 l2 l3=>?_)))
     have m3:=m2.manyB sb l1 λx hx z hz=>by
      rw[drop_take]at hx
      obtain⟨i,hi,e⟩:=Gw hx
      exact KeyOrd.kle_trans (FO sa (by lia) ea z hz) (l3 (l+i) x (by lia) (by lia) (by rw[Nat.zero_add];exact e))
     have up2:∀z∈b.toList.take l,Af ky z xa:=λz hz=>by
      obtain⟨i,hi⟩:=getElem?_of_mem hz
      rw[getElem?_take]at hi
      split at hi
      ·exact KeyOrd.kle_of_klt (l2 i z (by lia) (by rw[Nat.zero_add];exact hi))
      ·cases hi
     dsimp -zeta only
     extract_lets -merge e1 e2 e3 jq e4 e5
     refine Gx (F:=λn o=>jq () n o) (I:=λnl o=>¬nl=1/\¬nl=0/\nl<=nb - 1/\Mh ky a.toList b.toList o.toList nk nl/\∀z∈b.toList.take nl,Af ky z xa) (λnl o h=>?_) (λkey hl0=>?_) (λhl0=>?_)
     ·clear m3 up2 l2 l3
      obtain⟨hw,hv,l1',m3,up2⟩:=h
      subst e5 e4 jq e3 e2 e1
      dsimp -zeta only
      refine wpS_bind (BL (BS ea) ?_)
      have m4:=m3.oneA sa (by lia) ea up2
      rw[<-Array.toList_push]at m4
      refine AW (λhu=>wpS_pure (.inl ⟨_,_,rfl,fin _ _ _ _ m4 (.inl (eq_of_beq hu))⟩)) (λhu=>?_)
      have hu:¬nk - 1=0:=by simpa using hu
      exact AW (λ_=>wpS_pure (.inr ⟨⟨_,rfl⟩,nk - 1,nl,_,_,_,_,rfl,⟨m4,by lia,by lia,by lia,by lia⟩,by lia⟩)) (λ_=>wpS_pure ⟨⟨_,rfl⟩,nk - 1,nl,_,_,_,_,rfl,⟨m4,by lia,by lia,by lia,by lia⟩,by lia⟩)
     ·have hl0:0<nb - 1 - l:=hl0
      rw[<-Je,<-Array.toList_reverse,<-Array.toList_append]at m3
      exact AW (λhw=>wpS_pure (.inl ⟨_,_,rfl,finB _ _ _ _ m3 (eq_of_beq hw)⟩)) (λhw=>AW (λhv=>wpS_pure (.inl ⟨_,_,rfl,fin _ _ _ _ m3 (.inr (eq_of_beq hv))⟩)) (λhv=>key _ _ ⟨λq=>hw (beq_iff_eq.mpr q),λq=>hv (beq_iff_eq.mpr q),l1,m3,up2⟩))
     ·have hl0:¬0<nb - 1 - l:=hl0
      have hl1:l=nb - 1:=by lia
      clear_value jq
      subst hl1
      rw[drop_eq_nil_of_le (by rw[length_take];lia),reverse_nil,append_nil]at m3
      exact⟨hy,by lia,Nat.le_refl _,m3,up2⟩
    ·have hk0:0<na - k:=hk0
     rw[<-Je,<-Array.toList_reverse,<-Array.toList_append]at m1
     exact AW (λhz=>wpS_pure (.inl ⟨_,_,rfl,fin _ _ _ _ m1 (.inl (eq_of_beq hz))⟩)) (λhz=>key _ _ ⟨λq=>hz (beq_iff_eq.mpr q),k1,m1,up⟩)
    ·have hk0:¬0<na - k:=hk0
     have hk1:k=na:=by lia
     clear_value jp
     subst hk1
     rw[drop_eq_nil_of_le (by rw[length_take];lia),reverse_nil,append_nil]at m1
     exact⟨by lia,Nat.le_refl _,m1,up⟩
end
theorem NY:∀(m:List Keyed) (s0 j0:Nat) (qD:Array Keyed),s0+j0+m.length<=qD.size->((m.zipIdx j0).foldl (λa (q:Keyed×Nat)=>a.setIfInBounds (s0+q.2) q.1) qD).toList=qD.toList.take (s0+j0)++m++qD.toList.drop (s0+j0+m.length)
 |[],s0,j0,qD,h=>by simp
 |x::m,s0,j0,qD,h=>by
  rw[zipIdx_cons,foldl_cons]
  simp only[length_cons]at h
  rw[NY m s0 (j0+1) _ (by rw[Array.size_setIfInBounds];lia),Array.toList_setIfInBounds]
  have hl:s0+j0<qD.toList.length:=by rw[Array.length_toList];lia
  rw[take_set,drop_set,if_pos (by lia)]
  have e:(qD.toList.take (s0+(j0+1))).set (s0+j0) x=qD.toList.take (s0+j0)++[x]:=by
   rw[show s0+(j0+1)=(s0+j0)+1 by lia,take_add_one,getElem?_eq_getElem hl]
   rw[set_append,if_neg (by rw[length_take];lia),length_take,Nat.min_eq_left (Nat.le_of_lt hl),Nat.sub_self]
   rfl
  rw[e]
  simp only[length_cons,append_assoc,cons_append,nil_append]
  rw[show s0+(j0+1)+m.length=s0+j0+(m.length+1) by lia]
section
variable{M:Model}{κ:SortKind}{ky:Keyed->O.α}{mem:Keyed->Prop}
theorem Tj{st':SortSt}{R:PUnit->SortSt->Prop}(h:R ⟨⟩ st'):wpS M A E s (set st':StateT SortSt Sem PUnit) R st:=by
 unfold wpS;rw[StateT.run_set];exact wP ⟨rfl,h⟩
theorem Tk{P X Y S:List Keyed}(h:i<X.length):(P++X++Y++S)[P.length+i]?=X[i]?:=by
 rw[append_assoc,append_assoc,getElem?_append_right (by lia),Nat.add_sub_cancel_left,getElem?_append_left h]
theorem Tn{P X Y S:List Keyed}(h:i<Y.length):(P++X++Y++S)[P.length+X.length+i]?=Y[i]?:=by
 rw[append_assoc,getElem?_append_right (by rw[length_append];lia),length_append,Nat.add_sub_cancel_left,getElem?_append_left h]
theorem Tp(C:Cmp M A E s κ O ky mem){sa na pw sb nb pw2:Nat}{P X Y S:List Keyed}{R:Bool->SortSt->Prop}(hk:kindOf st=κ)(hf:failedOf st=none)(hm:∀x∈(arrOf st).toList,mem x)
  (e:(arrOf st).toList=P++X++Y++S) (lP:P.length=sa) (lX:X.length=na) (lY:Y.length=nb) (h0:0<na) (h1:0<nb) (sX:Ac ky X) (sY:Ac ky Y)
  (p1:(pendingOf st)[i]?=some (sa,na,pw)) (p2:(pendingOf st)[i+1]?=some (sb,nb,pw2)) (esb:sb=sa+na)
  (h:∀Z qD g,Z.Perm (X++Y)->Ac ky Z->qD.toList=P++Z++S->R true (SortSt.mk' κ qD (((pendingOf st).setIfInBounds i (sa,na+nb,pw)).eraseIdxIfInBounds (i+1)) g none)):wpS M A E s (mergeAt' i) R st:=by
 obtain⟨y0,ey0⟩:∃y,Y[0]?=some y:=⟨Y[0],getElem?_eq_getElem (by lia)⟩
 obtain⟨xl,exl⟩:∃y,X[na - 1]?=some y:=⟨X[na - 1],getElem?_eq_getElem (by lia)⟩
 subst lP
 subst esb
 have eX:∀i,i<na->(arrOf st).toList[P.length+i]?=X[i]?:=λi hi=>by rw[e];exact Tk (by lia)
 have eY:∀i,i<nb->(arrOf st).toList[P.length+na+i]?=Y[i]?:=λi hi=>by rw[e,<-lX];exact Tn (by lia)
 have hsz:(arrOf st).size=P.length+na+nb+S.length:=by
  have:=congrArg length e
  rw[Array.length_toList]at this
  simp only[length_append]at this
  lia
 have ay0:(arrOf st).toList[P.length+na]?=some y0:=by have:=eY 0 h1;rw[Nat.add_zero]at this;rw[this];exact ey0
 refine wpS_bind (wpS_get ?_)
 rw[p1,p2]
 refine wpS_bind ?_
 refine Tj ?_
 refine wpS_bind (BL (BS ay0) (wpS_bind (Jc (qD:=arrOf st) (base:=P.length) (n:=na) (hint:=0) C hk (hm y0 (mem_of_getElem? ay0)) hm (λi j x y hi hij hj e1 e2=>?_) (by lia) h0 λk k1 k2 k3=>?_)))
 ·rw[show i=P.length+(i - P.length) by lia,eX _ (by lia)]at e1
  rw[show j=P.length+(j - P.length) by lia,eX _ (by lia)]at e2
  exact D6 sX (by lia) e1 e2
 have k2':∀x∈X.take k,Af ky x y0:=λx hx=>by
  obtain⟨i,hi⟩:=getElem?_of_mem hx
  rw[getElem?_take]at hi
  split at hi
  ·exact k2 i x ‹_› (by rw[eX i (by lia)];exact hi)
  ·cases hi
 have k3':∀x∈X.drop k,Af ky y0 x:=λx hx=>by
  obtain⟨i,hi,e⟩:=FN hx
  have hl:i<X.length:=by
   rcases Nat.lt_or_ge i X.length with q|q
   ·exact q
   ·rw[getElem?_eq_none q]at e;cases e
  exact KeyOrd.kle_of_klt (k3 i x hi (by lia) (by rw[eX i (by lia)];exact e))
 have y0le:∀y∈Y,Af ky y0 y:=λy hy=>Ec sY ey0 y (by simpa using hy)
 have whole:(∀x∈X,∀y∈Y,Af ky x y)->R true (SortSt.mk' κ (arrOf st) (((pendingOf st).setIfInBounds i (P.length,na+nb,pw)).eraseIdxIfInBounds (i+1)) (gallopOf st) none):=λhx =>
  h (X++Y) (arrOf st) (gallopOf st) (List.Perm.refl _) (pairwise_append.mpr ⟨sX,sY,hx⟩) (by rw[e,append_assoc P X Y])
 have est:SortSt.mk' κ (arrOf st) (((pendingOf st).setIfInBounds i (P.length,na+nb,pw)).eraseIdxIfInBounds (i+1)) (gallopOf st) none=SortSt.mk' (kindOf st) (arrOf st) (((pendingOf st).setIfInBounds i (P.length,na+nb,pw)).eraseIdxIfInBounds (i+1)) (gallopOf st) (failedOf st):=by rw[hk,hf]
 refine AW (λhz=>wpS_pure ?_) (λhz=>?_)
 ·have hz:na - k=0:=eq_of_beq hz
  rw[est]at whole
  refine whole λx hx y hy=>KeyOrd.kle_trans (k2' x ?_) (y0le y hy)
  rw[take_of_length_le (by lia)];exact hx
 have hz:¬na - k=0:=by simpa using hz
 have axl:(arrOf st).toList[P.length+k+(na - k) - 1]?=some xl:=by rw[show P.length+k+(na - k) - 1=P.length+(na - 1) by lia,eX _ (by lia)];exact exl
 refine wpS_bind (BL (BS axl) (wpS_bind (Jd (qD:=arrOf st) (base:=P.length+na) (n:=nb) (hint:=nb - 1) C hk (hm xl (mem_of_getElem? axl)) hm (λi j x y hi hij hj e1 e2=>?_) (by lia) (by lia) λl l1 l2 l3=>?_)))
 ·rw[show i=P.length+na+(i - (P.length+na)) by lia,eY _ (by lia)]at e1
  rw[show j=P.length+na+(j - (P.length+na)) by lia,eY _ (by lia)]at e2
  exact D6 sY (by lia) e1 e2
 have xle:∀x∈X,Af ky x xl:=λx hx=>FO sX h0 exl x (by rw[take_of_length_le (by lia)];exact hx)
 have l2':∀y∈Y.take l,Af ky y xl:=λx hx=>by
  obtain⟨i,hi⟩:=getElem?_of_mem hx
  rw[getElem?_take]at hi
  split at hi
  ·exact KeyOrd.kle_of_klt (l2 i x ‹_› (by rw[eY i (by lia)];exact hi))
  ·cases hi
 have l3':∀y∈Y.drop l,Af ky xl y:=λx hx=>by
  obtain⟨i,hi,e⟩:=FN hx
  have hl:i<Y.length:=by
   rcases Nat.lt_or_ge i Y.length with q|q
   ·exact q
   ·rw[getElem?_eq_none q]at e;cases e
  exact l3 i x hi (by lia) (by rw[eY i (by lia)];exact e)
 refine AW (λhy=>wpS_pure ?_) (λhy=>?_)
 ·have hy:l=0:=eq_of_beq hy
  rw[est]at whole
  exact whole λx hx y hy2=>KeyOrd.kle_trans (xle x hx) (l3' y (by rw[hy];exact hy2))
 have hy:¬l=0:=by simpa using hy
 have ex:((arrOf st).extract (P.length+k) (P.length+na)).toList=X.drop k:=by
  rw[Je,e,append_assoc,append_assoc,take_append,take_of_length_le (by lia),Nat.add_sub_cancel_left,take_append,take_of_length_le (by lia),<-lX,Nat.sub_self,take_zero,append_nil,drop_append,drop_eq_nil_of_le (by lia),Nat.add_sub_cancel_left]
  rfl
 have ey:((arrOf st).extract (P.length+na) (P.length+na+l)).toList=Y.take l:=by
  rw[Jb,e,append_assoc,drop_append,drop_eq_nil_of_le (by rw[length_append];lia),length_append,lX,Nat.sub_self,nil_append,drop_zero,take_append_of_le_length (by lia)]
 have sx:((arrOf st).extract (P.length+k) (P.length+na)).size=na - k:=by rw[<-Array.length_toList,ex,length_drop];lia
 have sy:((arrOf st).extract (P.length+na) (P.length+na+l)).size=l:=by rw[<-Array.length_toList,ey,length_take];lia
 have post:∀(m:Array Keyed) g,MDone ky ((arrOf st).extract (P.length+k) (P.length+na)).toList ((arrOf st).extract (P.length+na) (P.length+na+l)).toList m.toList ->
   R true (SortSt.mk' (kindOf st) (m.toList.zipIdx.foldl (λa (q:Keyed×Nat)=>a.setIfInBounds (P.length+k+q.2) q.1) (arrOf st)) (((pendingOf st).setIfInBounds i (P.length,na+nb,pw)).eraseIdxIfInBounds (i+1)) g (failedOf st)):=λm g d=>by
  rw[ex,ey]at d
  rw[hk,hf]
  have lm:m.toList.length=na - k+l:=by rw[d.perm.length_eq,length_append,length_drop,length_take];lia
  have hmem:∀z∈m.toList,z∈X.drop k\/z∈Y.take l:=λz hz=>mem_append.mp (d.perm.mem_iff.mp hz)
  refine h (X.take k++(m.toList++Y.drop l)) _ g ?_ ?_ ?_
  ·have p3:(m.toList++Y.drop l).Perm (X.drop k++Y):=by
    have:=d.perm.append_right (Y.drop l)
    rw[append_assoc,take_append_drop]at this
    exact this
   have p4:=p3.append_left (X.take k)
   rw[<-append_assoc (X.take k) (X.drop k) Y,take_append_drop]at p4
   exact p4
  ·refine pairwise_append.mpr ⟨(BB sX k).1,pairwise_append.mpr ⟨d.srt,(BB sY l).2.1,λx hx y hy2=>?_⟩,λx hx y hy2=>?_⟩
   ·rcases hmem x hx with z|z
    ·exact KeyOrd.kle_trans (xle x (mem_of_mem_drop z)) (l3' y hy2)
    ·exact(BB sY l).2.2 x z y hy2
   ·rcases mem_append.mp hy2 with z|z
    ·rcases hmem y z with z|z
     ·exact(BB sX k).2.2 x hx y z
     ·exact KeyOrd.kle_trans (k2' x hx) (y0le y (mem_of_mem_take z))
    ·exact KeyOrd.kle_trans (k2' x hx) (y0le y (mem_of_mem_drop z))
  ·have:=NY m.toList (P.length+k) 0 (arrOf st) (by lia)
   rw[this,Nat.add_zero,lm,e]
   have e1:(P++X++Y++S).take (P.length+k)=P++X.take k:=by
    rw[append_assoc,append_assoc,take_append,take_of_length_le (by lia),Nat.add_sub_cancel_left,take_append_of_le_length (by lia)]
   have e2:(P++X++Y++S).drop (P.length+k+(na - k+l))=Y.drop l++S:=by
    rw[show P.length+k+(na - k+l)=(P++X).length+l by rw[length_append];lia,append_assoc,drop_append,drop_eq_nil_of_le (by lia),Nat.add_sub_cancel_left,nil_append,drop_append_of_le_length (by lia)]
   rw[e1,e2]
   simp only[append_assoc]
 have mx:∀z∈((arrOf st).extract (P.length+k) (P.length+na)).toList,mem z:=λz hz=>hm z (by rw[ex]at hz;rw[e];simp[mem_of_mem_drop hz])
 have my:∀z∈((arrOf st).extract (P.length+na) (P.length+na+l)).toList,mem z:=λz hz=>hm z (by rw[ey]at hz;rw[e];simp[mem_of_mem_take hz])
 have first:∀x y,((arrOf st).extract (P.length+na) (P.length+na+l)).toList[0]?=some x->y∈((arrOf st).extract (P.length+k) (P.length+na)).toList->Af ky x y:=λx y e1 hy2=>by
  rw[ey,getElem?_take,if_pos (by lia),ey0]at e1
  cases e1
  rw[ex]at hy2
  exact k3' y hy2
 have last:∀x∈((arrOf st).extract (P.length+na) (P.length+na+l)).toList,∀y,((arrOf st).extract (P.length+k) (P.length+na)).toList[((arrOf st).extract (P.length+k) (P.length+na)).size - 1]?=some y->Af ky x y:=λx hx y e1=>by
  rw[sx,ex,getElem?_drop,show k+(na - k - 1)=na - 1 by lia,exl]at e1
  cases e1
  rw[ey]at hx
  exact l2' x hx
 refine AW (λ_=>wpS_bind (Th (a:=(arrOf st).extract (P.length+k) (P.length+na)) (b:=(arrOf st).extract (P.length+na) (P.length+na+l)) C (by exact hk) mx my (by rw[ex];exact(BB sX k).2.1) (by rw[ey];exact(BB sY l).1) (by rw[sx];lia) (by rw[sy];lia) first last λm g d=>?_)) (λ_=>wpS_bind (Ti (a:=(arrOf st).extract (P.length+k) (P.length+na)) (b:=(arrOf st).extract (P.length+na) (P.length+na+l)) C (by exact hk) mx my (by rw[ex];exact(BB sX k).2.1) (by rw[ey];exact(BB sY l).1) (by rw[sx];lia) (by rw[sy];lia) first last λm g d=>?_))
 all_goals
  refine wpS_bind (wpS_modify ?_)
  refine wpS_bind (wpS_get (wpS_pure ?_))
  have:=post m g d
  have hn:(failedOf st).isNone=true:=by rw[hf];rfl
  show R (failedOf st).isNone _
  rw[hn]
  exact this
end
section
variable{M:Model}{κ:SortKind}{ky:Keyed->O.α}{mem:Keyed->Prop}
noncomputable def Kx(ky:Keyed->O.α)(qD:Array Keyed)(i:Nat):O.α:=ky (qD.getD i (Value.none,Value.none))
def CG(ky:Keyed->O.α)(lo n:Nat)(qD:Array Keyed):Prop:=∀i j,i<=j->j<n->O.kle (Kx ky qD (lo+i)) (Kx ky qD (lo+j))
def Cb(ky:Keyed->O.α)(lo n:Nat)(qD:Array Keyed):Prop:=∀i j,i<=j->j<n->O.kle (Kx ky qD (lo+j)) (Kx ky qD (lo+i))
theorem FP{p q:Array Keyed}(h:p[i]?=q[j]?):Kx ky p i=Kx ky q j:=by
 unfold Kx
 rw[Array.getD_eq_getD_getElem?,Array.getD_eq_getD_getElem?,h]
theorem Jf{p:Array Keyed}(hj:j<=p.size)(k:Nat):Kx ky (mirror p i j ((j - i) / 2)) k=if i<=k/\k<j then Kx ky p (i+j - 1 - k)else Kx ky p k:=by
 have e:=getElem?_mirror_all (i:=i) hj k
 split
 ·rw[if_pos ‹_›]at e;exact FP e
 ·rw[if_neg ‹_›]at e;exact FP e
theorem NZ{p:Array Keyed}(hj:j<=p.size)(he:∀k,i<=k->k<j->Kx ky p k=Kx ky p (j - 1))(k:Nat):Kx ky (mirror p i j ((j - i) / 2)) k=Kx ky p k:=by
 rw[Jf hj]
 split
 ·rw[he _ (by lia) (by lia),he k (by lia) (by lia)]
 ·rfl
theorem Na{p:Array Keyed}(h:i<p.size):∃x,p[i]?=some x/\x∈p.toList/\Kx ky p i=ky x:=by
 refine⟨p[i],getElem?_pos _ i h,by simp,?_⟩
 unfold Kx
 rw[Array.getD_eq_getD_getElem?,getElem?_pos _ i h];rfl
structure From(lo:Nat)(p q:Array Keyed):Prop where
 perm:q.Perm p
 low:∀i,i<lo->q[i]?=p[i]?
theorem From.refl{p:Array Keyed}:From lo p p:=⟨Array.Perm.refl _,λ_ _=>rfl⟩
theorem From.trans{p q r:Array Keyed}(h:From lo p q)(g:From lo q r):From lo p r:=⟨g.perm.trans h.perm,λi hi=>(g.low i hi).trans (h.low i hi)⟩
theorem From.size{p q:Array Keyed}(h:From lo p q):q.size=p.size:=by have:=(Array.perm_iff_toList_perm.mp h.perm).length_eq;simpa using this
theorem From.mirror{p:Array Keyed}(hi:lo<=i)(hj:j<=p.size):From lo p (mirror p i j ((j - i) / 2)):=⟨mirror_perm _ _ _ _,λk hk=>by rw[getElem?_mirror_all hj,if_neg (by lia)]⟩
theorem From.mems{p q:Array Keyed}(h:From lo p q)(hm:∀x∈p.toList,mem x):∀x∈q.toList,mem x:=λx hx=>hm x ((Array.perm_iff_toList_perm.mp h.perm).mem_iff.mp hx)
theorem Jg(C:Cmp M A E s κ O ky mem){R:Option Bool->SortSt->Prop}(hk:kindOf st=κ)(hm:∀x∈(arrOf st).toList,mem x)(hi:i<(arrOf st).size)(hj:j<(arrOf st).size)
  (h:R (some (O.blt (Kx ky (arrOf st) i) (Kx ky (arrOf st) j))) st):wpS M A E s (ltAt' i j) R st:=by
 obtain⟨x,e1,m1,k1⟩:=Na (ky:=ky) hi
 obtain⟨y,e2,m2,k2⟩:=Na (ky:=ky) hj
 rw[k1,k2]at h
 exact wpS_bind (wpS_get (wpS_bind (BL e1 (wpS_bind (BL e2 (C.ask _ _ (hm x m1) (hm y m2) _ _ hk h))))))
theorem Ee(C:Cmp M A E s κ O ky mem){b:Bool}{R:Option Bool->SortSt->Prop}(eb:O.blt (Kx ky (arrOf st) i) (Kx ky (arrOf st) j)=b)(hk:kindOf st=κ)(hm:∀x∈(arrOf st).toList,mem x)(hi:i<(arrOf st).size)(hj:j<(arrOf st).size)
  (h:R (some b) st):wpS M A E s (ltAt' i j) R st:=Jg C hk hm hi hj (by rw[eb];exact h)
theorem DO{R:Unit->SortSt->Prop}(h:R () (setArr st (mirror (arrOf st) i j ((j - i) / 2)))):wpS M A E s (reverseSlice' i j) R st:=by
 rw[reverseSlice'_eq];exact wpS_modify h
theorem FQ{a nrem:Nat}{R:Option (Option Nat)×Nat->SortSt->Prop}(F:Nat->Option (Option Nat)×Nat->StateT SortSt Sem (ForInStep (Option (Option Nat)×Nat)))
  (hF:∀x n (R':ForInStep (Option (Option Nat)×Nat)->SortSt->Prop),1<=n->n<nrem->R' (if O.blt (Kx ky qD (lo+n)) (Kx ky qD (lo+n - 1))=true then .done (none,n)else .yield (none,n+1)) st->wpS M A E s (F x (none,n)) R' st)
  (h1:1<=a) (ha:a<=nrem) (hs:CG ky lo a qD) (h:∀n,a<=n->n<=nrem->CG ky lo n qD->(n=nrem\/O.klt (Kx ky qD (lo+n)) (Kx ky qD (lo+n - 1)))->R (none,n) st):wpS M A E s (forIn [a:nrem] (none,a) F) R st:=by
 refine wpS_forRange (I:=λx c st'=>st'=st/\c=(none,x)/\CG ky lo x qD) ?_ ?_ ⟨rfl,rfl,hs⟩
 ·rintro x c st' hx1 hx2 ⟨rfl,rfl,hs⟩
  refine hF x x _ (by lia) hx2 ?_
  cases e:O.blt (Kx ky qD (lo+x)) (Kx ky qD (lo+x - 1))with
  |true=>rw[if_pos rfl];exact h x hx1 (by lia) hs (.inr e)
  |false =>
   rw[if_neg (by simp)]
   refine⟨rfl,rfl,λi j hij hj=>?_⟩
   by_cases hjx:j=x
   ·subst hjx
    by_cases hi:i=j
    ·subst hi;exact KeyOrd.kle_refl _
    ·have e2:O.kle (Kx ky qD (lo+(j - 1))) (Kx ky qD (lo+j)):=by rw[show lo+(j - 1)=lo+j - 1 by lia];exact e
     exact KeyOrd.kle_trans (hs i (j - 1) (by lia) (by lia)) e2
   ·exact hs i j hij (by lia)
 ·rintro c st' ⟨rfl,rfl,hs⟩
  rw[Nat.max_eq_right ha]at hs ⊢
  exact h nrem ha (Nat.le_refl _) hs (.inl rfl)
theorem Tq(C:Cmp M A E s κ O ky mem){nrem:Nat}{R:Option Nat->SortSt->Prop}(hk:kindOf st=κ)(hm:∀x∈(arrOf st).toList,mem x)(h1:1<=nrem)(hz:lo+nrem<=(arrOf st).size)
  (h:∀m qD,From lo (arrOf st) qD->1<=m->m<=nrem->CG ky lo m qD->R (some m) (setArr st qD)):wpS M A E s (countRun' lo nrem) R st:=by
 have body:∀(qD:Array Keyed),From lo (arrOf st) qD->∀n,1<=n->n<nrem->∀{R':Option Bool->SortSt->Prop},R' (some (O.blt (Kx ky qD (lo+n)) (Kx ky qD (lo+n - 1)))) (setArr st qD)->wpS M A E s (ltAt' (lo+n) (lo+n - 1)) R' (setArr st qD):=λqD hF n n1 n2 R' hR =>
  Jg (st:=setArr st qD) C hk (hF.mems hm) (by show lo+n<qD.size;rw[hF.size];lia) (by show lo+n - 1<qD.size;rw[hF.size];lia) hR
 have tail:∀(qD:Array Keyed) (n:Nat),From lo (arrOf st) qD->1<=n->n<=nrem->Cb ky lo n qD->CG ky lo n (mirror qD lo (lo+n) ((lo+n - lo) / 2)):=λqD n hF n1 n2 hd i j hij hj=>by
  have hs:lo+n<=qD.size:=by rw[hF.size];lia
  rw[Jf hs,Jf hs,if_pos (by lia),if_pos (by lia),show lo+(lo+n) - 1 - (lo+i)=lo+(n - 1 - i) by lia,show lo+(lo+n) - 1 - (lo+j)=lo+(n - 1 - j) by lia]
  exact hd _ _ (by lia) (by lia)
 have eqs:∀(qD:Array Keyed) (n q:Nat),From lo (arrOf st) qD->n<=nrem->q+1<=n->(∀i,n - (q+1)<=i->i<n->Kx ky qD (lo+i)=Kx ky qD (lo+n - 1))->∀k,Kx ky (mirror qD (lo+n - (q+1)) (lo+n) ((lo+n - (lo+n - (q+1))) / 2)) k=Kx ky qD k:=λqD n q hF n2 hq he k=>by
  refine NZ (by rw[hF.size];lia) (λk k1 k2=>?_) k
  rw[show k=lo+(k - lo) by lia]
  exact he (k - lo) (by lia) (by lia)
 refine wpS_bind (FQ (ky:=ky) (lo:=lo) (qD:=arrOf st) _ (λx n R' n1 n2 hR=>?_) (Nat.le_refl 1) h1 (λi j hij hj=>by rw[show i=j by lia];exact KeyOrd.kle_refl _) λn n1 n2 hs hor=>?_)
 ·refine wpS_bind (body (arrOf st) From.refl n n1 n2 ?_)
  cases e:O.blt (Kx ky (arrOf st) (lo+n)) (Kx ky (arrOf st) (lo+n - 1))with
  |true=>rw[e,if_pos rfl]at hR;exact wpS_pure hR
  |false=>rw[e,if_neg (by simp)]at hR;exact wpS_pure hR
 refine AW (λhe=>wpS_pure (h n (arrOf st) From.refl n1 n2 hs)) (λhe=>?_)
 have he:¬n=nrem:=by simpa using he
 have hlt:=hor.resolve_left he
 refine AW (λhn=>?_) (λhn=>?_)
 ·refine wpS_bind (Jg C hk hm (by lia) (by lia) ?_)
  cases hrose:O.blt (Kx ky (arrOf st) lo) (Kx ky (arrOf st) (lo+n - 1))with
  |true=>exact AW (λ_=>wpS_pure (h n (arrOf st) From.refl n1 n2 hs)) (λz=>absurd rfl z)
  |false =>
   refine AW (λz=>by cases z) (λ_=>?_)
   refine wpS_bind (DO ?_)
   have all:∀k,k<n->Kx ky (arrOf st) (lo+k)=Kx ky (arrOf st) (lo+n - 1):=λk hk=>by
    have a1:=hs 0 k (by lia) hk
    have a2:=hs k (n - 1) (by lia) (by lia)
    rw[show lo+(n - 1)=lo+n - 1 by lia]at a2
    exact KeyOrd.kle_antisymm a2 (KeyOrd.kle_trans hrose a1)
   have hF1:From lo (arrOf st) (mirror (arrOf st) lo (lo+n) ((lo+n - lo) / 2)):=From.mirror (Nat.le_refl _) (by lia)
   have ek:∀k,Kx ky (mirror (arrOf st) lo (lo+n) ((lo+n - lo) / 2)) k=Kx ky (arrOf st) k:=NZ (by lia) λk k1 k2=>by
    rw[show k=lo+(k - lo) by lia];exact all _ (by lia)
   have hd:Cb ky lo (n+1) (mirror (arrOf st) lo (lo+n) ((lo+n - lo) / 2)):=λi j hij hj=>by
    rw[ek,ek]
    by_cases hjn:j=n
    ·subst hjn
     by_cases hi:i=j
     ·subst hi;exact KeyOrd.kle_refl _
     ·rw[all i (by lia)];exact KeyOrd.kle_of_klt hlt
    ·rw[all i (by lia),all j (by lia)];exact KeyOrd.kle_refl _
   show wpS M A E s _ R (setArr st (mirror (arrOf st) lo (lo+n) ((lo+n - lo) / 2)))
   generalize mirror (arrOf st) lo (lo+n) ((lo+n - lo) / 2)=arr0 at hF1 hd ⊢
   refine wpS_bind (wpS_lift (wpAny_rule ⟨rfl,?_⟩))
   refine wpS_bind (wpS_mono (wpS_forRange (I:=λx c st'=>∃qD q,c=(none,x,q)/\st'=setArr st qD/\From lo (arrOf st) qD/\Cb ky lo x qD/\q+1<=x/\∀i,x - (q+1)<=i->i<x->Kx ky qD (lo+i)=Kx ky qD (lo+x - 1))
    (Q:=λc st'=>∃qD m q,c=(none,m,q)/\st'=setArr st qD/\From lo (arrOf st) qD/\Cb ky lo m qD/\1<=m/\m<=nrem/\q+1<=m/\∀i,m - (q+1)<=i->i<m->Kx ky qD (lo+i)=Kx ky qD (lo+m - 1)) ?st ?fi ⟨arr0,0,rfl,rfl,hF1,hd,by lia,λi h1 h2=>by congr 1;lia⟩) ?po)
   case fi =>
    rintro c st' ⟨qD,q,rfl,rfl,hF,hd,hq,he⟩
    rw[Nat.max_eq_right (by lia)]at *
    exact⟨qD,nrem,q,rfl,rfl,hF,hd,by lia,by lia,hq,he⟩
   case st =>
    rintro x c st' hx1 hx2 ⟨qD,q,rfl,rfl,hF,hd,hq,he⟩
    refine wpS_bind (body qD hF x (by lia) hx2 ?_)
    cases e1:O.blt (Kx ky qD (lo+x)) (Kx ky qD (lo+x - 1))with
    |true =>
     refine AW (λ_=>?_) (λz=>absurd rfl z)
     have stp:∀arr':Array Keyed,(∀k,Kx ky arr' k=Kx ky qD k)->Cb ky lo (x+1) arr':=λarr' hk' i j hij hj=>by
      rw[hk',hk']
      by_cases hjx:j=x
      ·subst hjx
       by_cases hi:i=j
       ·subst hi;exact KeyOrd.kle_refl _
       ·have e2:O.kle (Kx ky qD (lo+j)) (Kx ky qD (lo+(j - 1))):=by rw[show lo+(j - 1)=lo+j - 1 by lia];exact KeyOrd.kle_of_klt e1
        exact KeyOrd.kle_trans e2 (hd i (j - 1) (by lia) (by lia))
      ·exact hd i j hij (by lia)
     refine AW (λhq0=>wpS_bind (DO (wpS_pure ⟨_,0,rfl,rfl,hF.trans (From.mirror (i:=lo+x - (q+1)) (j:=lo+x) (by lia) ?_),stp _ (eqs qD x q hF (by lia) hq he),by lia,λi h1 h2=>by congr 1;lia⟩))) (λhq0=>wpS_pure ⟨qD,0,rfl,rfl,hF,stp qD (λ_=>rfl),by lia,λi h1 h2=>by congr 1;lia⟩)
     show lo+x<=qD.size
     rw[hF.size];lia
    |false =>
     refine AW (λz=>by cases z) (λ_=>?_)
     have sz1:lo+x<qD.size:=by rw[hF.size];lia
     cases e2:O.blt (Kx ky qD (lo+x - 1)) (Kx ky qD (lo+x))with
     |true =>
      refine wpS_bind (Ee (st:=setArr st qD) C e2 hk (hF.mems hm) (by show lo+x - 1<qD.size;lia) sz1 ?_)
      exact AW (λ_=>wpS_pure ⟨qD,x,q,rfl,rfl,hF,hd,by lia,by lia,hq,he⟩) (λz=>absurd rfl z)
     |false =>
      refine wpS_bind (Ee (st:=setArr st qD) C e2 hk (hF.mems hm) (by show lo+x - 1<qD.size;lia) sz1 ?_)
      have ex:Kx ky qD (lo+x)=Kx ky qD (lo+x - 1):=O.total _ _ e1 e2
      refine AW (λz=>by cases z) (λ_=>wpS_pure ⟨qD,q+1,rfl,rfl,hF,λi j hij hj=>?_,by lia,λi i1 i2=>?_⟩)
      ·by_cases hjx:j=x
       ·subst hjx
        by_cases hi:i=j
        ·subst hi;exact KeyOrd.kle_refl _
        ·rw[ex,show lo+j - 1=lo+(j - 1) by lia];exact hd i (j - 1) (by lia) (by lia)
       ·exact hd i j hij (by lia)
      ·rw[show lo+(x+1) - 1=lo+x by lia]
       by_cases hi:i=x
       ·rw[hi]
       ·rw[ex];exact he i (by lia) (by lia)
   case po =>
    rintro c st' ⟨qD,m,q,rfl,rfl,hF,hd,m1,m2,hq,he⟩
    refine AW (λhq0=>wpS_bind (DO ?_)) (λhq0=>?_)
    ·have hF2:=hF.trans (From.mirror (i:=lo+m - (q+1)) (j:=lo+m) (by lia) (by rw[hF.size];lia))
     have hd2:Cb ky lo m (mirror qD (lo+m - (q+1)) (lo+m) ((lo+m - (lo+m - (q+1))) / 2)):=λi j hij hj=>by rw[eqs qD m q hF m2 hq he,eqs qD m q hF m2 hq he];exact hd i j hij hj
     show wpS M A E s _ R (setArr st (mirror qD (lo+m - (q+1)) (lo+m) ((lo+m - (lo+m - (q+1))) / 2)))
     generalize mirror qD (lo+m - (q+1)) (lo+m) ((lo+m - (lo+m - (q+1))) / 2)=arr2 at hF2 hd2 ⊢
     refine wpS_bind (DO ?_)
     have hF3:=hF2.trans (From.mirror (i:=lo) (j:=lo+m) (Nat.le_refl lo) (by rw[hF2.size];lia))
     refine wpS_bind (FQ (ky:=ky) (lo:=lo) (qD:=mirror arr2 lo (lo+m) ((lo+m - lo) / 2)) _ (λx n R' n1 n2 hR=>?_) m1 m2 (tail arr2 m hF2 m1 m2 hd2) λn' a b c _=>wpS_pure (h n' _ hF3 (Nat.le_trans m1 a) b c))
     refine wpS_bind (body _ hF3 n n1 n2 ?_)
     cases e:O.blt (Kx ky (mirror arr2 lo (lo+m) ((lo+m - lo) / 2)) (lo+n)) (Kx ky (mirror arr2 lo (lo+m) ((lo+m - lo) / 2)) (lo+n - 1))with
     |true=>rw[e,if_pos rfl]at hR;exact wpS_pure hR
     |false=>rw[e,if_neg (by simp)]at hR;exact wpS_pure hR
    ·refine wpS_bind (DO ?_)
     have hF3:=hF.trans (From.mirror (i:=lo) (j:=lo+m) (Nat.le_refl lo) (by rw[hF.size];lia))
     refine wpS_bind (FQ (ky:=ky) (lo:=lo) (qD:=mirror qD lo (lo+m) ((lo+m - lo) / 2)) _ (λx n R' n1 n2 hR=>?_) m1 m2 (tail qD m hF m1 m2 hd) λn' a b c _=>wpS_pure (h n' _ hF3 (Nat.le_trans m1 a) b c))
     refine wpS_bind (body _ hF3 n n1 n2 ?_)
     cases e:O.blt (Kx ky (mirror qD lo (lo+m) ((lo+m - lo) / 2)) (lo+n)) (Kx ky (mirror qD lo (lo+m) ((lo+m - lo) / 2)) (lo+n - 1))with
     |true=>rw[e,if_pos rfl]at hR;exact wpS_pure hR
     |false=>rw[e,if_neg (by simp)]at hR;exact wpS_pure hR
 ·have hn1:n=1:=by lia
  subst hn1
  have hF1:From lo (arrOf st) (arrOf st):=From.refl
  have hd:Cb ky lo (1+1) (arrOf st):=λi j hij hj=>by
   by_cases hi:i=j
   ·subst hi;exact KeyOrd.kle_refl _
   ·have h0:i=0:=by lia
    have h1:j=1:=by lia
    subst h0;subst h1
    exact KeyOrd.kle_of_klt hlt
  obtain⟨arr0,hF1,hd,e0⟩:∃arr0,From lo (arrOf st) arr0/\Cb ky lo (1+1) arr0/\arr0=arrOf st:=⟨_,hF1,hd,rfl⟩
  refine(show wpS M A E s _ R (setArr st arr0)->_ fromλhh=>by rw[e0]at hh;exact hh) ?_
  refine wpS_bind (wpS_lift (wpAny_rule ⟨rfl,?_⟩))
  refine wpS_bind (wpS_mono (wpS_forRange (I:=λx c st'=>∃qD q,c=(none,x,q)/\st'=setArr st qD/\From lo (arrOf st) qD/\Cb ky lo x qD/\q+1<=x/\∀i,x - (q+1)<=i->i<x->Kx ky qD (lo+i)=Kx ky qD (lo+x - 1))
   (Q:=λc st'=>∃qD m q,c=(none,m,q)/\st'=setArr st qD/\From lo (arrOf st) qD/\Cb ky lo m qD/\1<=m/\m<=nrem/\q+1<=m/\∀i,m - (q+1)<=i->i<m->Kx ky qD (lo+i)=Kx ky qD (lo+m - 1)) ?st ?fi ⟨arr0,0,rfl,rfl,hF1,hd,by lia,λi h1 h2=>by congr 1;lia⟩) ?po)
  case fi =>
   rintro c st' ⟨qD,q,rfl,rfl,hF,hd,hq,he⟩
   rw[Nat.max_eq_right (by lia)]at *
   exact⟨qD,nrem,q,rfl,rfl,hF,hd,by lia,by lia,hq,he⟩
  case st =>
   rintro x c st' hx1 hx2 ⟨qD,q,rfl,rfl,hF,hd,hq,he⟩
   refine wpS_bind (body qD hF x (by lia) hx2 ?_)
   cases e1:O.blt (Kx ky qD (lo+x)) (Kx ky qD (lo+x - 1))with
   |true =>
    refine AW (λ_=>?_) (λz=>absurd rfl z)
    have stp:∀arr':Array Keyed,(∀k,Kx ky arr' k=Kx ky qD k)->Cb ky lo (x+1) arr':=λarr' hk' i j hij hj=>by
     rw[hk',hk']
     by_cases hjx:j=x
     ·subst hjx
      by_cases hi:i=j
      ·subst hi;exact KeyOrd.kle_refl _
      ·have e2:O.kle (Kx ky qD (lo+j)) (Kx ky qD (lo+(j - 1))):=by rw[show lo+(j - 1)=lo+j - 1 by lia];exact KeyOrd.kle_of_klt e1
       exact KeyOrd.kle_trans e2 (hd i (j - 1) (by lia) (by lia))
     ·exact hd i j hij (by lia)
    refine AW (λhq0=>wpS_bind (DO (wpS_pure ⟨_,0,rfl,rfl,hF.trans (From.mirror (i:=lo+x - (q+1)) (j:=lo+x) (by lia) ?_),stp _ (eqs qD x q hF (by lia) hq he),by lia,λi h1 h2=>by congr 1;lia⟩))) (λhq0=>wpS_pure ⟨qD,0,rfl,rfl,hF,stp qD (λ_=>rfl),by lia,λi h1 h2=>by congr 1;lia⟩)
    show lo+x<=qD.size
    rw[hF.size];lia
   |false =>
    refine AW (λz=>by cases z) (λ_=>?_)
    have sz1:lo+x<qD.size:=by rw[hF.size];lia
    cases e2:O.blt (Kx ky qD (lo+x - 1)) (Kx ky qD (lo+x))with
    |true =>
     refine wpS_bind (Ee (st:=setArr st qD) C e2 hk (hF.mems hm) (by show lo+x - 1<qD.size;lia) sz1 ?_)
     exact AW (λ_=>wpS_pure ⟨qD,x,q,rfl,rfl,hF,hd,by lia,by lia,hq,he⟩) (λz=>absurd rfl z)
    |false =>
     refine wpS_bind (Ee (st:=setArr st qD) C e2 hk (hF.mems hm) (by show lo+x - 1<qD.size;lia) sz1 ?_)
     have ex:Kx ky qD (lo+x)=Kx ky qD (lo+x - 1):=O.total _ _ e1 e2
     refine AW (λz=>by cases z) (λ_=>wpS_pure ⟨qD,q+1,rfl,rfl,hF,λi j hij hj=>?_,by lia,λi i1 i2=>?_⟩)
     ·by_cases hjx:j=x
      ·subst hjx
       by_cases hi:i=j
       ·subst hi;exact KeyOrd.kle_refl _
       ·rw[ex,show lo+j - 1=lo+(j - 1) by lia];exact hd i (j - 1) (by lia) (by lia)
      ·exact hd i j hij (by lia)
     ·rw[show lo+(x+1) - 1=lo+x by lia]
      by_cases hi:i=x
      ·rw[hi]
      ·rw[ex];exact he i (by lia) (by lia)
  case po =>
   rintro c st' ⟨qD,m,q,rfl,rfl,hF,hd,m1,m2,hq,he⟩
   refine AW (λhq0=>wpS_bind (DO ?_)) (λhq0=>?_)
   ·have hF2:=hF.trans (From.mirror (i:=lo+m - (q+1)) (j:=lo+m) (by lia) (by rw[hF.size];lia))
    have hd2:Cb ky lo m (mirror qD (lo+m - (q+1)) (lo+m) ((lo+m - (lo+m - (q+1))) / 2)):=λi j hij hj=>by rw[eqs qD m q hF m2 hq he,eqs qD m q hF m2 hq he];exact hd i j hij hj
    show wpS M A E s _ R (setArr st (mirror qD (lo+m - (q+1)) (lo+m) ((lo+m - (lo+m - (q+1))) / 2)))
    generalize mirror qD (lo+m - (q+1)) (lo+m) ((lo+m - (lo+m - (q+1))) / 2)=arr2 at hF2 hd2 ⊢
    refine wpS_bind (DO ?_)
    have hF3:=hF2.trans (From.mirror (i:=lo) (j:=lo+m) (Nat.le_refl lo) (by rw[hF2.size];lia))
    refine wpS_bind (FQ (ky:=ky) (lo:=lo) (qD:=mirror arr2 lo (lo+m) ((lo+m - lo) / 2)) _ (λx n R' n1 n2 hR=>?_) m1 m2 (tail arr2 m hF2 m1 m2 hd2) λn' a b c _=>wpS_pure (h n' _ hF3 (Nat.le_trans m1 a) b c))
    refine wpS_bind (body _ hF3 n n1 n2 ?_)
    cases e:O.blt (Kx ky (mirror arr2 lo (lo+m) ((lo+m - lo) / 2)) (lo+n)) (Kx ky (mirror arr2 lo (lo+m) ((lo+m - lo) / 2)) (lo+n - 1))with
    |true=>rw[e,if_pos rfl]at hR;exact wpS_pure hR
    |false=>rw[e,if_neg (by simp)]at hR;exact wpS_pure hR
   ·refine wpS_bind (DO ?_)
    have hF3:=hF.trans (From.mirror (i:=lo) (j:=lo+m) (Nat.le_refl lo) (by rw[hF.size];lia))
    refine wpS_bind (FQ (ky:=ky) (lo:=lo) (qD:=mirror qD lo (lo+m) ((lo+m - lo) / 2)) _ (λx n R' n1 n2 hR=>?_) m1 m2 (tail qD m hF m1 m2 hd) λn' a b c _=>wpS_pure (h n' _ hF3 (Nat.le_trans m1 a) b c))
    refine wpS_bind (body _ hF3 n n1 n2 ?_)
    cases e:O.blt (Kx ky (mirror qD lo (lo+m) ((lo+m - lo) / 2)) (lo+n)) (Kx ky (mirror qD lo (lo+m) ((lo+m - lo) / 2)) (lo+n - 1))with
    |true=>rw[e,if_pos rfl]at hR;exact wpS_pure hR
    |false=>rw[e,if_neg (by simp)]at hR;exact wpS_pure hR
end
section
variable{M:Model}{κ:SortKind}{ky:Keyed->O.α}{mem:Keyed->Prop}
theorem Tr{p:Array Keyed}{src d:Nat}(hs:src<p.size)(hd:d<=src)(k:Nat):Kx ky (bubble p src d) k=if k=src - d then Kx ky p src else if src - d<k/\k<=src then Kx ky p (k - 1)else Kx ky p k:=by
 have e:=getElem?_bubble hs d hd k
 split
 ·rw[if_pos ‹_›]at e;exact FP e
 ·rw[if_neg ‹_›]at e
  split
  ·rw[if_pos ‹_›]at e;exact FP e
  ·rw[if_neg ‹_›]at e;exact FP e
theorem Ts{R:Unit->SortSt->Prop}(h:R () (setArr st (bubble (arrOf st) i (i - j)))):wpS M A E s (moveDown' i j) R st:=by
 rw[moveDown'_eq];exact wpS_modify h
theorem Tt(C:Cmp M A E s κ O ky mem){ok:Nat}{R:Bool->SortSt->Prop}(hk:kindOf st=κ)(hm:∀x∈(arrOf st).toList,mem x)(hok:ok<=n)(hz:lo+n<=(arrOf st).size)(hs:CG ky lo ok (arrOf st))
  (h:∀qD,From lo (arrOf st) qD->CG ky lo n qD->R true (setArr st qD)):wpS M A E s (binarySort' lo n ok) R st:=by
 refine wpS_bind (wpS_mono (wpS_forRange (I:=λk c st'=>∃qD,c=(none,())/\st'=setArr st qD/\From lo (arrOf st) qD/\CG ky lo (min k n) qD)
  (Q:=λc st'=>∃qD,c=(none,())/\st'=setArr st qD/\From lo (arrOf st) qD/\CG ky lo n qD) ?step ?fin ⟨arrOf st,rfl,rfl,From.refl,?init⟩) ?post)
 case post =>
  rintro c st' ⟨qD,rfl,rfl,hF,hu⟩
  exact wpS_pure (h qD hF hu)
 case init =>
  intro i j hij hj
  by_cases h0:ok=0
  ·rw[show i=j by lia];exact KeyOrd.kle_refl _
  ·exact hs i j hij (by lia)
 case fin =>
  rintro c st' ⟨qD,rfl,rfl,hF,hu⟩
  refine⟨qD,rfl,rfl,hF,?_⟩
  rwa [show min (max (max ok 1) n) n=n by lia]at hu
 case step =>
  rintro k c st' hk1 hk2 ⟨qD,rfl,rfl,hF,hu⟩
  rw[show min k n=k by lia]at hu
  have hsz:lo+k<qD.size:=by rw[hF.size];lia
  refine wpS_bind (wpS_mono (wpS_forRange (I:=λx c st'=>st'=setArr st qD/\∃l r,c=(none,l,r)/\l<=r/\r<=k/\r - l<=k - x/\(∀i,i<l->O.kle (Kx ky qD (lo+i)) (Kx ky qD (lo+k)))/\∀i,r<=i->i<k->O.klt (Kx ky qD (lo+k)) (Kx ky qD (lo+i)))
   (Q:=λc st'=>st'=setArr st qD/\∃l r,c=(none,l,r)/\l<=k/\(∀i,i<l->O.kle (Kx ky qD (lo+i)) (Kx ky qD (lo+k)))/\∀i,l<=i->i<k->O.klt (Kx ky qD (lo+k)) (Kx ky qD (lo+i))) ?st2 ?fi2 ⟨rfl,0,k,rfl,by lia,by lia,by lia,λi hi=>by lia,λi h1 h2=>by lia⟩) ?po2)
  case fi2 =>
   rintro c st' ⟨rfl,l,r,rfl,h1,h2,h3,h4,h5⟩
   have:l=r:=by lia
   subst this
   exact⟨rfl,l,l,rfl,h2,h4,h5⟩
  case st2 =>
   rintro x c st' _ hx ⟨rfl,l,r,rfl,h1,h2,h3,h4,h5⟩
   refine AW (λhg=>wpS_pure ?_) (λhg=>?_)
   ·have hg:l≥r:=hg
    have:l=r:=by lia
    subst this
    exact⟨rfl,l,l,rfl,h2,h4,h5⟩
   ·have hg:¬l≥r:=hg
    have hmid:lo+(l+r) / 2<qD.size:=by lia
    cases e1:O.blt (Kx ky qD (lo+k)) (Kx ky qD (lo+(l+r) / 2))with
    |true =>
     refine wpS_bind (Ee (st:=setArr st qD) C e1 hk (hF.mems hm) hsz hmid ?_)
     exact AW (λ_=>wpS_pure ⟨rfl,l,(l+r) / 2,rfl,by lia,by lia,by lia,h4,λi i1 i2=>KeyOrd.klt_of_klt_of_kle e1 (hu _ _ i1 i2)⟩) (λz=>absurd rfl z)
    |false =>
     refine wpS_bind (Ee (st:=setArr st qD) C e1 hk (hF.mems hm) hsz hmid ?_)
     exact AW (λz=>by cases z) (λ_=>wpS_pure ⟨rfl,(l+r) / 2+1,r,rfl,by lia,by lia,by lia,λi i1=>KeyOrd.kle_trans (hu i ((l+r) / 2) (by lia) (by lia)) e1,h5⟩)
  case po2 =>
   rintro c st' ⟨rfl,l,r,rfl,h2,h4,h5⟩
   refine wpS_bind (Ts (wpS_pure ⟨_,rfl,rfl,hF.trans ⟨bubble_perm _ _ _,λi hi=>?_⟩,?_⟩))
   ·show(bubble qD (lo+k) (lo+k - (lo+l)))[i]?=_
    rw[getElem?_bubble hsz _ (by lia),if_neg (by lia),if_neg (by lia)]
   ·show CG ky lo (min (k+1) n) (bubble qD (lo+k) (lo+k - (lo+l)))
    rw[show min (k+1) n=k+1 by lia]
    have kb:∀i,i<=k->Kx ky (bubble qD (lo+k) (lo+k - (lo+l))) (lo+i)=if i=l then Kx ky qD (lo+k)else if l<i then Kx ky qD (lo+(i - 1))else Kx ky qD (lo+i):=λi hi=>by
     rw[Tr hsz (by lia),show lo+k - (lo+k - (lo+l))=lo+l by lia]
     by_cases e1:i=l
     ·rw[if_pos (by lia),if_pos e1]
     ·rw[if_neg (by lia),if_neg e1]
      by_cases e2:l<i
      ·rw[if_pos (by lia),if_pos e2,show lo+i - 1=lo+(i - 1) by lia]
      ·rw[if_neg (by lia),if_neg e2]
    intro i j hij hj
    rw[kb i (by lia),kb j (by lia)]
    by_cases a1:i=l
    ·rw[if_pos a1]
     by_cases b1:j=l
     ·rw[if_pos b1];exact KeyOrd.kle_refl _
     ·rw[if_neg b1,if_pos (by lia)]
      exact KeyOrd.kle_of_klt (h5 (j - 1) (by lia) (by lia))
    ·rw[if_neg a1]
     by_cases a2:l<i
     ·rw[if_pos a2,if_neg (by lia),if_pos (by lia)]
      exact hu _ _ (by lia) (by lia)
     ·rw[if_neg a2]
      by_cases b1:j=l
      ·rw[if_pos b1];exact h4 i (by lia)
      ·rw[if_neg b1]
       by_cases b2:l<j
       ·rw[if_pos b2];exact hu _ _ (by lia) (by lia)
       ·rw[if_neg b2];exact hu _ _ hij (by lia)
def BC(ky:Keyed->O.α):List (Nat×Nat×Nat)->List (List Keyed)->Nat->Prop
 |[],[],_=>True
 |q::p,r::rs,b=>q.1=b/\q.2.1=r.length/\0<r.length/\Ac ky r/\BC ky p rs (b+r.length)
 |_,_,_=>False
theorem BC.len:∀{p:List (Nat×Nat×Nat)} {rs:List (List Keyed)} {b:Nat},BC ky p rs b->p.length=rs.length
 |[],[],_,_=>rfl
 |q::p,r::rs,b,h=>by simp[BC.len h.2.2.2.2]
 |[],_::_,_,h=>h.elim
 |_::_,[],_,h=>h.elim
theorem BC.few:∀{p:List (Nat×Nat×Nat)} {rs:List (List Keyed)} {b:Nat},BC ky p rs b->rs.length<=rs.flatten.length
 |[],[],_,_=>by simp
 |q::p,r::rs,b,h=>by have:=BC.few h.2.2.2.2;have:=h.2.2.1;simp only[length_cons,flatten_cons,length_append];lia
 |[],_::_,_,h=>h.elim
 |_::_,[],_,h=>h.elim
theorem BC.snoc:∀{p:List (Nat×Nat×Nat)} {rs:List (List Keyed)} {b:Nat},BC ky p rs b->∀{r:List Keyed} {q:Nat×Nat×Nat},q.1=b+rs.flatten.length->q.2.1=r.length->0<r.length->Ac ky r->BC ky (p++[q]) (rs++[r]) b
 |[],[],b,_,r,q,h1,h2,h3,h4=>⟨by simpa using h1,h2,h3,h4,trivial⟩
 |q'::p,r'::rs,b,h,r,q,h1,h2,h3,h4=>⟨h.1,h.2.1,h.2.2.1,h.2.2.2.1,BC.snoc h.2.2.2.2 (by rw[h1];simp only[flatten_cons,length_append];lia) h2 h3 h4⟩
 |[],_::_,_,h,_,_,_,_,_,_=>h.elim
 |_::_,[],_,h,_,_,_,_,_,_=>h.elim
theorem BC.pow{f:Nat->Nat}:∀{p:List (Nat×Nat×Nat)} {rs:List (List Keyed)} {b i:Nat},BC ky p rs b->BC ky (p.modify i λq=>(q.1,q.2.1,f q.2.2)) rs b
 |[],[],_,i,_=>by cases i<;>trivial
 |q::p,r::rs,b,0,h=>h
 |q::p,r::rs,b,i+1,h=>⟨h.1,h.2.1,h.2.2.1,h.2.2.2.1,BC.pow h.2.2.2.2⟩
 |[],_::_,_,_,h=>h.elim
 |_::_,[],_,_,h=>h.elim
theorem BC.split:∀{p:List (Nat×Nat×Nat)} {rs:List (List Keyed)} {b:Nat} (i:Nat),BC ky p rs b->i+1<p.length ->
  ∃rs1 X Y rs2 pw pw2,rs=rs1++X::Y::rs2/\p[i]?=some (b+rs1.flatten.length,X.length,pw)/\p[i+1]?=some (b+rs1.flatten.length+X.length,Y.length,pw2)/\0<X.length/\0<Y.length/\Ac ky X/\Ac ky Y /\
   ∀Z,Ac ky Z->Z.length=X.length+Y.length->BC ky ((p.set i (b+rs1.flatten.length,X.length+Y.length,pw)).eraseIdx (i+1)) (rs1++Z::rs2) b
 |q::q2::p,r::r2::rs,b,0,h,_=>by
  obtain⟨h1,h2,h3,h4,g1,g2,g3,g4,g5⟩:=h
  obtain⟨a1,a2,a3⟩:=q
  obtain⟨c1,c2,c3⟩:=q2
  simp only at h1 h2 g1 g2
  subst h1;subst h2;subst g1;subst g2
  refine⟨[],r,r2,rs,a3,c3,rfl,by simp,by simp,h3,g3,h4,g4,λZ hz hl=>?_⟩
  exact⟨by simp,by simp[hl],by lia,hz,by rw[hl,<-Nat.add_assoc];exact g5⟩
 |q::p,r::rs,b,i+1,h,hi=>by
  obtain⟨h1,h2,h3,h4,h5⟩:=h
  obtain⟨rs1,X,Y,rs2,pw,pw2,e1,e2,e3,e4,e5,e6,e7,e8⟩:=BC.split i h5 (by simpa using hi)
  refine⟨r::rs1,X,Y,rs2,pw,pw2,by rw[e1];rfl,?_,?_,e4,e5,e6,e7,λZ hz hl=>?_⟩
  ·rw[getElem?_cons_succ,e2,flatten_cons,length_append,Nat.add_assoc]
  ·rw[getElem?_cons_succ,e3,flatten_cons,length_append,Nat.add_assoc b]
  ·have:=e8 Z hz hl
   refine⟨h1,h2,h3,h4,?_⟩
   rw[flatten_cons,length_append,<-Nat.add_assoc]
   exact this
 |[],_,_,_,_,hi=>by simp at hi
 |[_],_,_,0,_,hi=>by simp at hi
 |_::_,[],_,_,h,_=>h.elim
 |_::_::_,[_],_,0,h,_=>h.2.2.2.2.elim
theorem CG.srt(h:CG ky lo n qD)(hz:lo+n<=qD.size):Ac ky ((qD.toList.drop lo).take n):=by
 refine pairwise_iff_getElem.mpr λi j hi hj hij=>?_
 have li:i<n:=by rw[length_take]at hi;lia
 have lj:j<n:=by rw[length_take]at hj;lia
 have e:∀k (hk:k<((qD.toList.drop lo).take n).length),k<n->ky ((qD.toList.drop lo).take n)[k]=Kx ky qD (lo+k):=λk hk hn=>by
  rw[getElem_take,getElem_drop]
  unfold Kx
  rw[Array.getD_eq_getD_getElem?,getElem?_pos qD (lo+k) (by lia)]
  simp
 show O.kle _ _
 rw[e i hi li,e j hj lj]
 exact h i j (by lia) lj
end
section
variable{M:Model}{κ:SortKind}{ky:Keyed->O.α}{mem:Keyed->Prop}
structure Rn(κ:SortKind)(ky:Keyed->O.α)(a0:Array Keyed)(st:SortSt)(rs:List (List Keyed))(qC:List Keyed):Prop where
 kind:kindOf st=κ
 failed:failedOf st=none
 perm:(arrOf st).Perm a0
 eq:(arrOf st).toList=rs.flatten++qC
 pend:BC ky (pendingOf st).toList rs 0
variable{a0:Array Keyed}{rs:List (List Keyed)}{qC:List Keyed}
theorem Rn.mems(r:Rn κ ky a0 st rs qC)(hm:∀x∈a0.toList,mem x):∀x∈(arrOf st).toList,mem x:=λx hx=>hm x ((Array.perm_iff_toList_perm.mp r.perm).mem_iff.mp hx)
theorem Rn.size(r:Rn κ ky a0 st rs qC):(arrOf st).size=a0.size:=by have:=(Array.perm_iff_toList_perm.mp r.perm).length_eq;simpa using this
theorem Rn.psize(r:Rn κ ky a0 st rs qC):(pendingOf st).size=rs.length:=by rw[<-r.pend.len,Array.length_toList]
theorem Rn.merge(C:Cmp M A E s κ O ky mem)(r:Rn κ ky a0 st rs qC)(hm:∀x∈a0.toList,mem x)(hi:i+1<rs.length){R:Bool->SortSt->Prop}
  (h:∀st' rs',Rn κ ky a0 st' rs' qC->rs'.flatten.length=rs.flatten.length->rs'.length+1=rs.length->R true st'):wpS M A E s (mergeAt' i) R st:=by
 obtain⟨rs1,X,Y,rs2,pw,pw2,e1,e2,e3,e4,e5,e6,e7,e8⟩:=r.pend.split i (by rw[r.pend.len];exact hi)
 rw[Nat.zero_add,Array.getElem?_toList]at e2 e3
 have earr:(arrOf st).toList=rs1.flatten++X++Y++(rs2.flatten++qC):=by rw[r.eq,e1];simp[append_assoc]
 refine Tp C r.kind r.failed (r.mems hm) earr rfl rfl rfl e4 e5 e6 e7 e2 e3 rfl λZ qD g pz sz ez=>?_
 have lz:Z.length=X.length+Y.length:=by rw[pz.length_eq,length_append]
 refine h _ (rs1++Z::rs2) ⟨rfl,rfl,?_,?_,?_⟩ ?_ ?_
 ·show qD.Perm a0
  refine Array.Perm.trans (Array.perm_iff_toList_perm.mpr ?_) r.perm
  rw[ez,earr]
  refine List.Perm.append_right _ ?_
  rw[append_assoc]
  exact pz.append_left _
 ·show qD.toList=_
  rw[ez];simp[append_assoc]
 ·show BC ky (((pendingOf st).setIfInBounds i (rs1.flatten.length,X.length+Y.length,pw)).eraseIdxIfInBounds (i+1)).toList _ 0
  have:=e8 Z sz lz
  rw[Nat.zero_add]at this
  rw[Array.eraseIdxIfInBounds_eq]
  split
  ·rw[Array.toList_eraseIdx,Array.toList_setIfInBounds];exact this
  ·rename_i hn
   rw[Array.size_setIfInBounds,r.psize]at hn
   lia
 ·rw[e1];simp[lz];lia
 ·rw[e1];simp;lia
theorem Tu(C:Cmp M A E s κ O ky mem){R:Unit->SortSt->Prop}(hk:kindOf st=κ)(hf:failedOf st=none)(hp:pendingOf st=#[])(hm:∀x∈(arrOf st).toList,mem x)
  (h:∀st',(arrOf st').Perm (arrOf st)->failedOf st'=none->Ac ky (arrOf st').toList->R () st'):wpS M A E s sortRuns' R st:=by
 have r0:Rn κ ky (arrOf st) st [] (arrOf st).toList:=⟨hk,hf,Array.Perm.refl _,rfl,by rw[hp];trivial⟩
 refine wpS_bind (wpS_get ?_)
 refine wpS_bind (wpS_mono (wpS_forRange (I:=λx c st'=>∃rs qC,c=(none,rs.flatten.length)/\Rn κ ky (arrOf st) st' rs qC/\(x<=rs.flatten.length\/(arrOf st).size<=rs.flatten.length))
  (Q:=λc st'=>∃rs qC,c=(none,rs.flatten.length)/\Rn κ ky (arrOf st) st' rs qC/\(arrOf st).size<=rs.flatten.length) ?step ?fin ⟨[],_,rfl,r0,.inl (Nat.zero_le _)⟩) ?post)
 case fin =>
  rintro c st' ⟨rs,qC,rfl,r,hx⟩
  exact⟨rs,qC,rfl,r,hx.elim (λhx=>Nat.le_trans (Nat.le_max_right _ _) hx) id⟩
 case post =>
  rintro c st' ⟨rs,qC,rfl,r,hx⟩
  have hl:qC=[]:=by
   have:=congrArg length r.eq
   rw[Array.length_toList,r.size,length_append]at this
   exact eq_nil_of_length_eq_zero (by lia)
  subst hl
  have hfew:=r.pend.few
  have hsz:rs.flatten.length=(arrOf st).size:=by
   have:=congrArg length r.eq
   rw[Array.length_toList,r.size,append_nil]at this
   exact this.symm
  refine wpS_bind (wpS_mono (wpS_forRange (I:=λy c st'=>∃rs,c=(none,())/\Rn κ ky (arrOf st) st' rs []/\(rs.length<=(arrOf st).size - y\/rs.length<=1)) (Q:=λc st'=>∃rs,c=(none,())/\Rn κ ky (arrOf st) st' rs []/\rs.length<=1) ?st ?fi ⟨rs,rfl,r,.inl (by lia)⟩) ?po)
  case po =>
   rintro c st' ⟨rs,rfl,r,h1⟩
   refine wpS_pure (h st' r.perm r.failed ?_)
   rw[r.eq,append_nil]
   have hpd:=r.pend
   generalize (pendingOf st').toList=pl at hpd
   match rs,h1,pl,hpd with
   |[],_,_,_=>exact List.Pairwise.nil
   |[x],_,[q],hpd=>simpa using hpd.2.2.2.1
  case fi =>
   rintro c st' ⟨rs,rfl,r,h1⟩
   refine⟨rs,rfl,r,?_⟩
   rcases h1 with h1|h1
   ·have:max 0 (arrOf st).size=(arrOf st).size:=Nat.max_eq_right (Nat.zero_le _)
    have h1:rs.length<=(arrOf st).size - max 0 (arrOf st).size:=h1
    lia
   ·exact h1
  case st =>
   rintro y c st' _ hy ⟨rs,rfl,r,h1⟩
   refine wpS_bind (wpS_get ?_)
   have hps:=r.psize
   refine AW (λhz=>wpS_pure ⟨rs,rfl,r,?_⟩) (λhz=>?_)
   ·have hz:(pendingOf st').size<=1:=hz
    lia
   ·have hz:¬(pendingOf st').size<=1:=hz
    have fin:∀i,i+1<rs.length->wpS M A E s (mergeAt' i) (λb st''=>b=true/\∃rs',Rn κ ky (arrOf st) st'' rs' []/\rs'.length+1=rs.length) st':=λi hi=>r.merge C hm hi λst'' rs' r' _ h2=>⟨rfl,rs',r',h2⟩
    refine wpS_bind (wpS_mono (fin _ ?_) ?_)
    ·have q1:(pendingOf st').size - 2 - 1+1<rs.length:=by lia
     have q2:(pendingOf st').size - 2+1<rs.length:=by lia
     repeat' split
     all_goals first|exact q1|exact q2
    ·rintro b st'' ⟨rfl,rs',r',h2⟩
     refine AW (λz=>by cases z) (λ_=>wpS_pure ⟨rs',rfl,r',?_⟩)
     lia
 case step =>
  rintro x c st' _ hx ⟨rs,qC,rfl,r,hxl⟩
  have hsz:rs.flatten.length+qC.length=(arrOf st).size:=by
   have:=congrArg length r.eq
   rw[Array.length_toList,r.size,length_append]at this
   exact this.symm
  have hx:x<(arrOf st).size:=hx
  refine AW (λhz=>wpS_pure ⟨rs,qC,rfl,r,hz⟩) (λhz=>?_)
  have hz:¬rs.flatten.length≥(arrOf st).size:=hz
  have after:∀(n:Nat) (qD:Array Keyed),From rs.flatten.length (arrOf st') qD->1<=n->rs.flatten.length+n<=(arrOf st).size->CG ky rs.flatten.length n qD ->
    Rn κ ky (arrOf st) (setArr st' qD) rs (qD.toList.drop rs.flatten.length)/\Ac ky ((qD.toList.drop rs.flatten.length).take n)/\qD.size=(arrOf st).size:=λn qD hF n1 n2 hu=>by
   have esz:qD.size=(arrOf st).size:=by rw[hF.size,r.size]
   have elow:qD.toList.take rs.flatten.length=rs.flatten:=by
    have e1:qD.toList.take rs.flatten.length=(arrOf st').toList.take rs.flatten.length:=by
     apply ext_getElem?
     intro i
     rw[getElem?_take,getElem?_take]
     split
     ·rw[Array.getElem?_toList,Array.getElem?_toList];exact hF.low i ‹_›
     ·rfl
    rw[e1,r.eq,take_left]
   refine⟨⟨r.kind,r.failed,hF.perm.trans r.perm,?_,r.pend⟩,hu.srt (by lia),esz⟩
   show qD.toList=_
   have:=(take_append_drop rs.flatten.length qD.toList).symm
   rw[elow]at this
   exact this
  refine wpS_bind (Tq C r.kind (r.mems hm) (by show 1<=(arrOf st).size - rs.flatten.length;lia) (by rw[r.size];show rs.flatten.length+((arrOf st).size - rs.flatten.length)<=_;lia) λm qD hF m1 m2 hu=>?_)
  have m2:m<=(arrOf st).size - rs.flatten.length:=m2
  refine AW (λhlt=>?_) (λhlt=>?_)
  ·have hlt:m<minRun' (arrOf st).size (arrOf st).size 0:=hlt
   refine wpS_bind (wpS_lift (wpAny_rule ⟨rfl,?_⟩))
   refine wpS_bind (Tt (st:=setArr st' qD) (lo:=rs.flatten.length) (n:=(min ((arrOf st).size - rs.flatten.length) (minRun' (arrOf st).size (arrOf st).size 0))) (ok:=m) C r.kind (hF.mems (r.mems hm)) (by lia) (by show _<=qD.size;rw[hF.size,r.size];lia) hu λarr2 hF2 hu2=>?_)
   have hF3:From rs.flatten.length (arrOf st') arr2:=hF.trans hF2
   refine AW (λz=>by cases z) (λ_=>?_)
   obtain⟨r1,s1,esz⟩:=after (min ((arrOf st).size - rs.flatten.length) (minRun' (arrOf st).size (arrOf st).size 0)) arr2 hF3 (by lia) (by lia) hu2
   have jp:∀(st2:SortSt) (rs2:List (List Keyed)),Rn κ ky (arrOf st) st2 rs2 (arr2.toList.drop rs.flatten.length)->rs2.flatten.length=rs.flatten.length->∃rs3 rest3,((none:Option Unit),rs.flatten.length+(min ((arrOf st).size - rs.flatten.length) (minRun' (arrOf st).size (arrOf st).size 0)))=(none,rs3.flatten.length)/\Rn κ ky (arrOf st) (setPending st2 ((pendingOf st2).push (rs.flatten.length,(min ((arrOf st).size - rs.flatten.length) (minRun' (arrOf st).size (arrOf st).size 0)),0))) rs3 rest3/\(x+1<=rs3.flatten.length\/(arrOf st).size<=rs3.flatten.length):=λst2 rs2 r2 l2=>by
    have lt:((arr2.toList.drop rs.flatten.length).take (min ((arrOf st).size - rs.flatten.length) (minRun' (arrOf st).size (arrOf st).size 0))).length=(min ((arrOf st).size - rs.flatten.length) (minRun' (arrOf st).size (arrOf st).size 0)):=by have:=Array.length_toList (xs:=arr2);rw[length_take,length_drop];lia
    have lf:(rs2++[(arr2.toList.drop rs.flatten.length).take (min ((arrOf st).size - rs.flatten.length) (minRun' (arrOf st).size (arrOf st).size 0))]).flatten.length=rs.flatten.length+(min ((arrOf st).size - rs.flatten.length) (minRun' (arrOf st).size (arrOf st).size 0)):=by
     rw[flatten_append,length_append,l2]
     simp only[flatten_cons,flatten_nil,append_nil,lt]
    refine⟨rs2++[(arr2.toList.drop rs.flatten.length).take (min ((arrOf st).size - rs.flatten.length) (minRun' (arrOf st).size (arrOf st).size 0))],(arr2.toList.drop rs.flatten.length).drop (min ((arrOf st).size - rs.flatten.length) (minRun' (arrOf st).size (arrOf st).size 0)),by rw[lf],⟨r2.kind,r2.failed,r2.perm,?_,?_⟩,?_⟩
    ·show(arrOf st2).toList=_
     rw[r2.eq]
     simp only[flatten_append,flatten_cons,flatten_nil,append_nil,append_assoc,take_append_drop]
    ·show BC ky ((pendingOf st2).push (rs.flatten.length,(min ((arrOf st).size - rs.flatten.length) (minRun' (arrOf st).size (arrOf st).size 0)),0)).toList _ 0
     rw[Array.toList_push]
     exact r2.pend.snoc (by rw[Nat.zero_add,l2]) (by rw[lt]) (by rw[lt];lia) s1
    ·rw[lf];lia
   refine wpS_bind (wpS_get ?_)
   cases hb:(pendingOf (setArr st' arr2)).back? with
   |none=>exact wpS_bind (wpS_modify (wpS_pure (jp (setArr st' arr2) rs r1 rfl)))
   |some q =>
    obtain⟨q1,q2,q3⟩:=q
    refine wpS_bind (wpS_mono (wpS_forRange (I:=λ_ c st2=>∃rs2,c=(none,())/\Rn κ ky (arrOf st) st2 rs2 (arr2.toList.drop rs.flatten.length)/\rs2.flatten.length=rs.flatten.length) (Q:=λc st2=>∃rs2,c=(none,())/\Rn κ ky (arrOf st) st2 rs2 (arr2.toList.drop rs.flatten.length)/\rs2.flatten.length=rs.flatten.length) ?a ?b ⟨rs,rfl,r1,rfl⟩) ?c)
    case b=>intro c st2 hh;exact hh
    case c =>
     rintro c st2 ⟨rs2,rfl,r2,l2⟩
     refine wpS_bind (wpS_modify (wpS_bind (wpS_modify (wpS_pure (jp _ rs2 ⟨r2.kind,r2.failed,r2.perm,r2.eq,?_⟩ l2)))))
     show BC ky ((pendingOf st2).modify ((pendingOf st2).size - 1) λq=>(q.1,q.2.1,_)).toList rs2 0
     rw[Array.toList_modify]
     exact r2.pend.pow (f:=λ_=>_)
    case a =>
     rintro y c st2 _ _ ⟨rs2,rfl,r2,l2⟩
     refine wpS_bind (wpS_get ?_)
     have hps:=r2.psize
     dsimp only
     cases he:(if(pendingOf st2).size > 1 then(pendingOf st2)[(pendingOf st2).size - 2]? else none)with
     |none=>exact wpS_pure ⟨rs2,rfl,r2,l2⟩
     |some q =>
      have hp1:(pendingOf st2).size > 1:=by
       by_cases z:(pendingOf st2).size > 1
       ·exact z
       ·rw[if_neg z]at he;cases he
      exact AW (λ_=>wpS_pure ⟨rs2,rfl,r2,l2⟩) (λ_=>wpS_bind (r2.merge C hm (i:=(pendingOf st2).size - 2) (by lia) λst3 rs3 r3 l3 _=>AW (λz=>by cases z) (λ_=>wpS_pure ⟨rs3,rfl,r3,by rw[l3,l2]⟩)))
  ·obtain⟨r1,s1,esz⟩:=after m qD hF m1 (by lia) hu
   have jp:∀(st2:SortSt) (rs2:List (List Keyed)),Rn κ ky (arrOf st) st2 rs2 (qD.toList.drop rs.flatten.length)->rs2.flatten.length=rs.flatten.length->∃rs3 rest3,((none:Option Unit),rs.flatten.length+m)=(none,rs3.flatten.length)/\Rn κ ky (arrOf st) (setPending st2 ((pendingOf st2).push (rs.flatten.length,m,0))) rs3 rest3/\(x+1<=rs3.flatten.length\/(arrOf st).size<=rs3.flatten.length):=λst2 rs2 r2 l2=>by
    have lt:((qD.toList.drop rs.flatten.length).take m).length=m:=by have:=Array.length_toList (xs:=qD);rw[length_take,length_drop];lia
    have lf:(rs2++[(qD.toList.drop rs.flatten.length).take m]).flatten.length=rs.flatten.length+m:=by
     rw[flatten_append,length_append,l2]
     simp only[flatten_cons,flatten_nil,append_nil,lt]
    refine⟨rs2++[(qD.toList.drop rs.flatten.length).take m],(qD.toList.drop rs.flatten.length).drop m,by rw[lf],⟨r2.kind,r2.failed,r2.perm,?_,?_⟩,?_⟩
    ·show(arrOf st2).toList=_
     rw[r2.eq]
     simp only[flatten_append,flatten_cons,flatten_nil,append_nil,append_assoc,take_append_drop]
    ·show BC ky ((pendingOf st2).push (rs.flatten.length,m,0)).toList _ 0
     rw[Array.toList_push]
     exact r2.pend.snoc (by rw[Nat.zero_add,l2]) (by rw[lt]) (by rw[lt];lia) s1
    ·rw[lf];lia
   refine wpS_bind (wpS_get ?_)
   cases hb:(pendingOf (setArr st' qD)).back? with
   |none=>exact wpS_bind (wpS_modify (wpS_pure (jp (setArr st' qD) rs r1 rfl)))
   |some q =>
    obtain⟨q1,q2,q3⟩:=q
    refine wpS_bind (wpS_mono (wpS_forRange (I:=λ_ c st2=>∃rs2,c=(none,())/\Rn κ ky (arrOf st) st2 rs2 (qD.toList.drop rs.flatten.length)/\rs2.flatten.length=rs.flatten.length) (Q:=λc st2=>∃rs2,c=(none,())/\Rn κ ky (arrOf st) st2 rs2 (qD.toList.drop rs.flatten.length)/\rs2.flatten.length=rs.flatten.length) ?a ?b ⟨rs,rfl,r1,rfl⟩) ?c)
    case b=>intro c st2 hh;exact hh
    case c =>
     rintro c st2 ⟨rs2,rfl,r2,l2⟩
     refine wpS_bind (wpS_modify (wpS_bind (wpS_modify (wpS_pure (jp _ rs2 ⟨r2.kind,r2.failed,r2.perm,r2.eq,?_⟩ l2)))))
     show BC ky ((pendingOf st2).modify ((pendingOf st2).size - 1) λq=>(q.1,q.2.1,_)).toList rs2 0
     rw[Array.toList_modify]
     exact r2.pend.pow (f:=λ_=>_)
    case a =>
     rintro y c st2 _ _ ⟨rs2,rfl,r2,l2⟩
     refine wpS_bind (wpS_get ?_)
     have hps:=r2.psize
     dsimp only
     cases he:(if(pendingOf st2).size > 1 then(pendingOf st2)[(pendingOf st2).size - 2]? else none)with
     |none=>exact wpS_pure ⟨rs2,rfl,r2,l2⟩
     |some q =>
      have hp1:(pendingOf st2).size > 1:=by
       by_cases z:(pendingOf st2).size > 1
       ·exact z
       ·rw[if_neg z]at he;cases he
      exact AW (λ_=>wpS_pure ⟨rs2,rfl,r2,l2⟩) (λ_=>wpS_bind (r2.merge C hm (i:=(pendingOf st2).size - 2) (by lia) λst3 rs3 r3 l3 _=>AW (λz=>by cases z) (λ_=>wpS_pure ⟨rs3,rfl,r3,by rw[l3,l2]⟩)))
end
end L2
namespace L2
open PySem PySem.Spec PyProof.Rows PySem.W
section
variable{κ:SortKind}{ky:Keyed->O.α}
noncomputable def Ef(h:Heap)(a:Addr)(us:List Value):Heap:=((h.update a (Obj.mapSeq λ_=>#[])).push (seqObj "tuple" us.toArray 0)).push (seqObj "list" #[] 0)
theorem Tv{b:Addr}{o:Obj}(hb:b≠a)(e:h.get? b=some o):(Ef h a us).get? b=some o:=by
 have hlt:=Heap.lt_size e
 refine(Heap.get?_push_ne _ b _ (by rw[size_push',Heap.size_update];exact Nat.ne_of_lt (Nat.lt_succ_of_lt hlt))).trans ((Heap.get?_push_ne _ b _ (by rw[Heap.size_update];exact Nat.ne_of_lt hlt)).trans ?_)
 rw[Heap.get?_update_ne _ _ _ _ hb];exact e
theorem Tw{F:PySem.Fin->Shared->Prop}(ho:s.heap.get? a=some (seqObj "list" us.toArray n))(h2:¬us.length<2)(hz:us.length<=16777216)
  (hK:wpAny (model prog w) A (keyKind' us.toArray) (λκ' s'=>κ'=κ/\s'={ s with heap:=Ef s.heap a us }) E { s with heap:=Ef s.heap a us })
  (hC:Cmp (model prog w) A E { s with heap:=Ef s.heap a us } κ O ky (·∈(pairsOf us).toList))
  (h:∀st:Array Keyed,st.Perm (pairsOf us)->Ac ky st.toList->F (.done (.ret .none)) { s with heap:=sortedHeap s.heap a us (st.map (·.2)) }) :
  wpAny (model prog w) A (Builtin.«list.sort» ⟨[.ref a],[]⟩) F E s:=by
 have ha:=Heap.lt_size ho
 have hsl:us.toArray.size<=sizeLine:=by rw[size_toArray,sizeLine_eq];exact hz
 rw[list_sort_plain]
 refine wB (listItems_at ho rfl (wB (listUpdate_at ho rfl ?_ hsl (Nat.zero_le _))))
 have ho1:=get?_update_seq ho (λ_=>#[])
 refine wB (seqEpoch_at ho1 rfl (wB (wpAny_newTuple (wB (wpAny_newList (wpAny_holding ?_) (Nat.zero_le _))) hsl)))
 have ho6:(Ef s.heap a us).get? a=_ :=
  (Heap.get?_push_ne _ a _ (by rw[size_push',Heap.size_update];exact Nat.ne_of_lt (Nat.lt_succ_of_lt ha))).trans ((Heap.get?_push_ne _ a _ (by rw[Heap.size_update];exact Nat.ne_of_lt ha)).trans ho1)
 have hz:¬us.toArray.size<2:=by rw[size_toArray];exact h2
 dsimp only
 rw[if_neg hz,if_neg hz]
 refine wB (wpAny_mono hK ?_ λ_ _ e=>e)
 rintro κ' s' ⟨rfl,rfl⟩
 have run:=Tu (st:=SortSt.mk' κ' (us.toArray.zip us.toArray) #[] 7 none) (R:=λ_ st'=>(arrOf st').Perm (pairsOf us)/\failedOf st'=none/\Ac ky (arrOf st').toList) hC rfl rfl rfl (λx hx=>hx) λst' a1 a2 a3=>⟨a1,a2,a3⟩
 refine wB (wpAny_mono run ?_ λ_ _ e=>e)
 rintro⟨⟨⟩,st'⟩ s' ⟨rfl,hp,hf,hs⟩
 dsimp only
 have hsz:((arrOf st').map (·.2)).size<=sizeLine:=by
  rw[Array.size_map]
  have:=(Array.perm_iff_toList_perm.mp hp).length_eq
  rw[Array.length_toList,Array.length_toList,pairsOf_size]at this
  rw[this,sizeLine_eq];assumption
 refine wB (seqEpoch_at ho6 rfl (wB (listUpdate_at ho6 rfl ?_ (Nat.zero_le _) (Nat.le_succ_of_le hsz))))
 rw[hf]
 simp only[bne_self_eq_false,Bool.false_eq_true,if_false]
 exact wP (h _ hp hs)
theorem Nb{l:Addr}(hl:s.heap.IsList l us.toArray)(h2:¬us.length<2)(hz:us.length<=16777216)
  (hK:∀(A':Around) (h1:Heap),A'.units<=A.units+2->(∀b o,s.heap.get? b=some o->h1.get? b=some o)->wpAny (model prog w) A' (keyKind' us.toArray) (λκ' s'=>κ'=κ/\s'={ s with heap:=h1 }) E { s with heap:=h1 })
  (hC:∀(A':Around) (h1:Heap),A'.units<=A.units+2->(∀b o,s.heap.get? b=some o->h1.get? b=some o)->Cmp (model prog w) A' E { s with heap:=h1 } κ O ky (·∈(pairsOf us).toList))
  (q:∀st:Array Keyed,st.Perm (pairsOf us)->Ac ky st.toList->Q (.ref (s.heap.objs.size+1)) { s with heap:=sortedAll s.heap us (st.map (·.2)) }) :
  wpAny (model prog w) A (call (.builtin "sorted") [.ref l]) Q E s:=by
 have hsl:us.length<=sizeLine:=by rw[sizeLine_eq];exact hz
 refine Calls.call_function_entry kind_sorted plain_sorted entry_sorted (args_sorted1 _) ?_
 unfold Builtin.«sorted»
 refine wB (m:=checkCount "sorted" 1 1 _) (wP (wB (collect_list hl (wB (wpAny_newList ?_ hsl)) hsl)))
 have hsz:((s.heap.push (seqObj "list" #[] 0)).update s.heap.objs.size (Obj.mapSeq (·++us.toArray))).objs.size=s.heap.objs.size+1:=by
  rw[Heap.size_update,size_push']
 have hoL:=Heap.get?_push_size ((s.heap.push (seqObj "list" #[] 0)).update s.heap.objs.size (Obj.mapSeq (·++us.toArray))) (o:=seqObj "list" us.toArray 0) rfl
 rw[hsz]at hoL
 show wpAny _ _ _ _ _ { s with heap:=((s.heap.push (seqObj "list" #[] 0)).update s.heap.objs.size (Obj.mapSeq (·++us.toArray))).push (seqObj "list" us.toArray 0) }
 rw[hsz]
 have keep:∀b o,s.heap.get? b=some o->(((s.heap.push (seqObj "list" #[] 0)).update s.heap.objs.size (Obj.mapSeq (·++us.toArray))).push (seqObj "list" us.toArray 0)).get? b=some o:=λb o e=>by
  have hlt:=Heap.lt_size e
  refine(Heap.get?_push_ne _ b _ (by rw[hsz];exact Nat.ne_of_lt (Nat.lt_succ_of_lt hlt))).trans ?_
  rw[Heap.get?_update_ne _ _ _ _ (Nat.ne_of_lt hlt)]
  exact(Heap.get?_push_ne _ b _ (Nat.ne_of_lt hlt)).trans e
 have keep2:∀b o,s.heap.get? b=some o->(Ef (((s.heap.push (seqObj "list" #[] 0)).update s.heap.objs.size (Obj.mapSeq (·++us.toArray))).push (seqObj "list" us.toArray 0)) (s.heap.objs.size+1) us).get? b=some o:=λb o e=>Tv (Nat.ne_of_lt (Nat.lt_succ_of_lt (Heap.lt_size e))) (keep b o e)
 exact wB (wpAny_holding (wpAny_call_entry slot_list_sort ⟨_,hoL,rfl⟩ entry_list_sort (Tw (κ:=κ) (ky:=ky) (s:={ s with heap:=((s.heap.push (seqObj "list" #[] 0)).update s.heap.objs.size (Obj.mapSeq (·++us.toArray))).push (seqObj "list" us.toArray 0) }) hoL h2 hz (hK _ _ (by simp) keep2) (hC _ _ (by simp) keep2) λst a1 a2=>⟨_,rfl,wP ⟨_,rfl,q st a1 a2⟩⟩) (args_list_sort _)))
end
noncomputable def DP(ps:List (Addr×List Int)):Keyed->List Int:=λk=>match k.1 with
 |.ref x=>((ps.find? λq=>decide (q.1=x)).map (·.2)).getD []
 |_=>[]
theorem FR{ps:List (Addr×List Int)}(hc:∀q∈ps,∀q'∈ps,q.1=q'.1->q.2=q'.2){q:Addr×List Int}(hq:q∈ps)(v:Value):DP ps (.ref q.1,v)=q.2:=by
 unfold DP
 cases hf:ps.find? λq'=>decide (q'.1=q.1)with
 |none=>exact absurd (rfl:q.1=q.1) (by simpa using find?_eq_none.mp hf q hq)
 |some p =>
  have h1:=find?_some hf
  have h2:=mem_of_find?_eq_some hf
  show((ps.find? λq'=>decide (q'.1=q.1)).map (·.2)).getD []=q.2
  rw[hf]
  exact hc p h2 q hq (by simpa using h1)
noncomputable abbrev rv(ps:List (Addr×List Int)):List Value:=ps.map λq=>Value.ref q.1
theorem Jh(ps:List (Addr×List Int)):(pairsOf (rv ps)).toList=ps.map λq=>((Value.ref q.1,Value.ref q.1):Keyed):=by
 show((rv ps).toArray.zip (rv ps).toArray).toList=_
 rw[Array.toList_zip]
 show(rv ps).zip (rv ps)=_
 induction ps with
 |nil=>rfl
 |cons q ps ih=>simp only[rv,map_cons,zip_cons_cons]at ih ⊢;rw[ih]
def FS(h:Heap)(ps:List (Addr×List Int)):Prop:=∀q∈ps,∃us,IntsAre us q.2/\∃o n,h.get? q.1=some o/\o.cls=.type "tuple"/\o.data=.seq us.toArray n
theorem Nc{κ:SortKind}{x y:Keyed}{b:Bool}{R:Option Bool->SortSt->Prop}(hk:kindOf st=κ)(h:R (some b) st)(q:∀(E':VS) (Q:Bool->Shared->Prop),Q b s->wpAny (model prog w) A (keyLt' κ x.1 y.1) Q E' s):wpS (model prog w) A E s (lt' x y) R st:=by
 rw[lt'_eq]
 refine wpS_bind (wpS_get ?_)
 rw[hk]
 exact wpS_bind (wpS_lift (wpAny_attempt (q _ _ ⟨rfl,wpS_pure h⟩)))
theorem Tx{ps:List (Addr×List Int)}(ht:FS s.heap ps)(hc:∀q∈ps,∀q'∈ps,q.1=q'.1->q.2=q'.2)(hn:∀q∈ps,q.2.length=n):Cmp (model prog w) A E s (tuples' true) E5 (DP ps) (·∈(pairsOf (rv ps)).toList) where
 ask:=λx y hx hy R st hk h=>by
  rw[Jh]at hx hy
  obtain⟨p,hp,rfl⟩:=mem_map.mp hx
  obtain⟨q,hq,rfl⟩:=mem_map.mp hy
  rw[FR hc hp,FR hc hq]at h
  refine Nc hk h λE' Q hQ=>?_
  obtain⟨us,a1,o1,n1,b1,c1,d1⟩:=ht p hp
  obtain⟨vs,a2,o2,n2,b2,c2,d2⟩:=ht q hq
  have l1:=a1.length
  have l2:=a2.length
  have l3:=hn p hp
  have l4:=hn q hq
  refine kat_lt b1 d1 b2 d2 ?_
  rw[show decide (us.toArray.size<vs.toArray.size)=false by rw[size_toArray,size_toArray];exact decide_eq_false (by lia)]
  exact Ld 0 a1 a2 (by lia) hQ
theorem Tz{ps:List (Addr×List Int)}(ht:FS s.heap ps)(n0:0<n)(hn:∀q∈ps,q.2.length=n)(h2:¬ps.length<2):wpAny (model prog w) A (keyKind' (rv ps).toArray) (λκ' s'=>κ'=tuples' true/\s'=s) E s:=by
 obtain⟨fs,kt,fl,fi⟩:=Mn ht (λq hq=>by rw[hn q hq];exact n0)
 refine kat_kind (T:=.type "int") kt (by lia) (λv hv=>?_) rfl ⟨rfl,rfl⟩
 obtain⟨i,t,rfl⟩:=fi v hv
 exact Sj _ _ i t
theorem T0{x y:Addr}{ox oy:Obj}{k:Nat}(hu:A.units<cLine)(hx:s.heap.get? x=some ox)(cx:ox.cls=.type "tuple")(dx:ox.data=.seq #[] n)(hy:s.heap.get? y=some oy)(cy:oy.cls=.type "tuple")(dy:oy.data=.seq #[] k)
  {E':VS} {Q:Bool->Shared->Prop} (h:Q false s):wpAny (model prog w) A (keyLt' oneType' (.ref x) (.ref y)) Q E' s:=by
 rw[keyLt'_oneType,oneLt'_eq]
 simp only[if_true]
 refine wB (wpAny_cRoomFor hu ?_)
 obtain⟨ocls,od,odt,osl⟩:=ox
 obtain⟨pcls,pd,pdt,psl⟩:=oy
 simp only at cx dx cy dy
 subst cx;subst dx;subst cy;subst dy
 have hcall:wpAny (model prog w) A (call (.builtin "tuple.__lt__") [.ref x,.ref y]) (λv s'=>v=.bool false/\s'=s) E' s :=
  wpAny_call (codeAny_call_builtin (R:=wants (λv s'=>v=.bool false/\s'=s) E') PySem.F.slot_tuple_lt.plain PySem.F.entry_tuple_lt (PySem.F.slot_tuple_lt.check _ _ _ _ _ _ _ _ ⟨_,hx,rfl⟩ (PySem.F.args_tuple_lt_2 _ _)
   (HT.tuple_lt_ints x y #[] #[] n k od pd osl psl [] [] .nil .nil prog w A (wants (λv s'=>v=.bool false/\s'=s) E') s ⟨hx,hy,rfl,rfl⟩)))
 refine wB (wpAny_callSpecialIfBound?_slot ⟨_,hx,rfl⟩ PySem.F.slot_tuple_lt (wpAny_mono hcall ?_ λ_ _ e=>e))
 rintro v s' ⟨rfl,rfl⟩
 exact wpAny_truthy_bool h
theorem T1{ps:List (Addr×List Int)}(hu:A.units<cLine)(ht:FS s.heap ps)(hc:∀q∈ps,∀q'∈ps,q.1=q'.1->q.2=q'.2)(hn:∀q∈ps,q.2.length=0):Cmp (model prog w) A E s oneType' E5 (DP ps) (·∈(pairsOf (rv ps)).toList) where
 ask:=λx y hx hy R st hk h=>by
  rw[Jh]at hx hy
  obtain⟨p,hp,rfl⟩:=mem_map.mp hx
  obtain⟨q,hq,rfl⟩:=mem_map.mp hy
  rw[FR hc hp,FR hc hq,eq_nil_of_length_eq_zero (hn p hp),eq_nil_of_length_eq_zero (hn q hq)]at h
  refine Nc hk h λE' Q hQ=>?_
  obtain⟨us,a1,o1,n1,b1,c1,d1⟩:=ht p hp
  obtain⟨vs,a2,o2,n2,b2,c2,d2⟩:=ht q hq
  have l1:=a1.length
  have l2:=a2.length
  have e1:us=[]:=eq_nil_of_length_eq_zero (by rw[l1,hn p hp])
  have e2:vs=[]:=eq_nil_of_length_eq_zero (by rw[l2,hn q hq])
  subst e1;subst e2
  exact T0 hu b1 c1 d1 b2 c2 d2 hQ
theorem T2{ps:List (Addr×List Int)}(ht:FS s.heap ps)(hn:∀q∈ps,q.2.length=0)(h2:¬ps.length<2):wpAny (model prog w) A (keyKind' (rv ps).toArray) (λκ' s'=>κ'=oneType'/\s'=s) E s:=by
 have hty:∀v∈rv ps,∀{Q':VS},Q' (.type "tuple") s->wpAny (model prog w) A (typeOf v) Q' E s:=λv hv Q' hq=>by
  obtain⟨q,hq2,rfl⟩:=mem_map.mp hv
  obtain⟨us,a1,o1,n1,b1,c1,d1⟩:=ht q hq2
  exact wpAny_typeOf_ref b1 (by rw[c1];exact hq)
 obtain⟨v₁,v₂,qC,e⟩:∃v₁ v₂ qC,rv ps=v₁::v₂::qC:=by
  match ps,h2 with
  |[],h2=>simp at h2
  |[_],h2=>simp at h2
  |a::b::r,_=>exact⟨_,_,_,rfl⟩
 rw[kat_kind_eq,mapM_toArray,map_eq_pure_bind]
 refine wB (wB (kas_mapM (r:=none) _ (λv hv Q' hq=>?_) (wP ?_)))
 ·rw[kas_first_eq]
  refine wB (hty v hv ?_)
  rw[if_neg (by decide)]
  obtain⟨q,hq2,rfl⟩:=mem_map.mp hv
  obtain⟨us,a1,o1,n1,b1,c1,d1⟩:=ht q hq2
  have e1:us=[]:=eq_nil_of_length_eq_zero (by rw[a1.length,hn q hq2])
  subst e1
  exact wB (listItems_at b1 d1 (wP hq))
 ·rw[e]
  rw[if_neg (by simp),if_neg (by simp)]
  rw[<-e,oneTypeOnly'_eq,mapM_toArray,map_eq_pure_bind]
  refine wB (wB (wB (kas_mapM (r:=.type "tuple") _ (λv hv Q' hq=>hty v hv hq) (wP ?_))))
  have h0:(map (λ_=>Value.type "tuple") (rv ps)).toArray[0]?=some (.type "tuple"):=by rw[e];simp
  have hall:((map (λ_=>Value.type "tuple") (rv ps)).toArray.all λx=>x==Value.type "tuple")=true:=by
   simp only[all_toArray,all_map,all_eq_true]
   intro _ _
   rfl
  rw[h0]
  simp only[hall,if_true]
  exact wP (wP ⟨rfl,rfl⟩)
theorem Nd{ps:List (Addr×List Int)}(hc:∀q∈ps,∀q'∈ps,q.1=q'.1->q.2=q'.2){st:Array Keyed}(hp:st.Perm (pairsOf (rv ps)))(hs:Ac (O:=E5) (DP ps) st.toList) :
  ∃ps':List (Addr×List Int),ps'.Perm ps/\CY (ps'.map (·.2))/\st.map (·.2)=(rv ps').toArray:=by
 have hpl:=Array.perm_iff_toList_perm.mp hp
 rw[Jh]at hpl
 let g:Keyed->Addr×List Int:=λk=>((match k.1 with|.ref x=>x|_=>0),DP ps k)
 have eg:∀q∈ps,g (Value.ref q.1,Value.ref q.1)=q:=λq hq=>by
  show(q.1,DP ps (Value.ref q.1,Value.ref q.1))=q
  rw[FR hc hq]
 refine⟨st.toList.map g,?_,?_,?_⟩
 ·have:=hpl.map g
  rw[map_map]at this
  have e:ps.map (g ∘ λq=>(Value.ref q.1,Value.ref q.1))=ps:=by
   conv=>rhs;rw[<-map_id ps]
   exact map_congr_left λq hq=>eg q hq
  rw[e]at this
  exact this
 ·unfold CY
  rw[map_map]
  exact List.Pairwise.map _ (λa b h=>h) hs
 ·apply Array.ext'
  rw[Array.toList_map]
  show _=(st.toList.map g).map λq=>Value.ref q.1
  rw[map_map]
  refine map_congr_left λk hk=>?_
  obtain⟨q,hq,rfl⟩:=mem_map.mp (hpl.mem_iff.mp hk)
  rfl
noncomputable def Nf:List V->Hp->VK->Prop:=λxs H Q=>∃(p:Addr) (ps:List (Addr×List Int)),xs=[.ref p]/\H p=some (.lst (Ea ps))/\(∀q∈ps,H q.1=some (.tup (q.2.map V.int)))/\ps.length<=16777216/\(∃n,∀q∈ps,q.2.length=n) /\
 ∀(l:Addr) (ps':List (Addr×List Int)),H l=none->ps'.Perm ps->CY (ps'.map (·.2))->Q (.ref l) (AE H l (.lst (Ea ps')))
theorem T3{a b:List Int}(h:a.map V.int=b.map V.int):a=b:=by
 have:=congrArg (map λp=>match p with|V.int i=>i|_=>0) h
 simpa[map_map,Function.comp_def]using this
theorem T4{ps:List (Addr×List Int)}(ht:∀q∈ps,H q.1=some (.tup (q.2.map V.int))):∀q∈ps,∀q'∈ps,q.1=q'.1->q.2=q'.2:=λq hq q' hq' e=>by
 have h1:=ht q hq
 have h2:=ht q' hq'
 rw[e,h2]at h1
 injection h1 with h1
 injection h1 with h1
 exact(T3 h1).symm
theorem Gz(I:Inv X qA σ H s){ps:List (Addr×List Int)}(ht:∀q∈ps,H q.1=some (.tup (q.2.map V.int))){h1:Heap}(k:∀q∈ps,∀o,s.heap.get? q.1=some o->h1.get? q.1=some o):FS h1 ps:=λq hq=>by
 obtain⟨us,w1,tt,_⟩:=I.tuple (.of (ht q hq))
 obtain⟨o,e1,e2,n',e3⟩:=tt
 exact⟨us,Hy w1,o,n',k q hq o e1,e2,e3⟩
theorem T5{k:Nat}(hr:Room k X.A):BH X (.builtin "sorted") Nf:=by
 intro qA s σ H xs us Q I r h
 obtain⟨p,ps,rfl,hp,ht,hz,⟨n,hn⟩,k⟩:=h
 obtain⟨u,rfl,ru⟩:=r.one
 cases ru
 obtain⟨qE,r,pl,hz'⟩:=I.list (.of hp)
 have hits:=Ml r
 subst hits
 have fin:∀ps':List (Addr×List Int),ps'.Perm ps->CY (ps'.map (·.2))->EP X qA σ Q (.ref (s.heap.objs.size+1)) { s with heap:=sortedAll s.heap (rv ps) (rv ps').toArray }:=λps' h1 h2=>by
  obtain⟨e,he⟩:=sortedAll_at s.heap (rv ps) (rv ps').toArray
  refine⟨.ref (s.heap.objs.size+1),_,I.laid (t':=s.toks) (o:=.lst (Ea ps')) (λb o q=>sortedAll_old q) (Nat.le_succ _) ⟨?_,_,e,Mm ps',he⟩,rfl,k _ ps' (I.hok.fresh (Nat.le_succ _)) h1 h2⟩
  rw[length_map,h1.length_eq,sizeLine_eq];exact hz
 by_cases h2:ps.length<2
 ·refine Si pl.isList (by simpa using h2) (fin ps (List.Perm.refl _) ?_)
  match ps,h2 with
  |[],_=>exact List.Pairwise.nil
  |[_],_=>exact pairwise_singleton _ _
 ·have hc:=T4 ht
  have hu:=hr.un
  rcases Nat.eq_zero_or_pos n with e|n0
  ·subst e
   refine Nb (κ:=oneType') (O:=E5) (ky:=DP ps) pl.isList (by simpa using h2) (by simpa using hz) (λA' h1 _ k1=>T2 (s:={ s with heap:=h1 }) (Gz I ht λq _ o e=>k1 _ o e) hn h2) (λA' h1 ha k1=>T1 (s:={ s with heap:=h1 }) (by lia) (Gz I ht λq _ o e=>k1 _ o e) hc hn) λst hp hs=>?_
   obtain⟨ps',a1,a2,a3⟩:=Nd hc hp hs
   rw[a3]
   exact fin ps' a1 a2
  ·refine Nb (κ:=tuples' true) (O:=E5) (ky:=DP ps) pl.isList (by simpa using h2) (by simpa using hz) (λA' h1 _ k1=>Tz (s:={ s with heap:=h1 }) (Gz I ht λq _ o e=>k1 _ o e) n0 hn h2) (λA' h1 ha k1=>Tx (s:={ s with heap:=h1 }) (Gz I ht λq _ o e=>k1 _ o e) hc hn) λst hp hs=>?_
   obtain⟨ps',a1,a2,a3⟩:=Nd hc hp hs
   rw[a3]
   exact fin ps' a1 a2
def Ji:pC:=p1 λx f K=>∃rs:List (List Int),x=.lst (rs.map Ae)/\rs.length<=16777216/\(∃n,∀r∈rs,r.length=n)/\∀rs':List (List Int),rs'.Perm rs->CY rs'->K (.lst (rs'.map Ae)) .nw
theorem T6:B1 Nf Ji:=λW ρ σ Hs H Q K xs vs ok st r hp q=>by
 unfold Ji p1 at hp
 split at hp
 ·obtain⟨v,rfl,rv⟩:=r.one
  obtain⟨rs,rfl,hz,⟨n,hn⟩,hk⟩:=hp
  obtain⟨p,us,rfl,c,r1⟩:=Cv ok rv
  obtain⟨ps,rfl,e,ht⟩:=M0 r1
  have hl:ps.length=rs.length:=by rw[<-e,length_map]
  refine⟨p,ps,rfl,c,ht,by lia,⟨n,λq hq=>hn _ (by rw[<-e];exact mem_map_of_mem hq)⟩,λl ps' hl' h1 h2=>q _ _ _ _ (hk (ps'.map (·.2)) (by rw[<-e];exact h1.map _) h2) (Step.new ok.bag hl') ?_⟩
  have:=JP (b:=W.b) (Z:=AC W ρ σ .nw) (H:=H) (ps:=ps') λq hq=>ht q (h1.mem_iff.mp hq)
  rw[show(ps'.map λq=>Ae q.2)=(ps'.map (·.2)).map Ae by rw[map_map];rfl]at this
  exact Gd ok st (by simp) (by simp) this hl'
 ·exact hp.elim
end L2
namespace L2
open PySem
noncomputable abbrev Tl:=List (List Int×Int)
theorem T7{t:Tl}(nd:(t.map (·.1)).Nodup)(h:q∈t):Bq t q.1=some q.2:=by
 induction t with
 |nil=>cases h
 |cons p t ih =>
  unfold Bq
  rw[find?_cons]
  rw[map_cons,nodup_cons]at nd
  rcases mem_cons.mp h with rfl|h
  ·simp
  ·have:¬p.1=q.1:=λz=>nd.1 (by rw[z];exact mem_map_of_mem h)
   simp only[this,decide_false]
   exact ih nd.2 h
noncomputable def cnt(t:Tl)(r:List Int):Int:=(t.map λq=>if q.1=r then q.2 else 0).sum
theorem T8{t:Tl}(h:(t.map (·.1)).Nodup):((BV t).map (·.1)).Nodup:=by
 unfold BV
 rw[map_map,show((λq:List Int×Int=>q.1) ∘ λr=>(r,(Bq t r).getD 0))=id from rfl,map_id]
 exact((FM _).nodup_iff.mpr h).filter _
theorem T9{t:Tl}(h:∀q∈t,q.1.length=n):∀q∈BV t,q.1.length=n:=λq hq=>by
 obtain⟨p,hp,e⟩:=mem_map.mp (NQ hq)
 rw[<-e];exact h p hp
theorem UA{t:Tl}(h:q∈BV t):q.2=(Bq t q.1).getD 0/\q.2≠0:=by
 unfold BV at h
 obtain⟨r,hr,rfl⟩:=mem_map.mp h
 exact⟨rfl,by simpa using(mem_filter.mp hr).2⟩
end L2
namespace L2
open PySem PyProof.Rows
abbrev De(a b:Str):Prop:=¬(b.cps.toList<a.cps.toList)
abbrev Ng(l:List Str):Prop:=l.Pairwise De
theorem UB{a b c:Str}(h:De a b)(g:De b c):De a c:=λz=>h (List.lt_of_le_of_lt (List.not_lt.mp g) z)
theorem UC{a b:Str}(h:a.cps.toList=b.cps.toList):a=b:=PyProof.Rows.ext_toList h
theorem UD{a b:Str}(h:De a b)(g:De b a):a=b:=UC (List.le_antisymm (List.not_lt.mp h) (List.not_lt.mp g))
theorem Nh:∀(l:List Str) (p:Str),risingS p l=true->(p::l).Pairwise De
 |[],p,_=>pairwise_singleton _ _
 |x::r,p,h=>by
  rw[risingS,Bool.and_eq_true]at h
  have h1:De p x:=by have:=h.1;rw[ltCps_eq]at this;simpa using this
  have h2:=Nh r x h.2
  refine pairwise_cons.mpr ⟨λy hy=>?_,h2⟩
  rcases mem_cons.mp hy with rfl|hy
  ·exact h1
  ·exact UB h1 ((pairwise_cons.mp h2).1 y hy)
theorem UE{l:List Str}(h:sortedS l=true):Ng l:=by
 cases l with
 |nil=>exact List.Pairwise.nil
 |cons x r=>exact Nh r x h
end L2
namespace L2
open PySem PySem.Spec PyProof.Rows
noncomputable abbrev AR(i:Int):Str:=Str.ofString (toString i)
abbrev Lo(i:Int):Prop:=-(10 ^ 30)<i/\i<10 ^ 30
theorem Lo.log{i:Int}(h:Lo i):i.natAbs.log2<1920:=shown (N:=10 ^ 30) h.1 h.2 nofun
theorem G0:BH X (.type "str") (λxs H Q=>∃i,xs=[.int i]/\Lo i/\Q (.str (AR i)) H):=by
 intro qA s σ H xs us Q I r h
 obtain⟨i,rfl,hi,q⟩:=h
 obtain⟨u,rfl,t,rfl⟩:=r.one
 exact P.str_of_int hi.log ⟨.str _,H,I.tok _,⟨_,rfl⟩,q⟩
noncomputable def UF:V->Hp->VK->Prop:=λx H Q=>(∃z,x=.str z/\z.length<=sizeLine/\Q (.str z) H)\/∃i,x=.int i/\Lo i/\Q (.str (AR i)) H
theorem UG{a:Expr}(ha:PE X a ta):PE X (.FormattedValue a (-1) none pos) (Ke UF ta):=by
 intro qA s σ H Q I h
 refine FormattedValue_plain (AK (ha qA s σ H _ I h) λv s1 ⟨x,H1,I1,r1,q1⟩=>?_)
 rcases q1 with⟨z,rfl,hz,q⟩|⟨i,rfl,hi,q⟩
 ·obtain⟨t,rfl⟩:=r1
  exact formatField_str (λt' tk=>⟨.str z,H1,I1.tok tk,⟨t',rfl⟩,q⟩) hz
 ·obtain⟨t,rfl⟩:=r1
  exact formatField_int_small hi.log ⟨.str _,H1,I1.tok _,⟨_,rfl⟩,q⟩
noncomputable abbrev TJ:=Str->TE
def PJ(X:Cx)(es:List Expr)(t:TJ):Prop :=
 ∀(qA:List (Addr×Obj)) (s:Shared) (σ:St) (H:Hp) (out:Str) (Q:VK),Inv X qA σ H s->t out σ H Q->wpAny (model X.prog X.w) X.A (joinParts out (evalEach es X.env)) (EP X qA σ Q) X.xe s
noncomputable def UH:TJ:=λout _ H Q=>out.length<=sizeLine/\Q (.str out) H
noncomputable def UI(ta:TE)(t:TJ):TJ:=λout σ H Q=>ta σ H λx H1=>∃y,x=.str y/\(out++y).length<=sizeLine/\t (out++y) σ H1 Q
theorem UJ:PJ X [] UH:=by
 intro qA s σ H out Q I h
 exact joinParts_nil ⟨.str out,H,I.tok _,⟨_,rfl⟩,h.2⟩ h.1
theorem UK{a:Expr}{t:TJ}(ha:PE X a ta)(hr:PJ X es t):PJ X (a::es) (UI ta t):=by
 intro qA s σ H out Q I h
 refine joinParts_cons (AK (ha qA s σ H _ I h) λv s1 ⟨x,H1,I1,r1,y,e,hz,q⟩=>?_)
 subst e
 obtain⟨t',rfl⟩:=r1
 exact⟨hz,hr qA s1 σ H1 _ Q I1 q⟩
theorem UL{a b:Expr}{t:TJ}(h:PJ X (a::b::es) t):PE X (.JoinedStr (a::b::es) pos) (t Str.empty):=by
 intro qA s σ H Q I q
 exact JoinedStr_many (h qA s σ H _ Q I q)
noncomputable def Ni(K:Fg):V->List V->Hp->VK->Prop:=λx vs H Q=>∃z p ys,x=.str z/\vs=[.ref p]/\A0 K H p (ys.map V.str)/\(ys.map (·.length)).sum+ys.length * z.length<=16777216/\Q (.str (Txt.join z ys)) H
theorem UM:Cp X "str.join" (Ni X.K):=by
 intro qA s σ H x vs v us Q I rx rv h
 obtain⟨z,p,ys,rfl,rfl,hp,hok,q⟩:=h
 obtain⟨t,rfl⟩:=rx
 obtain⟨u,rfl,ru⟩:=rv.one
 cases ru
 obtain⟨qE,r,pl,hz⟩:=I.tuple hp
 exact join_tuple pl (GA (by simpa using r)) hok λt' k=>⟨.str _,H,I.tok k,⟨t',rfl⟩,q⟩
def Jj:pC:=p1 λx _ K=>match x with
 |.int i=>Lo i/\K (.str (AR i)) .fr
 |_=>False
theorem Jk:B1 (λxs H Q=>∃i,xs=[.int i]/\Lo i/\Q (.str (AR i)) H) Jj:=λW ρ σ Hs H Q K xs vs ok st r hp q=>by
 unfold Jj p1 at hp
 split at hp
 ·obtain⟨v,rfl,rv⟩:=r.one
  split at hp
  ·cases Bw ok rv
   exact⟨_,rfl,hp.1,q _ _ _ H hp.2 (Step.refl ok.bag) Ct⟩
  ·exact hp.elim
 ·exact hp.elim
def Nj(pa:pE):pE:=λρ K=>pa ρ λx _=>match x with
 |.str z=>z.length<=16777216/\K (.str z) .fr
 |.int i=>Lo i/\K (.str (AR i)) .fr
 |_=>False
noncomputable abbrev pJ:=Str->pE
noncomputable def Nk:pJ:=λout _ K=>out.length<=16777216/\K (.str out) .fr
noncomputable def Nl(pa:pE)(r:pJ):pJ:=λout ρ K=>pa ρ λx _=>∃y,x=.str y/\(out++y).length<=16777216/\r (out++y) ρ K
def QJ{ι:Type}(Xs:ι->Cx)(es:List Expr)(p:pJ):Prop:=∃t:TJ,(∀i,PJ (Xs i) es t)/\∀out,BO (t out) (p out)
def Jl(z:Str)(y:P)(K:P->Fl->Prop):Prop:=∃ys:List Str,(y=.lst (ys.map P.str)\/y=.tup (ys.map P.str))/\(ys.map (·.length)).sum+ys.length * z.length<=16777216/\K (.str (Txt.join z ys)) .fr
def Jm(po pe:pE):pE:=λρ K=>po ρ λx _=>∃z,x=.str z/\pe ρ λy _=>Jl z y K
theorem G1{α:Type}{f:α->Nat}{m:Nat}:∀{l:List α},(∀x∈l,f x<=m)->(l.map f).sum<=l.length * m
 |[],_=>Nat.zero_le _
 |x::r,h=>by
  have h1:=h x (by simp)
  have h2:=G1 (l:=r) λy hy=>h y (by simp[hy])
  simp only[map_cons,sum_cons,length_cons,Nat.add_mul,Nat.one_mul]
  lia
theorem FT{α:Type}{f:α->Str}{g:α->P}{l:List α}{z:Str}{K:P->Fl->Prop}(hg:∀x,g x=.str (f x))(hl:l.length<=n)(hm:∀x∈l,(f x).length<=m)(hb:n * (m+z.length)<=16777216)(h:K (.str (Txt.join z (l.map f))) .fr):Jl z (.lst (l.map g)) K:=by
 refine⟨l.map f,.inl (by rw[map_map];exact congrArg P.lst (map_congr_left λx _=>hg x)),?_,h⟩
 rw[map_map,length_map]
 have:=G1 (f:=(λx:Str=>x.length) ∘ f) hm
 have:=Nat.mul_le_mul_right (m+z.length) hl
 rw[Nat.mul_add]at this
 lia
theorem UN{l:List Str}{z:Str}{K:P->Fl->Prop}(hl:l.length<=n)(hm:∀x∈l,x.length<=m)(hb:n * (m+z.length)<=16777216)(h:K (.str (Txt.join z l)) .fr):Jl z (.tup (l.map P.str)) K:=by
 refine⟨l,.inr rfl,?_,h⟩
 have:=G1 (f:=λx:Str=>x.length) hm
 have:=Nat.mul_le_mul_right (m+z.length) hl
 rw[Nat.mul_add]at this
 lia
theorem FU{i:Int}(h:Lo i):(AR i).length<=31:=by
 have e:((10 ^ 30:Nat):Int)=10 ^ 30:=by decide
 have hn:i.natAbs<10 ^ 30:=by
  obtain⟨h1,h2⟩:=h
  lia
 have:=int_text_length_le10 (a:=i) (k:=30) (by decide) hn
 rw[PySem.ofString_length];exact this
section
variable{ι:Type}{Xs:ι->Cx}{a b o e:Expr}{po:pE}{r:pJ}
theorem CH(ha:QE Xs a pa):QE Xs (.FormattedValue a (-1) none pos) (Nj pa):=by
 obtain⟨t,h1,h2⟩:=ha
 refine⟨_,λi=>UG (h1 i),λW ρ σ H Q K ok hk q=>h2 W ρ σ H _ _ ok hk λx f v H1 k1 s1 r1=>?_⟩
 have ok1:=ok.step s1
 cases x with
 |str z=>cases Bo ok1 r1;exact .inl ⟨z,rfl,k1.1,q _ _ _ H1 k1.2 s1 Ct⟩
 |int i=>cases Bw ok1 r1;exact .inr ⟨i,rfl,k1.1,q _ _ _ H1 k1.2 s1 Ct⟩
 |_=>exact k1.elim
theorem FV:QJ Xs [] Nk:=⟨_,λ_=>UJ,λout W ρ σ H Q K ok hk q=>⟨hk.1,q _ _ _ H hk.2 (Step.refl ok.bag) Ct⟩⟩
theorem BM(ha:QE Xs a pa)(hr:QJ Xs es r):QJ Xs (a::es) (Nl pa r):=by
 obtain⟨t,h1,h2⟩:=ha
 obtain⟨t',h3,h4⟩:=hr
 refine⟨_,λi=>UK (h1 i) (h3 i),λout W ρ σ H Q K ok hk q=>h2 W ρ σ H _ _ ok hk λx f v H1 ⟨y,e,hz,k1⟩ s1 r1=>?_⟩
 subst e
 have ok1:=ok.step s1
 cases Bo ok1 r1
 exact⟨y,rfl,hz,h4 _ W ρ σ H1 Q K ok1 k1 λx f v H2 k2 s2 r2=>q x f v H2 k2 (s1.trans s2) (r2.back s1)⟩
theorem FW(h:QJ Xs (a::b::es) r):QE Xs (.JoinedStr (a::b::es) pos) (r Str.empty):=by
 obtain⟨t,h1,h2⟩:=h
 exact⟨_,λi=>UL (h1 i),h2 _⟩
theorem Df(hK:∀i,(Xs i).K=Kf)(ho:QE Xs o po)(he:QE Xs e pe)(hb:∀i,attributeBase o "join" (Xs i).env (eval o (Xs i).env)=eval o (Xs i).env:=by intro _;rfl)
  (hl:(qI.endLine==qH.line)=true:=by rfl) (hst:∀i,starEach [e] (Xs i).env=[(false,eval e (Xs i).env)]:=by intro _;rfl):QE Xs (.Call (.Attribute o "join" qI) [e] [] qH) (Jm po pe):=by
 obtain⟨to,o1,o2⟩:=ho
 obtain⟨te,e1,e2⟩:=he
 refine⟨Dr Kf "str" (λx vs H Q=>LO Kf x vs H Q\/Ni Kf x vs H Q) to (Bl te CC),λi=>?_,λW ρ σ H Q K ok hk q=>o2 W ρ σ H _ _ ok hk λx f v H1 ⟨z,ez,h1⟩ s1 r1=>?_⟩
 ·rw[<-hK i]
  exact Ds PySem.F.plainAttrs_str PySem.F.slot_str_join PySem.F.type_str_join (Cp.or LP UM) (o1 i) (Ad (e1 i) Ay (hst i)) (hb i) (by rw[hst i];rfl) hl (hst i) rfl
 ·have ok1:=ok.step s1
  subst ez
  cases Bo ok1 r1
  refine⟨rfl,e2 W ρ σ H1 _ _ ok1 h1 λy g u H2 ⟨ys,ey,hz,k2⟩ s2 r2=>?_⟩
  have ok2:=ok1.step s2
  rcases ey with rfl|rfl
  ·obtain⟨p,us,rfl,c,rv⟩:=Cv ok2 r2
   rw[AB.strs.mp rv]at c
   exact .inl ⟨z,p,ys,rfl,rfl,.of c,hz,q _ _ _ _ k2 (s1.trans s2) Ct⟩
  ·obtain⟨p,us,rfl,c,rv⟩:=Cw ok2 r2
   rw[AB.strs.mp rv]at c
   exact .inr ⟨z,p,ys,rfl,rfl,.of c,hz,q _ _ _ _ k2 (s1.trans s2) Ct⟩
end
theorem Eg(x:Str):Str.empty++x=x:=by
 show(⟨#[]++x.cps⟩:Str)=x
 simp
end L2
namespace L2
open PySem PySem.Spec PyProof.Rows PySem.Calls
theorem Nm:BH X (.type "int") (λxs H Q=>∃x n,xs=[.str x]/\intText? x=some n/\x.length<=640/\Q (.int n) H):=by
 intro qA s σ H xs us Q I r h
 obtain⟨x,n,rfl,hn,hl,q⟩:=h
 obtain⟨u,rfl,t,rfl⟩:=r.one
 exact PySem.W.KIN.call_text hn hl ⟨.int n,H,I.tok _,⟨_,rfl⟩,q⟩
theorem UO{y:Str}{t u:Tok}(hy:(y.length==0)=false)(hx:x.length+2<=sizeLine)
  (h:∀l k,l.map (·.1)=Txt.split x y->Q (.ref s.heap.objs.size) { s with heap:=s.heap.push { cls:=.type "list",data:=.seq (strValues l).toArray },toks:=k }):wpAny (model prog w) A (call (.builtin "str.split") [.str x t,.str y u]) Q E s:=by
 have ol:=StrLaws.occ_length_le x y 0 x.length (x.length+1)
 by_cases c1:(decide (x.length<y.length)||decide (Builtin.Str.strKind x<Builtin.Str.strKind y))=true
 ·exact call_meets F.slot_str_split (typeIs_str _ _ _) F.entry_str_split (F.args_str_split_2 _ _) (meets_str_split_cannot_occur x y t u c1) (h [(x,t)] s.toks (if_pos c1).symm)
 ·have c1':=Bool.eq_false_iff.mpr c1
  by_cases c2:(Builtin.Str.occurrences x y 0 x.length (x.length+1)).isEmpty=true
  ·exact call_meets F.slot_str_split (typeIs_str _ _ _) F.entry_str_split (F.args_str_split_2 _ _) (meets_str_split_not_found x y t u c1' hy c2) (h [(x,t)] s.toks ((if_neg c1).trans (if_pos c2)).symm)
  ·refine call_meets F.slot_str_split (typeIs_str _ _ _) F.entry_str_split (F.args_str_split_2 _ _) (meets_str_split_sep x y t u c1' hy (Bool.eq_false_iff.mpr c2) (by lia) (by rw[length_partsBetween];lia)) ?_
   have:=h (numbered s.toks (Builtin.Str.partsBetween x (Builtin.Str.occurrences x y 0 x.length (x.length+1)) y.length)) (s.toks+(Builtin.Str.partsBetween x (Builtin.Str.occurrences x y 0 x.length (x.length+1)) y.length).length) ((numbered_texts _ _).trans ((if_neg c1).trans (if_neg c2)).symm)
   rw[<-strsFrom_eq]at this
   exact this
noncomputable def Nn:V->List V->Hp->VK->Prop:=λx vs H Q=>∃z y,x=.str z/\vs=[.str y]/\(y.length==0)=false/\z.length<=1000000/\∀l,H l=none->Q (.ref l) (AE H l (.lst ((Txt.split z y).map V.str)))
theorem Np:∀l:List (Str×Tok),AM ((l.map (·.1)).map V.str) (strValues l)
 |[]=>.nil
 |p::l=>.cons ⟨p.2,rfl⟩ (Np l)
theorem UP(x y:Str):(Txt.split x y).length<=x.length+2:=by
 unfold Txt.split
 have ol:=StrLaws.occ_length_le x y 0 x.length (x.length+1)
 split
 ·simp
 ·split
  ·simp
  ·rw[length_partsBetween];lia
theorem UQ:Cp X "str.split" Nn:=by
 intro qA s σ H x vs v us Q I rx rv h
 obtain⟨z,y,rfl,rfl,hy,hz,q⟩:=h
 obtain⟨t,rfl⟩:=rx
 obtain⟨u,rfl,t',rfl⟩:=rv.one
 have e0:=sizeLine_eq
 refine UO hy (by lia) λl k el=>⟨.ref s.heap.objs.size,_,I.laid (t':=k) (o:=.lst ((Txt.split z y).map V.str)) (λb o e=>Heap.get?_push_of_some _ e) (Nat.le_refl _) ?_,rfl,q _ (I.hok.fresh (Nat.le_refl _))⟩
 refine⟨by rw[length_map];have:=UP z y;lia,strValues l,0,by rw[<-el];exact Np l,Heap.get?_push_size _ rfl⟩
noncomputable def Nq:V->List V->Hp->VK->Prop:=λx vs H Q=>∃z y,x=.str z/\vs=[.str y]/\(y.length==0)=false/\z.length<=1000000/\∃i r,Builtin.Str.occurrences z y 0 z.length 1=i::r/\∀l,H l=none->Q (.ref l) (AE H l (.tup [.str (Builtin.Str.strSub z 0 i),.str y,.str (Builtin.Str.strSub z (i+y.length) z.length)]))
theorem UR:Cp X "str.partition" Nq:=by
 intro qA s σ H x vs v us Q I rx rv h
 obtain⟨z,y,rfl,rfl,hy,hz,i,r,ei,q⟩:=h
 obtain⟨t,rfl⟩:=rx
 obtain⟨u,rfl,t',rfl⟩:=rv.one
 have e0:=sizeLine_eq
 refine call_meets F.slot_str_partition (typeIs_str _ _ _) F.entry_str_partition (F.args_str_partition_2 _ _) (meets_str_partition z y t t' hy (by lia)) ?_
 rw[ei]
 exact⟨.ref s.heap.objs.size,_,I.laid (t':=s.toks+1+1) (o:=.tup [.str (Builtin.Str.strSub z 0 i),.str y,.str (Builtin.Str.strSub z (i+y.length) z.length)]) (λb o e=>Heap.get?_push_of_some _ e) (Nat.le_refl _) ⟨by show 3<=sizeLine;decide,_,.cons ⟨_,rfl⟩ (.cons ⟨_,rfl⟩ (.cons ⟨_,rfl⟩ .nil)),Cf.new _ _⟩,rfl,q _ (I.hok.fresh (Nat.le_refl _))⟩
end L2
namespace L2
open PySem PySem.Spec PyProof.Rows
def Nr:pC:=p1 λx _ K=>match x with
 |.str z=>∃n,intText? z=some n/\z.length<=640/\K (.int n) .fr
 |_=>False
theorem Nt:B1 (λxs H Q=>∃x n,xs=[.str x]/\intText? x=some n/\x.length<=640/\Q (.int n) H) Nr:=λW ρ σ Hs H Q K xs vs ok st r hp q=>by
 unfold Nr p1 at hp
 split at hp
 ·obtain⟨v,rfl,rv⟩:=r.one
  split at hp
  ·cases Bo ok rv
   obtain⟨n,h1,h2,h3⟩:=hp
   exact⟨_,n,rfl,h1,h2,q _ _ _ H h3 (Step.refl ok.bag) EQ⟩
  ·exact hp.elim
 ·exact hp.elim
def US(po pe:pE):pE:=λρ K=>po ρ λx _=>∃z,x=.str z/\pe ρ λy _=>∃w,y=.str w/\(w.length==0)=false/\z.length<=1000000/\K (.lst ((Txt.split z w).map P.str)) .nw
def UT(po pe:pE):pE:=λρ K=>po ρ λx _=>∃z,x=.str z/\pe ρ λy _=>∃w,y=.str w/\(w.length==0)=false/\z.length<=1000000/\∃i r,Builtin.Str.occurrences z w 0 z.length 1=i::r/\K (.tup [.str (Builtin.Str.strSub z 0 i),.str w,.str (Builtin.Str.strSub z (i+w.length) z.length)]) .nw
section
variable{ι:Type}{Xs:ι->Cx}{o e:Expr}{po:pE}
theorem Jn(hK:∀i,(Xs i).K=Kf)(ho:QE Xs o po)(he:QE Xs e pe)(hb:∀i,attributeBase o "split" (Xs i).env (eval o (Xs i).env)=eval o (Xs i).env:=by intro _;rfl)
  (hl:(qI.endLine==qH.line)=true:=by rfl) (hst:∀i,starEach [e] (Xs i).env=[(false,eval e (Xs i).env)]:=by intro _;rfl):QE Xs (.Call (.Attribute o "split" qI) [e] [] qH) (US po pe):=by
 obtain⟨to,o1,o2⟩:=ho
 obtain⟨te,e1,e2⟩:=he
 refine⟨Dr Kf "str" Nn to (Bl te CC),λi=>?_,λW ρ σ H Q K ok hk q=>o2 W ρ σ H _ _ ok hk λx f v H1 ⟨z,ez,h1⟩ s1 r1=>?_⟩
 ·rw[<-hK i]
  exact Ds PySem.F.plainAttrs_str PySem.F.slot_str_split PySem.F.type_str_split UQ (o1 i) (Ad (e1 i) Ay (hst i)) (hb i) (by rw[hst i];rfl) hl (hst i) rfl
 ·have ok1:=ok.step s1
  subst ez
  cases Bo ok1 r1
  refine⟨rfl,e2 W ρ σ H1 _ _ ok1 h1 λy g u H2 ⟨w,ew,hw,hz,k2⟩ s2 r2=>?_⟩
  have ok2:=ok1.step s2
  subst ew
  cases Bo ok2 r2
  exact⟨z,w,rfl,rfl,hw,hz,λl hl=>q _ _ _ _ k2 ((s1.trans s2).trans (Step.new ok2.bag hl)) (Gd (g:=.nw) ok2 (s1.trans s2) (by simp) (by simp) (AB.strs.mpr rfl) hl)⟩
theorem UU(hK:∀i,(Xs i).K=Kf)(ho:QE Xs o po)(he:QE Xs e pe)(hb:∀i,attributeBase o "partition" (Xs i).env (eval o (Xs i).env)=eval o (Xs i).env:=by intro _;rfl)
  (hl:(qI.endLine==qH.line)=true:=by rfl) (hst:∀i,starEach [e] (Xs i).env=[(false,eval e (Xs i).env)]:=by intro _;rfl):QE Xs (.Call (.Attribute o "partition" qI) [e] [] qH) (UT po pe):=by
 obtain⟨to,o1,o2⟩:=ho
 obtain⟨te,e1,e2⟩:=he
 refine⟨Dr Kf "str" Nq to (Bl te CC),λi=>?_,λW ρ σ H Q K ok hk q=>o2 W ρ σ H _ _ ok hk λx f v H1 ⟨z,ez,h1⟩ s1 r1=>?_⟩
 ·rw[<-hK i]
  exact Ds PySem.F.plainAttrs_str PySem.F.slot_str_partition PySem.F.type_str_partition UR (o1 i) (Ad (e1 i) Ay (hst i)) (hb i) (by rw[hst i];rfl) hl (hst i) rfl
 ·have ok1:=ok.step s1
  subst ez
  cases Bo ok1 r1
  refine⟨rfl,e2 W ρ σ H1 _ _ ok1 h1 λy g u H2 ⟨w,ew,hw,hz,i,r,ei,k2⟩ s2 r2=>?_⟩
  have ok2:=ok1.step s2
  subst ew
  cases Bo ok2 r2
  exact⟨z,w,rfl,rfl,hw,hz,i,r,ei,λl hl=>q _ _ _ _ k2 ((s1.trans s2).trans (Step.new ok2.bag hl)) (RF.newT (f:=.nw) (xs:=[.str (Builtin.Str.strSub z 0 i),.str w,.str (Builtin.Str.strSub z (i+w.length) z.length)]) ok2 ((AB.strs (ns:=[Builtin.Str.strSub z 0 i,w,Builtin.Str.strSub z (i+w.length) z.length])).mpr rfl) hl)⟩
end
noncomputable def mroIn(K:Fg)(C C':Addr):Bool:=match K.lookup C with
 |some ⟨_,_,.cls cd,_⟩=>cd.mro.contains (.ref C')
 |_=>true
section
variable{M:Model}{nm q:Str}{C N:Addr}{bs bm:List Value}{hdct:Bool}{sn:List Str}{sub:List Value}{ab:Bool}{col:Option Bool}{dd:Option Addr}{k0 k1 k2 k3 k5:Option Value}{newId:String}
 {nm' q':Str} {C' N':Addr} {bs' bm':List Value} {hdct':Bool} {sn':List Str} {sub':List Value} {ab':Bool} {col':Option Bool} {dd':Option Addr} {l0 l1 l2 l3 l5:Option Value} {newId':String}
end
noncomputable abbrev Cx.mark(X:Cx)(a:Addr):Cx:={ X with A:=X.A.mark (some (.ref a)),calm:=false,xe:=λ_ _=>False }
end L2
namespace L2
open PySem PySem.Spec PyProof.Rows PySem.W Builtin Builtin.ObjectAttr
end L2
namespace L2
open PySem PySem.Spec PyProof.Rows PySem.W
end L2
namespace L2
open PySem PySem.Spec PyProof.Rows
mutual
noncomputable def P.dry:P->Bool
 |.lst _=>false|.dT _ _=>false|.dK _ _=>false|.fT _ _=>false|.bag=>false
 |.tup xs=>P.drys xs
 |.non=>true|.bl _=>true|.int _=>true|.str _=>true
noncomputable def P.drys:List P->Bool
 |[]=>true
 |x::r=>x.dry&&P.drys r
end
@[simp] theorem UV(i:Int):(P.int i).dry=true:=by simp[P.dry]
@[simp] theorem UW(i:Str):(P.str i).dry=true:=by simp[P.dry]
@[simp] theorem UX(xs:List P):(P.tup xs).dry=P.drys xs:=by simp[P.dry]
@[simp] theorem UY:P.drys []=true:=by simp[P.drys]
@[simp] theorem UZ(x:P)(xs:List P):P.drys (x::xs)=(x.dry&&P.drys xs):=by simp[P.drys]
@[simp] theorem Nu:∀ns:List Int,P.drys (ns.map P.int)=true
 |[]=>by simp
 |n::r=>by simp[Nu r]
noncomputable abbrev Ua:=Xn->Hp->Prop
noncomputable abbrev pX:=List S->(P->Fl->Prop)->(Xn->Prop)->Prop
noncomputable abbrev Ub:=List S->(List (P×Fl)->Prop)->(Xn->Prop)->Prop
section
variable{ι:Type}
variable{Xs:ι->Cx}{EX:Ua}{a e:Expr}{pa:pX}{pr:Ub}
noncomputable def Uc(k:Nat)(E:PEnds):PEnds:={ E with nx:=λρ=>ρ[k]?=some .emp/\E.nx ρ,bk:=λρ=>ρ[k]?=some .emp/\E.bk ρ,ct:=λρ=>ρ[k]?=some .emp/\E.ct ρ }
theorem Ag.hide{k:Nat}{o:Option V}(hk:ρ[k]?=some .emp)(p:Addr):Ag ρ (σ.set k o) p↔Ag ρ σ p:=by
 constructor
 ·rintro⟨i,x,h1,h2⟩
  have hi:k≠i:=λz=>by rw[<-z,hk]at h1;cases h1
  rw[getElem?_set_ne hi]at h2
  exact⟨i,x,h1,h2⟩
 ·rintro⟨i,x,h1,h2⟩
  have hi:k≠i:=λz=>by rw[<-z,hk]at h1;cases h1
  exact⟨i,x,h1,by rw[getElem?_set_ne hi];exact h2⟩
theorem AC.hide{k:Nat}{o:Option V}(hk:ρ[k]?=some .emp)(f:Fl):AC W ρ (σ.set k o) f=AC W ρ σ f:=by
 have e:Ow W ρ (σ.set k o)=Ow W ρ σ:=by funext p;unfold Ow;rw[Ag.hide hk p]
 funext p
 cases f<;>simp only[AC,e]
theorem Ok.hide{k:Nat}{o:Option V}(hk:ρ[k]?=some .emp)(ok:Ok W ρ σ H):Ok W ρ (σ.set k o) H where
 bag:=ok.bag
 fb:=ok.fb
 old:=ok.old
 frm:=ok.frm
 oo:=ok.oo
 len:=by rw[length_set];exact ok.len
 slot:=λi s e=>by
  obtain⟨u,h1,h2⟩:=ok.slot i s e
  by_cases hi:k=i
  ·subst hi
   rw[hk]at e;cases e
   have:=(List.getElem?_eq_some_iff.mp h1).1
   exact⟨o,getElem?_set_self this,trivial⟩
  ·refine⟨u,by rw[getElem?_set_ne hi];exact h1,?_⟩
   have z:=λf=>AC.hide (W:=W) (σ:=σ) (o:=o) hk f
   cases s with
   |emp=>trivial
   |sh x=>obtain⟨v,h3,h4⟩:=h2;exact⟨v,h3,by show Rp _ (AC W ρ (σ.set k o) .cl) _ _ _;rw[z];exact h4⟩
   |fr x=>obtain⟨v,h3,h4⟩:=h2;exact⟨v,h3,by show Rp _ (AC W ρ (σ.set k o) .fr) _ _ _;rw[z];exact h4⟩
   |own x=>obtain⟨p,h3,h4,h5,h6,h7,h8⟩:=h2;exact⟨p,h3,h4,h5,h6,h7,by show Rc _ (AC W ρ (σ.set k o) .fr) _ _ _;rw[z];exact h8⟩
 uniq:=λi j x y h1 h2 h3=>by
  have hi:k≠i:=λz=>by rw[<-z,hk]at h1;cases h1
  have hj:k≠j:=λz=>by rw[<-z,hk]at h2;cases h2
  rw[getElem?_set_ne hi,getElem?_set_ne hj]at h3
  exact ok.uniq i j x y h1 h2 h3
end
section
variable{ι:Type}
end
end L2
namespace L2
open PySem PySem.Spec PyProof.Rows PySem.W
end L2
namespace L2
open PySem
end L2
namespace L2
open PySem PySem.Spec PyProof.Rows PySem.W
end L2
namespace L2
open PySem PySem.Spec PyProof.Rows
end L2
namespace L2
open PySem PySem.Spec PyProof.Rows PySem.W
end L2
namespace L2
section
variable{α:Type}(adj:α->α->Prop)
variable{adj}
end
end L2
namespace L2
section
variable{α:Type}[DecidableEq α](r:Nat->List α)(there:List Nat)
variable{r there}
end
end L2
namespace L2
open PySem
noncomputable abbrev gt(row:List Str)(k:Nat):Str:=row.getD k ⟨#[]⟩
end L2
namespace L2
open PySem PySem.Spec PyProof.Rows PySem.W
end L2
namespace L2
open PySem
noncomputable abbrev Wd.at(W:Wd)(h:Hp):Wd:={ W with H₀:=h,F:=h }
section
variable{h:Hp}{k:Nat}
structure Sub(W:Wd)(h:Hp):Prop where
 fb:W.F W.b=none
 o:∀p x,p≠W.b->W.H₀ p=some x->h p=some x
 f:∀p x,W.F p=some x->h p=some x
end
end L2
namespace L2
open PySem PySem.Spec PyProof.Rows
end L2
namespace PySem
open PySem.Sem (wp)
end PySem
namespace L2
open PySem PySem.Spec PyProof.Rows
noncomputable abbrev Wd.put(W:Wd)(O:Addr->Prop):Wd:={ W with O:=O }
end L2
namespace L2
open PySem PySem.Spec PyProof.Rows PySem.W
end L2
namespace L2
open PySem PySem.Spec PyProof.Rows PySem.W SeqAt
end L2
namespace L2
open PySem PySem.Spec PyProof.Rows PySem.W
end L2
namespace L2
open PySem PySem.Spec PyProof.Rows
def Ud(pa pb:pE):pI:=λρ K=>pa ρ λx f=>pb ρ λy g=>∃xs ys,x=.tup xs/\y=.tup ys/\(P.imms xs=true/\P.imms ys=true)/\K (zipWith BR xs ys) .fr true
section
variable{ι:Type}{Xs:ι->Cx}{a b:Expr}{p1:Pos}{x1:Nat}
theorem Ue(hK:∀i,(Xs i).K=Kf)(hm:∀i,(Xs i).mg "zip"=none)(ha:QE Xs a pa)(hb:QE Xs b pb)(hg:∀i,Gl (Xs i) "zip":=by intro _;rfl)(hs:∀i,starEach [a,b] (Xs i).env=[(false,eval a (Xs i).env),(false,eval b (Xs i).env)]:=by intro _;rfl)(hs2:∀i,starEach [b] (Xs i).env=[(false,eval b (Xs i).env)]:=by intro _;rfl) :
  QI Xs (.Tuple elts x1 tp) (.Call (.Name "zip" p1) [a,b] [] pos) (Ud pa pb):=by
 obtain⟨ta,a1,a2⟩:=ha
 obtain⟨tb,b1,b2⟩:=hb
 refine⟨IT Kf (Bl ta (Bl tb CC)),λi=>?_,λW ρ σ H R K ok hk q=>a2 W ρ σ H _ _ ok hk λx f v H1 h1 s1 r1=>b2 W ρ σ H1 _ _ (ok.step s1) h1 λy g u H2 ⟨xs,ys,e1,e2,⟨i1,i2⟩,hk2⟩ s2 r2=>?_⟩
 ·have:=La (elts:=elts) (x1:=x1) (tp:=tp) (p:=p1) (pos:=pos) (hg i) (hm i) (Ad (a1 i) (Ad (b1 i) Ay (by rw[hs2 i];rfl)) (by rw[hs i,hs2 i])) (hs i) (hs2 i)
  rw[hK i]at this
  exact this
 ·subst e1;subst e2
  have s12:=s1.trans s2
  have ok2:=ok.step s12
  have r1':=r1.step (ok.step s1) s2
  obtain⟨l1,vs,rfl,c1,rv1⟩:=Cw ok2 r1'
  obtain⟨l2,us,rfl,c2,rv2⟩:=Cw ok2 r2
  have nb1:=(ok2.bag.neT c1).1
  have nb2:=(ok2.bag.neT c2).1
  have len1:=rv1.length
  have len2:=rv2.length
  have core:∀O' ρ' σ' H',H' l1=some (.tup vs)->H' l2=some (.tup us)->(∀p vs,H2 p=some (.tup vs)->H' p=some (.tup vs))->Bag H' W.b W.a->∀i,(i<(zipWith BR xs ys).length->(DY Kf l1 l2).go i H')/\((zipWith BR xs ys).length<=i->(DY Kf l1 l2).stop i H') /\
    ∀v H'',(DY Kf l1 l2).yld i H' v H''->∀x,(zipWith BR xs ys)[i]?=some x->Step W.b W.a H' H''/\RF { W with O:=O' } ρ' σ' H' .fr H'' x v:=λO' ρ' σ' H' g1 g2 gt hb i=>by
   refine⟨λhi=>?_,λhi=>?_,λv H'' yl x hx=>?_⟩
   ·rw[length_zipWith]at hi
    exact⟨vs,us,.of g1,.of g2,by lia,by lia⟩
   ·rw[length_zipWith]at hi
    exact⟨vs,us,.of g1,.of g2,by lia⟩
   ·obtain⟨T,x',y',hT,rfl,rfl,e⟩:=yl
    obtain⟨e1,e2⟩:=e vs us (.of g1) (.of g2)
    rw[getElem?_zipWith]at hx
    cases ex:xs[i]? with
    |none=>rw[ex]at hx;simp at hx
    |some px =>
     cases ey:ys[i]? with
     |none=>rw[ex,ey]at hx;simp at hx
     |some py =>
      rw[ex,ey]at hx
      have hx:BR px py=x:=by simpa using hx
      subst hx
      obtain⟨v1,a1,a2⟩:=rv1.get ex
      obtain⟨v2,b1,b2⟩:=rv2.get ey
      rw[e1]at a1;cases a1
      rw[e2]at b1;cases b1
      have m1:px.imm=true:=E6.mp i1 px (mem_of_getElem? ex)
      have m2:py.imm=true:=E6.mp i2 py (mem_of_getElem? ey)
      refine⟨Step.new hb hT,?_⟩
      have k1:Rp W.b (AC { W with O:=O' } ρ' σ' .fr) (AE H' T (.tup [x',y'])) px x':=(((a2.imm m1:Rp W.b (λ_=>True) H2 px x').keep (Z':=λ_=>True) (H':=AE H' T (.tup [x',y'])) (λp o hz=>absurd trivial hz) (λp ws e=>by rw[AV (A7 (gt p ws e) hT)];exact gt p ws e)).imm m1)
      have k2:Rp W.b (AC { W with O:=O' } ρ' σ' .fr) (AE H' T (.tup [x',y'])) py y':=(((b2.imm m2:Rp W.b (λ_=>True) H2 py y').keep (Z':=λ_=>True) (H':=AE H' T (.tup [x',y'])) (λp o hz=>absurd trivial hz) (λp ws e=>by rw[AV (A7 (gt p ws e) hT)];exact gt p ws e)).imm m2)
      exact⟨T,[x',y'],rfl,Al,x',[y'],rfl,k1,y',[],rfl,k2,rfl⟩
  refine⟨l1,l2,vs,us,rfl,.of c1,.of c2,q _ _ _ _ H2 hk2 s12 (λO' ρ' σ' H' hl i=>?_) (λhst O' ρ' σ' H' hl i=>?_)⟩
  ·obtain⟨_,rfl,rfl,ok',st⟩:=hl
   exact core O' _ _ H' (st.same l1 _ nb1 c1) (st.same l2 _ nb2 c2) (λp ws e=>st.same p _ (ok2.bag.neT e).1 e) st.bag i
  ·obtain⟨rfl,hl⟩:=hl
   have k1:=(D1 (f:=.nw) ok2 hl (.inl rfl)).2
   exact core _ _ _ H' (k1 l1 _ c1) (k1 l2 _ c2) k1 hl.bag i
end
theorem Uf:BH X (.type "str") (λxs H Q=>(∃i,xs=[.int i]/\Lo i/\Q (.str (AR i)) H)\/∃z,xs=[.str z]/\Q (.str z) H):=by
 intro qA s σ H xs us Q I r h
 rcases h with h|⟨z,rfl,q⟩
 ·exact G0 qA s σ H xs us Q I r h
 ·obtain⟨u,rfl,t,rfl⟩:=r.one
  exact P.str_of_str ⟨.str z,H,I,⟨t,rfl⟩,q⟩
def Nv:pC:=p1 λx _ K=>match x with
 |.int i=>Lo i/\K (.str (AR i)) .fr
 |.str z=>K (.str z) .fr
 |_=>False
theorem Ug:B1 (λxs H Q=>(∃i,xs=[.int i]/\Lo i/\Q (.str (AR i)) H)\/∃z,xs=[.str z]/\Q (.str z) H) Nv:=λW ρ σ Hs H Q K xs vs ok st r hp q=>by
 unfold Nv p1 at hp
 split at hp
 ·obtain⟨v,rfl,rv⟩:=r.one
  split at hp
  ·cases Bw ok rv
   exact .inl ⟨_,rfl,hp.1,q _ _ _ H hp.2 (Step.refl ok.bag) Ct⟩
  ·cases Bo ok rv
   exact .inr ⟨_,rfl,q _ _ _ H hp (Step.refl ok.bag) Ct⟩
  ·exact hp.elim
 ·exact hp.elim
def Uh(pa pb:pE):pI:=λρ K=>pa ρ λx f=>pb ρ λy g=>∃xs ys,x=.tup xs/\y=.tup ys/\(f=.cl/\g=.cl)/\K (zipWith BR xs ys) .cl true
section
variable{ι:Type}{Xs:ι->Cx}{a b:Expr}{p1:Pos}{x1:Nat}
theorem Ui(hK:∀i,(Xs i).K=Kf)(hm:∀i,(Xs i).mg "zip"=none)(ha:QE Xs a pa)(hb:QE Xs b pb)(hg:∀i,Gl (Xs i) "zip":=by intro _;rfl)(hs:∀i,starEach [a,b] (Xs i).env=[(false,eval a (Xs i).env),(false,eval b (Xs i).env)]:=by intro _;rfl)(hs2:∀i,starEach [b] (Xs i).env=[(false,eval b (Xs i).env)]:=by intro _;rfl) :
  QI Xs (.Tuple elts x1 tp) (.Call (.Name "zip" p1) [a,b] [] pos) (Uh pa pb):=by
 obtain⟨ta,a1,a2⟩:=ha
 obtain⟨tb,b1,b2⟩:=hb
 refine⟨IT Kf (Bl ta (Bl tb CC)),λi=>?_,λW ρ σ H R K ok hk q=>a2 W ρ σ H _ _ ok hk λx f v H1 h1 s1 r1=>b2 W ρ σ H1 _ _ (ok.step s1) h1 λy g u H2 ⟨xs,ys,e1,e2,⟨i1,i2⟩,hk2⟩ s2 r2=>?_⟩
 ·have:=La (elts:=elts) (x1:=x1) (tp:=tp) (p:=p1) (pos:=pos) (hg i) (hm i) (Ad (a1 i) (Ad (b1 i) Ay (by rw[hs2 i];rfl)) (by rw[hs i,hs2 i])) (hs i) (hs2 i)
  rw[hK i]at this
  exact this
 ·subst e1;subst e2;subst i1;subst i2
  have s12:=s1.trans s2
  have ok2:=ok.step s12
  have r1':=r1.step (ok.step s1) s2
  obtain⟨l1,vs,rfl,c1,rv1⟩:=Cw ok2 r1'
  obtain⟨l2,us,rfl,c2,rv2⟩:=Cw ok2 r2
  have nb1:=(ok2.bag.neT c1).1
  have nb2:=(ok2.bag.neT c2).1
  have len1:=rv1.length
  have len2:=rv2.length
  have core:∀O' ρ' σ' H',(∀p o,¬AC W ρ σ .cl p->H2 p=some o->¬AC { W with O:=O' } ρ' σ' .cl p/\H' p=some o)->H' l1=some (.tup vs)->H' l2=some (.tup us)->(∀p vs,H2 p=some (.tup vs)->H' p=some (.tup vs))->Bag H' W.b W.a->∀i,(i<(zipWith BR xs ys).length->(DY Kf l1 l2).go i H')/\((zipWith BR xs ys).length<=i->(DY Kf l1 l2).stop i H') /\
    ∀v H'',(DY Kf l1 l2).yld i H' v H''->∀x,(zipWith BR xs ys)[i]?=some x->Step W.b W.a H' H''/\RF { W with O:=O' } ρ' σ' H' .cl H'' x v:=λO' ρ' σ' H' kp g1 g2 gt hb i=>by
   refine⟨λhi=>?_,λhi=>?_,λv H'' yl x hx=>?_⟩
   ·rw[length_zipWith]at hi
    exact⟨vs,us,.of g1,.of g2,by lia,by lia⟩
   ·rw[length_zipWith]at hi
    exact⟨vs,us,.of g1,.of g2,by lia⟩
   ·obtain⟨T,x',y',hT,rfl,rfl,e⟩:=yl
    obtain⟨e1,e2⟩:=e vs us (.of g1) (.of g2)
    rw[getElem?_zipWith]at hx
    cases ex:xs[i]? with
    |none=>rw[ex]at hx;simp at hx
    |some px =>
     cases ey:ys[i]? with
     |none=>rw[ex,ey]at hx;simp at hx
     |some py =>
      rw[ex,ey]at hx
      have hx:BR px py=x:=by simpa using hx
      subst hx
      obtain⟨v1,a1,a2⟩:=rv1.get ex
      obtain⟨v2,b1,b2⟩:=rv2.get ey
      rw[e1]at a1;cases a1
      rw[e2]at b1;cases b1
      refine⟨Step.new hb hT,?_⟩
      have kk:∀{px:P} {x':V},Rp W.b (AC W ρ σ .cl) H2 px x'->∀o,Rp W.b (AC { W with O:=O' } ρ' σ' .cl) (AE H' T o) px x':=λr o=>(r.keep kp gt).keep (λp o' hz e=>⟨hz,by rw[AV (A7 e hT)];exact e⟩) (λp ws e=>by rw[AV (A7 e hT)];exact e)
      have k1:=kk a2 (.tup [x',y'])
      have k2:=kk b2 (.tup [x',y'])
      exact⟨T,[x',y'],rfl,Al,x',[y'],rfl,k1,y',[],rfl,k2,rfl⟩
  refine⟨l1,l2,vs,us,rfl,.of c1,.of c2,q _ _ _ _ H2 hk2 s12 (λO' ρ' σ' H' hl i=>?_) (λhst O' ρ' σ' H' hl i=>?_)⟩
  ·obtain⟨hO,rfl,rfl,ok',st⟩:=hl
   exact core O' _ _ H' (Ii st hO) (st.same l1 _ nb1 c1) (st.same l2 _ nb2 c2) (λp ws e=>st.same p _ (ok2.bag.neT e).1 e) st.bag i
  ·obtain⟨rfl,hl⟩:=hl
   have k1:=(D1 (f:=.nw) ok2 hl (.inl rfl)).2
   exact core _ _ _ H' (D1 (f:=.cl) ok2 hl (.inr (.inr rfl))).1 (k1 l1 _ c1) (k1 l2 _ c2) k1 hl.bag i
end
end L2
namespace L2
open PySem
noncomputable abbrev Eh(n k:Nat)(y:P):List S:=(replicate n S.emp).set k (.fr y)
def Nw(k:Nat)(f:pF)(pa:pA)(p5 p6:pT)(px pz:pE)(p7:pS):pS:=λE ρ=>pa ρ λxs=>f (xs.map (·.1)) λy=>ρ[k]?=some .emp/\A9 k y .nw ρ λρ1=>p5 ρ1 λb=>b=false/\p6 ρ1 λc =>
 (c=true->px (Eh ρ.length k y) (λx g=>g=.fr/\∃ys,x=.lst ys/\ys.length<16777216)/\pz (Eh ρ.length k y) (λ_ _=>True))/\p7 E ρ
theorem Uj{f:pF}{t:TA}{pa:pA}{t5 t6:TT}{u5:TS}{p5 p6:pT}{tx tz:TE}{px pz:pE}{t7:TS}{p7:pS}{k:Nat}(h2:GI t pa)(h5:Du t5 p5)(h6:Du t6 p6)(hx:BO tx px)(hz:BO tz pz)(h7:Dx t7 p7) :
  Dx (Fj (Dm (EL (AJ f) [] E0 t) (CK k)) (Fj (Hj t5 u5 Hh) (Fj (Hj t6 (Fk (Dr Kf "list" F5 tx (Bl tz CC))) Hh) t7))) (Nw k f pa p5 p6 px pz p7):=λW ρ σ H D E ok hk r =>
 h2 W ρ σ H _ _ ok hk λxs vs H1 h1 s1 r1=>by
  have ok1:=ok.step s1
  show AJ f (vs++[]) H1 _ E0
  rw[append_nil]
  refine⟨W.b,W.a,_,_,s1.bag,(r1.any ok1),h1,λy v H2 k1 s2 r2=>?_⟩
  obtain⟨ke,k1⟩:=k1
  have kl:k<ρ.length:=(List.getElem?_eq_some_iff.mp ke).1
  have rf:RF W ρ σ H1 .nw H2 y v:=⟨r2.keep (λp o hz e=>⟨λz=>hz (ok1.dom (f:=.fr) z),e⟩) λp vs e=>e,λm=>by
   cases y with
   |lst xs=>obtain⟨p,us,e,z,_⟩:=r2;exact⟨p,e,Classical.not_not.mp z⟩
   |dT ks xs=>obtain⟨p,us,e,z,_⟩:=r2;exact⟨p,e,Classical.not_not.mp z⟩
   |fT ks xs=>obtain⟨p,us,e,z,_⟩:=r2;exact⟨p,e,Classical.not_not.mp z⟩
   |dK ks xs=>obtain⟨p,us,e,z,_⟩:=r2;exact⟨p,e,Classical.not_not.mp z⟩
   |_=>cases m⟩
  obtain⟨ρ1,k2,ok2⟩:=Ok.set (k:=k) ok1 s2 rf k1
  refine h5 W ρ1 _ H2 _ _ ok2 k2 λb H3 ⟨eb,k3⟩ s3=>?_
  subst eb
  have ok3:=ok2.step s3
  refine h6 W ρ1 _ H3 _ _ ok3 k3 λc H4 ⟨kc,k4⟩ s4=>?_
  have s14:Step W.b W.a H1 H4:=(s2.trans s3).trans s4
  cases c with
  |false=>exact h7 W ρ _ H4 D E ((ok1.step s14).hide ke) k4 r
  |true =>
   obtain⟨gx,gz⟩:=kc rfl
   have no:∀(i:Nat) x,(Eh ρ.length k y)[i]?≠some (S.own x):=λi x e=>by
    by_cases hi:k=i
    ·subst hi;rw[getElem?_set_self (by rw[length_replicate];exact kl)]at e;cases e
    ·rw[getElem?_set_ne hi]at e
     have:=eq_of_mem_replicate (mem_of_getElem? e)
     cases this
   have s24:Step W.b W.a H2 H4:=s3.trans s4
   have hb1:∀p,¬H1 p≠none->p≠W.b:=λp z=>s1.bag.nb (Classical.not_not.mp z)
   have okw:Ok ⟨W.b,W.a,H1,λ_=>none,λ_=>False⟩ (Eh ρ.length k y) (σ.set k (some v)) H4:={
    bag:=s14.bag,fb:=rfl,old:=λp o nb e=>s14.same p o nb e,frm:=λp o e=>(nomatch e),oo:=λp z=>z.elim,
    len:=by rw[length_set,length_set,length_replicate];exact ok.len
    slot:=λi s e=>by
     by_cases hi:k=i
     ·subst hi
      rw[getElem?_set_self (by rw[length_replicate];exact kl)]at e
      cases e
      refine⟨_,getElem?_set_self (by rw[ok.len];exact kl),v,rfl,r2.keep (λp o hz e=>⟨λz=>?_,s24.same p o (hb1 p hz) e⟩) λp vs e=>s24.same p _ (s2.bag.neT e).1 e⟩
      rcases z with z|(z|⟨i,x,z,_⟩)|z
      ·exact hb1 p hz z
      ·exact z
      ·exact no i x z
      ·exact hz z
     ·rw[getElem?_set_ne hi]at e
      have il:i<ρ.length:=by
       have:=(List.getElem?_eq_some_iff.mp e).1
       rw[length_replicate]at this;exact this
      have es:=eq_of_mem_replicate (mem_of_getElem? e)
      subst es
      exact⟨_,getElem?_eq_getElem (by rw[length_set,ok.len];exact il),trivial⟩
    uniq:=λi j x y e=>absurd e (no i x) }
   refine hx _ _ _ _ _ _ okw gx λx g vx H5 ⟨eg,ys,ex,yl⟩ s5 r5=>?_
   subst eg ex
   obtain⟨p,us,rfl,nz,hp,ru⟩:=r5
   refine⟨.inl ⟨rfl,us,.of hp⟩,hz _ _ _ _ _ _ (okw.step s5) gz λx2 f2 v2 H6 _ s6 r6=>?_⟩
   have nb:p≠W.b:=λz=>nz (.inl z)
   have n1:H1 p=none:=Classical.byContradiction λz=>nz (.inr (.inr z))
   have hp6:=s6.same p _ nb hp
   refine⟨p,us,v2,rfl,rfl,hp6,by rw[<-ru.length];exact yl,?_⟩
   have s16:Step W.b W.a H1 H6:=(s14.trans s5).trans s6
   have s17:Step W.b W.a H1 (AE H6 p (.lst (us++[v2]))):=⟨s16.bag.put nb (s1.bag.na n1),λq o nq e=>by rw[AV (A7 e n1)];exact s16.same q o nq e⟩
   exact h7 W ρ _ _ D E ((ok1.step s17).hide ke) k4 r
section
variable{ι:Type}{Xs:ι->Cx}
theorem Uk(hK:∀i,(Xs i).K=Kf){y:Str}{l k:Nat}{f:pF}{p pos2 pos3 ipos1 ipos2:Pos}{e ex ez c5 c6:Expr}{pa:pA}{s5 s7:List Stmt}{p5 p6:pT}{q5 p7:pS}{px pz:pE}(hN:∀i,(Xs i).N.Nodup)
  (G:∀i,Fn (Xs i).prog (Xs i).w (Xs i).K (Xs i).mg (Xs i).base x l ps (AJ f)) (hr:∀i,Room l (Xs i).A) (ha:QA Xs (e::es) pa) (h5:QT Xs c5 p5) (g5:BF Xs s5 q5) (h6:QT Xs c6 p6) (hx:QE Xs ex px) (hz:QE Xs ez pz) (h7:BF Xs s7 p7)
  (hg:∀i,Gl (Xs i) x:=by intro _;rfl) (hdb:(x==("__debug__":Str))=false:=by decide +kernel) (he:∀i,starEach (e::es) (Xs i).env=(false,eval e (Xs i).env)::starEach es (Xs i).env:=by intro _;rfl) (hpl:∀i,(backTo pos (starEach es (Xs i).env)).any (·.1)=false:=by intro _;rfl)
  (hi:∀i,(Xs i).N[k]?=some y:=by intro _;rfl) (hl:∀i,DQ (Xs i).env.scope y:=by intro _;trivial)
  (hs:∀i,swapsWith (.Call (.Name x p) (e::es) [] pos) (some (.Name y pos')) pos2.line (Xs i).env=pure false:=by intro _;rfl) (hf:∀i,(Xs i).fn y=true\/(Xs i).env.scope.names.lookup y=some .local:=by intro _;trivial)
  (hln:(qI.endLine==qH.line)=true:=by rfl) (hs2:∀i,swapsWith (.Call (.Attribute ex "append" qI) [ez] [] qH) none pos3.line (Xs i).env=pure false:=by intro _;rfl)
  (hb:∀i,attributeBase ex "append" (Xs i).env (eval ex (Xs i).env)=eval ex (Xs i).env:=by intro _;rfl)
  (hst:∀i,starEach [ez] (Xs i).env=[(false,eval ez (Xs i).env)]:=by intro _;rfl) :
  BF Xs (.Assign [.Name y pos'] (.Call (.Name x p) (e::es) [] pos) pos2::.If c5 s5 [] ipos1::.If c6 [.Expr (.Call (.Attribute ex "append" qI) [ez] [] qH) pos3] [] ipos2::s7) (Nw k f pa p5 p6 px pz p7):=by
 obtain⟨t,a1,a2⟩:=ha
 obtain⟨t5,b1,b2⟩:=h5
 obtain⟨u5,v1,_⟩:=g5
 obtain⟨t6,c1,c2⟩:=h6
 obtain⟨tx,d1,d2⟩:=hx
 obtain⟨tz,e1,e2⟩:=hz
 obtain⟨t7,f1,f2⟩:=h7
 refine⟨_,λi=>?_,Uj (Kf:=Kf) (u5:=u5) a2 b2 c2 d2 e2 f2⟩
 have app:PS (Xs i) (.Expr (.Call (.Attribute ex "append" qI) [ez] [] qH) pos3) (Fk (Dr Kf "list" F5 tx (Bl tz CC))):=by
  rw[<-hK i]
  exact Hi (Ds PySem.F.plainAttrs_list PySem.F.slot_list_append PySem.F.type_list_append F6 (d1 i) (Ad (e1 i) Ay (hst i)) (hb i) (by rw[hst i];rfl) hln (hst i) rfl) (hs2 i)
 exact BG (Bs (hN i) (hi i) (hl i) (DX (G i) (hr i) (hg i) (a1 i) hdb (he i) (hpl i)) (hs i) (hf i)) (BG (Dl (b1 i) (v1 i) Dk) (BG (Dl (c1 i) (CB app) Dk) (f1 i)))
end
section
variable{qG oroom uni:List Str}{t u:Tl}
end
end L2
namespace L2
end L2
namespace L2
theorem A4{α:Type}(x:α)(r:List α):atI (x::r) 0=some x:=Bx (j:=0) rfl
theorem Cc{α:Type}(x y:α)(r:List α):atI (x::y::r) 1=some y:=Bx (j:=1) rfl
end L2
namespace L2
open PySem
section
variable{qG oroom uni:List Str}{t u J:Tl}
theorem Ul{a b:List Int}(h:HT.lexLt b a=false)(ne:a≠b):HT.lexLt a b=true:=by
 cases e:HT.lexLt a b with
 |true=>rfl
 |false=>exact absurd (E4 _ _ e h) ne
theorem Um{l:List (List Int)}(s:CY l)(nd:l.Nodup):C1 l=true:=by
 rw[NR]
 intro k a b ha hb
 have hk:=(List.getElem?_eq_some_iff.mp ha)
 have hk1:=(List.getElem?_eq_some_iff.mp hb)
 have p:=pairwise_iff_getElem.mp s k (k+1) hk.1 hk1.1 (Nat.lt_succ_self k)
 rw[hk.2,hk1.2]at p
 refine Ul p λe=>?_
 have:=(getElem_inj nd).mp (show l[k]'hk.1=l[k+1]'hk1.1 by rw[hk.2,hk1.2,e])
 lia
end
end L2
namespace L2
end L2
namespace L2
open PySem
end L2
namespace L2
open PySem PyProof.Rows
noncomputable abbrev sg(x:Str):List Nat:=x.cps.toList
theorem Nx{c:Nat}:∀{p w a b:List Nat},c∉p->c∉w->p++c::a=w++c::b->p=w/\a=b
 |[],[],a,b,_,_,h=>⟨rfl,(List.cons.inj h).2⟩
 |[],y::w,a,b,_,hw,h=>absurd (List.cons.inj h).1 λe=>hw (by rw[e];exact mem_cons_self)
 |x::p,[],a,b,hp,_,h=>absurd (List.cons.inj h).1 λe=>hp (by rw[<-e];exact mem_cons_self)
 |x::p,y::w,a,b,hp,hw,h=>by
  obtain⟨e,h⟩:=List.cons.inj h
  obtain⟨e1,e2⟩:=Nx (λz=>hp (mem_cons_of_mem _ z)) (λz=>hw (mem_cons_of_mem _ z)) h
  exact⟨by rw[e,e1],e2⟩
theorem C2(x y:Str):sg (x++y)=sg x++sg y:=Array.toList_append
theorem G2(c:Nat)(x y:Str)(r:List Str):sg (Str.join ⟨#[c]⟩ (x::y::r))=sg x++c::sg (Str.join ⟨#[c]⟩ (y::r)):=by
 show sg (x++⟨#[c]⟩++Str.join ⟨#[c]⟩ (y::r))=_
 rw[C2,C2,append_assoc]
 rfl
theorem G4{y:Str}(h:sg x=sg y):x=y:=PyProof.Rows.ext_toList h
theorem Ny(c:Nat):∀{ps ws:List Str},ps≠[]->ws≠[]->(∀p∈ps,c∉sg p)->(∀w∈ws,c∉sg w)->Str.join ⟨#[c]⟩ ps=Str.join ⟨#[c]⟩ ws->ps=ws
 |[],_,h,_,_,_,_=>absurd rfl h
 |_::_,[],_,h,_,_,_=>absurd rfl h
 |[p],[w],_,_,_,_,e=>by rw[show p=w from e]
 |[p],w::w'::r,_,_,hp,_,e=>by
  have e1:=congrArg sg e
  rw[G2]at e1
  exact absurd (show c∈sg p by rw[show sg p=_ from e1];simp) (hp p (by simp))
 |p::p'::r,[w],_,_,_,hw,e=>by
  have e1:=congrArg sg e
  rw[G2]at e1
  exact absurd (show c∈sg w by rw[show sg w=_ from e1.symm];simp) (hw w (by simp))
 |p::p'::r,w::w'::r',_,_,hp,hw,e=>by
  have e1:=congrArg sg e
  rw[G2,G2]at e1
  obtain⟨h1,h2⟩:=Nx (hp p (by simp)) (hw w (by simp)) e1
  rw[G4 h1,Ny c (ps:=p'::r) (ws:=w'::r') (by simp) (by simp) (λx hx=>hp x (mem_cons_of_mem _ hx)) (λx hx=>hw x (mem_cons_of_mem _ hx)) (G4 h2)]
theorem Uo(x y:Str):Txt.split x y≠[]:=by
 unfold Txt.split
 split
 ·simp
 ·split
  ·simp
  ·intro h
   have:=congrArg length h
   rw[PySem.length_partsBetween]at this
   simp at this
theorem Jo{c:Nat}{ws:List Str}(ne:ws≠[])(h:∀w∈ws,c∉sg w):Txt.split (Txt.join ⟨#[c]⟩ ws) ⟨#[c]⟩=ws:=by
 rw[beq_iff_eq.mp (join_plain_closes _ _)]
 exact Ny c (Uo _ _) ne (StrLaws.split_free _ c) h (StrLaws.join_split _ _)
theorem Uq{c:Nat}{a b:Str}(h:c∉sg a):∃r,Builtin.Str.occurrences (a++⟨#[c]⟩++b) ⟨#[c]⟩ 0 (a++⟨#[c]⟩++b).length 1=a.length::r/\Builtin.Str.strSub (a++⟨#[c]⟩++b) 0 a.length=a/\Builtin.Str.strSub (a++⟨#[c]⟩++b) (a.length+1) (a++⟨#[c]⟩++b).length=b:=by
 have e:sg (a++⟨#[c]⟩++b)=sg a++c::sg b:=by rw[C2,C2,append_assoc];rfl
 have la:(sg a).length=a.length:=Array.length_toList
 have lz:(a++⟨#[c]⟩++b).length=a.length+1+b.length:=by
  show(a++⟨#[c]⟩++b).cps.size=_
  rw[<-Array.length_toList,show(a++⟨#[c]⟩++b).cps.toList=_ from e,length_append,length_cons,la]
  have:(sg b).length=b.length:=Array.length_toList
  lia
 have lb:(sg b).length=b.length:=Array.length_toList
 have at':∀i,StrLaws.At (a++⟨#[c]⟩++b) ⟨#[c]⟩ (a++⟨#[c]⟩++b).length i↔(sg a++c::sg b)[i]?=some c:=λi=>by
  rw[<-e];exact StrLaws.subAt_one _ c i
 refine⟨[],?_,?_,?_⟩
 ·rcases StrLaws.occ_head (a++⟨#[c]⟩++b) ⟨#[c]⟩ 1 (Nat.le_refl _)with⟨h0,hn⟩|⟨i,r,h0,hi,hn⟩
  ·exact absurd ((at' a.length).mpr (by rw[getElem?_append_right (by lia),la,Nat.sub_self];rfl)) (hn _)
  ·have hl:=StrLaws.occ_length_le (a++⟨#[c]⟩++b) ⟨#[c]⟩ 0 (a++⟨#[c]⟩++b).length 1
   rw[h0,length_cons]at hl
   have:r=[]:=length_eq_zero_iff.mp (by lia)
   subst this
   have h1:¬i<a.length:=λz=>h (mem_of_getElem? (by have:=(at' i).mp hi;rwa [getElem?_append_left (by lia)]at this))
   have h2:¬a.length<i:=λz=>hn _ z ((at' a.length).mpr (by rw[getElem?_append_right (by lia),la,Nat.sub_self];rfl))
   rw[h0,show i=a.length by lia]
 ·refine G4 ?_
  show(Builtin.Str.strSub _ _ _).cps.toList=_
  rw[StrLaws.strSub_toList,show(a++⟨#[c]⟩++b).cps.toList=_ from e,drop_zero,Nat.sub_zero,take_append_of_le_length (by lia),take_of_length_le (by lia)]
 ·refine G4 ?_
  show(Builtin.Str.strSub _ _ _).cps.toList=_
  rw[StrLaws.strSub_toList,show(a++⟨#[c]⟩++b).cps.toList=_ from e,lz,drop_append,la,drop_of_length_le (by lia),show a.length+1 - a.length=1 by lia,nil_append]
  show(sg b).take _=_
  rw[take_of_length_le (by lia)]
theorem G5(m:Nat):sg (AR (m:Int))=(Nat.toDigits 10 m).map Char.toNat:=PySem.W.KIN.signs_num m
theorem Jp(m:Nat):sg (AR (m:Int))≠[]:=by
 rw[G5]
 intro e
 have:=PySem.toDigits_len_ge 10 m
 rw[map_eq_nil_iff.mp e]at this
 exact absurd this (by decide)
theorem FX(m:Nat):∀c∈sg (AR (m:Int)),48<=c/\c<=57:=by
 intro c hc
 rw[G5]at hc
 obtain⟨ch,hch,rfl⟩:=mem_map.mp hc
 exact digit_range (Nat.isDigit_of_mem_toDigits (by decide) (by decide) hch)
theorem Ur:∀m:Nat,(Nat.toDigits 10 m).head?=some '0'->m=0:=by
 intro m
 induction m using Nat.strongRecOn with
 |ind m ih =>
  intro h
  by_cases hm:m<10
  ·rw[Nat.toDigits_of_lt_base hm]at h
   have:∀d:_root_.Fin 10,Nat.digitChar d.val='0'->d.val=0:=by decide
   exact this ⟨m,hm⟩ (by simpa using h)
  ·rw[Nat.toDigits_of_base_le (by decide) (by lia)]at h
   have h2:(Nat.toDigits 10 (m / 10)).head?=some '0':=by
    cases e:Nat.toDigits 10 (m / 10)with
    |nil=>have:=PySem.toDigits_len_ge 10 (m / 10);rw[e]at this;exact absurd this (by decide)
    |cons x r=>rw[e]at h;simpa using h
   have:=ih (m / 10) (by lia) h2
   lia
theorem Ei(h:m<10 ^ 13):(AR (m:Int)).length<=13:=PyProof.Rows.toString_length_le (k:=13) (by lia) (by decide) (by lia)
theorem Ut(m:Nat):1<=(AR (m:Int)).length:=by
 have:(sg (AR (m:Int))).length=(AR (m:Int)).length:=Array.length_toList
 have h:=Jp m
 rw[<-this]
 exact length_pos_iff.mpr h
theorem Nz(h:m<10 ^ 13):intText? (AR (m:Int))=some (m:Int):=by
 have e:=PySem.intText_digits (x:=AR (m:Int)) (FX m) (Jp m) (Nat.le_trans (Ei h) (by decide))
 rw[show(AR (m:Int)).cps.toList=_ from G5 m,PySem.W.KIN.val_back]at e
 exact e
theorem Uu(h:m<10):AR (m:Int)=⟨#[48+m]⟩:=by
 have:∀d:_root_.Fin 10,AR (d.val:Int)=⟨#[48+d.val]⟩:=by decide +kernel
 exact this ⟨m,h⟩
theorem Jq{x:P}(h:x.imm=true):As x f=.nw:=by cases f<;>simp[As,h]
theorem A5{k:Nat}{x:P}{K:List S->Prop}(h:x.imm=true)(q:K (ρ.set k (.sh x))):A9 k x f ρ K:=by unfold A9;rw[if_pos h];exact q
theorem Uv{K:List S->Prop}(h:K ((ρ.set i (.sh (Ae q.1))).set j (.sh (.int q.2)))):FC [i,j] (Ba q) f ρ K:=⟨_,rfl,rfl,A5 (Dd _) (A5 rfl h)⟩
theorem A6{x:P}(h:x.imm=true):Cu x f=true:=by unfold Cu;rw[h];rfl
theorem Dg{x:P}:Cu x .nw=true:=by unfold Cu;exact Bool.or_true _
theorem Ej(ns:List Str):(BA ns).imm=true:=by simp
end L2
open PySem L2
local macro_rules
 |`(tactic| simp_arith only[$ls,*] $[$l:location]?)=>`(tactic| simp only[Aq,GJ,Lh,Lg,Im,MA,L9,MC,MB,Cs,pK,Cg,DZ,Lp,Lq,Lr,Ls,Lu,GM,L1,Lz,Ly,L0,Ig,A9,MG,Ih,p1,Iw,Ix,Iy,CW,CT,L2.ST,EV,P.isNon,FH,MP,FI,EW,JB,MZ,JG,Mg,Md,Mf,Gm,Mk,frzS,CV,Lj,Lk,BX,As,Fl.join,Fl.el,Fl.top,B5,Cu,D0,Ch,Iz,I0,JO,Mu,Mx,Gp,M3,JY,JZ,Ji,M5,FC,GQ,Il,Jj,Nj,Nk,Nl,Jm,Uc,isEmpty_cons,isEmpty_nil,replicate,map_cons,map_nil,length_cons,length_nil,cons_append,nil_append,getElem?_cons_zero,getElem?_cons_succ,set_cons_zero,set_cons_succ,getElem?_nil,Option.getD_some,Option.getD_none,Nat.reduceAdd,Nat.reduceSub,Nat.sub_self,Nat.zero_add,if_true,if_false,Bool.false_eq_true,exists_eq_left,exists_eq_left',ite_self,exists_and_left,exists_and_right,exists_eq,exists_eq',exists_const,and_true,true_and,Option.some.injEq,P.int.injEq,P.str.injEq,P.bl.injEq,P.tup.injEq,P.lst.injEq,P.fT.injEq,List.cons.injEq,Prod.mk.injEq,ne_eq,reduceCtorEq,not_false_eq_true,decide_true,decide_false,Bool.true_or,Bool.or_true,Bool.false_or,Bool.or_false,Bool.and_true,Bool.true_and,Bool.and_false,Bool.false_and,Bool.not_true,Bool.not_false,UV,UW,UX,UY,UZ,Nu,RH,RI,RJ,RK,RL,RM,RN,RO,RP,RQ,Lf,RR,IV,RS,TD,M6,Dd,Gq,RT,RU,RV,RW,RX,RY,Ma,Mb,SV,SW,SX,SY,SZ,Sa,TH,M7,TF,all_cons,all_nil,Sl,JQ,M8,M9,ND,NE,NF,Bool.not_eq_true',decide_eq_false_iff_not,decide_eq_true_eq,$ls,*] $[$l]?)
local macro_rules
 |`(tactic| simp_arith[$ls,*] $[$l:location]?)=>`(tactic| simp_arith only[TX,TY,TZ,Ta,length_map,exists_prop,and_assoc,forall_const,forall_eq,forall_eq_apply_imp_iff,$ls,*] $[$l]?)
namespace K
open PySem L2
noncomputable def top(i:Nat):Stmt:=PySem.Challenge.pw_roomtally_k38_deeds_written_and_read.main.body.getD i (.Pass ⟨0,0,0,0⟩)
noncomputable abbrev G6:Stmt:=top 7
theorem Uw:FnScope ["text"] ["text"] (AN G6):=⟨rfl,rfl,rfl,nofun,rfl,nofun,nofun⟩
noncomputable abbrev Ek:Stmt:=top 8
theorem N0:FnScope ["things"] ["things"] (AN Ek):=⟨rfl,rfl,rfl,nofun,rfl,nofun,nofun⟩
noncomputable abbrev G7:Stmt:=top 9
theorem Ux:FnScope ["names"] ["names"] (AN G7):=⟨rfl,rfl,rfl,nofun,rfl,nofun,nofun⟩
noncomputable abbrev G8:Stmt:=top 10
theorem Uy:FnScope ["room","row"] ["room","row"] (AN G8):=⟨rfl,rfl,rfl,nofun,rfl,nofun,nofun⟩
noncomputable abbrev FY:Stmt:=top 12
theorem Uz:FnScope ["room","rows"] ["room","rows"] (AN FY):=⟨rfl,rfl,rfl,nofun,rfl,nofun,nofun⟩
noncomputable abbrev Jr:Stmt:=top 15
theorem U0:FnScope ["room"] ["room"] (AN Jr):=⟨rfl,rfl,rfl,nofun,rfl,nofun,nofun⟩
noncomputable abbrev G9:Stmt:=top 16
theorem U1:FnScope ["row"] ["row"] (AN G9):=⟨rfl,rfl,rfl,nofun,rfl,nofun,nofun⟩
noncomputable abbrev HA:Stmt:=top 17
theorem U2:FnScope ["rows"] ["rows"] (AN HA):=⟨rfl,rfl,rfl,nofun,rfl,nofun,nofun⟩
noncomputable abbrev Js:Stmt:=top 18
theorem N1:FnScope ["deed","word"] ["deed"] (AN Js):=⟨rfl,rfl,rfl,nofun,rfl,nofun,nofun⟩
noncomputable abbrev Jt:Stmt:=top 19
theorem U3:FnScope ["sign"] ["sign"] (AN Jt):=⟨rfl,rfl,rfl,nofun,rfl,nofun,nofun⟩
noncomputable abbrev Ju:Stmt:=top 20
theorem U4:FnScope ["word"] ["word"] (AN Ju):=⟨rfl,rfl,rfl,nofun,rfl,nofun,nofun⟩
noncomputable abbrev Jv:Stmt:=top 21
theorem N2:FnScope ["word","room"] ["word"] (AN Jv):=⟨rfl,rfl,rfl,nofun,rfl,nofun,nofun⟩
noncomputable abbrev FZ:Stmt:=top 22
theorem N3:FnScope ["word","answers"] ["word"] (AN FZ):=⟨rfl,rfl,rfl,nofun,rfl,nofun,nofun⟩
noncomputable abbrev HB:Stmt:=top 23
theorem U5:FnScope ["word"] ["word"] (AN HB):=⟨rfl,rfl,rfl,nofun,rfl,nofun,nofun⟩
noncomputable abbrev Jw:Stmt:=top 24
theorem El:FnScope ["room","words","rows","word","row","sign","count"] ["room","words"] (AN Jw):=⟨rfl,rfl,rfl,nofun,rfl,nofun,nofun⟩
noncomputable abbrev Jx:Stmt:=top 25
theorem HC:FnScope ["line","words","word","room"] ["line"] (AN Jx):=⟨rfl,rfl,rfl,nofun,rfl,nofun,nofun⟩
noncomputable abbrev Jy:Stmt:=top 27
theorem U6:FnScope ["_law_found"] ["_law_found"] (AN Jy):=⟨rfl,rfl,rfl,nofun,rfl,nofun,nofun⟩
noncomputable abbrev HD:Stmt:=top 28
theorem U7:FnScope ["_law_found"] ["_law_found"] (AN HD):=⟨rfl,rfl,rfl,nofun,rfl,nofun,nofun⟩
noncomputable abbrev Jz:Stmt:=top 29
theorem N4:FnScope ["_law_found","_law_due","_law_k"] ["_law_found","_law_due"] (AN Jz):=⟨rfl,rfl,rfl,nofun,rfl,nofun,nofun⟩
noncomputable abbrev J0:Stmt:=top 30
theorem HE:FnScope ["_law_script","_law_salt","_law_one"] ["_law_script"] (AN J0):=⟨rfl,rfl,rfl,nofun,rfl,nofun,nofun⟩
noncomputable abbrev J1:Stmt:=top 31
theorem Em:FnScope ["_law_bag_here","_law_many_here","_law_seed","_law_mixed","_law_drawn_here"] ["_law_bag_here","_law_many_here"] (AN J1):=⟨rfl,rfl,rfl,nofun,rfl,nofun,nofun⟩
noncomputable abbrev HF:Stmt:=top 32
theorem N5:FnScope ["_law_bag_here","_law_size","_law_letters"] ["_law_bag_here","_law_size"] (AN HF):=⟨rfl,rfl,rfl,nofun,rfl,nofun,nofun⟩
noncomputable abbrev J3:Stmt:=top 33
theorem Dh:FnScope ["_law_bag_here","_law_many_here","_law_letters","_law_found","_law_start","_law_k","_law_word_here","_law_step"] ["_law_bag_here","_law_many_here"] (AN J3):=⟨rfl,rfl,rfl,nofun,rfl,nofun,nofun⟩
noncomputable abbrev HG:Stmt:=top 34
theorem U8:FnScope ["_law_bag_here","_law_size","_law_base"] ["_law_bag_here","_law_size","_law_base"] (AN HG):=⟨rfl,rfl,rfl,nofun,rfl,nofun,nofun⟩
noncomputable abbrev J4:Stmt:=top 35
theorem U9:FnScope ["_law_bag_here"] ["_law_bag_here"] (AN J4):=⟨rfl,rfl,rfl,nofun,rfl,nofun,nofun⟩
noncomputable abbrev HH:Stmt:=top 36
theorem VA:FnScope ["_law_counts"] ["_law_counts"] (AN HH):=⟨rfl,rfl,rfl,nofun,rfl,nofun,nofun⟩
noncomputable abbrev J5:Stmt:=top 37
theorem HI:FnScope ["_law_bag_here","_law_room","_law_counts","_law_base","_law_k"] ["_law_bag_here","_law_room"] (AN J5):=⟨rfl,rfl,rfl,nofun,rfl,nofun,nofun⟩
noncomputable abbrev HJ:Stmt:=top 38
theorem D7:FnScope ["_law_bag_here","_law_names_here","_law_name","_law_row","_law_count","_law_way","_law_rows"] ["_law_bag_here"] (AN HJ):=⟨rfl,rfl,rfl,nofun,rfl,nofun,nofun⟩
noncomputable abbrev J6:Stmt:=top 39
theorem VB:FnScope ["_law_room"] ["_law_room"] (AN J6):=⟨rfl,rfl,rfl,nofun,rfl,nofun,nofun⟩
noncomputable abbrev HK:Stmt:=top 40
theorem VC:FnScope ["_law_row"] ["_law_row"] (AN HK):=⟨rfl,rfl,rfl,nofun,rfl,nofun,nofun⟩
noncomputable abbrev HL:Stmt:=top 41
theorem VD:FnScope ["_law_rows"] ["_law_rows"] (AN HL):=⟨rfl,rfl,rfl,nofun,rfl,nofun,nofun⟩
noncomputable abbrev J7:Stmt:=top 42
theorem J8:FnScope ["_law_deed","_law_words","_law_part"] ["_law_deed"] (AN J7):=⟨rfl,rfl,rfl,nofun,rfl,nofun,nofun⟩
noncomputable abbrev J9:Stmt:=top 43
theorem KA:FnScope ["_law_found","_law_due","_law_one","_law_other"] ["_law_found","_law_due"] (AN J9):=⟨rfl,rfl,rfl,nofun,rfl,nofun,nofun⟩
noncomputable abbrev D8:Stmt:=top 44
theorem Fa:FnScope ["_law_script","_law_bag_here","_law_deed","_law_line","_law_found"] ["_law_script"] (AN D8):=⟨rfl,rfl,rfl,nofun,rfl,nofun,nofun⟩
section
variable{b D:Addr}
structure StepD(b a D:Addr)(H H':Hp):Prop where
 bag:Bag H' b a
 same:∀p o,p≠b->p≠D->H p=some o->H' p=some o
 nb:D≠b
 na:D≠a
theorem StepD.new(h:Bag H b a)(n:H D=none):StepD b a D H (AE H D o) :=
 ⟨h.new n,λp u _ _ e=>by rw[AV (A7 e n)];exact e,h.nb n,h.na n⟩
theorem StepD.step(s:StepD b a D H H1)(t:Step b a H1 H2):StepD b a D H H2:=⟨t.bag,λp u n1 n2 e=>t.same p u n1 (s.same p u n1 n2 e),s.nb,s.na⟩
theorem StepD.put(s:StepD b a D H H1):StepD b a D H (AE H1 D o):=⟨s.bag.put s.nb s.na,λp u n1 n2 e=>by rw[AV n2];exact s.same p u n1 n2 e,s.nb,s.na⟩
theorem StepD.out(s:StepD b a D H H1)(n:H D=none):Step b a H H1:=⟨s.bag,λp u n1 e=>s.same p u n1 (A7 e n) e⟩
end
def HM(K:Fg):Sp:=λvs H Q _=>∃(a:Addr) (ns:List Int),vs=[.ref a]/\Am K H a (ns.map V.int)/\∀(b a':Addr) (H':Hp),H b=none->H a'=none->Bag H' b a'->B0 H H'->Q (.ref b) H'
def HN:Sp:=λvs H Q _=>∃(b a:Addr) (m:Int),vs=[.ref b,.int m]/\Bag H b a/\0<m/\m<2 ^ 64/\∀(r:Int) (H':Hp),0<=r->r<m->Step b a H H'->Q (.int r) H'
def N6(x:Str):Prop:=∀c∈x.cps.toList,97<=c/\c<=122
def N7:Sp:=λvs H Q _=>∃(b a:Addr) (n:Int),vs=[.ref b,.int n]/\Bag H b a/\0<=n/\n<=1000/\∀(x:Str) (H':Hp),(x.length:Int)=n->N6 x->Step b a H H'->Q (.str x) H'
section
variable{P:Program}{K:Fg}
structure TxtB(mg:Str->Option Value):Prop where
 b_len:mg "len"=none
 b_list:mg "list"=none
 b_range:mg "range"=none
 b_isinstance:mg "isinstance"=none
 b_bool:mg "bool"=none
 b_int:mg "int"=none
 b_tuple:mg "tuple"=none
 b_all:mg "all"=none
 b_any:mg "any"=none
 b_sorted:mg "sorted"=none
 b_set:mg "set"=none
 b_sum:mg "sum"=none
 b_dict:mg "dict"=none
 b_zip:mg "zip"=none
 b_min:mg "min"=none
 b_max:mg "max"=none
theorem N8(ns:List Int):CN (ns.map V.int) none (some 63)=(ns.take 63).map V.int:=by
 unfold CN
 rw[map_take]
 simp[HT.sIx]
theorem VE(D:Ao K mg "_law_bag" J0)(T:TxtB mg):Fn P w K mg base "_law_bag" 1 ["_law_script"] (HM K):=by
 refine E3 D HE (λ_ _ _ _ _ _ us hl=>BD hl (λ_=>rfl)) (λvs H Q E h=>?_) (λf cdv A outer s H vs Q E hr h=>?_)
 ·obtain⟨a,ns,rfl,_⟩:=h;rfl
 ·obtain⟨a,ns,rfl,hS,k⟩:=h
  refine⟨_,(BG (Bs (i:=1) HE.nd rfl (Or.inl rfl) (EN IQ (by rfl) T.b_len nofun (Ad (Ez F3 (pv 0) Ew (Ey AX)) Ay)))
 (BG (Ft PassesOwn.never rfl (Kc (Ez F3 (pv 0) Ew (Ey AX))) (A8 (i:=2) HE.nd rfl (Or.inl rfl))
 (CB (Bs (i:=1) HE.nd rfl (Or.inl rfl) (BE EI (BE EG (BE Ev (pv 1) AX) (pv 2)) AX))))
 (CB (ED (F0 (Ad (Ko LU (by rfl) T.b_list nofun (Ad (Ez F3 (pv 0) Ew (Ey AX)) Ay)) (Ad AX (Ad AX (Ad (pv 1) Ay))))))))),?_⟩
  refine⟨_,rfl,63,rfl,a,ns.map V.int,rfl,hS,λp hp=>?_⟩
  have s1:B0 H (AE H p (.lst (CN (ns.map V.int) none (some 63)))):=λb o e=>by rw[AV (A7 e hp)];exact e
  refine⟨p,_,rfl,Al,?_⟩
  refine⟨_,rfl,63,rfl,a,ns.map V.int,rfl,s1.seq hS,λp2 hp2=>?_⟩
  rw[N8]at *
  have s2:B0 H (AE (AE H p (.lst ((ns.take 63).map V.int))) p2 (.lst ((ns.take 63).map V.int))):=s1.trans λb o e=>by rw[AV (A7 e hp2)];exact e
  refine⟨p2,rfl,⟨_,.of Al⟩,Pb (K:=K) (a:=p2) (xs:=(ns.take 63).map V.int) (λi σ H2=>∃(z:Int) (v:Option V),σ=[some (.ref a),some (.int z),v]/\B0 H H2/\H2 p2=some (.lst ((ns.take 63).map V.int)))
   ⟨_,_,rfl,s2,Al⟩ (λi σ H2 _ ⟨_,_,_,_,e⟩=>.of e) ?_ ?_⟩
  ·rintro i y σ H2 hi ⟨z,v,rfl,s3,e3⟩
   obtain⟨n,hn,rfl⟩:∃n,(ns.take 63)[i]?=some n/\y=V.int n:=by
    rw[getElem?_map]at hi
    cases e:(ns.take 63)[i]? with
    |none=>rw[e]at hi;cases hi
    |some n=>rw[e]at hi;exact⟨n,rfl,(oI hi).symm⟩
   simp[Dm,CK,EF,rI,Bu,DR,tC,Eu]
   exact⟨s3,by simpa[map_take]using e3⟩
  ·rintro σ H2 ⟨z,v,rfl,s3,e3⟩
   refine⟨_,rfl,63,rfl,a,ns.map V.int,rfl,s3.seq hS,λp3 hp3=>?_⟩
   refine⟨p3,_,rfl,.inl Al,λp4 hp4=>⟨_,rfl,(by show 4<=sizeLine;decide),λb hb=>?_⟩⟩
   rw[N8]at *
   have s4:B0 H2 (AE H2 p3 (.lst ((ns.take 63).map V.int))):=λb o e=>by rw[AV (A7 e hp3)];exact e
   have s5:=s4.trans (λb o e=>by rw[AV (A7 e hp4)];exact e:B0 _ (AE (AE H2 p3 (.lst ((ns.take 63).map V.int))) p4 (.lst ((ns.take 63).map V.int))))
   have s6:B0 _ (AE (AE (AE H2 p3 (.lst ((ns.take 63).map V.int))) p4 (.lst ((ns.take 63).map V.int))) b (.lst [.ref p4,.int 0,.int 0,.int z])):=λc o e=>by rw[AV (A7 e hb)];exact e
   have np:p4≠b:=A7 (o:=.lst ((ns.take 63).map V.int)) Al hb
   refine k b p4 _ ((s3.trans s5).free hb) ((s3.trans s4).free hp4) ⟨ns.take 63,0,0,z,Al,?_,Int.le_refl _,np⟩ ((s3.trans s5).trans s6)
   rw[AV np,Al]
def HP(b a:Addr)(m z:Int)(D:Ends)(H:Hp):Prop:=∀r i c,0<=i->D.rt (.int (r % m)) (AE H b (DE a i c z))
noncomputable abbrev Fb(b:Addr)(m:Int)(x y w:Option V):List (Option V):=[some (.ref b),some (.int m),x,y,w]
def N9(b a:Addr)(m z:Int):TS:=λD σ H=>∃i c x y w,σ=Fb b m x y w/\0<=i/\H b=some (DE a i c z)/\HP b a m z D H
def VF(b a:Addr)(m z:Int)(ns:List Int):TS:=λD σ H=>∃i c s y w,σ=Fb b m (some (.int s)) y w/\0<=i/\H b=some (DE a i c z)/\H a=some (.lst (ns.map V.int))/\HP b a m z D H/\∀c,D.nx (Fb b m (some (.int s)) y w) (AE H b (DE a i c z))
def VG(b a:Addr)(m z:Int):TS:=λD σ H=>∃i c s y w,σ=Fb b m (some (.int s)) y w/\0<=i/\H b=some (DE a i c z)/\HP b a m z D H
theorem VH(D:Ao K mg "_law_pull" J1)(T:TxtB mg):Fn P w K mg base "_law_pull" 1 ["_law_bag_here","_law_many_here"] HN:=by
 refine E3 D Em (λ_ _ _ _ _ _ us hl=>C5 hl (λ_ _=>rfl)) (λvs H Q E h=>?_) (λf cdv A outer s H vs Q E hr h=>?_)
 ·obtain⟨b,a,m,rfl,_⟩:=h
  rfl
 ·obtain⟨b,a,m,rfl,⟨ns,i,c,z,hb,ha,hi,hab⟩,hm,hm2,k⟩:=h
  have ua:∀o,AE H b o a=some (HO.lst (map V.int ns)):=λo=>by rw[AV hab];exact ha
  have fin:∀r i' c',0<=i'->Q (V.int (r % m)) (AE H b (DE a i' c' z)):=λr i' c' hi' =>
   k _ _ (Int.emod_nonneg _ (Int.ne_of_gt hm)) (Int.emod_lt_of_pos _ hm) ⟨⟨ns,i',c',z,Al,ua _,hi',hab⟩,λp o hp e=>by rw[AV hp];exact e⟩
  refine⟨_,(BG (Dl (EK DT (Bm B4 (pv 0) AX (λ_ _=>rfl)) AX (AY _))
 (BG (PM (pv 0) AX Q8 AX PP H0)
 (BG (Bs (i:=2) Em.nd rfl (Or.inl rfl) (Bm B4 (pv 0) AX (λ_ _=>rfl)))
 (BG (Dl (EK DT (Bm B4 (pv 0) AX (λ_ _=>rfl)) (EN IQ (by rfl) T.b_len nofun (Ad (Bm B4 (pv 0) AX (λ_ _=>rfl)) Ay)) (AY _))
 (CB (Bs (i:=2) Em.nd rfl (Or.inl rfl) (Bm B4 (Bm B4 (pv 0) AX (λ_ _=>rfl)) (BE EH (Bm B4 (pv 0) AX (λ_ _=>rfl)) AX) (λ_ _=>rfl))))
 Dk)
 (BN.weak (m:=(VF b a m z ns)) (BG (Dl (PW.pt (KS (EK Hu (Bm B4 (pv 0) AX (λ_ _=>rfl)) (EN IQ (by rfl) T.b_len nofun (Ad (Bm B4 (pv 0) AX (λ_ _=>rfl)) Ay)) (AY _)) (KR (EK Ht (pv 2) (BE EJ AX AX) (AY _)))))
 (BN.weak (m:=(VG b a m z)) (BG (Bs (i:=3) Em.nd rfl (Or.inl rfl) (BE EI (BE EG (BE EG (BE Ev (pv 2) AX) (BE Ev (Bm B4 (pv 0) AX (λ_ _=>rfl)) AX)) AX) AX))
 (BG (Bs (i:=3) Em.nd rfl (Or.inl rfl) (BE EI (BE Ev (pv 3) (pv 3)) AX))
 (CB (ED (BE EI (BE LR (BE EI (BE Ev (BE EG (pv 3) (Bm B4 (pv 0) AX (λ_ _=>rfl))) AX) AX) AX) (pv 1)))))) ?cut0_3_0)
 Dk)
 (CB (Hm (pv 2) (KY (pv 0) AX H0)))) ?cut0_3))))
 Dk)
 (BN.weak (m:=(N9 b a m z)) (BG (Bs (i:=4) Em.nd rfl (Or.inl rfl) (BE EI (Bm B4 (pv 0) AX (λ_ _=>rfl)) (pv 1)))
 (BG (Hm (BE LR (Bm B4 (pv 0) AX (λ_ _=>rfl)) (pv 1)) (KY (pv 0) AX H0))
 (CB (ED (pv 4))))) ?En)),?main⟩
  case En =>
   rintro D σ H ⟨i,c,x,y,w,rfl,hi,hb,d⟩
   refine⟨_,rfl,b,2,_,rfl,rfl,hb,_,rfl,_,rfl,_,_,rfl,rfl,hm,?_⟩
   refine⟨_,rfl,b,2,_,rfl,rfl,hb,_,rfl,_,rfl,_,_,rfl,rfl,⟨hm,hm2⟩,?_⟩
   exact⟨_,rfl,b,_,2,2,rfl,rfl,hb,rfl,_,rfl,d c i (c / m) hi⟩
  case cut0_3 =>
   rintro D σ H ⟨i,c,s,y,w,rfl,hi,hb,ha,d,n⟩
   refine⟨_,rfl,b,1,_,rfl,rfl,hb,_,rfl,_,rfl,b,0,_,rfl,rfl,hb,_,rfl,_,_,rfl,ha,_,_,rfl,rfl,_,rfl,Bc (λ_=>?_) λ_=>?_⟩
   ·exact⟨i,c,s,y,w,rfl,hi,hb,d⟩
   ·refine⟨_,rfl,_,_,rfl,rfl,⟨by decide,by decide,by decide⟩,_,_,rfl,rfl,_,rfl,Bc (λ_=>?_) λ_=>?_⟩
    ·exact⟨i,c,s,y,w,rfl,hi,hb,d⟩
    ·exact⟨_,rfl,_,rfl,b,_,2,2,rfl,rfl,hb,rfl,n s⟩
  case cut0_3_0 =>
   rintro D σ H ⟨i,c,s,y,w,rfl,hi,hb,d⟩
   have cm:∀{x y:Int},y<2 ^ 64->0<=y->Eu x y:=λh0 h1=>.inr ⟨by lia,h0⟩
   have p1:(0:Int)<2147483647:=by decide
   have p2:(0:Int)<2147483629:=by decide
   have p3:(0:Int)<998244353:=by decide
   have p4:(0:Int)<13:=by decide
   have p5:(13:Int)<2 ^ 64:=by decide
   refine⟨_,rfl,_,_,rfl,rfl,cm (by decide) (by decide),?_⟩
   refine⟨_,rfl,b,1,_,rfl,rfl,hb,_,rfl,_,_,rfl,rfl,cm (by decide) (by decide),_,_,rfl,rfl,_,_,rfl,rfl,_,_,rfl,rfl,p1,?_⟩
   have r0:=Int.emod_nonneg (s * 48271+i * 16807+11) (b:=2147483647) (by decide)
   have r1:=Int.emod_lt_of_pos (s * 48271+i * 16807+11) (b:=2147483647) (by decide)
   refine⟨_,rfl,_,rfl,_,_,rfl,rfl,cm (by show _ % _<_;lia) r0,_,_,rfl,rfl,p2,?_⟩
   refine⟨_,rfl,_,rfl,b,1,_,rfl,rfl,hb,_,rfl,_,_,rfl,rfl,_,_,rfl,rfl,cm (by decide) (by decide),_,_,rfl,rfl,p3,_,_,rfl,rfl,⟨p4,p5⟩,_,rfl,_,_,rfl,rfl,hm,?_⟩
   have e:AE H b (DE a i c z)=H:=funext λp=>by
    by_cases h:p=b
    ·rw[h,Al,hb]
    ·rw[AV h]
   have d2:∀r,D.rt (.int (r % m)) H:=λr=>by
    have:=d r i c hi
    rw[e]at this
    exact this
   exact d2 _
  case main =>
   refine⟨_,rfl,b,2,_,rfl,rfl,hb,_,rfl,_,_,rfl,rfl,_,rfl,Bc (λ_=>?_) λ_=>?_⟩
   ·refine⟨_,rfl,b,1,_,rfl,rfl,hb,_,rfl,_,_,rfl,rfl,b,_,1,1,rfl,rfl,hb,rfl,?_⟩
    have h1:0<=i+1:=by lia
    have dd:∀o,HP b a m z { nx:=λx H'=>Q V.non H',rt:=Q } (AE H b o):=λo r i' c' h=>by rw[KN];exact fin r i' c' h
    have nn:∀o i,0<=i->∀x y w c',N9 b a m z { nx:=λx H'=>Q V.non H',rt:=Q } (Fb b m x y w) (AE (AE H b o) b (DE a i c' z)):=λo i h x y w c'=>⟨i,c',x,y,w,rfl,h,Al,by rw[KN];exact dd _⟩
    refine⟨_,rfl,b,3,_,rfl,rfl,Al,_,rfl,?_⟩
    refine⟨_,rfl,b,1,_,rfl,rfl,Al,_,rfl,_,rfl,b,0,_,rfl,rfl,Al,_,rfl,_,_,rfl,ua _,_,_,rfl,rfl,_,rfl,Bc (λhc=>?_) λ_=>?_⟩
    ·have hc:i+1<=((ns.map V.int).length:Int):=of_decide_eq_true hc
     rw[length_map]at hc
     obtain⟨v,hv⟩:∃v,ns[i.toNat]?=some v:=⟨_,getElem?_eq_getElem (by lia)⟩
     have hat:atI (ns.map V.int) (i+1 - 1)=some (V.int v):=by
      rw[show i+1 - 1=((i.toNat:Nat):Int) by lia]
      exact Bx (by rw[getElem?_map,hv];rfl)
     refine⟨_,rfl,b,0,_,rfl,rfl,Al,_,rfl,_,rfl,b,1,_,rfl,rfl,Al,_,rfl,_,_,rfl,rfl,a,_,_,rfl,rfl,ua _,_,hat,?_⟩
     exact⟨i+1,c,v,_,_,rfl,h1,Al,ua _,dd _,λc'=>nn _ _ h1 _ _ _ c'⟩
    ·exact⟨i+1,c,z,_,_,rfl,h1,Al,ua _,dd _,λc'=>nn _ _ h1 _ _ _ c'⟩
   ·exact⟨i,c,_,_,_,rfl,hi,hb,fin⟩
theorem VI{i:Int}(h0:0<=i)(h1:i<26):∃c:Nat,atI (Str.ofString "abcdefghijklmnopqrstuvwxyz").cps.toList i=some c/\97<=c/\c<=122:=by
 obtain⟨n,rfl⟩:=Int.eq_ofNat_of_zero_le h0
 have h:n<26:=by lia
 have e:(Str.ofString "abcdefghijklmnopqrstuvwxyz").cps.toList=[97,98,99,100,101,102,103,104,105,106,107,108,109,110,111,112,113,114,115,116,117,118,119,120,121,122]:=by decide +kernel
 rw[e]
 have q:∀m:_root_.Fin 26,[97,98,99,100,101,102,103,104,105,106,107,108,109,110,111,112,113,114,115,116,117,118,119,120,121,122][m.val]?=some (97+m.val):=by decide +kernel
 exact⟨97+n,Bx (q ⟨n,h⟩),by lia,by lia⟩
theorem OA:∀cs:List Nat,(cs.map ((λx=>x.cps.toList) ∘ λc=>(⟨#[c]⟩:Str))).flatten=cs
 |[]=>rfl
 |x::r=>by simp[OA r]
theorem VJ(D:Ao K mg "_law_word" HF)(T:TxtB mg)(qJ:Fn P w K mg base "_law_pull" 1 ["_law_bag_here","_law_many_here"] HN):Fn P w K mg base "_law_word" 2 ["_law_bag_here","_law_size"] N7:=by
 refine E3 D N5 (λ_ _ _ _ _ _ us hl=>C5 hl (λ_ _=>rfl)) (λvs H Q E h=>?_) (λf cdv A outer s H vs Q E hr h=>?_)
 ·obtain⟨b,a,m,rfl,_⟩:=h
  rfl
 ·obtain⟨b,a,n,rfl,hb,hn0,hn1,k⟩:=h
  refine⟨_,(BG (Bs (i:=2) N5.nd rfl (Or.inr rfl) Fi)
 (CB (ED (Ds PySem.F.plainAttrs_str PySem.F.slot_str_join PySem.F.type_str_join LP Fi (Ad (LJ (N:=["_law_bag_here","_law_size","_law_letters"]) (sc:=AN HF) (N':=["_law_k","_law_letters","_law_bag_here"]) (qB:=[none,some 2,some 0]) ⟨rfl,nofun,nofun,nofun,nofun,rfl,nofun⟩ rfl (Fq (by rfl) T.b_range (Ad (pv 1) Ay)) (LI rfl) (λp=>(A8 (i:=0) (show List.Nodup (["_law_k","_law_letters","_law_bag_here"]:List Str) by decide +kernel) rfl (Or.inl rfl))) (λp=>LH) (λp=>(Bm Hz (pv 1) (DX qJ (hr.mq) (by rfl) (Ad (pv 2) (Ad AX Ay))) (λ_ _=>rfl)))) Ay))))),?_⟩
  refine⟨rfl,_,rfl,n,rfl,by lia,by lia,?_⟩
  refine Q3 (Pv:=λD i ys H2=>∃cs:List Nat,ys=cs.map (λc=>V.str ⟨#[c]⟩)/\cs.length=i/\(∀c∈cs,97<=c/\c<=122)/\H2 D=some (.lst ys)/\StepD b a D H H2)
   (λD hD=>⟨[],rfl,rfl,by simp,Al,StepD.new hb hD⟩) (λD i ys H2 _ _ ⟨cs,_,_,_,e,_⟩=>e) ?_ ?_
  ·rintro D hD i ys H2 hi ⟨cs,rfl,hl,hc,hD2,st⟩
   refine⟨_,rfl,_,rfl,b,a,26,rfl,st.bag,by decide,by decide,λr H3 h0 h1 st3=>?_⟩
   obtain⟨c,hc1,hc2,hc3⟩:=VI h0 h1
   refine⟨_,r,c,rfl,rfl,nofun,hc1,?_⟩
   have hDb:D≠b:=hb.nb hD
   refine⟨st3.same D _ hDb hD2,?_,cs++[c],by simp,by simp[hl],?_,Al,(st.step st3).put⟩
   ·rw[length_map,hl];exact Dt (by lia)
   ·intro d hd
    rcases mem_append.mp hd with z|z
    ·exact hc d z
    ·rw[mem_singleton.mp z];exact⟨hc2,hc3⟩
  ·rintro D ys H2 hD ⟨cs,rfl,hl,hc,hD2,st⟩
   refine⟨⟨#[]⟩,D,cs.map (λc=>⟨#[c]⟩),rfl,rfl,.of (by rw[map_map];exact hD2),?_,?_⟩
   ·have e:∀l:List Nat,((l.map (λc=>(⟨#[c]⟩:Str))).map (·.length)).sum=l.length:=λl=>by
     induction l with
     |nil=>rfl
     |cons x r ih=>simp only[map_cons,sum_cons,ih,length_cons];show 1+r.length=_;lia
    rw[e,length_map]
    show cs.length+cs.length * 0<=_
    lia
   ·have e:(Txt.join ⟨#[]⟩ (cs.map (λc=>(⟨#[c]⟩:Str)))).cps.toList=cs:=by
     rw[RA,map_map]
     exact OA cs
    refine k _ H2 ?_ ?_ (st.out hD)
    ·have z:(Txt.join ⟨#[]⟩ (cs.map (λc=>(⟨#[c]⟩:Str)))).cps.toList.length=cs.length:=by rw[e]
     have z2:(Txt.join ⟨#[]⟩ (cs.map (λc=>(⟨#[c]⟩:Str)))).length=cs.length:=by rw[<-z];exact Array.length_toList.symm
     lia
    ·intro c hcm
     rw[e]at hcm
     exact hc c hcm
end
def Bb(x:Str):Prop:=1<=x.length/\x.length<=8/\N6 x
def OB:Sp:=λvs H Q _=>∃(b a:Addr) (n:Int),vs=[.ref b,.int n]/\Bag H b a/\0<=n/\n<=9 /\
 ∀(p:Addr) (xs:List Str) (H':Hp),H p=none->H' p=some (.lst (xs.map V.str))->(xs.length:Int)=n->(∀x∈xs,Bb x)->xs.Nodup->Step b a H H'->Q (.ref p) H'
theorem VL(h:n<26):atI (Str.ofString "abcdefghijklmnopqrstuvwxyz").cps.toList (n:Int)=some (97+n):=by
 have e:(Str.ofString "abcdefghijklmnopqrstuvwxyz").cps.toList=[97,98,99,100,101,102,103,104,105,106,107,108,109,110,111,112,113,114,115,116,117,118,119,120,121,122]:=by decide +kernel
 rw[e]
 have q:∀m:_root_.Fin 26,[97,98,99,100,101,102,103,104,105,106,107,108,109,110,111,112,113,114,115,116,117,118,119,120,121,122][m.val]?=some (97+m.val):=by decide +kernel
 exact Bx (q ⟨n,h⟩)
noncomputable def C3(pre:List Nat)(j:Nat):Str:=⟨(pre++[97+j]).toArray⟩
theorem VM{pre:List Nat}(h:C3 pre i=C3 pre j):i=j:=by
 have e:pre++[97+i]=pre++[97+j]:=by
  have:=congrArg (λz:Str=>z.cps.toList) h
  simpa[C3]using this
 have:=append_cancel_left e
 simp at this
 exact this
theorem VN{pre:List Nat}{xs:List Str}(hl:xs.length<26)(h:∀j,j<26->C3 pre j∈xs):False:=by
 have nd:((List.range 26).map (C3 pre)).Nodup:=by
  exact List.Pairwise.map (C3 pre) (λi j ne e=>ne (VM e)) nodup_range
 have sub:(List.range 26).map (C3 pre) ⊆ xs:=λx hx=>by
  obtain⟨j,hj,rfl⟩:=mem_map.mp hx
  exact h j (mem_range.mp hj)
 have:=nd.length_le_of_subset sub
 simp at this
 lia
section
variable{P:Program}{K:Fg}
theorem VO:∀{r:Int},0<=r->r<4->∃k:Int,atI [V.int 0,V.int 0,V.int 3,V.int 7] r=some (V.int k)/\0<=k/\k<=7:=by
 intro r h0 h1
 obtain⟨n,rfl⟩:=Int.eq_ofNat_of_zero_le h0
 have h:n=0\/n=1\/n=2\/n=3:=by lia
 rcases h with rfl|rfl|rfl|rfl
 ·exact⟨0,rfl,by decide,by decide⟩
 ·exact⟨0,rfl,by decide,by decide⟩
 ·exact⟨3,rfl,by decide,by decide⟩
 ·exact⟨7,rfl,by decide,by decide⟩
theorem HQ(p q:Str):(p++q).cps.toList=p.cps.toList++q.cps.toList:=Array.toList_append
theorem Fc(p q:Str):(p++q).length=p.length+q.length:=Array.size_append
theorem VP(D:Ao K mg "_law_names" J3)(T:TxtB mg)(qJ:Fn P w K mg base "_law_pull" 1 ["_law_bag_here","_law_many_here"] HN)(qK:Fn P w K mg base "_law_word" 2 ["_law_bag_here","_law_size"] N7):Fn P w K mg base "_law_names" 3 ["_law_bag_here","_law_many_here"] OB:=by
 refine E3 D Dh (λ_ _ _ _ _ _ us hl=>C5 hl (λ_ _=>rfl)) (λvs H Q E h=>?_) (λf cdv A outer s H vs Q E hr h=>?_)
 ·obtain⟨b,a,m,rfl,_⟩:=h
  rfl
 ·obtain⟨b,a,n,rfl,hb,hn0,hn1,k⟩:=h
  refine⟨_,(BG (Bs (i:=2) Dh.nd rfl (Or.inl rfl) Fi)
 (BG (Bs (i:=3) Dh.nd rfl (Or.inl rfl) (F0 Ay))
 (BG (Bs (i:=4) Dh.nd rfl (Or.inl rfl) (DX qK (hr.mq) (by rfl) (Ad (pv 0) (Ad (Bm B4 (F0 (Ad AX (Ad AX (Ad AX (Ad AX Ay))))) (DX qJ (hr.mq) (by rfl) (Ad (pv 0) (Ad AX Ay))) (λ_ _=>rfl)) Ay))))
 (BG (Ft PassesOwn.never rfl (Fq (by rfl) T.b_range (Ad (pv 1) Ay)) (A8 (i:=5) Dh.nd rfl (Or.inl rfl))
 (BG (Bs (i:=6) Dh.nd rfl (Or.inl rfl) (BE Fx (pv 4) (DX qK (hr.mq) (by rfl) (Ad (pv 0) (Ad (BE EG AX (DX qJ (hr.mq) (by rfl) (Ad (pv 0) (Ad (BE EH AX (EN K2 (by rfl) T.b_len nofun (Ad (pv 4) Ay))) Ay)))) Ay)))))
 (BG (Ft PassesOwn.never rfl (Fq (by rfl) T.b_range (Ad AX Ay)) (A8 (i:=7) Dh.nd rfl (Or.inl rfl))
 (CB (Dl (EK RC (pv 6) (pv 3) (by rfl))
 (CB (Bs (i:=6) Dh.nd rfl (Or.inl rfl) (BE Fx (Ez LN (pv 6) Ew (Ey (Pc Pe AX))) (Bm Hz (pv 2) (pv 7) (λ_ _=>rfl)))))
 Dk)))
 (CB (Hi (Ds PySem.F.plainAttrs_list PySem.F.slot_list_append PySem.F.type_list_append F6 (pv 3) (Ad (pv 6) Ay)))))))
 (CB (ED (pv 3))))))),?_⟩
  refine⟨Nat.zero_le _,λp hp=>?_⟩
  have sp:=StepD.new (o:=.lst []) hb hp
  refine⟨_,rfl,(by show 4<=sizeLine;decide),λq hq=>?_⟩
  have hqp:p≠q:=A7 (o:=.lst []) Al hq
  have sq:=sp.step (Step.new (o:=.lst [V.int 0,V.int 0,V.int 3,V.int 7]) sp.bag hq)
  have nqb:=sp.bag.nb hq
  refine⟨_,rfl,b,a,4,rfl,sq.bag,by decide,by decide,λr H1 r0 r1 st1=>?_⟩
  obtain⟨k0,hk,k1,k2⟩:=VO r0 r1
  refine⟨q,r,_,rfl,rfl,st1.same q _ nqb Al,_,hk,?_⟩
  refine⟨b,a,k0,rfl,st1.bag,k1,by lia,λw0 H2 hw0 hwl st2=>?_⟩
  have hpb:=hb.nb hp
  have e2:H2 p=some (.lst []):=st2.same p _ hpb (st1.same p _ hpb (by rw[AV hqp,Al]))
  have s2:StepD b a p H H2:=(sq.step st1).step st2
  have hw7:w0.length<=7:=by lia
  refine⟨_,rfl,n,rfl,by lia,by lia,Kd (lo:=0) (n:=n.toNat) (λi σ H3=>∃(xs:List Str) (v5 v6 v7:Option V),σ=[some (.ref b),some (.int n),some (.str (Str.ofString "abcdefghijklmnopqrstuvwxyz")),some (.ref p),some (.str w0),v5,v6,v7] /\
   H3 p=some (.lst (xs.map V.str))/\xs.length=i/\(∀x∈xs,Bb x)/\xs.Nodup/\StepD b a p H H3) ⟨[],_,_,_,rfl,e2,rfl,by simp,nodup_nil,s2⟩ ?_ ?_⟩
  ·rintro i σ H3 hi ⟨xs,v5,v6,v7,rfl,e3,hl,hg,nd,s3⟩
   refine⟨_,rfl,_,rfl,_,rfl,_,rfl,w0,rfl,Nat.le_of_lt (Dt (by lia)),_,_,rfl,rfl,?_⟩
   refine⟨b,a,_,rfl,s3.bag,by lia,by lia,λr2 H4 r20 r21 st4=>?_⟩
   refine⟨_,_,rfl,rfl,b,a,_,rfl,st4.bag,by lia,by lia,λw1 H5 hw1 hwl1 st5=>?_⟩
   refine⟨_,_,rfl,rfl,Nat.le_of_lt (Dt (by lia)),?_⟩
   have e5:H5 p=some (.lst (xs.map V.str)):=st5.same p _ hpb (st4.same p _ hpb e3)
   have s5:StepD b a p H H5:=(s3.step st4).step st5
   have g0:Bb (w0++w1):=by
    refine⟨by rw[Fc];lia,by rw[Fc];lia,λc hc=>?_⟩
    rw[HQ]at hc
    rcases mem_append.mp hc with z|z
    ·exact hwl c z
    ·exact hwl1 c z
   generalize w0++w1=wd at g0
   refine⟨26,rfl,by decide,by decide,Kd (lo:=0) (n:=26) (λs σ H6=>H6=H5/\∃(x:Str) (v7:Option V),σ=[some (.ref b),some (.int n),some (.str (Str.ofString "abcdefghijklmnopqrstuvwxyz")),some (.ref p),some (.str w0),some (.int (0+(i:Int))),some (.str x),v7] /\
    Bb x/\x.cps.toList.take (x.length - 1)=wd.cps.toList.take (wd.length - 1)/\(x∉xs\/((0<s->x=C3 (wd.cps.toList.take (wd.length - 1)) (s - 1))/\∀j,j+1<s->C3 (wd.cps.toList.take (wd.length - 1)) j∈xs)))
    ⟨rfl,wd,_,rfl,g0,rfl,.inr ⟨λz=>absurd z (Nat.lt_irrefl _),λj z=>absurd z (Nat.not_lt_zero _)⟩⟩ ?_ ?_⟩
   ·rintro t σ H6 ht ⟨rfl,x,v7,rfl,gx,hpre,inv⟩
    refine⟨_,rfl,_,rfl,x,p,xs,rfl,rfl,.inl e5,_,rfl,?_⟩
    refine Bc (λhm=>?_) (λhm=>?_)
    ·have hm:x∈xs:=of_decide_eq_true hm
     obtain⟨i1,i2⟩:=inv.resolve_left λz=>z hm
     have hx0:0<x.length:=gx.1
     have hx8:=gx.2.1
     refine⟨_,rfl,1,rfl,-1,rfl,x,rfl,Nat.le_of_lt (Dt (by lia)),?_⟩
     refine⟨_,rfl,_,rfl,_,_,_,rfl,rfl,nofun,(by rw[Int.zero_add];exact VL ht),?_⟩
     have es:(Txt.slice x none (some (-1))).cps.toList=wd.cps.toList.take (wd.length - 1):=by rw[IR hx0,hpre]
     have el:(Txt.slice x none (some (-1))).length=x.length - 1:=by
      have z:(Txt.slice x none (some (-1))).cps.toList.length=(Txt.slice x none (some (-1))).length:=Array.length_toList
      have z2:x.cps.toList.length=x.length:=Array.length_toList
      rw[<-z,IR hx0,length_take]
      lia
     have lc:(⟨#[97+t]⟩:Str).length=1:=rfl
     refine⟨_,_,rfl,rfl,Nat.le_of_lt (Dt (by rw[el,lc];lia)),rfl,_,_,rfl,⟨?_,?_,?_⟩,?_,.inr ⟨λ_=>?_,λj hj=>?_⟩⟩
     ·rw[Fc,lc];lia
     ·rw[Fc,lc,el];lia
     ·intro c hc
      rw[HQ]at hc
      rcases mem_append.mp hc with z|z
      ·rw[IR hx0]at z
       exact gx.2.2 c (mem_of_mem_take z)
      ·have z:c=97+t:=by simpa using z
       lia
     ·rw[Fc,lc,HQ,es]
      have z3:(wd.cps.toList.take (wd.length - 1)).length=x.length - 1:=by rw[<-es];exact Array.length_toList.trans el
      rw[el,take_append_of_le_length (by lia),take_of_length_le (by lia)]
     ·refine PyProof.Rows.ext_toList ?_
      rw[HQ,es]
      simp[C3]
     ·by_cases z:j+1<t
      ·exact i2 j z
      ·have z':j=t - 1:=by lia
       have z0:0<t:=by lia
       rw[z',<-i1 z0]
       exact hm
    ·have hm:x∉xs:=λz=>hm (decide_eq_true z)
     exact⟨rfl,x,_,rfl,gx,hpre,.inl hm⟩
   ·rintro σ H6 ⟨rfl,x,v7,rfl,gx,hpre,inv⟩
    have hx:x∉xs:=by
     intro hm
     obtain⟨i1,i2⟩:=inv.resolve_left λz=>z hm
     refine VN (pre:=wd.cps.toList.take (wd.length - 1)) (xs:=xs) (by lia) λj hj=>?_
     by_cases z:j+1<26
     ·exact i2 j z
     ·have z':j=25:=by lia
      rw[z',<-i1 (by decide)]
      exact hm
    refine⟨_,rfl,.inl ⟨rfl,_,.of e5⟩,_,rfl,p,_,_,rfl,rfl,e5,by rw[length_map];exact Dt (by lia),?_⟩
    refine⟨xs++[x],_,_,_,rfl,?_,by simp[hl],?_,?_,s5.put⟩
    ·rw[Al];simp
    ·intro y hy
     rcases mem_append.mp hy with z|z
     ·exact hg y z
     ·rw[mem_singleton.mp z];exact gx
    ·exact LC nd hx
  ·rintro σ H3 ⟨xs,v5,v6,v7,rfl,e3,hl,hg,nd,s3⟩
   exact⟨_,rfl,k p xs H3 hp e3 (by lia) hg nd (s3.out hp)⟩
end
def Fd:pF:=λxs K=>∃m,xs=[.bag,.int m]/\0<m/\m<2 ^ 64/\∀r,0<=r->r<m->K (.int r)
def OC:pF:=λxs K=>∃n,xs=[.bag,.int n]/\0<=n/\n<=9/\∀ns:List Str,(ns.length:Int)=n->(∀x∈ns,Bb x)->ns.Nodup->K (.lst (ns.map P.str))
section
variable{K:Fg}
theorem OD{b:Addr}{m:Int}(r:AB b (λp=>p=b) H [.bag,.int m] vs):vs=[.ref b,.int m]:=by
 obtain⟨v,t,rfl,h1,u,t2,rfl,h2,h3⟩:=r
 rw[show v=_ from h1,show u=_ from h2,show t2=_ from h3]
theorem VQ(G:Fn P' w K mg base "_law_pull" 1 ["_law_bag_here","_law_many_here"] HN):Fn P' w K mg base "_law_pull" 1 ["_law_bag_here","_law_many_here"] (AJ Fd):=G.imp λvs H Q E h=>by
 obtain⟨b,a,xs,K',hb,r,⟨m,rfl,h0,h1,hk⟩,hQ⟩:=h
 exact⟨b,a,m,OD r,hb,h0,h1,λr H' r0 r1 st=>hQ _ _ H' (hk r r0 r1) st rfl⟩
theorem VR(G:Fn P' w K mg base "_law_names" 3 ["_law_bag_here","_law_many_here"] OB):Fn P' w K mg base "_law_names" 3 ["_law_bag_here","_law_many_here"] (AJ OC):=G.imp λvs H Q E h=>by
 obtain⟨b,a,xs,K',hb,r,⟨m,rfl,h0,h1,hk⟩,hQ⟩:=h
 exact⟨b,a,m,OD r,hb,h0,h1,λp ns H' hp e hl hg hn st=>hQ _ _ H' (hk ns hl hg hn) st ⟨p,_,rfl,λz=>z hp,e,AB.strs.mpr rfl⟩⟩
end
def HR(K:Fg):Sp:=λvs H Q _=>∃(a:Addr) (ns:List Int),vs=[.ref a]/\Am K H a (ns.map V.int)/\∀H',Q (.bl true) H'
theorem VT{b ba:Addr}{v:Option V}(hb:Bag H b ba):Ok ⟨b,ba,H,λ_=>none,λ_=>False⟩ (.emp::.sh .bag::replicate n .emp) (v::some (.ref b)::replicate n none) H where
 bag:=hb
 fb:=rfl
 old:=λ_ _ _ e=>e
 frm:=λ_ _ e=>nomatch e
 oo:=λ_ z=>z.elim
 len:=by simp
 slot:=λi s e=>by
  match i with
  |0=>cases e;exact⟨v,rfl,trivial⟩
  |1=>cases e;exact⟨_,rfl,_,rfl,rfl⟩
  |i+2 =>
   simp only[getElem?_cons_succ,getElem?_replicate]at e
   split at e
   ·cases e
    rename_i hi
    exact⟨none,by simp only[getElem?_cons_succ,getElem?_replicate,if_pos hi],trivial⟩
   ·cases e
 uniq:=λi j x y h=>by
  exfalso
  match i with
  |0=>cases h
  |1=>cases h
  |i+2 =>
   simp only[getElem?_cons_succ,getElem?_replicate]at h
   split at h
   ·cases h
   ·cases h
theorem VU{K:Fg}{s0:Stmt}{qC:List Stmt}{p:pS}(h0:PS X s0 (Dm (EL (HM K) [] E0 (Bl (DR 0) CC)) (CK 1)))(hq:BF (λ_:Unit=>X) qC p)
  (hp:p { nx:=λ_=>False,rt:=λx=>x=.bl true } (.emp::.sh .bag::replicate n .emp)) :
  ∃t,BN X (s0::qC) t/\∀(a:Addr) (ns:List Int) (H:Hp) (Q:VK),Am K H a (ns.map V.int)->(∀H',Q (.bl true) H')->t { nx:=λ_ H'=>Q .non H',rt:=Q } (some (.ref a)::none::replicate n none) H:=by
 obtain⟨t,t1,t2⟩:=hq
 refine⟨_,BG h0 (t1 ()),λa ns H Q hS k=>⟨_,rfl,a,ns,rfl,hS,λb ba H1 nb na B s1=>?_⟩⟩
 refine t2 _ _ _ H1 _ _ (VT (n:=n) B) hp ⟨λ_ _ _ e=>e.elim,λx v H' e ro=>?_,λ_ _ _ e=>e.elim,λ_ _ _ e=>e.elim,λ_ z=>z,λ_ _ _ e=>e.elim⟩
 subst e
 rw[show v=.bl true from ro.2.2]
 exact k H'
end K
namespace K
open PySem L2
section
variable{K:Fg}
theorem VV{n:Int}(h0:0<=n):DJ 0 n.toNat=(List.range n.toNat).map λ(k:Nat)=>P.int (0+k):=rfl
theorem VW(D:Ao K mg "_law_answers" HG)(T:TxtB mg)(qJ:Fn P' w K mg base "_law_pull" 1 ["_law_bag_here","_law_many_here"] (AJ Fd)):Fn P' w K mg base "_law_answers" 2 ["_law_bag_here","_law_size","_law_base"] (AJ JX):=by
 refine Av D U8 (λ_ _ _ _ _ _ us hl=>Ob hl (λ_ _ _=>rfl)) (λxs K h=>?_) (by decide) (λfa cdv A outer s H E hr=>⟨_,(AL (AQ (CS (λ_=>GB) Gf (λ_=>T.b_tuple) nofun (AA (Bi (N:=["_law_bag_here","_law_size","_law_base"]) (sc:=AN HG) (N':=["_law_k","_law_bag_here","_law_base"]) (qB:=[none,some 0,some 2]) ⟨rfl,nofun,nofun,nofun,nofun,rfl,nofun⟩ (by decide) (λ_=>rfl) (Ik (λ_=>T.b_range) (AA (qv 1) AD)) (Ci (k:=0) rfl (λ_=>show List.Nodup (["_law_k","_law_bag_here","_law_base"]:List Str) by decide +kernel)) Bp (AU (λ_=>qJ) (λ_=>hr.mq) (AA (qv 1) (AA (qv 2) AD)))) AD)))),λxs K h=>?_⟩)
 ·obtain⟨_,_,rfl,_⟩:=h;rfl
 ·obtain⟨n,b,rfl,h0,h1,b0,b1,h⟩:=h
  simp_arith only[Aq]
  refine⟨by lia,by lia,by rw[ER];lia,?_⟩
  rw[VV h0]
  refine A3.rel P.int (λ_ x=>0<=x/\x<b) (λk _ M hM=>⟨b,rfl,b0,b1,λr r0 r1=>hM r _ ⟨r0,r1⟩⟩) (λ_=>rfl) (λbs he=>?_)
  have hl:=he.length
  rw[length_range]at hl
  simp_arith only[Aq]
  exact h bs (by lia) λx hx=>let⟨_,_,z⟩:=he.mem x hx;z
theorem VX{a b c d:Int}{r:Int}(h0:0<=r)(h1:r<4):atI [P.int a,P.int b,P.int c,P.int d] r=some (.int (if r=0 then a else if r=1 then b else if r=2 then c else d)):=by
 obtain⟨n,rfl⟩:=Int.eq_ofNat_of_zero_le h0
 have h:n=0\/n=1\/n=2\/n=3:=by lia
 rcases h with rfl|rfl|rfl|rfl<;>rfl
theorem VY(D:Ao K mg "_law_many" J4)(T:TxtB mg)(qJ:Fn P' w K mg base "_law_pull" 1 ["_law_bag_here","_law_many_here"] (AJ Fd)):Fn P' w K mg base "_law_many" 2 ["_law_bag_here"] (AJ NK):=by
 refine Av D U9 (λ_ _ _ _ _ _ us hl=>BD hl (λ_=>rfl)) (λxs K h=>?_) (by decide) (λfa cdv A outer s H E hr=>⟨_,(AL (AQ (CQ (λ_=>EG) R5 AH (AU (λ_=>qJ) (λ_=>hr.mq) (AA (qv 0) (AA (AZ (λ_=>Aa) Ab (CU (AA AH (AA AH (AA AH (AA (CQ (λ_=>EJ) FF AH AH) AD))))) (AU (λ_=>qJ) (λ_=>hr.mq) (AA (qv 0) (AA AH AD))) (λ_ _=>rfl)) AD)))))),λxs K h=>?_⟩)
 ·obtain⟨rfl,_⟩:=h;rfl
 ·obtain⟨rfl,h⟩:=h
  simp_arith only[Fw]
  refine⟨by decide,4,rfl,by decide,by decide,λr r0 r1=>?_⟩
  simp_arith only[Aq]
  refine⟨_,VX r0 r1,?_⟩
  have e12:(10:Int) ^ (12:Int).toNat=1000000000000:=by decide
  refine⟨_,rfl,?_,?_,λz z0 z1=>?_⟩
  ·rw[e12];split<;>(try split)<;>(try split)<;>decide
  ·rw[e12];split<;>(try split)<;>(try split)<;>decide
  ·simp_arith only[Aq]
   refine h _ (by lia) ?_
   rw[e12]at z1
   have:z<1000000000000:=by
    revert z1
    split
    ·intro;lia
    ·split
     ·intro;lia
     ·split<;>intro<;>lia
   lia
def OE:pF:=λxs K=>∃t,xs=[D4 t]/\t.length<=100000/\(∃n,∀q∈t,q.1.length=n)/\K (Aw (BV t))
theorem VZ(D:Ao K mg "_law_settled" HH)(T:TxtB mg):Fn P' w K mg base "_law_settled" 1 ["_law_counts"] (AJ OE):=by
 refine Av D VA (λ_ _ _ _ _ _ us hl=>BD hl (λ_=>rfl)) (λxs K h=>?_) (by decide) (λfa cdv A outer s H E hr=>?_)
 ·obtain⟨_,rfl,_⟩:=h;rfl
 ·have hu:=IJ hr
  refine⟨_,(AL (AQ (Bi (N:=["_law_counts"]) (sc:=AN HH) (N':=["_law_row","_law_counts"]) (qB:=[none,some 0]) ⟨rfl,nofun,nofun,nofun,nofun,rfl,nofun⟩ (by decide) (λ_=>rfl) (DK (λ_=>rfl) (Ap (λ_=>(T5 hr)) T6 (λ_=>T.b_sorted) nofun (AA (CS (λ_=>(S2 rfl)) S5 (λ_=>T.b_list) nofun (AA (qv 0) AD)) AD))) (Ci (k:=0) rfl (λ_=>show List.Nodup (["_law_row","_law_counts"]:List Str) by decide +kernel)) (Rv (Ai (λ_=>(Cy hr)) Cz (Mw (λ_=>hu) (qv 1) (qv 0) (λ_ _=>rfl)) AH (AY _))) (Be (AA (qv 0) (AA (Mw (λ_=>hu) (qv 1) (qv 0) (λ_ _=>rfl)) AD)))))),λxs K h=>?_⟩
  obtain⟨t,rfl,hl,hn,h⟩:=h
  simp_arith only[Aq]
  obtain⟨n,hn⟩:=hn
  refine⟨t.map (·.1),rfl,by rw[length_map];lia,⟨n,λr hr=>by obtain⟨q,hq,rfl⟩:=mem_map.mp hr;exact hn q hq⟩,λrs' hp hs=>?_⟩
  ·have hlen:rs'.length=t.length:=by rw[hp.length_eq,length_map]
   have e:=TV hp hs
   simp_arith only[length_map]
   refine⟨by lia,?_⟩
   have get:∀r∈rs',CZ (t.map (·.1)) (t.map λq=>P.int q.2) r=some (.int ((Bq t r).getD 0)):=λr hr=>by
    rw[NG]
    have hm:r∈t.map (·.1):=hp.mem_iff.mp hr
    obtain⟨c,hc⟩:=TW hm
    rw[hc];rfl
   refine A3.filter (λr=>decide ((Bq t r).getD 0≠0)) (λr=>Ba (r,(Bq t r).getD 0)) (λr _ _=>by simp) (λr hr M hM=>?_) ?_
   ·simp_arith only[Aq]
    refine⟨_,get r hr,?_⟩
    have hM:=hM .nw
    simp_arith only[Aq]
    refine Bc (λz=>?_) (λz=>?_)
    ·rw[if_pos (by simpa using z)]at hM
     exact⟨_,get r hr,hM⟩
    ·rw[if_neg (by simpa using z)]at hM
     exact hM
   ·simp_arith only[Aq]
    rw[e]
    have:((D5 (t.map (·.1))).filter λr=>decide ((Bq t r).getD 0≠0)).map (λr=>Ba (r,(Bq t r).getD 0))=(BV t).map Ba:=by
     unfold BV;rw[map_map];rfl
    have h':=h
    rw[show Aw (BV t)=.lst _ from congrArg P.lst this.symm]at h'
    exact h'
theorem Va{a0 a1 a2 a3 a4 a5 a6 a7 a8 a9:Int}{r:Int}(h0:0<=r)(h1:r<10):∃c,atI [P.int a0,.int a1,.int a2,.int a3,.int a4,.int a5,.int a6,.int a7,.int a8,.int a9] r=some (.int c)/\c∈[a0,a1,a2,a3,a4,a5,a6,a7,a8,a9]:=by
 obtain⟨n,rfl⟩:=Int.eq_ofNat_of_zero_le h0
 have h:n=0\/n=1\/n=2\/n=3\/n=4\/n=5\/n=6\/n=7\/n=8\/n=9:=by lia
 rcases h with rfl|rfl|rfl|rfl|rfl|rfl|rfl|rfl|rfl|rfl<;>exact⟨_,rfl,by simp⟩
theorem Vb{a b c d:Int}{r:Int}(h0:0<=r)(h1:r<4):∃k,atI [P.int a,P.int b,P.int c,P.int d] r=some (.int k)/\k∈[a,b,c,d]:=by
 obtain⟨n,rfl⟩:=Int.eq_ofNat_of_zero_le h0
 have h:n=0\/n=1\/n=2\/n=3:=by lia
 rcases h with rfl|rfl|rfl|rfl<;>exact⟨_,rfl,by simp⟩
def Vc:pS:=λE ρ=>∃qG t bs v,ρ=[.sh .bag,.sh (BA qG),.own (D4 t),.sh (.int bs),v]/\qG.length<=9/\t.length<100/\0<bs/\bs<=10/\∀(r:List Int) (c:Int),r.length=qG.length->(∀x∈r,0<=x/\x<=9)->1<=c->c<=1000000000000->E.nx [.sh .bag,.sh (BA qG),.own (D4 (B8 t r c)),.sh (.int bs),v]
def Vd:pS:=λE ρ=>∃qG bs,ρ=[.sh .bag,.sh (BA qG),.own (.dT [] []),.sh (.int bs),.emp]/\qG.length<=9/\0<bs/\bs<=10/\∀t v,Drawn qG.length t->E.nx [.sh .bag,.sh (BA qG),.own (D4 t),.sh (.int bs),v]
theorem Ve(D:Ao K mg "_law_drawn" J5)(T:TxtB mg)(qJ:Fn P' w K mg base "_law_pull" 1 ["_law_bag_here","_law_many_here"] (AJ Fd))(qL:Fn P' w K mg base "_law_answers" 2 ["_law_bag_here","_law_size","_law_base"] (AJ JX))
  (qM:Fn P' w K mg base "_law_many" 2 ["_law_bag_here"] (AJ NK)) (qN:Fn P' w K mg base "_law_settled" 1 ["_law_counts"] (AJ OE)):Fn P' w K mg base "_law_drawn" 3 ["_law_bag_here","_law_room"] (AJ NM):=by
 refine Av D HI (λ_ _ _ _ _ _ us hl=>C5 hl (λ_ _=>rfl)) (λxs K h=>?_) (by decide) (λfa cdv A outer s H E hr=>?_)
 ·obtain⟨_,rfl,_⟩:=h;rfl
 ·have hu:=IJ hr
  refine⟨_,(AS (Bh (k:=2) (λ_=>HI.nd) Sq)
 (AS (Bh (k:=3) (λ_=>HI.nd) (AZ (λ_=>Aa) Ab (CU (AA AH (AA AH (AA AH (AA AH AD))))) (AU (λ_=>qJ) (λ_=>hr.mq) (AA (qv 0) (AA AH AD))) (λ_ _=>rfl)))
 (AS (QS.weak (m:=Vd) (FE (λ_=>PassesOwn.never) (λ_=>rfl) (Ik (λ_=>T.b_range) (AA (AZ (λ_=>Aa) Ab (CU (AA AH (AA AH (AA AH (AA AH (AA AH (AA AH (AA AH (AA AH (AA AH (AA AH AD))))))))))) (AU (λ_=>qJ) (λ_=>hr.mq) (AA (qv 0) (AA AH AD))) (λ_ _=>rfl)) AD)) (GR (k:=4) (λ_=>HI.nd))
 (BF.weak (m:=Vc) (AL (Ss (k:=2) (λ_=>hu) (AU (λ_=>qL) (λ_=>hr.mq) (AA (qv 0) (AA (Ap (λ_=>BP) BQ (λ_=>T.b_len) nofun (AA (qv 1) AD)) (AA (qv 3) AD)))) (AU (λ_=>qM) (λ_=>hr.mq) (AA (qv 0) AD)))) ?body0)) ?loop0)
 (AL (AQ (AU (λ_=>qN) (λ_=>hr.mq) (AA (qv 2) AD))))))),λxs K h=>?_⟩
  case body0 =>
   intro E ρ h
   obtain⟨qG,t,bs,v,rfl,hl,ht,b0,b1,h⟩:=h
   simp_arith only[Aq]
   refine⟨rfl,λc c1 c2=>?_⟩
   simp_arith only[Aq]
   refine⟨_,_,rfl,by lia,by rw[length_map];lia,b0,by lia,λr hr hx=>?_⟩
   simp_arith only[length_map]at hr ⊢
   refine⟨by lia,?_⟩
   rw[TL]
   exact h r c (by lia) (λx hx2=>by have:=hx x hx2;lia) c1 c2
  case loop0 =>
   intro E ρ h
   obtain⟨qG,bs,rfl,hl,b0,b1,h⟩:=h
   simp_arith only[Aq]
   refine⟨10,rfl,by decide,by decide,λr r0 r1=>?_⟩
   obtain⟨ct,hc,hm2⟩:=Va (a0:=3) (a1:=2) (a2:=1) (a3:=0) (a4:=5) (a5:=8) (a6:=12) (a7:=4) (a8:=2) (a9:=40) r0 r1
   have c0:0<=ct/\ct<=40:=by simp at hm2;(omega)
   refine⟨_,hc,?_⟩
   simp_arith only[Aq]
   refine⟨by lia,by lia,λi ρ=>∃t v,ρ=[.sh .bag,.sh (BA qG),.own (D4 t),.sh (.int bs),v]/\DrawnI qG.length i t,⟨[],_,rfl,DrawnI.nil⟩,λi ρ' x hx hI=>?_,λρ' hI=>?_⟩
   ·obtain⟨t,v,rfl,hd⟩:=hI
    obtain⟨hi,rfl⟩:=Ij hx
    simp_arith only[Aq]
    exact⟨qG,t,bs,_,rfl,hl,by have:=hd.len;lia,b0,b1,λr c h1 h2 h3 h4=>⟨B8 t r c,⟨_,rfl⟩,hd.put h1 h2 h3 h4⟩⟩
   ·obtain⟨t,v,rfl,hd⟩:=hI
    rw[ER]at hd
    exact h t v (hd.out (by lia))
  ·obtain⟨qG,rfl,hl,h⟩:=h
   simp_arith only[Aq]
   refine⟨4,rfl,by decide,by decide,λr r0 r1=>?_⟩
   obtain⟨bs,hb,hm⟩:=Vb (a:=2) (b:=2) (c:=3) (d:=10) r0 r1
   have b0:0<bs/\bs<=10:=by simp at hm;lia
   refine⟨_,hb,?_⟩
   simp_arith only[Aq]
   refine⟨qG,bs,rfl,hl,b0.1,b0.2,λt v hd=>?_⟩
   simp_arith only[Aq]
   exact⟨t,rfl,by have:=hd.len;lia,⟨_,hd.rows⟩,h t hd⟩
end
end K
namespace K
open PySem L2
section
variable{K:Fg}
structure TxtS(mg:Str->Option Value):Prop extends TxtB mg where
 b_str:mg "str"=none
noncomputable def Br(ns:List Str):Str:=if ns=[]then "-" else Txt.join "+" ns
noncomputable def Ax(r:List Int):Str:=if r=[]then "-" else Txt.join "." (r.map AR)
noncomputable def BY(q:List Int×Int):Str:=Ax q.1++"="++AR q.2
noncomputable def Di(t:List (List Int×Int)):Str:=if t=[]then "none" else Txt.join " " (t.map BY)
def HS:pF:=λxs K=>∃ns,xs=[BA ns]/\ns.length<=100/\(∀x∈ns,x.length<=100)/\K (.str (Br ns))
def C4:pF:=λxs K=>∃r,xs=[Ae r]/\r.length<=100/\(∀x∈r,Lo x)/\K (.str (Ax r))
def HU:pF:=λxs K=>∃t,xs=[Aw t]/\t.length<=1000/\(∀q∈t,q.1.length<=100/\(∀x∈q.1,Lo x)/\Lo q.2)/\K (.str (Di t))
theorem HV(z:Str){m:Nat}:∀ys:List Str,(∀x∈ys,x.length<=m)->(Str.join z ys).length<=ys.length * (m+z.length)
 |[],_=>Nat.zero_le _
 |[y],h=>by
  have:=h y (by simp)
  show y.length<=1 * (m+z.length)
  lia
 |y::y'::r,h=>by
  have h1:=h y (by simp)
  have h2:=HV z (y'::r) λx hx=>h x (by simp only[mem_cons]at hx ⊢;exact .inr hx)
  show(y++z++Str.join z (y'::r)).length<=_
  rw[PySem.strLen_append,PySem.strLen_append,length_cons,Nat.add_mul,Nat.one_mul]
  lia
theorem HW(hl:r.length<=100)(h:∀x∈r,Lo x):(Ax r).length<=4000:=by
 unfold Ax
 split
 ·decide +kernel
 ·rw[beq_iff_eq.mp (PyProof.Rows.join_plain_closes _ _)]
  refine Nat.le_trans (HV _ (m:=31) _ λx hx=>?_) ?_
  ·obtain⟨i,hi,rfl⟩:=mem_map.mp hx
   exact FU (h i hi)
  ·rw[length_map,show Str.length ((".":String):Str)=1 by decide +kernel];lia
theorem Vf(D:Ao K mg "room_text" Jr)(T:TxtS mg):Fn P' w K mg base "room_text" 1 ["room"] (AJ HS):=by
 refine Av D U0 (λ_ _ _ _ _ _ us hl=>BD hl (λ_=>rfl)) (λxs K h=>?_) (by decide) (λfa cdv A outer s H E hr=>⟨_,(AS (Ah (Ai (λ_=>(BJ hr)) BK (Ap (λ_=>BP) BQ (λ_=>T.b_len) nofun (AA (qv 0) AD)) AH (AY _))
 (AL (AQ AT))
 Aj)
 (AL (AQ (Df (λ_=>rfl) AT (qv 0))))),λxs K h=>?_⟩)
 ·obtain⟨_,rfl,_⟩:=h;rfl
 ·obtain⟨ns,rfl,hl,hx,h⟩:=h
  simp_arith[Aq]
  unfold Br at h
  refine Bc (λz=>?_) (λz=>?_)
  ·rw[if_pos (length_eq_zero_iff.mp (by simpa using z))]at h
   exact h
  ·rw[if_neg (λe=>z (by rw[e];rfl))]at h
   exact UN hl hx nofun ⟨rfl,h⟩
theorem Vg(D:Ao K mg "_law_room_text" J6)(T:TxtS mg):Fn P' w K mg base "_law_room_text" 1 ["_law_room"] (AJ HS):=by
 refine Av D VB (λ_ _ _ _ _ _ us hl=>BD hl (λ_=>rfl)) (λxs K h=>?_) (by decide) (λfa cdv A outer s H E hr=>⟨_,(AS (Ah (Ai (λ_=>(BJ hr)) BK (qv 0) (Be AD) (AY _))
 (AL (AQ AT))
 Aj)
 (AL (AQ (Df (λ_=>rfl) AT (CS (λ_=>LU) SA (λ_=>T.b_list) nofun (AA (qv 0) AD)))))),λxs K h=>?_⟩)
 ·obtain⟨_,rfl,_⟩:=h;rfl
 ·obtain⟨ns,rfl,hl,hx,h⟩:=h
  simp_arith[Aq]
  rw[show AG (BA ns) (.tup [])=decide (ns=[])from NF ns []]
  unfold Br at h
  refine Bc (λz=>?_) (λz=>?_)
  ·rw[if_pos (by simpa using z)]at h
   exact h
  ·rw[if_neg (by simpa using z)]at h
   refine FT (f:=λx=>x) (λ_=>rfl) hl hx nofun ?_
   rw[map_id']
   exact⟨rfl,h⟩
theorem Vh(D:Ao K mg "row_text" G9)(T:TxtS mg):Fn P' w K mg base "row_text" 1 ["row"] (AJ C4):=by
 refine Av D U1 (λ_ _ _ _ _ _ us hl=>BD hl (λ_=>rfl)) (λxs K h=>?_) (by decide) (λfa cdv A outer s H E hr=>⟨_,(AS (Ah (Ai (λ_=>(BJ hr)) BK (Ap (λ_=>BP) BQ (λ_=>T.b_len) nofun (AA (qv 0) AD)) AH (AY _))
 (AL (AQ AT))
 Aj)
 (AL (AQ (Df (λ_=>rfl) AT (Bi (N:=["row"]) (sc:=AN G9) (N':=["answer"]) (qB:=[none]) ⟨rfl,nofun,nofun,nofun,nofun,rfl,nofun⟩ (by decide) (λ_=>rfl) (ES (λ_=>rfl) (qv 0)) (Ci (k:=0) rfl (λ_=>show List.Nodup (["answer"]:List Str) by decide +kernel)) Bp (CS (λ_=>G0) Jk (λ_=>T.b_str) nofun (AA (qv 0) AD))))))),λxs K h=>?_⟩)
 ·obtain⟨_,rfl,_⟩:=h;rfl
 ·obtain⟨r,rfl,hl,hx,h⟩:=h
  simp_arith[Aq]
  unfold Ax at h
  refine Bc (λz=>?_) (λz=>?_)
  ·rw[if_pos (length_eq_zero_iff.mp (by simpa using z))]at h
   exact h
  ·rw[if_neg (λe=>z (by rw[e];rfl))]at h
   refine⟨by lia,A3.map (λx=>.str (AR x)) (λ_ _=>rfl) (λx hx' M hM=>⟨(hx x hx').1,(hx x hx').2,hM _⟩) ?_⟩
   exact FT (f:=AR) (m:=31) (n:=100) (λ_=>rfl) hl (λx hx'=>FU (hx x hx')) nofun ⟨rfl,h⟩
theorem Vi(D:Ao K mg "_law_row_text" HK)(T:TxtS mg):Fn P' w K mg base "_law_row_text" 1 ["_law_row"] (AJ C4):=by
 refine Av D VC (λ_ _ _ _ _ _ us hl=>BD hl (λ_=>rfl)) (λxs K h=>?_) (by decide) (λfa cdv A outer s H E hr=>⟨_,(AS (Ah (Ai (λ_=>(BJ hr)) BK (qv 0) (Be AD) (AY _))
 (AL (AQ AT))
 Aj)
 (AL (AQ (Df (λ_=>rfl) AT (Bi (N:=["_law_row"]) (sc:=AN HK) (N':=["_law_answer"]) (qB:=[none]) ⟨rfl,nofun,nofun,nofun,nofun,rfl,nofun⟩ (by decide) (λ_=>rfl) (ES (λ_=>rfl) (qv 0)) (Ci (k:=0) rfl (λ_=>show List.Nodup (["_law_answer"]:List Str) by decide +kernel)) Bp (CS (λ_=>G0) Jk (λ_=>T.b_str) nofun (AA (qv 0) AD))))))),λxs K h=>?_⟩)
 ·obtain⟨_,rfl,_⟩:=h;rfl
 ·obtain⟨r,rfl,hl,hx,h⟩:=h
  simp_arith[Aq]
  rw[show AG (Ae r) (.tup [])=decide (r=[])from ND r []]
  unfold Ax at h
  refine Bc (λz=>?_) (λz=>?_)
  ·rw[if_pos (by simpa using z)]at h
   exact h
  ·rw[if_neg (by simpa using z)]at h
   refine⟨by lia,A3.map (λx=>.str (AR x)) (λ_ _=>rfl) (λx hx' M hM=>⟨(hx x hx').1,(hx x hx').2,hM _⟩) ?_⟩
   exact FT (f:=AR) (m:=31) (n:=100) (λ_=>rfl) hl (λx hx'=>FU (hx x hx')) nofun ⟨rfl,h⟩
theorem HX(hl:q.1.length<=100)(h:∀x∈q.1,Lo x)(h2:Lo q.2):(Ax q.1).length<=4000/\(Ax q.1++"=").length<=4001/\(BY q).length<=4100:=by
 have h1:=HW hl h
 have h3:=FU h2
 have h4:Str.length (("=":String):Str)=1:=by decide +kernel
 refine⟨h1,?_,?_⟩
 ·rw[PySem.strLen_append];lia
 ·unfold BY;rw[PySem.strLen_append,PySem.strLen_append];lia
theorem Vj(D:Ao K mg "tally_text" HA)(T:TxtS mg)(qO:Fn P' w K mg base "row_text" 1 ["row"] (AJ C4)):Fn P' w K mg base "tally_text" 2 ["rows"] (AJ HU):=by
 refine Av D U2 (λ_ _ _ _ _ _ us hl=>BD hl (λ_=>rfl)) (λxs K h=>?_) (by decide) (λfa cdv A outer s H E hr=>⟨_,(AS (Ah (Ai (λ_=>(BJ hr)) BK (Ap (λ_=>BP) BQ (λ_=>T.b_len) nofun (AA (qv 0) AD)) AH (AY _))
 (AL (AQ AT))
 Aj)
 (AL (AQ (Df (λ_=>rfl) AT (Bi (N:=["rows"]) (sc:=AN HA) (N':=["row","count"]) (qB:=[none,none]) ⟨rfl,nofun,nofun,nofun,nofun,rfl,nofun⟩ (by decide) (λ_=>rfl) (DK (λ_=>rfl) (qv 0)) (D2 (i:=0) (j:=1) rfl rfl (λ_=>rfl) (λ_=>rfl) (λ_=>(BZ (A8 (i:=0) (show List.Nodup (["row","count"]:List Str) by decide +kernel) rfl (Or.inl rfl)) (BZ (A8 (i:=1) (show List.Nodup (["row","count"]:List Str) by decide +kernel) rfl (Or.inl rfl)) C8)))) Bp (FW (BM (CH (AU (λ_=>qO) (λ_=>hr.mq) (AA (qv 0) AD))) (BM AT (BM (CH (qv 1)) FV))))))))),λxs K h=>?_⟩)
 ·obtain⟨_,rfl,_⟩:=h;rfl
 ·obtain⟨t,rfl,hl,hx,h⟩:=h
  simp_arith[C4,Eg]
  unfold Di at h
  refine Bc (λz=>?_) (λz=>?_)
  ·rw[if_pos (length_eq_zero_iff.mp (by simpa using z))]at h
   exact h
  ·rw[if_neg (λe=>z (by rw[e];rfl))]at h
   refine⟨by lia,A3.map (λq=>.str (BY q)) (λ_ _=>rfl) (λq hq M hM=>?_) ?_⟩
   ·obtain⟨l1,l2,l3⟩:=hx q hq
    obtain⟨m1,m2,m3⟩:=HX l1 l2 l3
    have m4:=m3
    unfold BY at m4
    simp_arith[C4,Eg]
    exact⟨l1,l2,by lia,by lia,by lia,l3.1,l3.2,by lia,by lia,hM _⟩
   ·exact FT (f:=BY) (m:=4100) (n:=1000) (λ_=>rfl) hl (λq hq=>let⟨l1,l2,l3⟩:=hx q hq;(HX l1 l2 l3).2.2) nofun ⟨rfl,h⟩
theorem Vk(D:Ao K mg "_law_tally_text" HL)(T:TxtS mg)(qP:Fn P' w K mg base "_law_row_text" 1 ["_law_row"] (AJ C4)):Fn P' w K mg base "_law_tally_text" 2 ["_law_rows"] (AJ HU):=by
 refine Av D VD (λ_ _ _ _ _ _ us hl=>BD hl (λ_=>rfl)) (λxs K h=>?_) (by decide) (λfa cdv A outer s H E hr=>⟨_,(AS (Ah (Ai (λ_=>(BJ hr)) BK (qv 0) (CU AD) (AY _))
 (AL (AQ AT))
 Aj)
 (AL (AQ (Df (λ_=>rfl) AT (Bi (N:=["_law_rows"]) (sc:=AN HL) (N':=["_law_row","_law_count"]) (qB:=[none,none]) ⟨rfl,nofun,nofun,nofun,nofun,rfl,nofun⟩ (by decide) (λ_=>rfl) (DK (λ_=>rfl) (qv 0)) (D2 (i:=0) (j:=1) rfl rfl (λ_=>rfl) (λ_=>rfl) (λ_=>(BZ (A8 (i:=0) (show List.Nodup (["_law_row","_law_count"]:List Str) by decide +kernel) rfl (Or.inl rfl)) (BZ (A8 (i:=1) (show List.Nodup (["_law_row","_law_count"]:List Str) by decide +kernel) rfl (Or.inl rfl)) C8)))) Bp (CQ (λ_=>Fx) MM (CQ (λ_=>Fx) MM (AU (λ_=>qP) (λ_=>hr.mq) (AA (qv 0) AD)) AT) (CS (λ_=>G0) Jk (λ_=>T.b_str) nofun (AA (qv 1) AD)))))))),λxs K h=>?_⟩)
 ·obtain⟨_,rfl,_⟩:=h;rfl
 ·obtain⟨t,rfl,hl,hx,h⟩:=h
  simp_arith[C4]
  rw[show AG (Aw t) (.lst [])=decide (t=[])from NE t []]
  unfold Di at h
  refine Bc (λz=>?_) (λz=>?_)
  ·rw[if_pos (by simpa using z)]at h
   exact h
  ·rw[if_neg (by simpa using z)]at h
   refine⟨by lia,A3.map (λq=>.str (BY q)) (λ_ _=>rfl) (λq hq M hM=>?_) ?_⟩
   ·obtain⟨l1,l2,l3⟩:=hx q hq
    obtain⟨m1,m2,m3⟩:=HX l1 l2 l3
    have m4:=m3
    unfold BY at m4
    simp_arith[C4]
    have h3:=FU l3
    have h4:Str.length (("=":String):Str)=1:=by decide +kernel
    exact⟨l1,l2,by lia,l3.1,l3.2,by lia,hM _⟩
   ·exact FT (f:=BY) (m:=4100) (n:=1000) (λ_=>rfl) hl (λq hq=>let⟨l1,l2,l3⟩:=hx q hq;(HX l1 l2 l3).2.2) nofun ⟨rfl,h⟩
structure Txt(mg:Str->Option Value):Prop extends TxtB mg where
 g_HIGHEST_ANSWER:∃t,mg "HIGHEST_ANSWER"=some (.int 9 t)
theorem Vl(D:Ao K mg "is_row" G8)(T:Txt mg):Fn P' w K mg base "is_row" 1 ["room","row"] (AJ NN):=by
 refine Av D Uy (λ_ _ _ _ _ _ us hl=>C5 hl (λ_ _=>rfl)) (λxs K h=>?_) (by decide) (λfa cdv A outer s H E hr=>⟨_,(AS (Ah (Ai (λ_=>(Cy hr)) Cz (Ap (λ_=>BP) BQ (λ_=>T.b_len) nofun (AA (qv 1) AD)) (Ap (λ_=>BP) BQ (λ_=>T.b_len) nofun (AA (qv 0) AD)) (AY _))
 (AL (AQ B2))
 Aj)
 (AL (AQ (Ap (λ_=>(DD rfl)) DL (λ_=>T.b_all) nofun (AA (Bi (N:=["room","row"]) (sc:=AN G8) (N':=["answer"]) (qB:=[none]) ⟨rfl,nofun,nofun,nofun,nofun,rfl,nofun⟩ (by decide) (λ_=>rfl) (ES (λ_=>rfl) (qv 1)) (Ci (k:=0) rfl (λ_=>show List.Nodup (["answer"]:List Str) by decide +kernel)) Bp (Ie (λ_=>DT) EU (λ_=>DT) EU AH (qv 0) (E8 (λ_=>T.g_HIGHEST_ANSWER)))) AD))))),λxs K h=>?_⟩)
 ·obtain⟨_,_,rfl,_⟩:=h;rfl
 ·obtain⟨qG,r,rfl,hl,h⟩:=h
  simp_arith only[length_map]
  unfold C0 at h
  refine Bc (λz=>?_) (λz=>?_)
  ·rw[decide_eq_false (by lia),Bool.false_and]at h
   exact h
  ·rw[decide_eq_true (by lia),Bool.true_and]at h
   refine⟨by lia,A3.map (λx=>.bl (decide (0<=x/\x<=9))) (λ_ _=>rfl) (λx _ M hM=>?_) ?_⟩
   ·simp_arith only[Aq]
    have hM:=hM .fr
    refine Bc (λz=>?_) (λz=>?_)
    ·rw[show decide (0<=x/\x<=9)=decide (x<=9)from decide_eq_decide.mpr (by lia)]at hM
     exact hM
    ·rw[decide_eq_false (by lia)]at hM
     exact hM
   ·refine⟨r.map λx=>decide (0<=x/\x<=9),by rw[map_map];rfl,?_⟩
    rw[all_map]
    exact h
theorem OF:∀rs:List (List Int),C1 rs=((rs.zip (rs.drop 1)).map λq=>HT.lexLt q.1 q.2).all id
 |[]=>rfl
 |[_]=>rfl
 |a::b::r=>by
  have:=OF (b::r)
  simp only[drop_succ_cons,drop_zero,zip_cons_cons,map_cons,all_cons,id]at this ⊢
  rw[C1,this]
theorem En{α:Type}(xs:List α):cut xs (some 1) none=xs.drop 1:=by
 unfold cut
 cases xs with
 |nil=>simp
 |cons a r=>
  rw[show HT.sIx (a::r).length 0 (some 1)=1 by simp[HT.sIx];try lia,show HT.sIx (a::r).length (a::r).length none=(a::r).length by simp[HT.sIx]]
  simp
theorem Vm(D:Ao K mg "rises" Ek)(T:TxtB mg):Fn P' w K mg base "rises" 1 ["things"] (AJ NO):=by
 refine Av D N0 (λ_ _ _ _ _ _ us hl=>BD hl (λ_=>rfl)) (λxs K h=>?_) (by decide) (λfa cdv A outer s H E hr=>⟨_,(AL (AQ (Ap (λ_=>(DD rfl)) DL (λ_=>T.b_all) nofun (AA (Bi (N:=["things"]) (sc:=AN Ek) (N':=["low","high"]) (qB:=[none,none]) ⟨rfl,nofun,nofun,nofun,nofun,rfl,nofun⟩ (by decide) (λ_=>rfl) (TC (λ_=>rfl) (λ_=>T.b_zip) (qv 0) (Gk (λ_=>rfl) (qv 0) (Gj AH) Gi)) (D2 (i:=0) (j:=1) rfl rfl (λ_=>rfl) (λ_=>rfl) (λ_=>(BZ (A8 (i:=0) (show List.Nodup (["low","high"]:List Str) by decide +kernel) rfl (Or.inl rfl)) (BZ (A8 (i:=1) (show List.Nodup (["low","high"]:List Str) by decide +kernel) rfl (Or.inl rfl)) C8)))) Bp (E9 (λ_=>(S8 hr)) TB (qv 0) (qv 1) (AY _))) AD)))),λxs K h=>?_⟩)
 ·obtain⟨_,rfl,_⟩:=h;rfl
 ·obtain⟨rs,rfl,hl,h⟩:=h
  simp_arith only[Aq]
  rw[En,<-map_drop]
  have e:∀xs ys:List (List Int),zipWith BR (xs.map Ae) (ys.map Ae)=(xs.zip ys).map λq=>BR (Ae q.1) (Ae q.2):=λxs=>by
   induction xs with
   |nil=>intro ys;rfl
   |cons x xs ih=>intro ys;cases ys with
    |nil=>rfl
    |cons y ys=>simp only[map_cons,zipWith_cons_cons,zip_cons_cons,ih]
  rw[e,length_map,length_zip]
  refine⟨M6 _,by lia,A3.map (λq=>.bl (HT.lexLt q.1 q.2)) (λ_ _=>rfl) (λq _ M hM=>?_) ?_⟩
  ·simp_arith only[BR]
   exact hM .fr
  ·refine⟨(rs.zip (rs.drop 1)).map λq=>HT.lexLt q.1 q.2,by rw[map_map];rfl,?_⟩
   rw[<-OF]
   exact h
theorem Vn(D:Ao K mg "is_tally" FY)(T:TxtB mg)(qQ:Fn P' w K mg base "is_row" 1 ["room","row"] (AJ NN))(qR:Fn P' w K mg base "rises" 1 ["things"] (AJ NO)):Fn P' w K mg base "is_tally" 2 ["room","rows"] (AJ NP):=by
 refine Av D Uz (λ_ _ _ _ _ _ us hl=>C5 hl (λ_ _=>rfl)) (λxs K h=>?_) (by decide) (λfa cdv A outer s H E hr=>⟨_,(AS (Ah (Bg (Bf (Ap (λ_=>(DD rfl)) DL (λ_=>T.b_all) nofun (AA (Bi (N:=["room","rows"]) (sc:=AN FY) (N':=["row","count","room"]) (qB:=[none,none,some 0]) ⟨rfl,nofun,nofun,nofun,nofun,rfl,nofun⟩ (by decide) (λ_=>rfl) (DK (λ_=>rfl) (qv 1)) (D2 (i:=0) (j:=1) rfl rfl (λ_=>rfl) (λ_=>rfl) (λ_=>(BZ (A8 (i:=0) (show List.Nodup (["row","count","room"]:List Str) by decide +kernel) rfl (Or.inl rfl)) (BZ (A8 (i:=1) (show List.Nodup (["row","count","room"]:List Str) by decide +kernel) rfl (Or.inl rfl)) C8)))) Bp (GP (AU (λ_=>qQ) (λ_=>hr.mq) (AA (qv 2) (AA (qv 0) AD))) (GO (E9 (λ_=>Kh) ML (qv 1) AH (AY _))))) AD))))
 (AL (AQ B2))
 Aj)
 (AL (AQ (AU (λ_=>qR) (λ_=>hr.mq) (AA (Bi (N:=["room","rows"]) (sc:=AN FY) (N':=["row","count"]) (qB:=[none,none]) ⟨rfl,nofun,nofun,nofun,nofun,rfl,nofun⟩ (by decide) (λ_=>rfl) (DK (λ_=>rfl) (qv 1)) (D2 (i:=0) (j:=1) rfl rfl (λ_=>rfl) (λ_=>rfl) (λ_=>(BZ (A8 (i:=0) (show List.Nodup (["row","count"]:List Str) by decide +kernel) rfl (Or.inl rfl)) (BZ (A8 (i:=1) (show List.Nodup (["row","count"]:List Str) by decide +kernel) rfl (Or.inl rfl)) C8)))) Bp (qv 0)) AD))))),λxs K h=>?_⟩)
 ·obtain⟨_,_,rfl,_⟩:=h;rfl
 ·obtain⟨qG,t,rfl,hl,hq,h⟩:=h
  simp_arith only[length_map]
  refine⟨by lia,A3.map (λq=>.bl (C0 qG.length q.1&&decide (1<=q.2))) (λ_ _=>rfl) (λq hm M hM=>?_) ?_⟩
  ·simp_arith only[Aq]
   refine⟨qG,q.1,rfl,hq q hm,?_⟩
   have hM:=hM .fr
   cases e:C0 qG.length q.1
   ·rw[e,Bool.false_and]at hM
    simp_arith only[Aq]
    exact hM
   ·rw[e,Bool.true_and]at hM
    simp_arith only[Aq]
    exact hM
  ·refine⟨t.map λq=>C0 qG.length q.1&&decide (1<=q.2),by rw[map_map];rfl,?_⟩
   unfold Gs at h
   rw[all_map]
   have e0:t.all (id ∘ λq:List Int×Int=>C0 qG.length q.1&&decide (1<=q.2))=t.all λq=>C0 qG.length q.1&&decide (1<=q.2):=rfl
   rw[e0]
   cases e:t.all λq=>C0 qG.length q.1&&decide (1<=q.2)
   ·rw[e,Bool.false_and]at h
    simp only[if_true]
    exact h
   ·rw[e,Bool.true_and]at h
    simp only[Bool.true_eq_false,if_false]
    refine⟨by lia,A3.map (λq=>Ae q.1) (λ_ _=>Dd _) (λq hm M hM=>?_) ?_⟩
    ·simp_arith only[Aq]
     exact hM _
    ·refine⟨t.map (·.1),by rw[map_map];rfl,by rw[length_map];lia,h⟩
def Eo:pF:=λxs K=>∃i,xs=[.int i]/\K (.bl true)
theorem Vo(D:Ao K mg "_law_whole" Jy)(T:TxtB mg):Fn P' w K mg base "_law_whole" 1 ["_law_found"] (AJ Eo):=by
 refine Av D U6 (λ_ _ _ _ _ _ us hl=>BD hl (λ_=>rfl)) (λxs K h=>?_) (by decide) (λfa cdv A outer s H E hr=>⟨_,(AL (AQ (GP (CD (n:="int") (by simp) (λ_=>rfl) (λ_=>T.b_isinstance) (λ_=>T.b_int) nofun (qv 0)) (GO (Re (CD (n:="bool") (by simp) (λ_=>rfl) (λ_=>T.b_isinstance) (λ_=>T.b_bool) nofun (qv 0))))))),λxs K h=>?_⟩)
 ·obtain⟨_,rfl,_⟩:=h;rfl
 ·obtain⟨i,rfl,h⟩:=h
  simp_arith[Aq]
  exact h
def KB:pF:=λxs K=>∃r,xs=[Ae r]/\r.length<=100/\K (.bl true)
theorem Vp(D:Ao K mg "_law_tuple" HD)(T:TxtB mg)(qS:Fn P' w K mg base "_law_whole" 1 ["_law_found"] (AJ Eo)):Fn P' w K mg base "_law_tuple" 2 ["_law_found"] (AJ KB):=by
 refine Av D U7 (λ_ _ _ _ _ _ us hl=>BD hl (λ_=>rfl)) (λxs K h=>?_) (by decide) (λfa cdv A outer s H E hr=>⟨_,(AS (Ah (Bg (Bf (CD (n:="tuple") (by simp) (λ_=>rfl) (λ_=>T.b_isinstance) (λ_=>T.b_tuple) nofun (qv 0))))
 (AL (AQ B2))
 Aj)
 (AL (AQ (Ap (λ_=>(DD rfl)) DL (λ_=>T.b_all) nofun (AA (Bi (N:=["_law_found"]) (sc:=AN HD) (N':=["_law_one"]) (qB:=[none]) ⟨rfl,nofun,nofun,nofun,nofun,rfl,nofun⟩ (by decide) (λ_=>rfl) (ES (λ_=>rfl) (qv 0)) (Ci (k:=0) rfl (λ_=>show List.Nodup (["_law_one"]:List Str) by decide +kernel)) Bp (AU (λ_=>qS) (λ_=>hr.mq) (AA (qv 0) AD))) AD))))),λxs K h=>?_⟩)
 ·obtain⟨_,rfl,_⟩:=h;rfl
 ·obtain⟨r,rfl,hl,h⟩:=h
  simp_arith[Eo]
  refine⟨by lia,A3.map (λ_=>.bl true) (λ_ _=>rfl) (λx _ M hM=>?_) ?_⟩
  ·simp_arith[Aq]
   exact hM _
  ·refine⟨r.map λ_=>true,by rw[map_map];rfl,?_⟩
   rw[all_map,show r.all (id ∘ λ_=>true)=true by simp]
   exact h
def OG:pF:=λxs K=>∃t:Tl,xs=[Aw t,Aw t]/\t.length<=1000/\(∀q∈t,q.1.length<=100)/\K (.bl true)
def Vq:pS:=λE ρ=>∃(t:Tl) (k:Nat),ρ=[.sh (Aw t),.sh (Aw t),.sh (.int k)]/\k<t.length/\(∀q∈t,q.1.length<=100)/\E.nx [.sh (Aw t),.sh (Aw t),.sh (.int k)]
def Vr:pS:=λE ρ=>∃(t:Tl),ρ=[.sh (Aw t),.sh (Aw t),.emp]/\t.length<=1000/\(∀q∈t,q.1.length<=100)/\∀x,E.nx [.sh (Aw t),.sh (Aw t),x]
theorem Vs{t:Tl}(h:n<t.length):atI (t.map Ba) (n:Int)=some (Ba t[n]):=Bx (by rw[getElem?_map,getElem?_eq_getElem h];rfl)
theorem Vt{α:Type}(x:α)(r:List α):atI (x::r) 0=some x:=Bx (j:=0) rfl
theorem Vu{α:Type}(x y:α)(r:List α):atI (x::y::r) 1=some y:=Bx (j:=1) rfl
theorem Vv(q:List Int×Int):AG (Ba q) (Ba q)=true:=(D3 (JR q) (JR q)).mpr rfl
theorem Vw(D:Ao K mg "_law_same" Jz)(T:TxtB mg)(qT:Fn P' w K mg base "_law_tuple" 2 ["_law_found"] (AJ KB))(qS:Fn P' w K mg base "_law_whole" 1 ["_law_found"] (AJ Eo)):Fn P' w K mg base "_law_same" 3 ["_law_found","_law_due"] (AJ OG):=by
 refine Av D N4 (λ_ _ _ _ _ _ us hl=>C5 hl (λ_ _=>rfl)) (λxs K h=>?_) (by decide) (λfa cdv A outer s H E hr=>⟨_,(AS (Ah (QW.pt (DG (Bg (Bf (CD (n:="list") (by simp) (λ_=>rfl) (λ_=>T.b_isinstance) (λ_=>T.b_list) nofun (qv 0)))) (Da (Ai (λ_=>(Cy hr)) Cz (Ap (λ_=>BP) BQ (λ_=>T.b_len) nofun (AA (qv 0) AD)) (Ap (λ_=>BP) BQ (λ_=>T.b_len) nofun (AA (qv 1) AD)) (AY _)))))
 (AL (AQ B2))
 Aj)
 (AS (QS.weak (m:=Vr) (FE (λ_=>PassesOwn.never) (λ_=>rfl) (Ik (λ_=>T.b_range) (AA (Ap (λ_=>BP) BQ (λ_=>T.b_len) nofun (AA (qv 1) AD)) AD)) (GR (k:=2) (λ_=>N4.nd))
 (BF.weak (m:=Vq) (AS (Ah (QW.pt (DG (Bg (Bf (CD (n:="tuple") (by simp) (λ_=>rfl) (λ_=>T.b_isinstance) (λ_=>T.b_tuple) nofun (AZ (λ_=>Aa) Ab (qv 0) (qv 2) (λ_ _=>rfl))))) (Da (Ai (λ_=>(Cy hr)) Cz (Ap (λ_=>BP) BQ (λ_=>T.b_len) nofun (AA (AZ (λ_=>Aa) Ab (qv 0) (qv 2) (λ_ _=>rfl)) AD)) AH (AY _)))))
 (AL (AQ B2))
 Aj)
 (AL (Ah (QW.pt (DG (Bg (Bf (AU (λ_=>qT) (λ_=>hr.mq) (AA (AZ (λ_=>Aa) Ab (AZ (λ_=>Aa) Ab (qv 0) (qv 2) (λ_ _=>rfl)) AH (λ_ _=>rfl)) AD)))) (DG (Bg (Bf (AU (λ_=>qS) (λ_=>hr.mq) (AA (AZ (λ_=>Aa) Ab (AZ (λ_=>Aa) Ab (qv 0) (qv 2) (λ_ _=>rfl)) AH (λ_ _=>rfl)) AD)))) (Da (Ai (λ_=>(Cy hr)) Cz (AZ (λ_=>Aa) Ab (qv 0) (qv 2) (λ_ _=>rfl)) (AZ (λ_=>Aa) Ab (qv 1) (qv 2) (λ_ _=>rfl)) (AY _))))))
 (AL (AQ B2))
 Aj))) ?body0)) ?loop0)
 (AL (AQ B2)))),λxs K h=>?_⟩)
 case body0 =>
  rintro E ρ ⟨t,k,rfl,hk,hr,h⟩
  have:=hr _ (getElem_mem hk)
  simp_arith[KB,Eo,Vs hk,Vt,Vu,Vv]
  exact⟨by lia,h⟩
 case loop0 =>
  rintro E ρ ⟨t,rfl,l1,hr,h⟩
  simp_arith[Aq]
  refine⟨by lia,by lia,λj ρ=>∃(x:S),ρ=[.sh (Aw t),.sh (Aw t),x],⟨_,rfl⟩,λj ρ' x hx hI=>?_,λρ' hI=>?_⟩
  ·obtain⟨x1,rfl⟩:=hI
   obtain⟨hj,rfl⟩:=Ij hx
   simp_arith[Aq]
   exact⟨t,j,by rw[Int.zero_add],by lia,hr,⟨_,rfl⟩⟩
  ·obtain⟨x1,rfl⟩:=hI
   exact h x1
 ·obtain⟨_,rfl,_⟩:=h;rfl
 ·obtain⟨t,rfl,l1,hr,h⟩:=h
  simp_arith[Aq]
  refine⟨t,rfl,l1,hr,λx=>?_⟩
  simp_arith[Aq]
  exact h
end
end K
namespace K
open PySem L2
section
variable{K:Fg}
structure TxtN(mg:Str->Option Value):Prop extends Txt mg where
 b_str:mg "str"=none
 g_MOST_LETTERS:∃t,mg "MOST_LETTERS"=some (.int 8 t)
 g_MOST_QUESTIONS:∃t,mg "MOST_QUESTIONS"=some (.int 6 t)
 g_MOST_FIGURES:∃t,mg "MOST_FIGURES"=some (.int 13 t)
theorem HY(a b:Nat):(!decide ((⟨#[b]⟩:Str).cps.toList<(⟨#[a]⟩:Str).cps.toList))=decide (a<=b):=by
 show(!decide ([b]<[a]))=_
 by_cases h:a<=b
 ·rw[decide_eq_true h,decide_eq_false λz=>?_];rfl
  rcases cons_lt_cons_iff.mp z with z|⟨_,z⟩
  ·lia
  ·exact absurd z (not_lt_nil _)
 ·rw[decide_eq_false h,decide_eq_true (cons_lt_cons_iff.mpr (.inl (by lia)))];rfl
def KC:pF:=λxs K=>∃x:Str,xs=[.str x]/\Bb x/\K (.bl true)
theorem Vx(D:Ao K mg "is_name" G6)(T:TxtN mg):Fn P' w K mg base "is_name" 1 ["text"] (AJ KC):=by
 refine Av D Uw (λ_ _ _ _ _ _ us hl=>BD hl (λ_=>rfl)) (λxs K h=>?_) (by decide) (λfa cdv A outer s H E hr=>⟨_,(AS (Ah (Bg (Lw (λ_=>DT) EU (λ_=>DT) EU AH (Ap (λ_=>BP) BQ (λ_=>T.b_len) nofun (AA (qv 0) AD)) (E8 (λ_=>T.g_MOST_LETTERS))))
 (AL (AQ B2))
 Aj)
 (AL (AQ (Ap (λ_=>(DD rfl)) DL (λ_=>T.b_all) nofun (AA (Bi (N:=["text"]) (sc:=AN G6) (N':=["sign"]) (qB:=[none]) ⟨rfl,nofun,nofun,nofun,nofun,rfl,nofun⟩ (by decide) (λ_=>rfl) (ME (qv 0)) (Ci (k:=0) rfl (λ_=>show List.Nodup (["sign"]:List Str) by decide +kernel)) Bp (Ie (λ_=>F9) Gc (λ_=>F9) Gc AT (qv 0) AT)) AD))))),λxs K h=>?_⟩)
 ·obtain⟨_,rfl,_⟩:=h;rfl
 ·obtain⟨x,rfl,gx,h⟩:=h
  have g1:=gx.1
  have g2:=gx.2.1
  refine⟨by lia,trivial,true,congrArg P.bl (decide_eq_true (by lia)),trivial,true,congrArg P.bl (decide_eq_true (by lia)),x,rfl,nofun,by rw[length_map,Array.length_toList];show x.length<=_;lia,A3.map (λ_:Nat=>P.bl true) (λ_ _=>rfl) (λc hc M hM=>?_) ⟨x.cps.toList.map λ_=>true,by rw[map_map];rfl,A6 rfl,?_⟩⟩
  ·obtain⟨c1,c2⟩:=gx.2.2 c hc
   have hM:=hM .fr
   have e1:=(HY 97 c).trans (decide_eq_true c1)
   have e2:=(HY c 122).trans (decide_eq_true c2)
   rw[<-e2]at hM
   exact⟨trivial,true,congrArg P.bl e1,trivial,hM⟩
  ·rw[show(x.cps.toList.map λ_=>true).all id=true by simp]
   exact h
def OH:pF:=λxs K=>∃ns:List Str,xs=[BA ns]/\ns.length<=100/\ns.Pairwise (λa b=>a.cps.toList<b.cps.toList)/\K (.bl true)
theorem Vy(D:Ao K mg "rises" Ek)(T:TxtB mg):Fn P' w K mg base "rises" 1 ["things"] (AJ OH):=by
 refine Av D N0 (λ_ _ _ _ _ _ us hl=>BD hl (λ_=>rfl)) (λxs K h=>?_) (by decide) (λfa cdv A outer s H E hr=>⟨_,(AL (AQ (Ap (λ_=>(DD rfl)) DL (λ_=>T.b_all) nofun (AA (Bi (N:=["things"]) (sc:=AN Ek) (N':=["low","high"]) (qB:=[none,none]) ⟨rfl,nofun,nofun,nofun,nofun,rfl,nofun⟩ (by decide) (λ_=>rfl) (Ue (λ_=>rfl) (λ_=>T.b_zip) (qv 0) (Gk (λ_=>rfl) (qv 0) (Gj AH) Gi)) (D2 (i:=0) (j:=1) rfl rfl (λ_=>rfl) (λ_=>rfl) (λ_=>(BZ (A8 (i:=0) (show List.Nodup (["low","high"]:List Str) by decide +kernel) rfl (Or.inl rfl)) (BZ (A8 (i:=1) (show List.Nodup (["low","high"]:List Str) by decide +kernel) rfl (Or.inl rfl)) C8)))) Bp (E9 (λ_=>Pg) R9 (qv 0) (qv 1) (AY _))) AD)))),λxs K h=>?_⟩)
 ·obtain⟨_,rfl,_⟩:=h;rfl
 ·obtain⟨ns,rfl,hl,hs,h⟩:=h
  have cd:cut (ns.map P.str) (some 1) none=(ns.drop 1).map P.str:=by rw[En,map_drop]
  have ez:∀xs ys:List Str,zipWith BR (xs.map P.str) (ys.map P.str)=(xs.zip ys).map λq=>BR (.str q.1) (.str q.2):=λxs=>by
   induction xs with
   |nil=>intro ys;rfl
   |cons x xs ih=>intro ys;cases ys with
    |nil=>rfl
    |cons y ys=>simp only[map_cons,zipWith_cons_cons,zip_cons_cons,ih]
  refine⟨_,_,rfl,congrArg P.tup cd,⟨IV _,IV _⟩,nofun,by rw[length_zipWith,length_map];lia,?_⟩
  rw[ez]
  refine A3.map (λ_=>P.bl true) (λ_ _=>rfl) (λq hq M hM=>?_) ⟨(ns.zip (ns.drop 1)).map λ_=>true,by rw[map_map];rfl,A6 rfl,?_⟩
  ·have hM:=hM .fr
   have lt:q.1.cps.toList<q.2.cps.toList:=by
    obtain⟨i,hi,e⟩:=getElem_of_mem hq
    rw[getElem_zip,getElem_drop]at e
    rw[<-e]
    rw[length_zip,length_drop]at hi
    exact pairwise_iff_getElem.mp hs i (1+i) (by lia) (by lia) (by lia)
   rw[<-decide_eq_true lt]at hM
   exact⟨_,rfl,rfl,A5 rfl (A5 rfl ⟨trivial,hM⟩)⟩
  ·rw[show((ns.zip (ns.drop 1)).map λ_=>true).all id=true by simp]
   exact h
def OJ:pF:=λxs K=>∃ns:List Str,xs=[BA ns]/\ns.length<=6/\(∀x∈ns,Bb x)/\ns.Pairwise (λa b=>a.cps.toList<b.cps.toList)/\K (.bl true)
theorem Vz(D:Ao K mg "is_room" G7)(T:TxtN mg)(qU:Fn P' w K mg base "is_name" 1 ["text"] (AJ KC))(qR:Fn P' w K mg base "rises" 1 ["things"] (AJ OH)):Fn P' w K mg base "is_room" 2 ["names"] (AJ OJ):=by
 refine Av D Ux (λ_ _ _ _ _ _ us hl=>BD hl (λ_=>rfl)) (λxs K h=>?_) (by decide) (λfa cdv A outer s H E hr=>⟨_,(AS (Ah (Ai (λ_=>Hu) MK (Ap (λ_=>BP) BQ (λ_=>T.b_len) nofun (AA (qv 0) AD)) (E8 (λ_=>T.g_MOST_QUESTIONS)) (AY _))
 (AL (AQ B2))
 Aj)
 (AL (AQ (GP (Ap (λ_=>(DD rfl)) DL (λ_=>T.b_all) nofun (AA (Bi (N:=["names"]) (sc:=AN G7) (N':=["name"]) (qB:=[none]) ⟨rfl,nofun,nofun,nofun,nofun,rfl,nofun⟩ (by decide) (λ_=>rfl) (ES (λ_=>rfl) (qv 0)) (Ci (k:=0) rfl (λ_=>show List.Nodup (["name"]:List Str) by decide +kernel)) Bp (AU (λ_=>qU) (λ_=>hr.mq) (AA (qv 0) AD))) AD)) (GO (AU (λ_=>qR) (λ_=>hr.mq) (AA (qv 0) AD))))))),λxs K h=>?_⟩)
 ·obtain⟨_,rfl,_⟩:=h;rfl
 ·obtain⟨ns,rfl,hl,hg,hs,h⟩:=h
  refine⟨trivial,false,congrArg P.bl (decide_eq_false (by rw[length_map];lia)),_,rfl,nofun,by rw[length_map];lia,A3.map (λ_=>P.bl true) (λ_ _=>rfl) (λx hx M hM=>⟨x,rfl,hg x hx,hM _⟩) ⟨ns.map λ_=>true,by rw[map_map];rfl,true,congrArg P.bl (by simp),ns,rfl,by lia,hs,A6 rfl,h⟩⟩
end
end K
namespace K
open PySem L2
section
variable{K:Fg}
def KD:pF:=λxs K=>∃c:Nat,xs=[.str ⟨#[c]⟩]/\48<=c/\c<=57/\K (.bl true)
theorem V0(D:Ao K mg "is_figure" Jt)(T:TxtB mg):Fn P' w K mg base "is_figure" 1 ["sign"] (AJ KD):=by
 refine Av D U3 (λ_ _ _ _ _ _ us hl=>BD hl (λ_=>rfl)) (λxs K h=>?_) (by decide) (λfa cdv A outer s H E hr=>⟨_,(AL (AQ (GP (E9 (λ_=>(BJ hr)) BK (Ap (λ_=>BP) BQ (λ_=>T.b_len) nofun (AA (qv 0) AD)) AH (AY _)) (GO (Ie (λ_=>F9) Gc (λ_=>F9) Gc AT (qv 0) AT))))),λxs K h=>?_⟩)
 ·obtain⟨_,rfl,_⟩:=h;rfl
 ·obtain⟨c,rfl,c1,c2,h⟩:=h
  have e1:=(HY 48 c).trans (decide_eq_true c1)
  have e2:=(HY c 57).trans (decide_eq_true c2)
  rw[<-e2]at h
  exact⟨by show 1<=_;decide,⟨rfl,rfl⟩,true,rfl,trivial,true,congrArg P.bl e1,trivial,A6 rfl,h⟩
def OK:pF:=λxs K=>∃x:Str,xs=[.str x]/\Bb x/\K (.str x)
theorem V1(D:Ao K mg "read_name" Ju)(T:TxtN mg)(qU:Fn P' w K mg base "is_name" 1 ["text"] (AJ KC)):Fn P' w K mg base "read_name" 2 ["word"] (AJ OK):=by
 refine Av D U4 (λ_ _ _ _ _ _ us hl=>BD hl (λ_=>rfl)) (λxs K h=>?_) (by decide) (λfa cdv A outer s H E hr=>⟨_,(AS (Ah (Bg (Bf (AU (λ_=>qU) (λ_=>hr.mq) (AA (qv 0) AD))))
 (AL Dy)
 Aj)
 (AL (AQ (qv 0)))),λxs K h=>?_⟩)
 ·obtain⟨_,rfl,_⟩:=h;rfl
 ·obtain⟨x,rfl,gx,h⟩:=h
  exact⟨x,rfl,gx,true,rfl,A6 rfl,h⟩
theorem CI(x y:Str):AG (.str x) (.str y)=decide (x=y):=M8 x y
def OL:pF:=λxs K=>∃ns:List Str,xs=[.str (Br ns)]/\ns.length<=6/\(∀x∈ns,Bb x)/\ns.Pairwise (λa b=>a.cps.toList<b.cps.toList)/\K (BA ns)
theorem V2{ns:List Str}(ne:ns≠[])(hg:∀x∈ns,Bb x):Txt.join "+" ns≠"-"/\Txt.split (Txt.join "+" ns) "+"=ns:=by
 have sp:=Jo (c:=43) ne λx hx z=>by have:=(hg x hx).2.2 43 z;lia
 refine⟨λe=>?_,sp⟩
 have sp':Txt.split (Txt.join (Str.ofString "+") ns) (Str.ofString "+")=ns:=sp
 rw[show Txt.join (Str.ofString "+") ns=Str.ofString "-" from e]at sp'
 have:Txt.split (Str.ofString "-") (Str.ofString "+")=[Str.ofString "-"]:=by decide +kernel
 rw[this]at sp'
 have:=(hg (Str.ofString "-") (by rw[<-sp'];exact mem_singleton_self _)).2.2 45 nofun
 lia
theorem OM{ns:List Str}(hl:ns.length<=6)(hg:∀x∈ns,Bb x):(Txt.join "+" ns).length<=100:=by
 rw[beq_iff_eq.mp (PyProof.Rows.join_plain_closes _ _)]
 refine Nat.le_trans (HV _ (m:=8) _ λx hx=>(hg x hx).2.1) ?_
 rw[show Str.length (("+":String):Str)=1 by decide +kernel];lia
theorem V3(D:Ao K mg "read_room" Jv)(T:TxtN mg)(qV:Fn P' w K mg base "is_room" 2 ["names"] (AJ OJ)):Fn P' w K mg base "read_room" 3 ["word"] (AJ OL):=by
 refine Av D N2 (λ_ _ _ _ _ _ us hl=>BD hl (λ_=>rfl)) (λxs K h=>?_) (by decide) (λfa cdv A outer s H E hr=>⟨_,(AS (Ah (Ai (λ_=>(BJ hr)) BK (qv 0) AT (AY _))
 (AL (AQ (Be AD)))
 Aj)
 (AS (Bh (k:=1) (λ_=>N2.nd) (CS (λ_=>GB) Gf (λ_=>T.b_tuple) nofun (AA (Jn (λ_=>rfl) (qv 0) AT) AD)))
 (AS (Ah (Bg (Bf (AU (λ_=>qV) (λ_=>hr.mq) (AA (qv 1) AD))))
 (AL Dy)
 Aj)
 (AL (AQ (qv 1)))))),λxs K h=>?_⟩)
 ·obtain⟨_,rfl,_⟩:=h;rfl
 ·obtain⟨ns,rfl,hl,hg,hs,h⟩:=h
  unfold Br
  by_cases ne:ns=[]
  ·rw[if_pos ne]
   subst ne
   exact⟨⟨rfl,rfl⟩,true,congrArg P.bl (by rw[CI];exact decide_eq_true rfl),rfl,A6 rfl,h⟩
  ·rw[if_neg ne]
   obtain⟨nd,sp⟩:=V2 ne hg
   refine⟨⟨rfl,rfl⟩,false,congrArg P.bl (by rw[CI];exact decide_eq_false nd),_,rfl,_,rfl,nofun,by have:=OM hl hg;lia,?_⟩
   rw[sp]
   exact A5 (Ej _) ⟨ns,rfl,hl,hg,hs,true,rfl,A6 (Ej _),h⟩
theorem HZ{x:Int}(h:0<=x/\x<=9):∃m:Nat,x=(m:Int)/\m<10:=⟨x.toNat,by lia,by lia⟩
def KF:pF:=λxs K=>∃r:List Int,xs=[.str (Ax r)]/\r.length<=6/\(∀x∈r,0<=x/\x<=9)/\K (Ae r)
theorem V4(ne:r≠[])(hr:∀x∈r,0<=x/\x<=9):Txt.join "." (r.map AR)≠"-"/\Txt.split (Txt.join "." (r.map AR)) "."=r.map AR:=by
 have ds:∀w∈r.map AR,∀c∈sg w,48<=c/\c<=57:=λw hw=>by
  obtain⟨x,hx,rfl⟩:=mem_map.mp hw
  obtain⟨m,rfl,hm⟩:=HZ (hr x hx)
  exact FX m
 have sp:=Jo (c:=46) (ws:=r.map AR) (by simpa using ne) λw hw z=>by have:=ds w hw 46 z;lia
 refine⟨λe=>?_,sp⟩
 have sp':Txt.split (Txt.join (Str.ofString ".") (r.map AR)) (Str.ofString ".")=r.map AR:=sp
 rw[show Txt.join (Str.ofString ".") (r.map AR)=Str.ofString "-" from e]at sp'
 have:Txt.split (Str.ofString "-") (Str.ofString ".")=[Str.ofString "-"]:=by decide +kernel
 rw[this]at sp'
 have:=ds (Str.ofString "-") (by rw[<-sp'];exact mem_singleton_self _) 45 nofun
 lia
theorem Dj(hr:∀x∈r,0<=x/\x<=9):∀x∈r,Lo x:=λx hx=>by
 have:=hr x hx
 exact⟨by lia,by lia⟩
theorem V5(D:Ao K mg "read_row" FZ)(T:TxtN mg)(qW:Fn P' w K mg base "is_figure" 1 ["sign"] (AJ KD)):Fn P' w K mg base "read_row" 2 ["word"] (AJ KF):=by
 refine Av D N3 (λ_ _ _ _ _ _ us hl=>BD hl (λ_=>rfl)) (λxs K h=>?_) (by decide) (λfa cdv A outer s H E hr=>⟨_,(AS (Ah (Ai (λ_=>(BJ hr)) BK (qv 0) AT (AY _))
 (AL (AQ (Be AD)))
 Aj)
 (AS (Bh (k:=1) (λ_=>N3.nd) (Jn (λ_=>rfl) (qv 0) AT))
 (AS (Ah (QW.pt (DG (Ai (λ_=>Hu) MK (Ap (λ_=>BP) BQ (λ_=>T.b_len) nofun (AA (qv 1) AD)) (E8 (λ_=>T.g_MOST_QUESTIONS)) (AY _)) (Da (Bg (Bf (Ap (λ_=>(DD rfl)) DL (λ_=>T.b_all) nofun (AA (Bi (N:=["word","answers"]) (sc:=AN FZ) (N':=["answer"]) (qB:=[none]) ⟨rfl,nofun,nofun,nofun,nofun,rfl,nofun⟩ (by decide) (λ_=>rfl) (DK (λ_=>rfl) (qv 1)) (Ci (k:=0) rfl (λ_=>show List.Nodup (["answer"]:List Str) by decide +kernel)) Bp (AU (λ_=>qW) (λ_=>hr.mq) (AA (qv 0) AD))) AD)))))))
 (AL Dy)
 Aj)
 (AL (AQ (CS (λ_=>GB) Gf (λ_=>T.b_tuple) nofun (AA (Bi (N:=["word","answers"]) (sc:=AN FZ) (N':=["answer"]) (qB:=[none]) ⟨rfl,nofun,nofun,nofun,nofun,rfl,nofun⟩ (by decide) (λ_=>rfl) (DK (λ_=>rfl) (qv 1)) (Ci (k:=0) rfl (λ_=>show List.Nodup (["answer"]:List Str) by decide +kernel)) Bp (CS (λ_=>Nm) Nt (λ_=>T.b_int) nofun (AA (qv 0) AD))) AD))))))),λxs K h=>?_⟩)
 ·obtain⟨_,rfl,_⟩:=h;rfl
 ·obtain⟨r,rfl,hl,hr,h⟩:=h
  have ln:=HW (r:=r) (by lia) (Dj hr)
  unfold Ax at ln ⊢
  by_cases ne:r=[]
  ·rw[if_pos ne]
   subst ne
   exact⟨⟨rfl,rfl⟩,true,congrArg P.bl (by rw[CI];exact decide_eq_true rfl),rfl,A6 rfl,h⟩
  ·rw[if_neg ne]at ln ⊢
   obtain⟨nd,sp⟩:=V4 ne hr
   refine⟨⟨rfl,rfl⟩,false,congrArg P.bl (by rw[CI];exact decide_eq_false nd),_,rfl,_,rfl,nofun,by lia,?_⟩
   rw[sp,map_map]
   have fig:∀x∈r,∃c:Nat,AR x=⟨#[c]⟩/\48<=c/\c<=57:=λx hx=>by
    obtain⟨m,rfl,hm⟩:=HZ (hr x hx)
    exact⟨48+m,Uu hm,by lia,by lia⟩
   refine⟨trivial,false,congrArg P.bl (decide_eq_false (by rw[length_map];lia)),_,rfl,nofun,by rw[length_map];lia,A3.map (λ_=>P.bl true) (λ_ _=>rfl) (λx hx M hM=>?_) ⟨r.map λ_=>true,by rw[map_map];rfl,true,congrArg P.bl (by simp),_,rfl,nofun,by rw[length_map];lia,A3.map P.int (λ_ _=>rfl) (λx hx M hM=>?_) ⟨A6 (Dd r),h⟩⟩⟩
   ·obtain⟨c,e,c1,c2⟩:=fig x hx
    exact⟨c,congrArg (λz=>[P.str z]) e,c1,c2,hM _⟩
   ·obtain⟨c,e,c1,c2⟩:=fig x hx
    obtain⟨m,rfl,hm⟩:=HZ (hr x hx)
    exact⟨_,Nz (by lia),Nat.le_trans (Ei (by lia)) (by decide),hM _⟩
def KG:pF:=λxs K=>∃m:Nat,xs=[.str (AR (m:Int))]/\m<10 ^ 13/\K (.int (m:Int))
theorem V6(D:Ao K mg "read_number" HB)(T:TxtN mg)(qW:Fn P' w K mg base "is_figure" 1 ["sign"] (AJ KD)):Fn P' w K mg base "read_number" 2 ["word"] (AJ KG):=by
 refine Av D U5 (λ_ _ _ _ _ _ us hl=>BD hl (λ_=>rfl)) (λxs K h=>?_) (by decide) (λfa cdv A outer s H E hr=>⟨_,(AS (Ah (QW.pt (DG (Bg (Lw (λ_=>DT) EU (λ_=>DT) EU AH (Ap (λ_=>BP) BQ (λ_=>T.b_len) nofun (AA (qv 0) AD)) (E8 (λ_=>T.g_MOST_FIGURES)))) (Da (Bg (Bf (Ap (λ_=>(DD rfl)) DL (λ_=>T.b_all) nofun (AA (Bi (N:=["word"]) (sc:=AN HB) (N':=["sign"]) (qB:=[none]) ⟨rfl,nofun,nofun,nofun,nofun,rfl,nofun⟩ (by decide) (λ_=>rfl) (ME (qv 0)) (Ci (k:=0) rfl (λ_=>show List.Nodup (["sign"]:List Str) by decide +kernel)) Bp (AU (λ_=>qW) (λ_=>hr.mq) (AA (qv 0) AD))) AD)))))))
 (AL Dy)
 Aj)
 (AS (Ah (QW.pt (Dw (Ai (λ_=>(BJ hr)) BK (AZ (λ_=>Aa) Ab (qv 0) AH (λ_ _=>rfl)) AT (AY _)) (Dv (Ai (λ_=>(Cy hr)) Cz (qv 0) AT (AY _)))))
 (AL Dy)
 Aj)
 (AL (AQ (CS (λ_=>Nm) Nt (λ_=>T.b_int) nofun (AA (qv 0) AD)))))),λxs K h=>?_⟩)
 ·obtain⟨_,rfl,_⟩:=h;rfl
 ·obtain⟨m,rfl,hm,h⟩:=h
  have l1:=Ut m
  have l2:=Ei hm
  have ls:(sg (AR (m:Int))).length=(AR (m:Int)).length:=Array.length_toList
  obtain⟨c0,rs,e0⟩:∃c rs,sg (AR (m:Int))=c::rs:=by
   cases e:sg (AR (m:Int))with
   |nil=>exact absurd e (Jp m)
   |cons c rs=>exact⟨c,rs,rfl⟩
  refine⟨by lia,trivial,true,congrArg P.bl (decide_eq_true (by lia)),trivial,true,congrArg P.bl (decide_eq_true (by lia)),_,rfl,nofun,by rw[length_map];show(sg _).length<=_;lia,A3.map (λ_=>P.bl true) (λ_ _=>rfl) (λc hc M hM=>?_) ⟨(sg (AR (m:Int))).map λ_=>true,by rw[map_map];rfl,true,congrArg P.bl (by simp),by lia,c0,?_,⟨rfl,rfl⟩,_,rfl,?_⟩⟩
  ·obtain⟨c1,c2⟩:=FX m c hc
   exact⟨c,rfl,c1,c2,hM _⟩
  ·show atI (sg _) 0=_
   rw[e0];exact A4 _ _
  ·have fin:intText? (AR (m:Int))=some (m:Int)/\(AR (m:Int)).length<=640/\Cu (.int (m:Int)) .fr=true/\K (.int (m:Int)):=⟨Nz hm,by lia,A6 rfl,h⟩
   refine Bc (λz=>?_) λ_=>⟨_,fin⟩
   rw[CI]at z
   have z:[c0]=sg (Str.ofString "0"):=congrArg sg (of_decide_eq_true z)
   rw[show sg (Str.ofString "0")=[48] by decide +kernel]at z
   have z:=(List.cons.inj z).1
   have m0:m=0:=Ur m (by
    rw[G5]at e0
    cases e:Nat.toDigits 10 m with
    |nil=>rw[e]at e0;cases e0
    |cons ch r =>
     rw[e]at e0
     have:ch.toNat=48:=((List.cons.inj e0).1).trans z
     rw[head?_cons,show ch='0' from Char.toNat_inj.mp this])
   subst m0
   exact⟨⟨rfl,rfl⟩,false,congrArg P.bl (by rw[CI,decide_eq_true nofun];rfl),_,fin⟩
end
end K
namespace K
open PySem L2
section
variable{K:Fg}
structure TalW(n:Nat)(t:Tl):Prop where
 len:t.length<=100
 n6:n<=6
 rows:∀q∈t,q.1.length=n
 rng:∀q∈t,∀x∈q.1,0<=x/\x<=9
 cnt:∀q∈t,1<=q.2/\q.2<10 ^ 13
 tal:Gs n t=true
theorem KH{z:Str}{c:Nat}:∀{ws:List Str},c∈sg (Str.join z ws)->c∈sg z\/∃w∈ws,c∈sg w
 |[],h=>absurd h (by show c∉[];exact not_mem_nil)
 |[w],h=>.inr ⟨w,by simp,h⟩
 |w::w'::r,h=>by
  have h:c∈sg (w++z++Str.join z (w'::r)):=h
  rw[C2,C2,mem_append,mem_append]at h
  rcases h with(h|h)|h
  ·exact .inr ⟨w,by simp,h⟩
  ·exact .inl h
  ·rcases KH h with h|⟨v,hv,h⟩
   ·exact .inl h
   ·exact .inr ⟨v,mem_cons_of_mem _ hv,h⟩
theorem ON(hr:∀x∈r,0<=x/\x<=9):∀c∈sg (Ax r),45<=c/\c<=57:=by
 unfold Ax
 split
 ·intro c hc
  have hc:c∈[45]:=hc
  rw[mem_singleton.mp hc];decide
 ·intro c hc
  rw[beq_iff_eq.mp (PyProof.Rows.join_plain_closes _ _)]at hc
  rcases KH hc with h|⟨w,hw,h⟩
  ·have h:c∈[46]:=h
   rw[mem_singleton.mp h];decide
  ·obtain⟨x,hx,rfl⟩:=mem_map.mp hw
   obtain⟨m,rfl,hm⟩:=HZ (hr x hx)
   have:=FX m c h
   lia
noncomputable def A2(t:Tl):List Str:=if t=[]then [Str.ofString "none"]else t.map BY
theorem V7(q:List Int×Int):BY q≠Str.ofString "none":=λe=>by
 have:(61:Nat)∈sg (Str.ofString "none"):=by
  rw[<-e]
  unfold BY
  rw[C2,C2,mem_append,mem_append]
  exact .inl (.inr nofun)
 exact absurd this nofun
def OO:pF:=λxs K=>∃(qG:List Str) (t:Tl),xs=[BA qG,.lst ((A2 t).map P.str)]/\TalW qG.length t/\K (Aw t)
noncomputable abbrev Hc(qG:List Str)(ws:List Str)(fd:Tl)(a b c d:S):List S:=[.sh (BA qG),.sh (.lst (ws.map P.str)),.own (Aw fd),a,b,c,d]
def V8:pS:=λE ρ=>∃qG ws fd a b c d q,ρ=Hc qG ws fd (.sh (.str (BY q))) b c d/\a=()/\fd.length<=1000/\q.1.length<=6/\(∀x∈q.1,0<=x/\x<=9)/\1<=q.2/\q.2<10 ^ 13/\∀b c d,E.nx (Hc qG ws (fd++[q]) (.sh (.str (BY q))) b c d)
theorem OP(ws:List Str):AG (.lst (ws.map P.str)) (.lst [.str (Str.ofString "none")])=decide (ws=[Str.ofString "none"]):=by
 have hn:∀ws:List Str,(P.lst (ws.map P.str)).nb=true:=λws=>by rw[P.nb];exact FJ (λ_=>rfl) ws
 have h1:(P.lst [.str (Str.ofString "none")]).nb=true:=hn [_]
 rw[Bool.eq_iff_iff,D3 (hn ws) h1,decide_eq_true_iff]
 constructor
 ·intro h
  have:=P.lst.inj h
  exact(map_inj_right (f:=P.str) λa b e=>P.str.inj e).mp this
 ·intro h;rw[h];rfl
theorem V9(D:Ao K mg "read_tally" Jw)(T:TxtN mg)(qX:Fn P' w K mg base "read_row" 2 ["word"] (AJ KF))(qY:Fn P' w K mg base "read_number" 2 ["word"] (AJ KG))(qZ:Fn P' w K mg base "is_tally" 2 ["room","rows"] (AJ NP)):Fn P' w K mg base "read_tally" 3 ["room","words"] (AJ OO):=by
 refine Av D El (λ_ _ _ _ _ _ us hl=>C5 hl (λ_ _=>rfl)) (λxs K h=>?_) (by decide) (λfa cdv A outer s H E hr=>⟨_,(AS (Ah (Ai (λ_=>(BJ hr)) BK (qv 1) (CU (AA AT AD)) (AY _))
 (AL (AQ (CU AD)))
 Aj)
 (AS (Bh (k:=2) (λ_=>El.nd) (CU AD))
 (AS (Sg 1 (FE (λ_=>PassesOwn.never) (λ_=>rfl) (DK (λ_=>rfl) (qv 1)) (GR (k:=3) (λ_=>El.nd))
 (BF.weak (m:=V8) (AS (Rh (UU (λ_=>rfl) (qv 3) AT) (L6 (ks:=[4,5,6]) (λ_=>rfl) (λ_=>rfl) (λ_=>(BZ (A8 (i:=4) El.nd rfl (Or.inl rfl)) (BZ (A8 (i:=5) El.nd rfl (Or.inl rfl)) (BZ (A8 (i:=6) El.nd rfl (Or.inl rfl)) C8)))) rfl))
 (AL (JJ (k:=2) (λ_=>rfl) (Be (AA (AU (λ_=>qX) (λ_=>hr.mq) (AA (qv 4) AD)) (AA (AU (λ_=>qY) (λ_=>hr.mq) (AA (qv 6) AD)) AD)))))) ?body0)))
 (AS (Ah (Bg (Bf (AU (λ_=>qZ) (λ_=>hr.mq) (AA (qv 0) (AA (qv 2) AD)))))
 (AL Dy)
 Aj)
 (AL (AQ (qv 2))))))),λxs K h=>?_⟩)
 case body0 =>
  rintro E ρ ⟨qG,ws,fd,a,b,c,d,⟨r0,c0⟩,rfl,_,hl,l6,hr,c1,c2,h⟩
  obtain⟨m,rfl⟩:∃m:Nat,c0=(m:Int):=⟨c0.toNat,by have:1<=c0:=c1;lia⟩
  have hm:m<10 ^ 13:=by have:(m:Int)<10 ^ 13:=c2;lia
  have e61:Str.ofString "="=⟨#[61]⟩:=by decide +kernel
  obtain⟨r,ho,s1,s2⟩:=Uq (c:=61) (a:=Ax r0) (b:=AR (m:Int)) λz=>by have:=ON hr 61 z;lia
  have ep:BY (r0,(m:Int))=Ax r0++⟨#[61]⟩++AR (m:Int):=by rw[<-e61];rfl
  have lp:(Ax r0++⟨#[61]⟩++AR (m:Int)).length<=1000000:=by
   rw[PySem.strLen_append,PySem.strLen_append]
   have:=HW (r:=r0) (Nat.le_trans l6 (by decide)) (Dj hr)
   have:=Ei hm
   have:(⟨#[61]⟩:Str).length=1:=rfl
   lia
  rw[ep]at h ⊢
  refine⟨_,rfl,_,rfl,nofun,lp,_,r,by rw[e61];exact ho,?_⟩
  rw[e61,s1,show(⟨#[61]⟩:Str).length=1 from rfl,s2]
  refine⟨_,rfl,rfl,A5 rfl (A5 rfl (A5 rfl ⟨r0,rfl,l6,hr,m,rfl,hm,rfl,Jq (Gq (r0,(m:Int))),by rw[length_map];lia,?_⟩))⟩
  have hh:=h (.sh (.str (Ax r0))) (.sh (.str ⟨#[61]⟩)) (.sh (.str (AR (m:Int))))
  unfold Hc Aw at hh
  rw[map_append]at hh
  exact hh
 ·obtain⟨_,_,rfl,_⟩:=h;rfl
 ·obtain⟨qG,t,rfl,tw,h⟩:=h
  have pls:(P.lst ((A2 t).map P.str)).pl 9=true:=by simp
  have tl:=tw.len
  by_cases ne:t=[]
  ·subst ne
   exact⟨rfl,⟨pls,rfl⟩,true,congrArg P.bl ((OP _).trans (decide_eq_true rfl)),rfl,rfl,h⟩
  ·have ew:A2 t=t.map BY:=if_neg ne
   rw[ew]at pls ⊢
   refine⟨rfl,⟨pls,rfl⟩,false,congrArg P.bl ((OP _).trans (decide_eq_false λe=>?_)),rfl,_,rfl,rfl,λi ρ=>∃a b c d,ρ=Hc qG (t.map BY) (t.take i) a b c d,⟨_,_,_,_,rfl⟩,?_,?_⟩
   ·obtain⟨q,r,rfl⟩:=exists_cons_of_ne_nil ne
    exact V7 q (List.cons.inj e).1
   ·rintro i ρ' x hx ⟨a,b,c,d,rfl⟩
    rw[map_map,getElem?_map]at hx
    obtain⟨q,hq,rfl⟩:=Option.map_eq_some_iff.mp hx
    have mq:=mem_of_getElem? hq
    refine⟨qG,_,t.take i,(),b,c,d,q,rfl,rfl,by rw[length_take];lia,by rw[tw.rows q mq];exact tw.n6,tw.rng q mq,(tw.cnt q mq).1,(tw.cnt q mq).2,λb c d=>⟨.sh (.str (BY q)),b,c,d,?_⟩⟩
    rw[take_add_one,hq]
    rfl
   ·rintro ρ' ⟨a,b,c,d,rfl⟩
    rw[length_map,length_map,take_of_length_le (Nat.le_refl _)]
    exact⟨qG,t,rfl,by lia,λq hq=>by rw[tw.rows q hq];have:=tw.n6;lia,true,congrArg P.bl tw.tal,rfl,h⟩
end
end K
namespace K
open PySem L2
section
variable{K:Fg}
inductive Deed where
 |start (n:Str) (ns:List Str) (t:Tl)
 |shut (n:Str)
 |two (w:Str) (r:List Int) (c:Nat)
 |three (w:Str) (n:Str) (r:List Int) (c:Nat)
noncomputable abbrev sS(s:String):Str:=Str.ofString s
noncomputable def BU:Deed->P
 |.start n ns t=>.tup [.str (sS "start"),.str n,BA ns,Aw t]
 |.shut n=>.tup [.str (sS "shut"),.str n]
 |.two w r c=>.tup [.str w,Ae r,.int (c:Int)]
 |.three w n r c=>.tup [.str w,.str n,Ae r,.int (c:Int)]
structure RmW(ns:List Str):Prop where
 l6:ns.length<=6
 g:∀x∈ns,Bb x
 s:ns.Pairwise (λa b=>a.cps.toList<b.cps.toList)
structure RwW(r:List Int)(c:Nat):Prop where
 l6:r.length<=6
 rg:∀x∈r,0<=x/\x<=9
 c13:c<10 ^ 13
def CJ:Deed->Prop
 |.start n ns t=>Bb n/\RmW ns/\TalW ns.length t
 |.shut n=>Bb n
 |.two w r c=>(w=sS "enter"\/w=sS "withdraw")/\RwW r c
 |.three w n r c=>(w=sS "mark"\/w=sS "strike")/\Bb n/\RwW r c
noncomputable def BW:Deed->List Str
 |.start n ns t=>sS "start"::n::Br ns::A2 t
 |.shut n=>[sS "shut",n]
 |.two w r c=>[w,Ax r,AR (c:Int)]
 |.three w n r c=>[w,n,Ax r,AR (c:Int)]
noncomputable def Bk(d:Deed):Str:=Txt.join (sS " ") (BW d)
theorem jn(z:Str)(ws:List Str):Txt.join z ws=Str.join z ws:=beq_iff_eq.mp (PyProof.Rows.join_plain_closes _ _)
theorem WA{ns:List Str}(hg:∀x∈ns,Bb x):(32:Nat)∉sg (Br ns):=by
 unfold Br
 split
 ·decide +kernel
 ·intro hc
  rw[jn]at hc
  rcases KH hc with h|⟨w,hw,h⟩
  ·exact absurd h nofun
  ·have:=(hg w hw).2.2 32 h;lia
theorem WC{d:Deed}(ok:CJ d):∀w∈BW d,(32:Nat)∉sg w:=by
 have nm:∀{n:Str},Bb n->(32:Nat)∉sg n:=λg z=>by have:=g.2.2 32 z;lia
 have rw':∀{r:List Int},(∀x∈r,0<=x/\x<=9)->(32:Nat)∉sg (Ax r):=λhr z=>by have:=ON hr 32 z;lia
 have nu:∀m:Nat,(32:Nat)∉sg (AR (m:Int)):=λm z=>by have:=FX m 32 z;lia
 intro w hw
 cases d with
 |start n ns t =>
  obtain⟨g,r,tw⟩:=ok
  have hw:w∈sS "start"::n::Br ns::A2 t:=hw
  simp only[mem_cons]at hw
  rcases hw with rfl|rfl|rfl|hw
  ·decide +kernel
  ·exact nm g
  ·exact WA r.g
  ·unfold A2 at hw
   split at hw
   ·rw[mem_singleton.mp hw];decide +kernel
   ·obtain⟨q,hq,rfl⟩:=mem_map.mp hw
    unfold BY
    rw[C2,C2,mem_append,mem_append]
    have c1:=(tw.cnt q hq).1
    rintro((z|z)|z)
    ·exact rw' (tw.rng q hq) z
    ·exact absurd z nofun
    ·rw[show q.2=((q.2.toNat:Nat):Int) by lia]at z
     exact nu _ z
 |shut n =>
  have hw:w∈[sS "shut",n]:=hw
  simp only[mem_cons,not_mem_nil,or_false]at hw
  rcases hw with rfl|rfl
  ·decide +kernel
  ·exact nm ok
 |two w' r c =>
  obtain⟨g,r'⟩:=ok
  have hw:w∈[w',Ax r,AR (c:Int)]:=hw
  simp only[mem_cons,not_mem_nil,or_false]at hw
  rcases hw with rfl|rfl|rfl
  ·rcases g with rfl|rfl<;>decide +kernel
  ·exact rw' r'.rg
  ·exact nu c
 |three w' n r c =>
  obtain⟨g,gn,r'⟩:=ok
  have hw:w∈[w',n,Ax r,AR (c:Int)]:=hw
  simp only[mem_cons,not_mem_nil,or_false]at hw
  rcases hw with rfl|rfl|rfl|rfl
  ·rcases g with rfl|rfl<;>decide +kernel
  ·exact nm gn
  ·exact rw' r'.rg
  ·exact nu c
theorem WD{d:Deed}(ok:CJ d):Txt.split (Bk d) (sS " ")=BW d:=Jo (c:=32) (by cases d<;>simp[BW]) (WC ok)
theorem OQ{d:Deed}(ok:CJ d):∀w∈BW d,w.length<=5000:=λw hw=>by
 have rl:∀{r:List Int},r.length<=6->(∀x∈r,0<=x/\x<=9)->(Ax r).length<=4000:=λh1 h2=>HW (by lia) (Dj h2)
 have nl:∀{c:Nat},c<10 ^ 13->(AR (c:Int)).length<=5000:=λh=>Nat.le_trans (Ei h) (by decide)
 cases d with
 |start n ns t =>
  obtain⟨g,r,tw⟩:=ok
  have hw:w∈sS "start"::n::Br ns::A2 t:=hw
  simp only[mem_cons]at hw
  rcases hw with rfl|rfl|rfl|hw
  ·decide +kernel
  ·have:=g.2.1;lia
  ·unfold Br
   split
   ·decide +kernel
   ·have:=OM r.l6 r.g;lia
  ·unfold A2 at hw
   split at hw
   ·rw[mem_singleton.mp hw];decide +kernel
   ·obtain⟨q,hq,rfl⟩:=mem_map.mp hw
    unfold BY
    rw[PySem.strLen_append,PySem.strLen_append]
    have c1:=tw.cnt q hq
    have h1:=rl (by rw[tw.rows q hq];exact tw.n6) (tw.rng q hq)
    have h2:=Ei (m:=q.2.toNat) (by lia)
    rw[show((q.2.toNat:Nat):Int)=q.2 by lia]at h2
    have:Str.length (("=":String):Str)=1:=by decide +kernel
    lia
 |shut n =>
  have hw:w∈[sS "shut",n]:=hw
  simp only[mem_cons,not_mem_nil,or_false]at hw
  rcases hw with rfl|rfl
  ·decide +kernel
  ·have:=ok.2.1;lia
 |two w' r c =>
  obtain⟨g,r'⟩:=ok
  have hw:w∈[w',Ax r,AR (c:Int)]:=hw
  simp only[mem_cons,not_mem_nil,or_false]at hw
  rcases hw with rfl|rfl|rfl
  ·rcases g with rfl|rfl<;>decide +kernel
  ·have:=rl r'.l6 r'.rg;lia
  ·exact nl r'.c13
 |three w' n r c =>
  obtain⟨g,gn,r'⟩:=ok
  have hw:w∈[w',n,Ax r,AR (c:Int)]:=hw
  simp only[mem_cons,not_mem_nil,or_false]at hw
  rcases hw with rfl|rfl|rfl|rfl
  ·rcases g with rfl|rfl<;>decide +kernel
  ·have:=gn.2.1;lia
  ·have:=rl r'.l6 r'.rg;lia
  ·exact nl r'.c13
theorem OR{d:Deed}(ok:CJ d):(BW d).length<=110:=by
 cases d with
 |start n ns t =>
  have:=ok.2.2.len
  show(A2 t).length+1+1+1<=110
  unfold A2
  split
  ·decide
  ·rw[length_map];lia
 |_=>simp[BW]
theorem KI{d:Deed}(ok:CJ d):(Bk d).length<=1000000:=by
 unfold Bk
 rw[jn]
 refine Nat.le_trans (HV _ (m:=5000) _ (OQ ok)) ?_
 rw[show Str.length (sS " ")=1 by decide +kernel]
 have:=OR ok
 lia
def OS:pF:=λxs K=>∃d:Deed,xs=[.str (Bk d)]/\CJ d/\K (BU d)
theorem WE(D:Ao K mg "read_deed" Jx)(T:TxtN mg)(z5:Fn P' w K mg base "read_room" 3 ["word"] (AJ OL))(z6:Fn P' w K mg base "read_name" 2 ["word"] (AJ OK))(z7:Fn P' w K mg base "read_tally" 3 ["room","words"] (AJ OO))(qX:Fn P' w K mg base "read_row" 2 ["word"] (AJ KF))(qY:Fn P' w K mg base "read_number" 2 ["word"] (AJ KG)):Fn P' w K mg base "read_deed" 4 ["line"] (AJ OS):=by
 refine Av D HC (λ_ _ _ _ _ _ us hl=>BD hl (λ_=>rfl)) (λxs K h=>?_) (by decide) (λfa cdv A outer s H E hr=>⟨_,(AS (Bh (k:=1) (λ_=>HC.nd) (Jn (λ_=>rfl) (qv 0) AT))
 (AS (Bh (k:=2) (λ_=>HC.nd) (AZ (λ_=>Aa) Ab (qv 1) AH (λ_ _=>rfl)))
 (AS (Ah (QW.pt (Dw (Ai (λ_=>(BJ hr)) BK (qv 2) AT (AY _)) (Dv (Ai (λ_=>Kh) ML (Ap (λ_=>BP) BQ (λ_=>T.b_len) nofun (AA (qv 1) AD)) AH (AY _)))))
 (AS (Bh (k:=3) (λ_=>HC.nd) (AU (λ_=>z5) (λ_=>hr.mq) (AA (AZ (λ_=>Aa) Ab (qv 1) AH (λ_ _=>rfl)) AD)))
 (AL (AQ (Be (AA (qv 2) (AA (AU (λ_=>z6) (λ_=>hr.mq) (AA (AZ (λ_=>Aa) Ab (qv 1) AH (λ_ _=>rfl)) AD)) (AA (qv 3) (AA (AU (λ_=>z7) (λ_=>hr.mq) (AA (qv 3) (AA (Gk (λ_=>rfl) (qv 1) (Gj AH) Gi) AD))) AD))))))))
 Aj)
 (AS (Ah (QW.pt (Dw (Ai (λ_=>(BJ hr)) BK (qv 2) AT (AY _)) (Dv (Ai (λ_=>(BJ hr)) BK (Ap (λ_=>BP) BQ (λ_=>T.b_len) nofun (AA (qv 1) AD)) AH (AY _)))))
 (AL (AQ (Be (AA (qv 2) (AA (AU (λ_=>z6) (λ_=>hr.mq) (AA (AZ (λ_=>Aa) Ab (qv 1) AH (λ_ _=>rfl)) AD)) AD)))))
 Aj)
 (AS (Ah (QW.pt (Dw (Ai (λ_=>(JF hr)) JH (qv 2) (Be (AA AT (AA AT AD))) (by rfl)) (Dv (Ai (λ_=>(BJ hr)) BK (Ap (λ_=>BP) BQ (λ_=>T.b_len) nofun (AA (qv 1) AD)) AH (AY _)))))
 (AL (AQ (Be (AA (qv 2) (AA (AU (λ_=>qX) (λ_=>hr.mq) (AA (AZ (λ_=>Aa) Ab (qv 1) AH (λ_ _=>rfl)) AD)) (AA (AU (λ_=>qY) (λ_=>hr.mq) (AA (AZ (λ_=>Aa) Ab (qv 1) AH (λ_ _=>rfl)) AD)) AD))))))
 Aj)
 (AS (Ah (QW.pt (Dw (Ai (λ_=>(JF hr)) JH (qv 2) (Be (AA AT (AA AT AD))) (by rfl)) (Dv (Ai (λ_=>(BJ hr)) BK (Ap (λ_=>BP) BQ (λ_=>T.b_len) nofun (AA (qv 1) AD)) AH (AY _)))))
 (AL (AQ (Be (AA (qv 2) (AA (AU (λ_=>z6) (λ_=>hr.mq) (AA (AZ (λ_=>Aa) Ab (qv 1) AH (λ_ _=>rfl)) AD)) (AA (AU (λ_=>qX) (λ_=>hr.mq) (AA (AZ (λ_=>Aa) Ab (qv 1) AH (λ_ _=>rfl)) AD)) (AA (AU (λ_=>qY) (λ_=>hr.mq) (AA (AZ (λ_=>Aa) Ab (qv 1) AH (λ_ _=>rfl)) AD)) AD)))))))
 Aj)
 (AL Dy))))))),λxs K h=>?_⟩)
 ·obtain⟨_,rfl,_⟩:=h;rfl
 ·obtain⟨d,rfl,ok,h⟩:=h
  refine⟨_,rfl,_,rfl,nofun,KI ok,?_⟩
  rw[WD ok]
  have tr:∀x:Str,AG (.str x) (.str x)=true:=λx=>(CI x x).trans (decide_eq_true rfl)
  have at2:∀(x y z:P) (l:List P),atI (x::y::z::l) 2=some z:=λ_ _ _ _=>Bx (j:=2) rfl
  have at3:∀(x y z v:P) (l:List P),atI (x::y::z::v::l) 3=some v:=λ_ _ _ _ _=>Bx (j:=3) rfl
  cases d with
  |start n ns t =>
   obtain⟨g,r,tw⟩:=ok
   have jf:BX [(P.str (sS "start"),Fl.cl),(P.str n,Fl.nw),(BA ns,Fl.cl),(Aw t,Fl.nw)]=.nw:=by rw[BX,BX,BX,Jq (Ej ns)];rfl
   have tne:1<=(A2 t).length:=by
    unfold A2
    split
    ·decide
    ·rename_i ne
     rw[length_map]
     exact length_pos_iff.mpr ne
   refine⟨_,A4 _ _,A5 rfl ⟨⟨rfl,rfl⟩,true,congrArg P.bl (tr _),trivial,true,congrArg P.bl (decide_eq_true ?_),_,at2 _ _ _ _,ns,rfl,r.l6,r.g,r.s,A5 (Ej _) ⟨_,Cc _ _ _,n,rfl,g,ns,t,?_,tw,rfl,by rw[jf];exact Dg,h⟩⟩⟩
   ·show(4:Int)<=(((BW (.start n ns t)).map P.str).length:Nat)
    rw[length_map]
    show(4:Int)<=(((A2 t).length+1+1+1:Nat):Int)
    lia
   ·have e:cut ((BW (.start n ns t)).map P.str) (some 3) none=(A2 t).map P.str:=by
     unfold cut
     have ln:((BW (.start n ns t)).map P.str).length=(A2 t).length+3:=by rw[length_map];rfl
     rw[ln,show HT.sIx ((A2 t).length+3) 0 (some 3)=3 by simp[HT.sIx];try lia,show HT.sIx ((A2 t).length+3) ((A2 t).length+3) none=(A2 t).length+3 by simp[HT.sIx]]
     show((A2 t).map P.str).take _=_
     rw[take_of_length_le (by rw[length_map];lia)]
    exact congrArg (λz=>[BA ns,P.lst z]) e
  |shut n =>
   exact⟨_,A4 _ _,A5 rfl ⟨⟨rfl,rfl⟩,false,congrArg P.bl nofun,⟨rfl,rfl⟩,true,congrArg P.bl (tr _),⟨rfl,rfl⟩,true,rfl,_,Cc _ _ _,n,rfl,ok,rfl,Dg,h⟩⟩
  |two w r c =>
   obtain⟨g,rr⟩:=ok
   rcases g with rfl|rfl
   ·exact⟨_,A4 _ _,A5 rfl ⟨⟨rfl,rfl⟩,false,congrArg P.bl nofun,⟨rfl,rfl⟩,false,congrArg P.bl nofun,rfl,_,rfl,⟨rfl,rfl⟩,true,congrArg P.bl nofun,⟨rfl,rfl⟩,true,rfl,_,Cc _ _ _,r,rfl,rr.l6,rr.rg,_,at2 _ _ _ _,c,rfl,rr.c13,rfl,Dg,h⟩⟩
   ·exact⟨_,A4 _ _,A5 rfl ⟨⟨rfl,rfl⟩,false,congrArg P.bl nofun,⟨rfl,rfl⟩,false,congrArg P.bl nofun,rfl,_,rfl,⟨rfl,rfl⟩,true,congrArg P.bl nofun,⟨rfl,rfl⟩,true,rfl,_,Cc _ _ _,r,rfl,rr.l6,rr.rg,_,at2 _ _ _ _,c,rfl,rr.c13,rfl,Dg,h⟩⟩
  |three w n r c =>
   obtain⟨g,gn,rr⟩:=ok
   rcases g with rfl|rfl
   ·exact⟨_,A4 _ _,A5 rfl ⟨⟨rfl,rfl⟩,false,congrArg P.bl nofun,⟨rfl,rfl⟩,false,congrArg P.bl nofun,rfl,_,rfl,⟨rfl,rfl⟩,false,congrArg P.bl nofun,rfl,_,rfl,⟨rfl,rfl⟩,true,congrArg P.bl nofun,⟨rfl,rfl⟩,true,rfl,_,Cc _ _ _,n,rfl,gn,_,at2 _ _ _ _,r,rfl,rr.l6,rr.rg,_,at3 _ _ _ _ _,c,rfl,rr.c13,rfl,Dg,h⟩⟩
   ·exact⟨_,A4 _ _,A5 rfl ⟨⟨rfl,rfl⟩,false,congrArg P.bl nofun,⟨rfl,rfl⟩,false,congrArg P.bl nofun,rfl,_,rfl,⟨rfl,rfl⟩,false,congrArg P.bl nofun,rfl,_,rfl,⟨rfl,rfl⟩,true,congrArg P.bl nofun,⟨rfl,rfl⟩,true,rfl,_,Cc _ _ _,n,rfl,gn,_,at2 _ _ _ _,r,rfl,rr.l6,rr.rg,_,at3 _ _ _ _ _,c,rfl,rr.c13,rfl,Dg,h⟩⟩
end
end K
namespace K
open PySem L2
section
variable{K:Fg}
def Hd:pF:=λxs K=>∃d:Deed,xs=[BU d]/\CJ d/\K (.str (Bk d))
theorem OT(t:Tl):Di t=Str.join (sS " ") (A2 t):=by
 unfold Di A2
 split
 ·rfl
 ·exact jn _ _
theorem KJ(z:Str):∀(as ws:List Str),ws≠[]->Str.join z (as++[Str.join z ws])=Str.join z (as++ws)
 |[],ws,_=>rfl
 |[a],[],ne=>absurd rfl ne
 |[a],w::ws,_=>rfl
 |a::b::as,ws,ne=>by
  show a++z++Str.join z (b::as++[Str.join z ws])=a++z++Str.join z (b::as++ws)
  rw[KJ z (b::as) ws ne]
theorem OU(t:Tl):A2 t≠[]:=by
 unfold A2
 split
 ·simp
 ·rename_i h;simpa using h
theorem OV(n:Str)(ns:List Str)(t:Tl):Str.empty++sS "start "++n++sS " "++Br ns++sS " "++Di t=Bk (.start n ns t):=by
 unfold Bk
 rw[jn,OT,show BW (.start n ns t)=[sS "start",n,Br ns]++A2 t from rfl,<-KJ _ _ _ (OU t)]
 show _=sS "start"++sS " "++(n++sS " "++(Br ns++sS " "++Str.join (sS " ") (A2 t)))
 rw[Eg,show sS "start "=sS "start"++sS " " by decide +kernel]
 simp only[PySem.Str.append_assoc]
theorem WF(n:Str):Str.empty++sS "shut "++n=Bk (.shut n):=by
 unfold Bk
 rw[jn,Eg,show sS "shut "=sS "shut"++sS " " by decide +kernel]
 rfl
theorem WG(w:Str)(r:List Int)(c:Nat):Str.empty++w++sS " "++Ax r++sS " "++AR (c:Int)=Bk (.two w r c):=by
 unfold Bk
 rw[jn,Eg]
 show _=w++sS " "++(Ax r++sS " "++AR (c:Int))
 simp only[PySem.Str.append_assoc]
theorem WH(w n:Str)(r:List Int)(c:Nat):Str.empty++w++sS " "++n++sS " "++Ax r++sS " "++AR (c:Int)=Bk (.three w n r c):=by
 unfold Bk
 rw[jn,Eg]
 show _=w++sS " "++(n++sS " "++(Ax r++sS " "++AR (c:Int)))
 simp only[PySem.Str.append_assoc]
theorem WI(D:Ao K mg "deed_text" Js)(T:TxtN mg)(z8:Fn P' w K mg base "room_text" 1 ["room"] (AJ HS))(z9:Fn P' w K mg base "tally_text" 2 ["rows"] (AJ HU))(qO:Fn P' w K mg base "row_text" 1 ["row"] (AJ C4)):Fn P' w K mg base "deed_text" 3 ["deed"] (AJ Hd):=by
 refine Av D N1 (λ_ _ _ _ _ _ us hl=>BD hl (λ_=>rfl)) (λxs K h=>?_) (by decide) (λfa cdv A outer s H E hr=>⟨_,(AS (Bh (k:=1) (λ_=>N1.nd) (AZ (λ_=>Aa) Ab (qv 0) AH (λ_ _=>rfl)))
 (AS (Ah (Ai (λ_=>(BJ hr)) BK (qv 1) AT (AY _))
 (AL (AQ (FW (BM AT (BM (CH (AZ (λ_=>Aa) Ab (qv 0) AH (λ_ _=>rfl))) (BM AT (BM (CH (AU (λ_=>z8) (λ_=>hr.mq) (AA (AZ (λ_=>Aa) Ab (qv 0) AH (λ_ _=>rfl)) AD))) (BM AT (BM (CH (AU (λ_=>z9) (λ_=>hr.mq) (AA (AZ (λ_=>Aa) Ab (qv 0) AH (λ_ _=>rfl)) AD))) FV)))))))))
 Aj)
 (AS (Ah (Ai (λ_=>(BJ hr)) BK (qv 1) AT (AY _))
 (AL (AQ (FW (BM AT (BM (CH (AZ (λ_=>Aa) Ab (qv 0) AH (λ_ _=>rfl))) FV)))))
 Aj)
 (AS (Ah (Ai (λ_=>(JF hr)) JH (qv 1) (Be (AA AT (AA AT AD))) (by rfl))
 (AL (AQ (FW (BM (CH (qv 1)) (BM AT (BM (CH (AU (λ_=>qO) (λ_=>hr.mq) (AA (AZ (λ_=>Aa) Ab (qv 0) AH (λ_ _=>rfl)) AD))) (BM AT (BM (CH (AZ (λ_=>Aa) Ab (qv 0) AH (λ_ _=>rfl))) FV))))))))
 Aj)
 (AL (AQ (FW (BM (CH (qv 1)) (BM AT (BM (CH (AZ (λ_=>Aa) Ab (qv 0) AH (λ_ _=>rfl))) (BM AT (BM (CH (AU (λ_=>qO) (λ_=>hr.mq) (AA (AZ (λ_=>Aa) Ab (qv 0) AH (λ_ _=>rfl)) AD))) (BM AT (BM (CH (AZ (λ_=>Aa) Ab (qv 0) AH (λ_ _=>rfl))) FV)))))))))))))),λxs K h=>?_⟩)
 ·obtain⟨_,rfl,_⟩:=h;rfl
 ·obtain⟨d,rfl,ok,h⟩:=h
  have tr:∀x:Str,AG (.str x) (.str x)=true:=λx=>(CI x x).trans (decide_eq_true rfl)
  have at2:∀(x y z:P) (l:List P),atI (x::y::z::l) 2=some z:=λ_ _ _ _=>Bx (j:=2) rfl
  have at3:∀(x y z v:P) (l:List P),atI (x::y::z::v::l) 3=some v:=λ_ _ _ _ _=>Bx (j:=3) rfl
  have tot:=KI ok
  have lo:∀{c:Nat},c<10 ^ 13->Lo (c:Int):=λhc=>⟨by lia,by lia⟩
  cases d with
  |start n ns t =>
   obtain⟨g,r,tw⟩:=ok
   rw[<-OV]at tot h
   simp only[sS,PySem.strLen_append]at tot
   exact⟨_,A4 _ _,A5 rfl ⟨⟨rfl,rfl⟩,true,congrArg P.bl (tr _),_,rfl,by simp only[sS,PySem.strLen_append];lia,_,Cc _ _ _,by lia,_,rfl,by simp only[sS,PySem.strLen_append];lia,_,rfl,by simp only[sS,PySem.strLen_append];lia,_,at2 _ _ _ _,ns,rfl,by have:=r.l6;lia,λx hx=>by have:=(r.g x hx).2.1;lia,by lia,_,rfl,by simp only[sS,PySem.strLen_append];lia,_,rfl,by simp only[sS,PySem.strLen_append];lia,_,at3 _ _ _ _ _,t,rfl,by have:=tw.len;lia,λq hq=>⟨by rw[tw.rows q hq];have:=tw.n6;lia,Dj (tw.rng q hq),by have:=tw.cnt q hq;exact⟨by lia,by lia⟩⟩,by lia,_,rfl,by simp only[sS,PySem.strLen_append];lia,by simp only[sS,PySem.strLen_append];lia,A6 rfl,h⟩⟩
  |shut n =>
   rw[<-WF]at tot h
   simp only[sS,PySem.strLen_append]at tot
   exact⟨_,A4 _ _,A5 rfl ⟨⟨rfl,rfl⟩,false,congrArg P.bl nofun,⟨rfl,rfl⟩,true,congrArg P.bl (tr _),_,rfl,by simp only[sS,PySem.strLen_append];lia,_,Cc _ _ _,by lia,_,rfl,by simp only[sS,PySem.strLen_append];lia,by simp only[sS,PySem.strLen_append];lia,A6 rfl,h⟩⟩
  |two w r c =>
   obtain⟨g,rr⟩:=ok
   rw[<-WG]at tot h
   simp only[sS,PySem.strLen_append]at tot
   rcases g with rfl|rfl
   all_goals simp only[sS]at tot
   all_goals exact⟨_,A4 _ _,A5 rfl ⟨⟨rfl,rfl⟩,false,congrArg P.bl nofun,⟨rfl,rfl⟩,false,congrArg P.bl nofun,rfl,_,rfl,⟨rfl,rfl⟩,true,congrArg P.bl nofun,by simp only[sS];lia,_,rfl,by simp only[sS,PySem.strLen_append];lia,_,rfl,by simp only[sS,PySem.strLen_append];lia,_,Cc _ _ _,r,rfl,by have:=rr.l6;lia,Dj rr.rg,by lia,_,rfl,by simp only[sS,PySem.strLen_append];lia,_,rfl,by simp only[sS,PySem.strLen_append];lia,_,at2 _ _ _ _,lo rr.c13,_,rfl,by simp only[sS,PySem.strLen_append];lia,by simp only[sS,PySem.strLen_append];lia,A6 rfl,h⟩⟩
  |three w n r c =>
   obtain⟨g,gn,rr⟩:=ok
   rw[<-WH]at tot h
   simp only[sS,PySem.strLen_append]at tot
   rcases g with rfl|rfl
   all_goals simp only[sS]at tot
   all_goals exact⟨_,A4 _ _,A5 rfl ⟨⟨rfl,rfl⟩,false,congrArg P.bl nofun,⟨rfl,rfl⟩,false,congrArg P.bl nofun,rfl,_,rfl,⟨rfl,rfl⟩,false,congrArg P.bl nofun,by simp only[sS];lia,_,rfl,by simp only[sS,PySem.strLen_append];lia,_,rfl,by simp only[sS,PySem.strLen_append];lia,_,Cc _ _ _,by lia,_,rfl,by simp only[sS,PySem.strLen_append];lia,_,rfl,by simp only[sS,PySem.strLen_append];lia,_,at2 _ _ _ _,r,rfl,by have:=rr.l6;lia,Dj rr.rg,by lia,_,rfl,by simp only[sS,PySem.strLen_append];lia,_,rfl,by simp only[sS,PySem.strLen_append];lia,_,at3 _ _ _ _ _,lo rr.c13,_,rfl,by simp only[sS,PySem.strLen_append];lia,by simp only[sS,PySem.strLen_append];lia,A6 rfl,h⟩⟩
end
end K
namespace K
open PySem L2
section
variable{K:Fg}
def D9:P->Str->Prop
 |.str z,w=>w=z/\z.length<=5000
 |.int i,w=>∃c:Nat,i=(c:Int)/\w=AR (c:Int)/\c<10 ^ 13
 |.tup xs,w=>∃r:List Int,xs=r.map P.int/\w=Ax r/\r.length<=6/\∀x∈r,0<=x/\x<=9
 |_,_=>False
noncomputable abbrev Fe(d:Deed)(ws:List Str)(x:S):List S:=[.sh (BU d),.own (.lst (ws.map P.str)),x]
def OW:pS:=λE ρ=>∃d ws x w,ρ=Fe d ws (.sh x)/\D9 x w/\ws.length<=200/\E.nx (Fe d (ws++[w]) (.sh x))
theorem WJ(D:Ao K mg "_law_deed_text" J7)(T:TxtN mg)(zA:Fn P' w K mg base "_law_room_text" 1 ["_law_room"] (AJ HS))(zB:Fn P' w K mg base "_law_tally_text" 2 ["_law_rows"] (AJ HU))(qP:Fn P' w K mg base "_law_row_text" 1 ["_law_row"] (AJ C4)):Fn P' w K mg base "_law_deed_text" 3 ["_law_deed"] (AJ Hd):=by
 refine Av D J8 (λ_ _ _ _ _ _ us hl=>BD hl (λ_=>rfl)) (λxs K h=>?_) (by decide) (λfa cdv A outer s H E hr=>⟨_,(AS (Ah (Ai (λ_=>(BJ hr)) BK (AZ (λ_=>Aa) Ab (qv 0) AH (λ_ _=>rfl)) AT (AY _))
 (AL (AQ (Df (λ_=>rfl) AT (CU (AA AT (AA (AZ (λ_=>Aa) Ab (qv 0) AH (λ_ _=>rfl)) (AA (AU (λ_=>zA) (λ_=>hr.mq) (AA (AZ (λ_=>Aa) Ab (qv 0) AH (λ_ _=>rfl)) AD)) (AA (AU (λ_=>zB) (λ_=>hr.mq) (AA (AZ (λ_=>Aa) Ab (qv 0) AH (λ_ _=>rfl)) AD)) AD))))))))
 Aj)
 (AS (Bh (k:=1) (λ_=>J8.nd) (CU (AA (AZ (λ_=>Aa) Ab (qv 0) AH (λ_ _=>rfl)) AD)))
 (AS (FE (λ_=>PassesOwn.never) (λ_=>rfl) (ES (λ_=>rfl) (Gk (λ_=>rfl) (qv 0) (Gj AH) Gi)) (GR (k:=2) (λ_=>J8.nd))
 (BF.weak (m:=OW) (AL (Ah (Bf (CD (n:="tuple") (by simp) (λ_=>rfl) (λ_=>T.b_isinstance) (λ_=>T.b_tuple) nofun (qv 2)))
 (AL (JJ (k:=1) (λ_=>rfl) (AU (λ_=>qP) (λ_=>hr.mq) (AA (qv 2) AD))))
 (AL (JJ (k:=1) (λ_=>rfl) (CS (λ_=>Uf) Ug (λ_=>T.b_str) nofun (AA (qv 2) AD)))))) ?body0))
 (AL (AQ (Df (λ_=>rfl) AT (qv 1))))))),λxs K h=>?_⟩)
 case body0 =>
  rintro E ρ ⟨d,ws,x,w,rfl,px,hl,h⟩
  unfold Fe at h
  rw[map_append]at h
  have ln:(ws.map P.str).length<16777216:=by rw[length_map];lia
  cases x with
  |str z=>obtain⟨rfl,_⟩:=px;exact⟨false,rfl,rfl,ln,h⟩
  |int i=>obtain⟨c,rfl,rfl,hc⟩:=px;exact⟨false,rfl,⟨by lia,by lia⟩,rfl,ln,h⟩
  |tup xs=>obtain⟨r,rfl,rfl,l6,hr⟩:=px;exact⟨true,rfl,r,rfl,by lia,Dj hr,rfl,ln,h⟩
  |_=>exact px.elim
 ·obtain⟨_,rfl,_⟩:=h;rfl
 ·obtain⟨d,rfl,ok,h⟩:=h
  have tr:∀x:Str,AG (.str x) (.str x)=true:=λx=>(CI x x).trans (decide_eq_true rfl)
  have at2:∀(x y z:P) (l:List P),atI (x::y::z::l) 2=some z:=λ_ _ _ _=>Bx (j:=2) rfl
  have at3:∀(x y z v:P) (l:List P),atI (x::y::z::v::l) 3=some v:=λ_ _ _ _ _=>Bx (j:=3) rfl
  have few:=OR ok
  have fit:((BW d).map (·.length)).sum+(BW d).length * (sS " ").length<=16777216:=by
   have:=G1 (f:=λx:Str=>x.length) (OQ ok)
   rw[show Str.length (sS " ")=1 by decide +kernel]
   lia
  have row:∀{r:List Int} {c:Nat},RwW r c->D9 (Ae r) (Ax r):=λrr=>⟨_,rfl,rfl,rr.l6,rr.rg⟩
  have num:∀{r:List Int} {c:Nat},RwW r c->D9 (.int (c:Int)) (AR (c:Int)):=λrr=>⟨_,rfl,rfl,rr.c13⟩
  have nam:∀{n:Str},Bb n->D9 (.str n) n:=λg=>⟨rfl,by have:=g.2.1;lia⟩
  have go:∀qE:List P,(∀i x,qE[i]?=some x->∃w,(BW d)[i+1]?=some w/\D9 x w/\x.imm=true)->qE.length+1=(BW d).length->∀f:Fl,Il (λρ K=>K qE f true) (A9 2) OW { nx:=Aq (Jm (pK (P.str (Str.ofString " "))) (Cs 1)) { nx:=λ_=>K P.non,rt:=K },rt:=K } (Fe d ((BW d).take 1) .emp):=λqE hp hl f=>by
   refine⟨rfl,λi ρ=>∃x,ρ=Fe d ((BW d).take (i+1)) x,⟨_,rfl⟩,?_,?_⟩
   ·rintro i ρ' x hx ⟨y,rfl⟩
    obtain⟨w,hw,px,im⟩:=hp i x hx
    refine A5 im ⟨d,_,x,w,rfl,px,by rw[length_take];lia,.sh x,?_⟩
    rw[take_add_one (i:=i+1),hw]
    rfl
   ·rintro ρ' ⟨x,rfl⟩
    rw[take_of_length_le (by lia)]
    exact⟨_,rfl,BW d,.inl rfl,fit,A6 rfl,h⟩
  cases d with
  |start n ns t =>
   obtain⟨g,r,tw⟩:=ok
   have tot:=KI (d:=.start n ns t) ⟨g,r,tw⟩
   rw[<-OV]at tot
   simp only[sS,PySem.strLen_append]at tot
   have e:Bk (.start n ns t)=Txt.join (sS " ") [sS "start",n,Br ns,Di t]:=by
    unfold Bk
    rw[jn,jn,OT,show BW (.start n ns t)=[sS "start",n,Br ns]++A2 t from rfl,<-KJ _ _ _ (OU t)]
    rfl
   rw[e]at h
   refine⟨_,A4 _ _,⟨rfl,rfl⟩,true,congrArg P.bl (tr _),_,rfl,_,Cc _ _ _,_,at2 _ _ _ _,ns,rfl,by have:=r.l6;lia,λx hx=>by have:=(r.g x hx).2.1;lia,_,at3 _ _ _ _ _,t,rfl,by have:=tw.len;lia,λq hq=>⟨by rw[tw.rows q hq];have:=tw.n6;lia,Dj (tw.rng q hq),by have:=tw.cnt q hq;exact⟨by lia,by lia⟩⟩,rfl,[sS "start",n,Br ns,Di t],.inl rfl,?_,A6 rfl,h⟩
   simp only[sS,map_cons,map_nil,sum_cons,sum_nil,length_cons,length_nil,show Str.length (Str.ofString " ")=1 by decide +kernel,show Str.length (Str.ofString "start")=5 by decide +kernel]
   lia
  |shut n =>
   exact⟨_,A4 _ _,⟨rfl,rfl⟩,false,congrArg P.bl nofun,_,A4 _ _,rfl,_,rfl,go [.str n] (λi x hx=>by
    rcases i with _|i
    ·cases hx;exact⟨n,rfl,nam ok,rfl⟩
    ·cases hx) rfl _⟩
  |two w r c =>
   obtain⟨g,rr⟩:=ok
   have hp:∀i x,[Ae r,.int (c:Int)][i]?=some x->∃z,(BW (.two w r c))[i+1]?=some z/\D9 x z/\x.imm=true:=λi x hx=>by
    rcases i with _|_|i
    ·cases hx;exact⟨_,rfl,row rr,Dd r⟩
    ·cases hx;exact⟨_,rfl,num rr,rfl⟩
    ·cases hx
   rcases g with rfl|rfl
   all_goals exact⟨_,A4 _ _,⟨rfl,rfl⟩,false,congrArg P.bl nofun,_,A4 _ _,rfl,_,rfl,go _ hp rfl _⟩
  |three w n r c =>
   obtain⟨g,gn,rr⟩:=ok
   have hp:∀i x,[.str n,Ae r,.int (c:Int)][i]?=some x->∃z,(BW (.three w n r c))[i+1]?=some z/\D9 x z/\x.imm=true:=λi x hx=>by
    rcases i with _|_|_|i
    ·cases hx;exact⟨_,rfl,nam gn,rfl⟩
    ·cases hx;exact⟨_,rfl,row rr,Dd r⟩
    ·cases hx;exact⟨_,rfl,num rr,rfl⟩
    ·cases hx
   rcases g with rfl|rfl
   all_goals exact⟨_,A4 _ _,⟨rfl,rfl⟩,false,congrArg P.bl nofun,_,A4 _ _,rfl,_,rfl,go _ hp rfl _⟩
end
end K
namespace K
open PySem L2
section
variable{K:Fg}
theorem OX{k:Nat}{x:P}{K:List S->Prop}(q:K (ρ.set k (.sh x))):A9 k x .cl ρ K:=by
 unfold A9
 split
 ·exact q
 ·exact q
noncomputable def Cd:Deed->List P
 |.start n ns t=>[.str (sS "start"),.str n,BA ns,Aw t]
 |.shut n=>[.str (sS "shut"),.str n]
 |.two w r c=>[.str w,Ae r,.int (c:Int)]
 |.three w n r c=>[.str w,.str n,Ae r,.int (c:Int)]
theorem WK(d:Deed):BU d=.tup (Cd d):=by cases d<;>rfl
def OY:pF:=λxs K=>∃d:Deed,xs=[BU d,BU d]/\CJ d/\K (.bl true)
noncomputable abbrev KL(d:Deed)(x y:S):List S:=[.sh (.tup (Cd d)),.sh (.tup (Cd d)),x,y]
def WL:pS:=λE ρ=>∃d x,ρ=KL d (.sh x) (.sh x)/\((∃i,x=.int i)\/FI "int" x=false)/\E.nx (KL d (.sh x) (.sh x))
theorem WM(d:Deed):∀x∈Cd d,(∃i,x=.int i)\/FI "int" x=false:=by
 intro x hx
 cases d<;>simp only[Cd,mem_cons,not_mem_nil,or_false]at hx
 ·rcases hx with rfl|rfl|rfl|rfl<;>exact .inr rfl
 ·rcases hx with rfl|rfl<;>exact .inr rfl
 ·rcases hx with rfl|rfl|rfl
  ·exact .inr rfl
  ·exact .inr rfl
  ·exact .inl ⟨_,rfl⟩
 ·rcases hx with rfl|rfl|rfl|rfl
  ·exact .inr rfl
  ·exact .inr rfl
  ·exact .inr rfl
  ·exact .inl ⟨_,rfl⟩
theorem WN{p:P}(h:(zipWith BR xs xs)[i]?=some p):∃x,xs[i]?=some x/\p=BR x x:=by
 rw[getElem?_zipWith]at h
 cases e:xs[i]? with
 |none=>rw[e]at h;simp at h
 |some x=>rw[e]at h;exact⟨x,rfl,by simpa using h.symm⟩
theorem OZ(a:Bool):(!AG (.bl a) (.bl a))=false:=by rw[M9,decide_eq_true rfl];rfl
theorem WO(D:Ao K mg "_law_kinds" J9)(T:TxtN mg)(qS:Fn P' w K mg base "_law_whole" 1 ["_law_found"] (AJ Eo))(zC:Fn P' w K mg base "_law_same" 3 ["_law_found","_law_due"] (AJ OG)):Fn P' w K mg base "_law_kinds" 4 ["_law_found","_law_due"] (AJ OY):=by
 refine Av D KA (λ_ _ _ _ _ _ us hl=>C5 hl (λ_ _=>rfl)) (λxs K h=>?_) (by decide) (λfa cdv A outer s H E hr=>⟨_,(AS (Ah (QW.pt (DG (Bg (Bf (CD (n:="tuple") (by simp) (λ_=>rfl) (λ_=>T.b_isinstance) (λ_=>T.b_tuple) nofun (qv 0)))) (Da (Ai (λ_=>(Cy hr)) Cz (Ap (λ_=>BP) BQ (λ_=>T.b_len) nofun (AA (qv 0) AD)) (Ap (λ_=>BP) BQ (λ_=>T.b_len) nofun (AA (qv 1) AD)) (AY _)))))
 (AL (AQ B2))
 Aj)
 (AS (FE (λ_=>PassesOwn.never) (λ_=>rfl) (Ui (λ_=>rfl) (λ_=>T.b_zip) (qv 0) (qv 1)) (L6 (ks:=[2,3]) (λ_=>rfl) (λ_=>rfl) (λ_=>(BZ (A8 (i:=2) KA.nd rfl (Or.inl rfl)) (BZ (A8 (i:=3) KA.nd rfl (Or.inl rfl)) C8))) rfl)
 (BF.weak (m:=WL) (AS (Ah (QW.pt (DG (Ai (λ_=>(Cy hr)) Cz (CD (n:="tuple") (by simp) (λ_=>rfl) (λ_=>T.b_isinstance) (λ_=>T.b_tuple) nofun (qv 2)) (CD (n:="tuple") (by simp) (λ_=>rfl) (λ_=>T.b_isinstance) (λ_=>T.b_tuple) nofun (qv 3)) (AY _)) (Da (Ai (λ_=>(Cy hr)) Cz (CD (n:="list") (by simp) (λ_=>rfl) (λ_=>T.b_isinstance) (λ_=>T.b_list) nofun (qv 2)) (CD (n:="list") (by simp) (λ_=>rfl) (λ_=>T.b_isinstance) (λ_=>T.b_list) nofun (qv 3)) (AY _)))))
 (AL (AQ B2))
 Aj)
 (AL (Ah (QW.pt (Dw (Bf (CD (n:="int") (by simp) (λ_=>rfl) (λ_=>T.b_isinstance) (λ_=>T.b_int) nofun (qv 3))) (Dv (Bg (Bf (AU (λ_=>qS) (λ_=>hr.mq) (AA (qv 2) AD)))))))
 (AL (AQ B2))
 Aj))) ?body0))
 (AS (Ah (QW.pt (Dw (Ai (λ_=>(BJ hr)) BK (AZ (λ_=>Aa) Ab (qv 1) AH (λ_ _=>rfl)) AT (AY _)) (Dv (Bg (Bf (AU (λ_=>zC) (λ_=>hr.mq) (AA (AZ (λ_=>Aa) Ab (qv 0) AH (λ_ _=>rfl)) (AA (AZ (λ_=>Aa) Ab (qv 1) AH (λ_ _=>rfl)) AD))))))))
 (AL (AQ B2))
 Aj)
 (AL (AQ (E9 (λ_=>(BJ hr)) BK (qv 0) (qv 1) (AY _))))))),λxs K h=>?_⟩)
 case body0 =>
  rintro E ρ ⟨d,x,rfl,hi,h⟩
  refine⟨⟨rfl,rfl⟩,false,congrArg P.bl (OZ _),⟨rfl,rfl⟩,false,congrArg P.bl (OZ _),?_⟩
  rcases hi with⟨i,rfl⟩|hi
  ·exact⟨true,rfl,i,rfl,true,rfl,h⟩
  ·exact⟨false,congrArg P.bl hi,h⟩
 ·obtain⟨_,rfl,_⟩:=h;rfl
 ·obtain⟨d,rfl,ok,h⟩:=h
  rw[WK]
  refine⟨_,rfl,⟨rfl,rfl⟩,false,congrArg P.bl (by rw[JQ,decide_eq_true rfl];rfl),_,_,rfl,rfl,⟨rfl,rfl⟩,rfl,λi ρ=>∃x y,ρ=KL d x y,⟨_,_,rfl⟩,?_,?_⟩
  ·rintro i ρ' p hp ⟨a,b,rfl⟩
   obtain⟨x,hx,rfl⟩:=WN hp
   exact⟨_,rfl,rfl,OX (OX ⟨d,x,rfl,WM d x (mem_of_getElem? hx),_,_,rfl⟩)⟩
  ·rintro ρ' ⟨a,b,rfl⟩
   have pl:(P.tup (Cd d)).pl 9=true:=by cases d<;>simp[Cd]
   have nbd:(P.tup (Cd d)).nb=true:=by
    have s:∀z:Str,(P.str z).nb=true:=λ_=>by rw[P.nb]
    have i:∀z:Int,(P.int z).nb=true:=λ_=>by rw[P.nb]
    cases d
    ·rw[P.nb,Cd,P.nbs,P.nbs,P.nbs,P.nbs,P.nbs,s,s,JT,JS];rfl
    ·rw[P.nb,Cd,P.nbs,P.nbs,P.nbs,s,s];rfl
    ·rw[P.nb,Cd,P.nbs,P.nbs,P.nbs,P.nbs,s,FL,i];rfl
    ·rw[P.nb,Cd,P.nbs,P.nbs,P.nbs,P.nbs,P.nbs,s,s,FL,i];rfl
   rw[<-(D3 nbd nbd).mpr rfl]at h
   have tr:∀x:Str,AG (.str x) (.str x)=true:=λx=>(CI x x).trans (decide_eq_true rfl)
   have at3:∀(x y z v:P) (l:List P),atI (x::y::z::v::l) 3=some v:=λ_ _ _ _ _=>Bx (j:=3) rfl
   cases d with
   |start n ns t =>
    obtain⟨g,r,tw⟩:=ok
    exact⟨_,A4 _ _,⟨rfl,rfl⟩,true,congrArg P.bl (tr _),_,at3 _ _ _ _ _,_,at3 _ _ _ _ _,t,rfl,by have:=tw.len;lia,λq hq=>by rw[tw.rows q hq];have:=tw.n6;lia,true,rfl,⟨pl,pl⟩,A6 rfl,h⟩
   |shut n=>exact⟨_,A4 _ _,⟨rfl,rfl⟩,false,congrArg P.bl nofun,⟨pl,pl⟩,A6 rfl,h⟩
   |two w r c =>
    rcases ok.1 with rfl|rfl
    all_goals exact⟨_,A4 _ _,⟨rfl,rfl⟩,false,congrArg P.bl nofun,⟨pl,pl⟩,A6 rfl,h⟩
   |three w n r c =>
    rcases ok.1 with rfl|rfl
    all_goals exact⟨_,A4 _ _,⟨rfl,rfl⟩,false,congrArg P.bl nofun,⟨pl,pl⟩,A6 rfl,h⟩
end
end K
namespace K
open PySem L2
section
variable{K:Fg}
theorem WQ{l:List Str}(s:Ng l)(nd:l.Nodup):l.Pairwise (λa b=>a.cps.toList<b.cps.toList) :=
 (pairwise_and_iff.mpr ⟨s,nd⟩).imp λ{a b} h=>by
  by_cases z:a.cps.toList<b.cps.toList
  ·exact z
  ·exact absurd (UD h.1 z) h.2
theorem WR{t:Tl}(n6:n<=6)(d:Drawn n t):TalW n (BV t):=by
 have fromT:∀q∈BV t,∃p∈t,p.1=q.1/\q.2=p.2:=λq hq=>by
  obtain⟨p,hp,e⟩:=mem_map.mp (NQ hq)
  refine⟨p,hp,e,?_⟩
  rw[(UA hq).1,<-e,T7 d.nd hp]
  rfl
 have rows:=T9 d.rows
 have rng:∀q∈BV t,∀x∈q.1,0<=x/\x<=9:=λq hq x hx=>by
  obtain⟨p,hp,e,_⟩:=fromT q hq
  exact d.row p hp x (by rw[e];exact hx)
 have cnt:∀q∈BV t,1<=q.2/\q.2<=1000000000000:=λq hq=>by
  obtain⟨p,hp,_,e⟩:=fromT q hq
  rw[e];exact d.cnt p hp
 refine⟨Nat.le_trans (Tb t) (Nat.le_trans d.len (by decide)),n6,rows,rng,λq hq=>by have:=cnt q hq;lia,?_⟩
 unfold Gs
 rw[Bool.and_eq_true,all_eq_true]
 refine⟨λq hq=>?_,Um ?_ (T8 d.nd)⟩
 ·unfold C0
  rw[Bool.and_eq_true,Bool.and_eq_true,decide_eq_true_iff,decide_eq_true_iff,all_eq_true]
  exact⟨⟨rows q hq,λx hx=>decide_eq_true (rng q hq x hx)⟩,(cnt q hq).1⟩
 ·unfold BV
  rw[map_map,show((λq:List Int×Int=>q.1) ∘ λr=>(r,(Bq t r).getD 0))=id from rfl,map_id]
  exact(JW _).sublist filter_sublist
def Oa:pF:=λxs K=>xs=[.bag]/\∀d:Deed,CJ d->K (BU d)
noncomputable abbrev WS(ns:List Str)(nm:Str)(r:List Int)(c:Nat)(y z:S):List S:=[.sh .bag,.sh (BA ns),.sh (.str nm),.sh (Ae r),.sh (.int (c:Int)),y,z]
structure AdOk(ns:List Str)(nm:Str)(r:List Int)(c:Nat):Prop where
 rm:RmW ns
 gn:Bb nm
 rw:RwW r c
def WT:pS:=λE ρ=>∃ns nm r c z,ρ=WS ns nm r c .emp z/\AdOk ns nm r c/\∀d:Deed,CJ d->E.rt (BU d)
theorem WU{a b c d e:P}{r:Int}(h0:0<=r)(h1:r<5):∃x,atI [a,b,c,d,e] r=some x/\x∈[a,b,c,d,e]:=by
 obtain⟨n,rfl⟩:=Int.eq_ofNat_of_zero_le h0
 have h:n=0\/n=1\/n=2\/n=3\/n=4:=by lia
 rcases h with rfl|rfl|rfl|rfl|rfl<;>exact⟨_,rfl,by simp⟩
theorem WV(D:Ao K mg "_law_any_deed" HJ)(T:TxtN mg)(qJ:Fn P' w K mg base "_law_pull" 1 ["_law_bag_here","_law_many_here"] (AJ Fd))(zD:Fn P' w K mg base "_law_names" 3 ["_law_bag_here","_law_many_here"] (AJ OC))(qL:Fn P' w K mg base "_law_answers" 2 ["_law_bag_here","_law_size","_law_base"] (AJ JX))(zE:Fn P' w K mg base "_law_drawn" 3 ["_law_bag_here","_law_room"] (AJ NM)):Fn P' w K mg base "_law_any_deed" 4 ["_law_bag_here"] (AJ Oa):=by
 refine Av D D7 (λ_ _ _ _ _ _ us hl=>BD hl (λ_=>rfl)) (λxs K h=>?_) (by decide) (λfa cdv A outer s H E hr=>?_)
 ·obtain⟨rfl,_⟩:=h;rfl
 ·have hu:=IJ hr
  refine⟨_,(AS (Bh (k:=1) (λ_=>D7.nd) (CS (λ_=>GB) Gf (λ_=>T.b_tuple) nofun (AA (Ap (λ_=>(RB trivial)) SB (λ_=>T.b_sorted) nofun (AA (AU (λ_=>zD) (λ_=>hr.mq) (AA (qv 0) (AA (AU (λ_=>qJ) (λ_=>hr.mq) (AA (qv 0) (AA AH AD))) AD))) AD)) AD)))
 (AS (Bh (k:=2) (λ_=>D7.nd) (AZ (λ_=>Aa) Ab (AU (λ_=>zD) (λ_=>hr.mq) (AA (qv 0) (AA AH AD))) AH (λ_ _=>rfl)))
 (AS (Bh (k:=3) (λ_=>D7.nd) (AU (λ_=>qL) (λ_=>hr.mq) (AA (qv 0) (AA (Ap (λ_=>BP) BQ (λ_=>T.b_len) nofun (AA (qv 1) AD)) (AA AH AD)))))
 (AS (Bh (k:=4) (λ_=>D7.nd) (AZ (λ_=>Aa) Ab (CU (AA AH (AA AH (AA (CQ (λ_=>EJ) FF AH AH) (AA (CQ (λ_=>EH) Gb (CQ (λ_=>EJ) FF AH AH) AH) (AA (AU (λ_=>qJ) (λ_=>hr.mq) (AA (qv 0) (AA (CQ (λ_=>EJ) FF AH AH) AD))) AD)))))) (AU (λ_=>qJ) (λ_=>hr.mq) (AA (qv 0) (AA AH AD))) (λ_ _=>rfl)))
 (BF.weak (m:=WT) (AS (Bh (k:=5) (λ_=>D7.nd) (AU (λ_=>qJ) (λ_=>hr.mq) (AA (qv 0) (AA AH AD))))
 (AS (Ah (Ai (λ_=>Ht) MJ (qv 5) AH (AY _))
 (AS (Bh (k:=6) (λ_=>D7.nd) (AU (λ_=>zE) (λ_=>hr.mq) (AA (qv 0) (AA (qv 1) AD))))
 (AL (AQ (Be (AA AT (AA (qv 2) (AA (qv 1) (AA (Bi (N:=["_law_bag_here","_law_names_here","_law_name","_law_row","_law_count","_law_way","_law_rows"]) (sc:=AN HJ) (N':=["_law_one","_law_much"]) (qB:=[none,none]) ⟨rfl,nofun,nofun,nofun,nofun,rfl,nofun⟩ (by decide) (λ_=>rfl) (DK (λ_=>rfl) (qv 6)) (D2 (i:=0) (j:=1) rfl rfl (λ_=>rfl) (λ_=>rfl) (λ_=>(BZ (A8 (i:=0) (show List.Nodup (["_law_one","_law_much"]:List Str) by decide +kernel) rfl (Or.inl rfl)) (BZ (A8 (i:=1) (show List.Nodup (["_law_one","_law_much"]:List Str) by decide +kernel) rfl (Or.inl rfl)) C8)))) Bp (Be (AA (qv 0) (AA (Ap (λ_=>(Pl rfl)) Td (λ_=>T.b_max) nofun (AA AH (AA (Ap (λ_=>(Pm rfl)) Tc (λ_=>T.b_min) nofun (AA (qv 1) (AA (CQ (λ_=>EH) Gb (CQ (λ_=>EJ) FF AH AH) AH) AD))) AD))) AD)))) AD))))))))
 Aj)
 (AS (Ah (Ai (λ_=>(BJ hr)) BK (qv 5) AH (AY _))
 (AL (AQ (Be (AA AT (AA (qv 2) AD)))))
 Aj)
 (AS (Ah (Ai (λ_=>Ht) MJ (qv 5) AH (AY _))
 (AL (AQ (Be (AA (AZ (λ_=>Aa) Ab (CU (AA AT (AA AT AD))) (CQ (λ_=>EH) Gb (qv 5) AH) (λ_ _=>rfl)) (AA (qv 3) (AA (qv 4) AD))))))
 Aj)
 (AL (AQ (Be (AA (AZ (λ_=>Aa) Ab (CU (AA AT (AA AT AD))) (CQ (λ_=>EH) Gb (qv 5) AH) (λ_ _=>rfl)) (AA (qv 2) (AA (qv 3) (AA (qv 4) AD))))))))))) ?cut4))))),λxs K h=>?_⟩
  case cut4 =>
   rintro E ρ ⟨ns,nm,r,c,z,rfl,ok,h⟩
   have l6:=ok.rm.l6
   have wd:∀{v k:Int} {a b:Str},v=k\/v=k+1->∃w,atI [P.str a,.str b] (v - k)=some (.str w)/\(w=a\/w=b):=λ{v k a b} hv=>by
    rcases hv with rfl|rfl
    ·exact⟨a,by rw[Int.sub_self];exact A4 _ _,.inl rfl⟩
    ·exact⟨b,by rw[show k+1 - k=1 by lia];exact Cc _ _ _,.inr rfl⟩
   refine⟨8,rfl,by decide,by decide,λv v0 v1=>⟨trivial,_,rfl,Bc (λz=>?_) λz=>⟨⟨rfl,rfl⟩,_,rfl,Bc (λz2=>?_) λz2=>⟨trivial,_,rfl,Bc (λz3=>?_) λz3=>?_⟩⟩⟩⟩
   ·refine⟨ns,rfl,by lia,λt d=>?_⟩
    have tw:=WR l6 d
    have tl:=tw.len
    have jf:BX [(P.str (Str.ofString "start"),Fl.fr),(P.str nm,Fl.cl),(BA ns,Fl.cl),(Aw (BV t),Fl.nw)]=.nw:=by rw[BX,BX,BX,Jq (Ej ns)];rfl
    refine⟨_,rfl,nofun,by rw[length_map];lia,A3.map Ba (λq _=>Gq q) (λq hq M hM=>Uv ⟨⟨by decide,by decide,by decide⟩,trivial,rfl,?_⟩) ⟨rfl,by rw[jf];exact Dg,h (.start nm ns (BV t)) ⟨ok.gn,ok.rm,tw⟩⟩⟩
    have c1:=tw.cnt q hq
    have e1:(if((10:Int) ^ (13:Int).toNat - 1)<q.2 then((10:Int) ^ (13:Int).toNat - 1)else q.2)=q.2:=if_neg (by show¬((10:Int) ^ 13 - 1<q.2);lia)
    have e2:(if(if((10:Int) ^ (13:Int).toNat - 1)<q.2 then((10:Int) ^ (13:Int).toNat - 1)else q.2) > 1 then(if((10:Int) ^ (13:Int).toNat - 1)<q.2 then((10:Int) ^ (13:Int).toNat - 1)else q.2)else 1)=q.2:=by
     rw[e1]
     split
     ·rfl
     ·lia
    have hM:=hM (BX [(Ae q.1,.cl),(.int q.2,.fr)])
    rw[e2]
    exact hM
   ·exact⟨rfl,Dg,h (.shut nm) ok.gn⟩
   ·have z:¬v<3:=λy=>z (decide_eq_true y)
    have z3:v<6:=of_decide_eq_true z3
    rw[JQ,decide_eq_true_iff]at z2
    obtain⟨w,hw,hw2⟩:=wd (v:=v) (k:=4) (a:=Str.ofString "enter") (b:=Str.ofString "withdraw") (by lia)
    exact⟨rfl,trivial,_,hw,rfl,A6 (by simp),h (.two w r c) ⟨hw2,ok.rw⟩⟩
   ·have z3:¬v<6:=λy=>z3 (decide_eq_true y)
    obtain⟨w,hw,hw2⟩:=wd (v:=v) (k:=6) (a:=Str.ofString "mark") (b:=Str.ofString "strike") (by lia)
    exact⟨rfl,trivial,_,hw,rfl,A6 (by simp),h (.three w nm r c) ⟨hw2,ok.gn,ok.rw⟩⟩
  ·obtain⟨rfl,h⟩:=h
   refine⟨7,rfl,by decide,by decide,λn n0 n1=>⟨n,rfl,n0,by lia,λns hn hg nd=>⟨ns,rfl,by lia,λss hp hs=>A5 (Ej _) ⟨1,rfl,by decide,by decide,λms hm hgm ndm=>?_⟩⟩⟩⟩
   obtain⟨m,rfl⟩:∃m,ms=[m]:=by
    match ms,hm with
    |[m],_=>exact⟨m,rfl⟩
   have sl:=hp.length_eq
   refine⟨_,A4 _ _,A5 rfl ⟨_,10,rfl,by lia,by rw[length_map];lia,by decide,by decide,λr hr hx=>A5 (Dd _) ?_⟩⟩
   rw[length_map]at hr
   refine⟨⟨by decide,by decide,by decide⟩,⟨by decide,by decide,by decide⟩,trivial,⟨by decide,by decide,by decide⟩,_,rfl,by decide,by decide,λv v0 v1=>?_⟩
   refine⟨rfl,5,rfl,by decide,by decide,λi i0 i1=>?_⟩
   obtain⟨x,hx1,hx2⟩:=WU (a:=.int 0) (b:=.int 1) (c:=.int ((10:Int) ^ (12:Int).toNat)) (d:=.int ((10:Int) ^ (13:Int).toNat - 1)) (e:=.int v) i0 i1
   obtain⟨c,rfl,hc⟩:∃c:Nat,x=.int (c:Int)/\c<10 ^ 13:=by
    have v1:v<10 ^ 12:=v1
    simp only[mem_cons,not_mem_nil,or_false]at hx2
    rcases hx2 with rfl|rfl|rfl|rfl|rfl
    ·exact⟨0,rfl,by decide⟩
    ·exact⟨1,rfl,by decide⟩
    ·exact⟨10 ^ 12,rfl,by decide⟩
    ·exact⟨10 ^ 13 - 1,rfl,by decide⟩
    ·exact⟨v.toNat,by rw[Int.toNat_of_nonneg v0],by lia⟩
   refine⟨_,hx1,A5 rfl ⟨ss,m,r,c,_,rfl,⟨⟨by lia,λx hx=>hg x (hp.mem_iff.mp hx),WQ (UE hs) (hp.nodup_iff.mpr nd)⟩,hgm m (by simp),⟨by lia,λx hx2=>by have:=hx x hx2;lia,hc⟩⟩,h⟩⟩
end
end K
namespace K
open PySem L2
section
variable{K:Fg}
theorem WW{s0:Stmt}{qC:List Stmt}{p:pS}{Q:VK}(h0:PS X s0 (Dm (EL (HM K) [] E0 (Bl (DR 0) CC)) (CK 1)))(hq:BF (λ_:Unit=>X) qC p)
  (hp:p { nx:=λ_=>False,rt:=λx=>x=.bl true } (.emp::.sh .bag::replicate n .emp)) (hS:Am K H a (ns.map V.int)) (k:∀H',Q (.bl true) H') :
  ∃t,BN X (s0::qC) t/\t { nx:=λ_ H'=>Q .non H',rt:=Q } (some (.ref a)::none::replicate n none) H:=by
 obtain⟨t,h1,h2⟩:=VU (n:=n) h0 hq hp
 exact⟨t,h1,h2 a ns H Q hS k⟩
theorem KM{k:Nat}{d:Deed}{K:List S->Prop}(h:∀D,(D=.sh (BU d)\/D=.fr (BU d))->K (ρ.set k D)):A9 k (BU d) .nw ρ K:=by
 unfold A9
 split
 ·exact h _ (.inl rfl)
 ·have e:(BU d).mut=false:=by cases d<;>rfl
  show K (ρ.set k (if(BU d).mut=true then .own (BU d)else .fr (BU d)))
  rw[e]
  exact h _ (.inr rfl)
def WX:pS:=λE ρ=>E.rt (.bl true)/\∃d D,CJ d/\(D=.sh (BU d)\/D=.fr (BU d))/\ρ=[.emp,.sh .bag,D,.emp,.emp]
def WY:pS:=λE ρ=>E.rt (.bl true)/\∃d D,CJ d/\(D=.sh (BU d)\/D=.fr (BU d))/\ρ=[.emp,.sh .bag,D,.sh (.str (Bk d)),.emp]
theorem WZ{d:Deed}(ok:CJ d):∃w r,BU d=.tup (.str w::r)/\(w=sS "start"->∃n ns t,d=.start n ns t):=by
 cases d with
 |start n ns t=>exact⟨_,_,rfl,λ_=>⟨n,ns,t,rfl⟩⟩
 |shut n=>exact⟨_,_,rfl,λz=>absurd z nofun⟩
 |two w r c =>
  refine⟨_,_,rfl,λz=>?_⟩
  rcases ok.1 with rfl|rfl
  ·exact absurd z nofun
  ·exact absurd z nofun
 |three w n r c =>
  refine⟨_,_,rfl,λz=>?_⟩
  rcases ok.1 with rfl|rfl
  ·exact absurd z nofun
  ·exact absurd z nofun
theorem Hf{K:Bool->Prop}{x:P}{w:Str}{r:List P}(e:x=.tup (.str w::r))(hx:ρ[2]?=some (.sh x)\/ρ[2]?=some (.fr x))(h:K (decide (w=sS "start"))):DZ (Cg JB (Cg FH (Cs 2) (pK (.int 0))) (pK (.str (sS "start")))) ρ K:=by
 subst e
 rcases hx with hx|hx
 ·unfold DZ Cg Cs
  rw[hx]
  exact⟨_,A4 _ _,⟨rfl,rfl⟩,_,congrArg P.bl (CI _ _),h⟩
 ·unfold DZ Cg Cs
  rw[hx]
  exact⟨_,A4 _ _,⟨rfl,rfl⟩,_,congrArg P.bl (CI _ _),h⟩
theorem Wa{f:Addr}(F:Fun K "law" "law" D8 f fd)(T:TxtN mg)(zF:Fn P' w K mg base "_law_bag" 1 ["_law_script"] (HM K))(zG:Fn P' w K mg base "_law_any_deed" 4 ["_law_bag_here"] (AJ Oa))(zH:Fn P' w K mg base "deed_text" 3 ["deed"] (AJ Hd))
  (zI:Fn P' w K mg base "_law_deed_text" 3 ["_law_deed"] (AJ Hd)) (zJ:Fn P' w K mg base "read_deed" 4 ["line"] (AJ OS)) (zK:Fn P' w K mg base "_law_kinds" 4 ["_law_found","_law_due"] (AJ OY)):FnOk P' w K mg base Cr 5 f fd ["_law_script"] (HR K):=by
 refine F.ok Fa (λvs H Q E h=>?_) (λcdv A outer s H vs Q E hr h=>?_)
 ·obtain⟨a,ns,rfl,_⟩:=h;rfl
 ·obtain⟨a,ns,rfl,hS,k⟩:=h
  refine WW (n:=3) (Bs (i:=1) Fa.nd rfl (Or.inl rfl) (DX zF (hr.mq) (by rfl) (Ad (pv 0) Ay))) (AS (Bh (k:=2) (λ_=>Fa.nd) (AU (λ_=>zG) (λ_=>hr.mq) (AA (qv 1) AD)))
 (BF.weak (m:=WX) (AS (Bh (k:=3) (λ_=>Fa.nd) (AU (λ_=>zH) (λ_=>hr.mq) (AA (qv 2) AD)))
 (AS (Ah (QW.pt (DG (Bg (Bf (CD (n:="str") (by simp) (λ_=>rfl) (λ_=>T.b_isinstance) (λ_=>T.b_str) nofun (qv 3)))) (Da (Ai (λ_=>(Cy hr)) Cz (qv 3) (AU (λ_=>zI) (λ_=>hr.mq) (AA (qv 2) AD)) (AY _)))))
 (AL (AQ B2))
 Aj)
 (BF.weak (m:=WY) (Uk (Kf:=K) (λ_=>rfl) (k:=4) (λ_=>Fa.nd) (λ_=>zJ) (λ_=>hr.mq) (AA (qv 3) AD)
 (Bg (Bf (AU (λ_=>zK) (λ_=>hr.mq) (AA (qv 4) (AA (qv 2) AD))))) (AL (AQ B2))
 (Ai (λ_=>(BJ hr)) BK (AZ (λ_=>Aa) Ab (qv 2) AH (λ_ _=>rfl)) AT (AY _)) (AZ (λ_=>Aa) Ab (qv 4) AH (λ_ _=>rfl)) AH
 (AL (AQ (AU (λ_=>zK) (λ_=>hr.mq) (AA (AU (λ_=>zJ) (λ_=>hr.mq) (AA (qv 3) AD)) (AA (qv 2) AD)))))) ?cutT0))) ?En)) ?main hS k
  case main=>exact⟨rfl,λd ok=>KM λD hD=>⟨rfl,d,D,ok,hD,rfl⟩⟩
  case En =>
   rintro E ρ ⟨rt,d,D,ok,hD,rfl⟩
   have e:(!AG (.str (Bk d)) (.str (Bk d)))=false:=by rw[CI,decide_eq_true rfl];rfl
   rcases hD with rfl|rfl
   ·exact⟨d,rfl,ok,A5 rfl ⟨true,rfl,d,rfl,ok,⟨rfl,rfl⟩,false,congrArg P.bl e,rt,d,_,ok,.inl rfl,rfl⟩⟩
   ·exact⟨d,rfl,ok,A5 rfl ⟨true,rfl,d,rfl,ok,⟨rfl,rfl⟩,false,congrArg P.bl e,rt,d,_,ok,.inr rfl,rfl⟩⟩
  case cutT0 =>
   rintro E ρ ⟨rt,d,D,ok,hD,rfl⟩
   obtain⟨w,r,e,hs⟩:=WZ ok
   have px:decide (w=sS "start")=true->(Cg FH (Cs 4) (pK (.int 3))) (Eh 5 4 (BU d)) (λx g=>g=.fr/\∃ys,x=.lst ys/\ys.length<16777216)/\(pK (.int 0)) (Eh 5 4 (BU d)) (λ_ _=>True):=λc=>by
    obtain⟨n,ns,t,rfl⟩:=hs (of_decide_eq_true c)
    exact⟨⟨_,rfl,rfl,_,rfl,by rw[length_map];have:=ok.2.2.len;lia⟩,trivial⟩
   rcases hD with rfl|rfl
   ·refine⟨d,rfl,ok,rfl,KM λD' hD'=>?_⟩
    rcases hD' with rfl|rfl
    ·exact⟨d,rfl,ok,true,rfl,rfl,Hf e (.inl rfl) ⟨px,d,rfl,ok,d,rfl,ok,A6 rfl,rt⟩⟩
    ·exact⟨d,rfl,ok,true,rfl,rfl,Hf e (.inl rfl) ⟨px,d,rfl,ok,d,rfl,ok,A6 rfl,rt⟩⟩
   ·refine⟨d,rfl,ok,rfl,KM λD' hD'=>?_⟩
    rcases hD' with rfl|rfl
    ·exact⟨d,rfl,ok,true,rfl,rfl,Hf e (.inr rfl) ⟨px,d,rfl,ok,d,rfl,ok,A6 rfl,rt⟩⟩
    ·exact⟨d,rfl,ok,true,rfl,rfl,Hf e (.inr rfl) ⟨px,d,rfl,ok,d,rfl,ok,A6 rfl,rt⟩⟩
end
abbrev AF(K:Fg)(n:Str)(st:Stmt):Prop:=∃(a:Addr) (od an:Option Addr) (sl:Array (Option Value)) (oc kV dc pm cd ct:Value),PySem.W.nsIn K mainGlobals n=some (some (.ref a))/\K.lookup a=some ⟨oc,od,.func (PySem.W.fnOf n n (DC st) (CO st) (AN st) .none kV dc pm an cd ct),sl⟩/\PySem.W.codeIn K cd n=true/\PySem.W.keepIn K (.ref a)=true
abbrev Bt(K:Fg)(n:Str):Prop:=PySem.W.nsIn K mainGlobals n=some none
theorem AF.of{K:Fg}{n:Str}{st:Stmt}{od an:Option Addr}{sl:Array (Option Value)}{oc kV dc pm cd ct:Value}(h1:PySem.W.nsIn K mainGlobals n=some (some (.ref a)))(h2:K.lookup a=some ⟨oc,od,.func (PySem.W.fnOf n n (DC st) (CO st) (AN st) .none kV dc pm an cd ct),sl⟩)(h3:PySem.W.codeIn K cd n=true)(h4:PySem.W.keepIn K (.ref a)=true):AF K n st:=⟨_,_,_,_,_,_,_,_,_,_,h1,h2,h3,h4⟩
theorem AF.at{K:Fg}{n:Str}{st:Stmt}(p:AF K n st)(X:K.In h)(G:h.Ns mainGlobals mg):Ao K mg n st:=by
 obtain⟨_,_,_,_,_,_,_,_,_,_,h1,h2,h3,h4⟩:=p
 exact⟨_,_,LB (st:=st) h2 h3 h4,PySem.W.mg_of X G h1⟩
theorem all_mk{l:PySem.W.OpenLaw}{K:Fg}{fa:Addr}(X:K.In h)(G:h.Ns mainGlobals mg)(hfa:mg "law"=some (.ref fa))
  {u_MOST_LETTERS:Tok}
  {u_MOST_QUESTIONS:Tok}
  {u_HIGHEST_ANSWER:Tok}
  {u_MOST_FIGURES:Tok} (d0:AF K "is_name" G6) (d1:AF K "rises" Ek) (d2:AF K "is_room" G7) (d3:AF K "is_row" G8) (d4:AF K "is_tally" FY) (d5:AF K "room_text" Jr) (d6:AF K "row_text" G9) (d7:AF K "tally_text" HA) (d8:AF K "deed_text" Js) (d9:AF K "is_figure" Jt) (d10:AF K "read_name" Ju) (d11:AF K "read_room" Jv) (d12:AF K "read_row" FZ) (d13:AF K "read_number" HB) (d14:AF K "read_tally" Jw) (d15:AF K "read_deed" Jx) (d16:AF K "_law_bag" J0) (d17:AF K "_law_pull" J1) (d18:AF K "_law_word" HF) (d19:AF K "_law_names" J3) (d20:AF K "_law_answers" HG) (d21:AF K "_law_many" J4) (d22:AF K "_law_settled" HH) (d23:AF K "_law_drawn" J5) (d24:AF K "_law_whole" Jy) (d25:AF K "_law_tuple" HD) (d26:AF K "_law_same" Jz) (d27:AF K "_law_room_text" J6) (d28:AF K "_law_row_text" HK) (d29:AF K "_law_tally_text" HL) (d30:AF K "_law_deed_text" J7) (d31:AF K "_law_kinds" J9) (d32:AF K "_law_any_deed" HJ) (d33:AF K "law" D8) (hb_len:Bt K "len") (hb_list:Bt K "list") (hb_range:Bt K "range") (hb_isinstance:Bt K "isinstance") (hb_bool:Bt K "bool") (hb_int:Bt K "int") (hb_tuple:Bt K "tuple") (hb_all:Bt K "all") (hb_any:Bt K "any") (hb_sorted:Bt K "sorted") (hb_set:Bt K "set") (hb_sum:Bt K "sum") (hb_dict:Bt K "dict") (hb_zip:Bt K "zip") (hb_min:Bt K "min") (hb_max:Bt K "max") (hb_str:Bt K "str") (hg_MOST_LETTERS:PySem.W.nsIn K mainGlobals "MOST_LETTERS"=some (some (.int 8 u_MOST_LETTERS))) (hg_MOST_QUESTIONS:PySem.W.nsIn K mainGlobals "MOST_QUESTIONS"=some (some (.int 6 u_MOST_QUESTIONS))) (hg_HIGHEST_ANSWER:PySem.W.nsIn K mainGlobals "HIGHEST_ANSWER"=some (some (.int 9 u_HIGHEST_ANSWER))) (hg_MOST_FIGURES:PySem.W.nsIn K mainGlobals "MOST_FIGURES"=some (some (.int 13 u_MOST_FIGURES))) :
  ∃fd:FuncData,(∀(s:Shared) (v:Value),BindsTo s fd ⟨[v],[]⟩ [("_law_script",v)])/\∀base:Heap,K.In base->base.Ns mainGlobals mg->FnOk l.prog w K mg base Cr 5 fa fd ["_law_script"] (HR K):=by
 obtain⟨aff,odf,anf,slf,ocf,kVf,dcf,pmf,cdf,ctf,h1f,h2f,h3f,h4f⟩:=d33
 have V_MOST_LETTERS:=PySem.W.mg_of X G hg_MOST_LETTERS
 have V_MOST_QUESTIONS:=PySem.W.mg_of X G hg_MOST_QUESTIONS
 have V_HIGHEST_ANSWER:=PySem.W.mg_of X G hg_HIGHEST_ANSWER
 have V_MOST_FIGURES:=PySem.W.mg_of X G hg_MOST_FIGURES
 have e:=hfa.symm.trans (PySem.W.mg_of X G h1f)
 cases e
 have T:TxtB mg:={ b_len:=PySem.W.mg_none_of X G hb_len,b_list:=PySem.W.mg_none_of X G hb_list,b_range:=PySem.W.mg_none_of X G hb_range,b_isinstance:=PySem.W.mg_none_of X G hb_isinstance,b_bool:=PySem.W.mg_none_of X G hb_bool,b_int:=PySem.W.mg_none_of X G hb_int,b_tuple:=PySem.W.mg_none_of X G hb_tuple,b_all:=PySem.W.mg_none_of X G hb_all,b_any:=PySem.W.mg_none_of X G hb_any,b_sorted:=PySem.W.mg_none_of X G hb_sorted,b_set:=PySem.W.mg_none_of X G hb_set,b_sum:=PySem.W.mg_none_of X G hb_sum,b_dict:=PySem.W.mg_none_of X G hb_dict,b_zip:=PySem.W.mg_none_of X G hb_zip,b_min:=PySem.W.mg_none_of X G hb_min,b_max:=PySem.W.mg_none_of X G hb_max }
 have TS:TxtS mg:={ T with b_str:=PySem.W.mg_none_of X G hb_str }
 refine⟨PySem.W.fnOf "law" "law" (DC D8) (CO D8) (AN D8) .none kVf dcf pmf anf cdf ctf,λs v=>.of_eq rfl,λbase _ _=>?_⟩
 have TN:TxtN mg:={ T with b_str:=PySem.W.mg_none_of X G hb_str,g_HIGHEST_ANSWER:=⟨_,V_HIGHEST_ANSWER⟩,g_MOST_LETTERS:=⟨_,V_MOST_LETTERS⟩,g_MOST_QUESTIONS:=⟨_,V_MOST_QUESTIONS⟩,g_MOST_FIGURES:=⟨_,V_MOST_FIGURES⟩ }
 have Gpull:=VH (P:=l.prog) (w:=w) (base:=base) (d17.at X G) T
 have GpullP:=VQ Gpull
 have Gans:=VW (d20.at X G) T GpullP
 have Gdrawn:=Ve (d23.at X G) T GpullP Gans (VY (d21.at X G) T GpullP) (VZ (P':=l.prog) (w:=w) (base:=base) (d22.at X G) T)
 have Grow:=Vh (P':=l.prog) (w:=w) (base:=base) (d6.at X G) TS
 have Glrow:=Vi (P':=l.prog) (w:=w) (base:=base) (d28.at X G) TS
 have Gfig:=V0 (P':=l.prog) (w:=w) (base:=base) (d9.at X G) T
 have Gin:=Vx (P':=l.prog) (w:=w) (base:=base) (d0.at X G) TN
 have Grw:=V5 (d12.at X G) TN Gfig
 have Gnum:=V6 (d13.at X G) TN Gfig
 have Gtl:=V9 (d14.at X G) TN Grw Gnum (Vn (d4.at X G) T (Vl (d3.at X G) TN.toTxt) (Vm (d1.at X G) T))
 have Gwh:=Vo (P':=l.prog) (w:=w) (base:=base) (d24.at X G) T
 exact Wa (LB (st:=D8) h2f h3f h4f) TN (VE (d16.at X G) T) (WV (d32.at X G) TN GpullP (VR (VP (d19.at X G) T Gpull (VJ (d18.at X G) T Gpull))) Gans Gdrawn) (WI (d8.at X G) TN (Vf (d5.at X G) TS) (Vj (d7.at X G) TS Grow) Grow) (WJ (d30.at X G) TN (Vg (d27.at X G) TS) (Vk (d29.at X G) TS Glrow) Glrow) (WE (d15.at X G) TN (V3 (d11.at X G) TN (Vz (d2.at X G) TN Gin (Vy (d1.at X G) T))) (V1 (d10.at X G) TN Gin) Gtl Grw Gnum) (WO (d31.at X G) TN Gwh (Vw (d26.at X G) T (Vp (d25.at X G) T Gwh) Gwh))
theorem walk{l:PySem.W.OpenLaw}{q:Program}{loose:List Str}{XP:(Str->Option Value)->Heap->Prop}{YP:World->Heap->Prop}{d:DefRec}{K:Params->Fg}(hn:l.most=some 63)(hdf:d.params.defaults=[])
  (hY:∀(w:World) (h:Heap),YP w h->(K w.params).In h)
  (F:∀(w:World) (mg:Str->Option Value) (fa:Addr) (h:Heap),(K w.params).In h->h.Ns mainGlobals mg->mg d.name=some (.ref fa) ->
   ∃fd:FuncData,(∀(s:Shared) (u:Value),BindsTo s fd ⟨[u],[]⟩ [("_law_script",u)])/\∀base:Heap,(K w.params).In base->base.Ns mainGlobals mg->FnOk l.prog w (K w.params) mg base Cr 5 fa fd ["_law_script"] (HR (K w.params))) :
  PySem.W.WalkO q loose XP YP l.row.toRowW d [] (λf vs=>PySem.call f vs) :=
 L2.walk_of (n:=63) (k:=5) (x:="_law_script") (CX:=λ_=>Cr) (sp:=λw=>HR (K w.params)) hn (by decide) hdf ⟨rfl,by decide,by decide⟩ hY F (λ_ _ a ns hl _ hS=>⟨a,ns,rfl,hS,λ_=>rfl⟩) λ_ _ _ _ _ z=>z
end K
structure PySem.W.Fast:Prop where(tw1010925282613338662 tw10334819824683005142 tw10372469693415807671 tw10424363248767179664 tw10475055943746259822 tw10507872037702131243 tw10531857483728753466 tw10584535044084745473 tw10587419490809492875 tw10666031677225129274 tw1067368539347402045 tw10697924758361353990 tw108689838625931056 tw10963875420301562803 tw1103565101979657556 tw11059904126640490996 tw11123062095807221957 tw11180379397418991824 tw1118972377737873313 tw11224065013008571266 tw11239231500446177992 tw11325699403478079089 tw11503357927303126287 tw11546302620748746804 tw11713215671933878873 tw11842086601326443080 tw11883637846891844304 tw12012462084200793305 tw1201981852752680354 tw12037493806375206417 tw12050945348987616256 tw12207260806712771484 tw12342937099689875835 tw12566785088072155162 tw12593782621923155674 tw1275538264401300031 tw12851355146557409996 tw12932565365200685050 tw12998474521158623949 tw13193793327374822776 tw1328587573776354673 tw13399231895525278730 tw13558671948773739738 tw13596613009855775202 tw13607866171572495294 tw13741597966865070510 tw13905907460014337716 tw139633678160467454 tw13991082299422003988 tw14323985682640460519 tw1442872132555683179 tw14449681050633338689 tw14477059292616637732 tw14632224411196545954 tw14691873906276408988 tw14713304104890393841 tw14773601666154090039 tw14776234914624678041 tw14878560150247534745 tw15012102713797176496 tw15216868801777261106 tw15491199188277060329 tw15531808846891218573 tw15564685506395179688 tw15567962076395653894 tw1560232683607227448 tw15646000700906239033 tw15738694917690415616 tw15796759346478295984 tw15953961920931031871 tw16098964525731118820 tw16099714961222885996 tw16109376693362066209 tw16222031940992345551 tw16262514278780512635 tw16332908319007116007 tw1636218872528292242 tw16435808818790722278 tw16445540658676077071 tw16489662454356335269 tw16497669850936672705 tw16522949118838396674 tw16738988873955763483 tw16899293427620021820 tw16902174317724297241 tw16917754599571231515 tw16941045086757049427 tw16962105677498372432 tw17012094062910589523 tw1707076695944178646 tw17147091053486582993 tw1715496880453939572 tw17195059289214450970 tw17215941113311664405 tw1723474396206778148 tw17261600078534468793 tw17347090230194385697 tw17388654380807018752 tw17440173511523519173 tw17449535613709243569 tw17457371209400852527 tw17472118895525355544 tw17473030184136680583 tw17505772232154576793 tw17573443438570797751 tw17646074913930178459 tw17696803633109196088 tw17771352705032628328 tw17771872924026621928 tw17774137513866686501 tw1782773264689788430 tw17889851787184070668 tw17931977027551326771 tw17939086522089847303 tw17967195110771381913 tw17980102948640308798 tw18144375813489458914 tw18175945151417615000 tw18178843980197545451 tw18204413612409390071 tw18252077593484267554 tw18314718680728197004 tw18343421376489068708 tw18427218102164451888 tw18436521532378382181 tw1994385921446729288 tw2010160853031406146 tw2073394849177903942 tw2104978605835374703 tw2106951260802925298 tw2107354345129381541 tw2180352574252236760 tw2230581095494507903 tw2351485870645098638 tw2456855711980535740 tw2593128216406597218 tw279754718826131564 tw2822252722843127967 tw2861086419894803247 tw2960219040333488185 tw3027046214534168495 tw3181543676977840198 tw3195550257948582522 tw3277166586779065747 tw3315028786498539797 tw3499196629372177512 tw3507977400159754566 tw3527952515189303159 tw3539765733879242947 tw3543994164202607886 tw3643639712965611604 tw3824386836864701881 tw3870410333174125731 tw3954766245677152101 tw3983851201553148251 tw3998160645941363326 tw4048798087038869824 tw406945352975819745 tw4231654246888881984 tw4248426779297414904 tw432391166215286538 tw433917306743293432 tw4471384320470633582 tw458610393542919189 tw4663136627160346263 tw4696066268534758612 tw4854774948647367894 tw4873854819309204979 tw504764782371440247 tw5172786217769288677 tw5188022764912401648 tw527483176659447242 tw552823861026337033 tw5805164741434796991 tw5879724049790012681 tw5901379104608965726 tw5952004686384325534 tw5991605400010586488 tw606700400224826678 tw6361143193824480507 tw637815629558544383 tw6404239513514402309 tw6520536375859265576 tw663874155486052293 tw6643898495518735930 tw6781525548811646909 tw6839698539290130852 tw7085457957356974495 tw7100437589450961507 tw7118103247722266385 tw7181670981742637769 tw727412458909502008 tw7299782904006924484 tw733040351010316079 tw7419912240982785848 tw74325044795987673 tw7718934719007538362 tw773794399368231507 tw7783669230728902330 tw7980480740401274217 tw79983541182917863 tw8040606258183885930 tw8121865074691299316 tw8135627331516939631 tw8201935013879493056 tw8336331172153660607 tw8366691723187127276 tw8388857888427312880 tw8430082650084730849 tw8536902027988948315 tw8554951723221757572 tw8648221552654130998 tw8711287692068117753 tw8725596045340274701 tw883605266872665898 tw8901084466752208577 tw8932306938201709053 tw919214911939705592 tw9317906177279161682 tw9375970342560618156 tw9557323094176778877 tw9574170409274002462 tw9607065695977695007 tw9611639344897265497 tw9636691653602261255 tw963699256679219711 tw9879417199557059589 tw9994780994941470475:True)
open PySem PySem.W PyProof.Rows
set_option maxRecDepth 100000 in
set_option maxHeartbeats 0 in
theorem PySem.Challenge.cw_roomtally_k38_deeds_written_and_read_holds : PySem.Challenge.rw_roomtally_k38_deeds_written_and_read.Holds := by
  w_on; o_law; k_head; (case hw => w_witness2)
  k_fill
  refine K.walk (l := PySem.Challenge.rw_roomtally_k38_deeds_written_and_read) rfl rfl (λw h Y => PySem.W.kIn_of Y) ?F
  case F =>
    intro w mg fa h KX G hmg
    refine' K.all_mk KX G hmg ?_ ?_ ?_ ?_ ?_ ?_ ?_ ?_ ?_ ?_ ?_ ?_ ?_ ?_ ?_ ?_ ?_ ?_ ?_ ?_ ?_ ?_ ?_ ?_ ?_ ?_ ?_ ?_ ?_ ?_ ?_ ?_ ?_ ?_ ?_ ?_ ?_ ?_ ?_ ?_ ?_ ?_ ?_ ?_ ?_ ?_ ?_ ?_ ?_ ?_ ?_ ?hg_MOST_LETTERS ?hg_MOST_QUESTIONS ?hg_HIGHEST_ANSWER ?hg_MOST_FIGURES
    (case hg_MOST_LETTERS => k_is)
    (case hg_MOST_QUESTIONS => k_is)
    (case hg_HIGHEST_ANSWER => k_is)
    (case hg_MOST_FIGURES => k_is)
    all_goals first|exact K.AF.of (by k_is) (by k_is) (by k_is) (by k_is)|(show _=_;k_is)
