import PyProof.Rows.All
import Wide.All
import OpenK.AllK
import Wide.FinOn
import Lean
import PyProof.EqAt
import PyProof.EqKinds
import PyProof.TupleCall
import PyProof.NeKinds
import PyProof.Draws
import PyProof.ZipIter
import KE.KSortTup
import PyProof.DictWalks
import KE.KDictList
import KE.KDictSum
import PyProof.AttrMissSeq
import PyProof.MinMaxWalk
import PyProof.Rows.SortRuns
import PyProof.Rows.SortKey
import PyProof.ExcBaseAll.ValueError
import OpenK.KOwn
import PyProof.SetRoads
import PyProof.WalksMore
import PyProof.Rows.SetFrom
import PyProof.IsRules
import PyProof.Cells
import PyProof.ListRange
import PySem.Challenge.RW_roomtally_k21_whole_counts_judged
set_option Elab.async false
set_option linter.all false
set_option compiler.extract_closed false
set_option maxRecDepth 100000
set_option maxHeartbeats 4000000
abbrev wB:=@PySem.wpAny_bind
abbrev wP:=@PySem.wpAny_pure
local macro_rules
 | `(tactic| trivial)=>`(tactic| first | exact .inl rfl | exact .inr rfl | exact .inr (.inl rfl) | exact .inr (.inr rfl) | assumption)
namespace L2
open PySem PySem.Spec PyProof.Rows
theorem ACP {fd:FuncData} {ps:List Str} {us:List Value} (h:us.length=1) (k:∀ a,bindArgs fd ⟨[a],[]⟩=pure (ps.zip [a])):bindArgs fd ⟨us,[]⟩=pure (ps.zip us):=by
 cases us with
 | nil=>cases h
 | cons a l=>cases l with
  | nil=>exact k a
  | cons _ _=>cases h
theorem ABf {fd:FuncData} {ps:List Str} {us:List Value} (h:us.length=2) (k:∀ a b,bindArgs fd ⟨[a,b],[]⟩=pure (ps.zip [a,b])):bindArgs fd ⟨us,[]⟩=pure (ps.zip us):=by
 rcases us with _ | ⟨a,_ | ⟨b,_ | ⟨_,_⟩⟩⟩ <;> first | exact k _ _ | cases h
theorem ACE {fd:FuncData} {ps:List Str} {us:List Value} (h:us.length=3) (k:∀ a b c,bindArgs fd ⟨[a,b,c],[]⟩=pure (ps.zip [a,b,c])):bindArgs fd ⟨us,[]⟩=pure (ps.zip us):=by
 rcases us with _ | ⟨a,_ | ⟨b,_ | ⟨c,_ | ⟨_,_⟩⟩⟩⟩ <;> first | exact k _ _ _ | cases h
theorem of_len4 {fd:FuncData} {ps:List Str} {us:List Value} (h:us.length=4) (k:∀ a b c d,bindArgs fd ⟨[a,b,c,d],[]⟩=pure (ps.zip [a,b,c,d])):bindArgs fd ⟨us,[]⟩=pure (ps.zip us):=by
 rcases us with _ | ⟨a,_ | ⟨b,_ | ⟨c,_ | ⟨d,_ | ⟨_,_⟩⟩⟩⟩⟩ <;> first | exact k _ _ _ _ | cases h
noncomputable abbrev Key:=Sum Int Str
noncomputable def AEX:Key→Value→Bool
 | .inl k,v=>Value.isInt k v
 | .inr x,v=>Value.isStrOf x v
noncomputable def keyH (w:World):Key→Int
 | .inl k=>hashInt k
 | .inr x=>hashStr w x
theorem AA2:∀ {k:Key} {v:Value},AEX k v=true→(∃ i t,k=Sum.inl i∧v=Value.int i t)∨(∃ x t,k=Sum.inr x∧v=Value.str x t)
 | .inl i,v,h=>by
  obtain ⟨t,e⟩:=Value.isInt_shape (k:=i) (v:=v) h
  exact .inl ⟨i,t,rfl,e⟩
 | .inr x,v,h=>by
  obtain ⟨t,e⟩:=Value.isStrOf_shape (x:=x) (v:=v) h
  exact .inr ⟨x,t,rfl,e⟩
theorem ALE (i:Int) (t:Tok):AEX (.inl i) (.int i t)=true:=by simp [AEX,Value.isInt]
theorem ALF (x:Str) (t:Tok):AEX (.inr x) (.str x t)=true:=by simp [AEX,Value.isStrOf]
theorem AO2 (a b:Int):decide ((Sum.inl a:Key)=Sum.inl b)=(a == b):=by
 by_cases e:a=b
 ·subst e;simp
 ·have h:¬ (Sum.inl a:Key)=Sum.inl b:=fun q=>e (Sum.inl.inj q)
  rw [decide_eq_false h]
  exact (beq_eq_false_iff_ne.mpr e).symm
theorem AO3 (a b:Str):decide ((Sum.inr a:Key)=Sum.inr b)=decide (a=b):=by
 by_cases e:a=b
 ·subst e;simp
 ·have h:¬ (Sum.inr a:Key)=Sum.inr b:=fun q=>e (Sum.inr.inj q)
  rw [decide_eq_false h,decide_eq_false e]
theorem AO4 (a:Int) (b:Str):decide ((Sum.inl a:Key)=Sum.inr b)=false:=decide_eq_false (fun q=>nomatch q)
theorem AO5 (a:Str) (b:Int):decide ((Sum.inr a:Key)=Sum.inl b)=false:=decide_eq_false (fun q=>nomatch q)
noncomputable def AAo (prog:Program) (w:World):PySem.KeyKind prog w Key where
 is:=AEX
 hash:=keyH w
 inj:=fun v a b ha hb=>by
  rcases AA2 ha with ⟨i,t,rfl,rfl⟩ | ⟨x,t,rfl,rfl⟩
  ·rcases AA2 hb with ⟨j,u,rfl,e⟩ | ⟨y,u,rfl,e⟩
   ·injection e with e1 _;rw [e1]
   ·exact nomatch e
  ·rcases AA2 hb with ⟨j,u,rfl,e⟩ | ⟨y,u,rfl,e⟩
   ·exact nomatch e
   ·injection e with e1 _;rw [e1]
 byValue:=fun k v h=>by
  rcases AA2 h with ⟨i,t,rfl,rfl⟩ | ⟨x,t,rfl,rfl⟩ <;> rfl
 pyHash:=fun hv h=>by
  rcases AA2 hv with ⟨i,t,rfl,rfl⟩ | ⟨x,t,rfl,rfl⟩
  ·exact wpAny_pyHash_int h
  ·exact wpAny_pyHash_str h
 eqBool:=fun hu hv h=>by
  rcases AA2 hu with ⟨i,t,rfl,rfl⟩ | ⟨x,t,rfl,rfl⟩
  ·rcases AA2 hv with ⟨j,u,rfl,rfl⟩ | ⟨y,u,rfl,rfl⟩
   ·rw [AO2] at h;exact wpAny_eqBool_int h
   ·rw [AO4] at h;exact SeqAt.EqAt.int_str i t y u _ _ _ _ h
  ·rcases AA2 hv with ⟨j,u,rfl,rfl⟩ | ⟨y,u,rfl,rfl⟩
   ·rw [AO5] at h;exact SeqAt.EqAt.str_int x t j u _ _ _ _ h
   ·rw [AO3] at h;exact wpAny_eqBool_str h
 «strs»:=fun k x t v h=>by
  rcases AA2 h with ⟨i,u,rfl,e⟩ | ⟨y,u,rfl,e⟩
  ·exact nomatch e
  ·injection e with e1 _
   subst e1
   cases v <;> rfl
theorem AJP (prog:Program) (w:World) (i:Int) (t:Tok):(AAo prog w).is (.inl i) (.int i t)=true:=ALE i t
theorem AJQ (prog:Program) (w:World) (x:Str) (t:Tok):(AAo prog w).is (.inr x) (.str x t)=true:=ALF x t
inductive V where
 | non | bl (b:Bool) | int (i:Int) | str (x:Str) | byt (b:Array UInt8) | flt (b:UInt64) | ref (a:Addr) | ty (n:String)
 deriving DecidableEq
def RelV:V→Value→Prop
 | .non,u=>u=Value.none
 | .bl b,u=>u=Value.bool b
 | .int i,u=>∃ t,u=Value.int i t
 | .str x,u=>∃ t,u=Value.str x t
 | .byt b,u=>∃ t,u=Value.bytes b t
 | .flt b,u=>∃ t,u=Value.float b t
 | .ref a,u=>u=Value.ref a
 | .ty n,u=>u=Value.type n
noncomputable abbrev Vals:List V→List Value→Prop:=Paired RelV
theorem Vals.length {xs:List V} {us:List Value} (r:Vals xs us):xs.length=us.length:=Paired.length r
theorem Vals.get:∀ {xs:List V} {us:List Value} {i:Nat} {x:V},Vals xs us→xs[i]?=some x→∃ u,us[i]?=some u∧RelV x u
 | _,_,_,_,.nil,e=>by simp at e
 | _,_,0,_,.cons r _,e=>by simp at e;subst e;exact ⟨_,rfl,r⟩
 | _,_,i + 1,x,.cons _ t,e=>by
  obtain ⟨u,h1,h2⟩:=Vals.get (i:=i) (x:=x) t (by simpa using e)
  exact ⟨u,by simpa using h1,h2⟩
theorem Vals.set {x:V} {u:Value} (r:RelV x u):∀ {xs:List V} {us:List Value} (i:Nat),Vals xs us→Vals (xs.set i x) (us.set i u)
 | _,_,_,.nil=>.nil
 | _,_,0,.cons _ t=>.cons r t
 | _,_,i + 1,.cons q t=>.cons q (Vals.set r i t)
theorem Vals.append:∀ {xs ys:List V} {us ws:List Value},Vals xs us→Vals ys ws→Vals (xs ++ ys) (us ++ ws)
 | _,_,_,_,.nil,s=>s
 | _,_,_,_,.cons r t,s=>.cons r (Vals.append t s)
theorem Vals.take:∀ {xs:List V} {us:List Value} (n:Nat),Vals xs us→Vals (xs.take n) (us.take n)
 | _,_,0,_=>.nil
 | _,_,_ + 1,.nil=>.nil
 | _,_,n + 1,.cons r t=>.cons r (Vals.take n t)
theorem Vals.drop:∀ {xs:List V} {us:List Value} (n:Nat),Vals xs us→Vals (xs.drop n) (us.drop n)
 | _,_,0,r=>r
 | _,_,_ + 1,.nil=>.nil
 | _,_,n + 1,.cons _ t=>Vals.drop n t
def RelO:Option V→Option Value→Prop
 | some v,some u=>RelV v u
 | none,none=>True
 | _,_=>False
noncomputable def KV {κ:Type}:List (κ×V)→List (κ×Value)→Prop:=Paired fun (p:κ×V) (q:κ×Value)=>p.1=q.1∧RelV p.2 q.2
noncomputable def kV:Key→V
 | .inl i=>.int i
 | .inr x=>.str x
inductive HO where
 | lst (xs:List V)
 | tup (xs:List V)
 | dK (kvs:List (Key×V)) | dT (kvs:List (List Key×V))
 | set (S:Int→Bool) (n:Nat)
 | ins (C dx:Addr) (fs:List (Str×V))
 | own (x:Addr)
 | xd (fs:List (Str×V))
 | met (f x:Addr)
 | rng (lo hi:Int)
 | frz (o:Obj) (u:HO)
 | tbl (ps:Array Value)
 | ext (φ:Heap→Prop)
noncomputable abbrev Hp:=Addr→Option HO
noncomputable def upd (H:Hp) (a:Addr) (o:HO):Hp:=fun b=>if b=a then some o else H b
theorem AAG {H:Hp} {a:Addr} {o:HO}:upd H a o a=some o:=by unfold upd;rw [if_pos rfl]
theorem AAE {H:Hp} {a b:Addr} {o:HO} (h:b≠a):upd H a o b=H b:=by unfold upd;rw [if_neg h]
theorem AGP {H:Hp} {a:Addr} {o u:HO}:upd (upd H a o) a u=upd H a u:=by
 funext b;unfold upd;split <;> rfl
theorem AEY {H:Hp} {a b:Addr} {o u:HO} (h:H a=some o) (h':H b=some u) (d:o≠u):a≠b:=by
 intro e;subst e;rw [h] at h';exact d (Option.some.inj h')
theorem AAJ {H:Hp} {a b:Addr} {o:HO} (h:H a=some o) (h':H b=none):a≠b:=by
 intro e;subst e;rw [h] at h';cases h'
def TupO (h:Heap) (a:Addr) (items:Array Value):Prop:=∃ o,h.get? a=some o∧o.cls=.type "tuple"∧(∃ n,o.data=.seq items n)∧o.dict=none
theorem TupO.tup {h:Heap} {a:Addr} {items:Array Value} (x:TupO h a items):IsTup h a items:=let ⟨o,e,c,d,_⟩:=x;⟨o,e,c,d⟩
theorem TupO.new (h:Heap) (items:Array Value):TupO (h.push { cls:=.type "tuple",data:=.seq items }) h.objs.size items:=⟨_,Heap.get?_push_size _ rfl,rfl,⟨_,rfl⟩,rfl⟩
section
variable (P:Program) (w:World)
def AAe (H:Hp) (h:Heap) (a:Addr):HO→Prop
 | .lst xs=>xs.length≤sizeLine∧∃ (its:List Value) (n:Nat),Vals xs its∧h.get? a=some { cls:=.type "list",data:=.seq its.toArray n }
 | .tup xs=>xs.length≤sizeLine∧∃ its:List Value,Vals xs its∧TupO h a its.toArray
 | .dK kvs=>kvs.length≤sizeLine∧(a == sysModules)=false∧∃ vs,KV kvs vs∧h.DictOf (AAo P w) a vs
 | .dT kvs=>kvs.length≤sizeLine∧(a == sysModules)=false∧∃ xs:List (List Key×Addr×Value),
   Paired (fun (p:List Key×V) (q:List Key×Addr×Value)=>p.1=q.1∧H q.2.1=some (.tup (p.1.map kV))∧RelV p.2 q.2.2) kvs xs ∧
   ∃ o es ep,h.get? a=some o∧o.ExactDict∧o.data=.dict es ep∧es.toList=xs.map (entryOfKey (tupleKind (AAo P w)))∧(xs.map (·.1)).Nodup
 | .set S n=>h.SetOf (intKind P w) a S n
 | .ins C dx fs=>H dx=some (.own a)∧fs.length≤1000∧dx≠a∧h.get? a=some (PySem.W.instObj C dx) ∧
   ∃ mA,h.Ns1 dx mA∧(∀ f,RelO (fs.lookup f) (mA f))∧PySem.Within mA (fs.map (·.1))
 | .own _=>∃ o,h.get? a=some o
 | .xd fs=>∃ mA,h.Ns1 a mA∧∀ f,RelO (fs.lookup f) (mA f)
 | .rng lo hi=>∃ t u v,h.get? a=some { cls:=.type "range",data:=.fields #[.int lo t,.int hi u,.int 1 v] }
 | .frz o u=>h.get? a=some o∧AAe H h a u
 | .tbl ps=>h.get? a=some { cls:=.none,data:=.fields ps }
 | .met f x=>h.get? a=some (PySem.W.methodObj (.ref f) (.ref x))
 | .ext φ=>φ h∧(∃ o,h.get? a=some o)∧∀ h1 h2:Heap,φ h1→(∀ o,h1.get? a=some o→h2.get? a=some o)→φ h2
def HOk (H:Hp) (h:Heap):Prop:=∀ a o,H a=some o→AAe P w H h a o
end
section
variable {P:Program} {w:World} {H H':Hp} {h h':Heap} {a:Addr} {o:HO}
theorem AAe.lt (x:AAe P w H h a o):a<h.objs.size:=by
 cases o with
 | lst xs=>obtain ⟨_,_,_,_,e⟩:=x;exact Heap.lt_size e
 | tup xs=>obtain ⟨_,_,_,p⟩:=x;exact p.tup.lt
 | dK kvs=>obtain ⟨_,_,_,_,o,_,_,e,_⟩:=x;exact Heap.lt_size e
 | dT kvs=>obtain ⟨_,_,_,_,o,_,_,e,_⟩:=x;exact Heap.lt_size e
 | set S n=>obtain ⟨o,_,_,_,e,_⟩:=x;exact Heap.lt_size e
 | ins C dx fs=>obtain ⟨_,_,_,e,_⟩:=x;exact Heap.lt_size e
 | own y=>obtain ⟨_,e⟩:=x;exact Heap.lt_size e
 | xd fs=>obtain ⟨_,⟨_,_,_,e,_⟩,_⟩:=x;exact Heap.lt_size e
 | rng lo hi=>obtain ⟨_,_,_,e⟩:=x;exact Heap.lt_size e
 | frz ob u=>obtain ⟨e,_⟩:=x;exact Heap.lt_size e
 | tbl ps=>exact Heap.lt_size (show h.get? a=some _ from x)
 | met f y=>exact Heap.lt_size (show h.get? a=some _ from x)
 | ext φ=>obtain ⟨_,⟨_,e⟩,_⟩:=x;exact Heap.lt_size e
theorem Paired.mapP {α β:Type} {F G:α→β→Prop}:∀ {l₁:List α} {l₂:List β},Paired F l₁ l₂→(∀ a b,F a b→G a b)→Paired G l₁ l₂
 | _,_,.nil,_=>.nil
 | _,_,.cons r t,f=>.cons (f _ _ r) (Paired.mapP t f)
theorem AAe.stay (x:AAe P w H h a o) (k:∀ b u,(b=a∨H b=some (.own a))→h.get? b=some u→h'.get? b=some u)
  (ho:∀ b,H b=some (.own a)→H' b=some (.own a)) (ht:∀ b xs,H b=some (.tup xs)→H' b=some (.tup xs)):AAe P w H' h' a o:=by
 induction o with
 | lst xs=>obtain ⟨z,its,n,r,e⟩:=x;exact ⟨z,its,n,r,k _ _ (.inl rfl) e⟩
 | tup xs=>obtain ⟨z,its,r,ob,e,c⟩:=x;exact ⟨z,its,r,ob,k _ _ (.inl rfl) e,c⟩
 | dK kvs=>obtain ⟨z,y,vs,r,ob,es,ep,e,c⟩:=x;exact ⟨z,y,vs,r,ob,es,ep,k _ _ (.inl rfl) e,c⟩
 | dT kvs =>
  obtain ⟨z,y,xs,r,ob,es,ep,e,c⟩:=x
  exact ⟨z,y,xs,Paired.mapP r fun p q z=>⟨z.1,ht _ _ z.2.1,z.2.2⟩,ob,es,ep,k _ _ (.inl rfl) e,c⟩
 | set S n=>obtain ⟨ob,es,ep,t,e,c⟩:=x;exact ⟨ob,es,ep,t,k _ _ (.inl rfl) e,c⟩
 | ins C dx fs =>
  obtain ⟨d,z,ne,e,mA,⟨od,es,ep,e2,c⟩,r⟩:=x
  exact ⟨ho _ d,z,ne,k _ _ (.inl rfl) e,mA,⟨od,es,ep,k _ _ (.inr d) e2,c⟩,r⟩
 | own y=>obtain ⟨ob,e⟩:=x;exact ⟨ob,k _ _ (.inl rfl) e⟩
 | xd fs=>obtain ⟨mA,⟨od,es,ep,e,c⟩,r⟩:=x;exact ⟨mA,⟨od,es,ep,k _ _ (.inl rfl) e,c⟩,r⟩
 | rng lo hi=>obtain ⟨t,u,v,e⟩:=x;exact ⟨t,u,v,k _ _ (.inl rfl) e⟩
 | frz ob u ih=>obtain ⟨e,q⟩:=x;exact ⟨k _ _ (.inl rfl) e,ih q⟩
 | tbl ps =>
  have e:h.get? a=some { cls:=.none,data:=.fields ps }:=x
  show h'.get? a=some { cls:=.none,data:=.fields ps }
  exact k a _ (.inl rfl) e
 | met f y =>
  have e:h.get? a=some (PySem.W.methodObj (.ref f) (.ref y)):=x
  show h'.get? a=some (PySem.W.methodObj (.ref f) (.ref y))
  exact k a _ (.inl rfl) e
 | ext φ=>obtain ⟨p,⟨o,e⟩,st⟩:=x;exact ⟨st _ _ p fun o q=>k _ _ (.inl rfl) q,⟨o,k _ _ (.inl rfl) e⟩,st⟩
theorem HOk.lt (x:HOk P w H h) (e:H a=some o):a<h.objs.size:=(x a o e).lt
theorem HOk.fresh (x:HOk P w H h) (e:h.objs.size≤a):H a=none:=by
 cases q:H a with
 | none=>rfl
 | some u=>exact absurd (Nat.lt_of_lt_of_le (x.lt q) e) (Nat.lt_irrefl _)
theorem HOk.kept (x:HOk P w H h) (k:∀ b u,h.get? b=some u→h'.get? b=some u):HOk P w H h':=fun a o e =>
 (x a o e).stay (fun b u _ q=>k b u q) (fun _ q=>q) fun _ _ q=>q
theorem HOk.laid (x:HOk P w H h) (k:∀ b u,h.get? b=some u→h'.get? b=some u) (hp:h.objs.size≤a) (new:AAe P w (upd H a o) h' a o):HOk P w (upd H a o) h':=fun b u e=>by
 have hn:=x.fresh hp
 by_cases hb:b=a
 ·subst hb;rw [AAG] at e;cases e;exact new
 ·rw [AAE hb] at e
  exact (x b u e).stay (fun c v _ q=>k c v q) (fun c q=>by rw [AAE (AAJ q hn)];exact q) fun c xs q=>by rw [AAE (AAJ q hn)];exact q
end
def Rd (H:Hp) (a:Addr) (u:HO):Prop:=H a=some u∨∃ o,H a=some (.frz o u)
theorem Rd.of {H:Hp} {a:Addr} {u:HO} (h:H a=some u):Rd H a u:=.inl h
theorem Rd.ok {P:Program} {w:World} {H:Hp} {h:Heap} {a:Addr} {u:HO} (r:Rd H a u) (x:HOk P w H h):AAe P w H h a u:=by
 rcases r with r | ⟨o,r⟩
 ·exact x a u r
 ·obtain ⟨_,q⟩:=x a _ r
  exact q
def Mut:Option HO→Prop
 | some (.lst _)=>True
 | some (.dK _)=>True
 | some (.dT _)=>True
 | some (.set _ _)=>True
 | some (.ins _ _ _)=>True
 | some (.ext _)=>True
 | _=>False
section
variable {P:Program} {w:World} {H:Hp} {h h':Heap} {x e:Addr} {o':HO}
theorem HOk.write (ok:HOk P w H h) (mu:Mut (H x)) (he:e=x∨H e=some (.own x)) (k:∀ b u,b≠e→h.get? b=some u→h'.get? b=some u) (heo:∃ u,h'.get? e=some u)
  (new:AAe P w (upd H x o') h' x o'):HOk P w (upd H x o') h':=fun b u q=>by
 have nown:∀ c y,H c=some (.own y)→c≠x:=fun c y r z=>by subst z;rw [r] at mu;exact mu
 have ntup:∀ c xs,H c=some (.tup xs)→c≠x:=fun c xs r z=>by subst z;rw [r] at mu;exact mu
 by_cases hb:b=x
 ·subst hb;rw [AAG] at q;cases q;exact new
 ·rw [AAE hb] at q
  by_cases hbe:b=e
  ·have q':H b=some (.own x):=by
    rcases he with z | z
    ·exact absurd (hbe.trans z) hb
    ·rw [hbe];exact z
   rw [q] at q';cases q'
   obtain ⟨v,hv⟩:=heo
   exact ⟨v,by rw [hbe];exact hv⟩
  ·refine (ok b u q).stay (fun c v hc r=>k c v ?_ r) (fun c r=>by rw [AAE (nown c b r)];exact r) fun c xs r=>by rw [AAE (ntup c xs r)];exact r
   rcases hc with rfl | hc
   ·exact hbe
   ·rintro rfl
    rcases he with z | z
    ·exact nown c b hc z
    ·rw [hc] at z;cases z;exact hb rfl
end
structure Un (fs ex:List Addr) (H H':Hp) (h h':Heap):Prop where
 keep:∀ b o,h.get? b=some o→H b=none→b ∉ fs→b ∉ ex→h'.get? b=some o
 slot:∀ b o,h.get? b=some o→H b=none→b∈fs→b ∉ ex→∃ sl,h'.get? b=some { o with slots:=sl }
 free:∀ b o,h.get? b=some o→H b=none→b ∉ ex→H' b=none
 there:∀ b o,h.get? b=some o→b ∉ ex→∃ o',h'.get? b=some o'
 tups:∀ b xs,H b=some (.tup xs)→H' b=some (.tup xs)
 frzs:∀ b o u,H b=some (.frz o u)→H' b=some (.frz o u)
 tbls:∀ b ps,H b=some (.tbl ps)→∃ more,H' b=some (.tbl (ps ++ more))
section
variable {fs fs' ex ex':List Addr} {H H1 H2:Hp} {h h1 h2 h':Heap} {a x e:Addr} {o:HO}
theorem Un.any (u:Un fs ex H H1 h h1) {b:Addr} {ob:Obj} (q:h.get? b=some ob) (n:H b=none) (hx:b ∉ ex):∃ sl,h1.get? b=some { ob with slots:=sl }:=by
 by_cases hb:b∈fs
 ·exact u.slot b ob q n hb hx
 ·exact ⟨ob.slots,u.keep b ob q n hb hx⟩
theorem Un.trans (a:Un fs ex H H1 h h1) (b:Un fs ex H1 H2 h1 h2):Un fs ex H H2 h h2 where
 keep:=fun c ob q n hc hx=>b.keep c ob (a.keep c ob q n hc hx) (a.free c ob q n hx) hc hx
 slot:=fun c ob q n hc hx=>by
  obtain ⟨sl,e1⟩:=a.slot c ob q n hc hx
  obtain ⟨sl',e2⟩:=b.slot c _ e1 (a.free c ob q n hx) hc hx
  exact ⟨sl',e2⟩
 free:=fun c ob q n hx=>by
  obtain ⟨o',e1⟩:=a.there c ob q hx
  exact b.free c o' e1 (a.free c ob q n hx) hx
 there:=fun c ob q hx=>by
  obtain ⟨o',e1⟩:=a.there c ob q hx
  exact b.there c o' e1 hx
 tups:=fun c xs q=>b.tups c xs (a.tups c xs q)
 frzs:=fun c ob xs q=>b.frzs c ob xs (a.frzs c ob xs q)
 tbls:=fun c ps q=>by
  obtain ⟨m1,e1⟩:=a.tbls c ps q
  obtain ⟨m2,e2⟩:=b.tbls c _ e1
  exact ⟨m1 ++ m2,by rw [e2,Array.append_assoc]⟩
theorem Un.kept (k:∀ b u,h.get? b=some u→h'.get? b=some u):Un fs ex H H h h' :=
 ⟨fun b ob q _ _ _=>k b ob q,fun b ob q _ _ _=>⟨ob.slots,k b ob q⟩,fun _ _ _ n _=>n,fun b ob q _=>⟨ob,k b ob q⟩,fun _ _ q=>q,fun _ _ _ q=>q,fun _ ps q=>⟨#[],by rw [q];simp⟩⟩
theorem Un.refl:Un fs ex H H h h:=Un.kept fun _ _ q=>q
theorem Un.laid (k:∀ b u,h.get? b=some u→h'.get? b=some u) (hp:h.objs.size≤a) (hn:H a=none):Un fs ex H (upd H a o) h h' where
 keep:=fun b u q _ _ _=>k b u q
 slot:=fun b u q _ _ _=>⟨u.slots,k b u q⟩
 free:=fun b u q n _=>by rw [AAE (Nat.ne_of_lt (Nat.lt_of_lt_of_le (Heap.lt_size q) hp))];exact n
 there:=fun b u q _=>⟨u,k b u q⟩
 tups:=fun b xs q=>by rw [AAE (AAJ q hn)];exact q
 frzs:=fun b u xs q=>by rw [AAE (AAJ q hn)];exact q
 tbls:=fun b ps q=>⟨#[],by rw [AAE (AAJ q hn),q];simp⟩
theorem Un.write (mu:Mut (H x)) (he:e=x∨H e=some (.own x)) (k:∀ b u,b≠e→h.get? b=some u→h'.get? b=some u) (heo:∃ u,h'.get? e=some u):Un fs ex H (upd H x o) h h':=by
 have hx:∀ b,H b=none→b≠x:=fun b n z=>by subst z;rw [n] at mu;exact mu
 have hb:∀ b,H b=none→b≠e:=fun b n z=>by
  subst z
  rcases he with r | r
  ·exact hx b n r
  ·rw [n] at r;cases r
 have hm:∀ b u,H b=some u→¬ Mut (some u)→b≠x:=fun b u q nm z=>by subst z;rw [q] at mu;exact nm mu
 refine ⟨fun b u q n _ _=>k b u (hb b n) q,fun b u q n _ _=>⟨u.slots,k b u (hb b n) q⟩,fun b u q n _=>by rw [AAE (hx b n)];exact n,fun b u q _=>?_,
  fun b xs q=>by rw [AAE (hm b _ q fun z=>z)];exact q,fun b u xs q=>by rw [AAE (hm b _ q fun z=>z)];exact q,fun b ps q=>⟨#[],by rw [AAE (hm b _ q fun z=>z),q];simp⟩⟩
 by_cases hbe:b=e
 ·subst hbe;exact heo
 ·exact ⟨u,k b u hbe q⟩
end
noncomputable def trk (h:Heap) (H:Hp):List Addr:=(List.range h.objs.size).filter fun a=>(H a).isSome
noncomputable def hidT (h:Heap) (H:Hp):Heap:=PySem.W.hideAll h (trk h H)
theorem ALG (h:Heap) (H:Hp):(hidT h H).objs.size=h.objs.size:=PySem.W.hideAll_size _ _
theorem AMm {h:Heap} {H:Hp} {b:Addr} {o:Obj} (e:h.get? b=some o) (n:H b=none):(hidT h H).get? b=some o :=
 PySem.W.hideAll_get _ e fun hm=>by
  have q:(H b).isSome=true:=(List.mem_filter.mp hm).2
  rw [n] at q;simp at q
theorem AN5 {h:Heap} {H:Hp} {b:Addr} {o:Obj} (e:(hidT h H).get? b=some o):h.get? b=some o∧H b=none:=by
 have e':h.get? b=some o:=PySem.W.of_hideAll (trk h H) e
 refine ⟨e',?_⟩
 cases q:H b with
 | none=>rfl
 | some x =>
  have hm:b∈trk h H:=List.mem_filter.mpr ⟨List.mem_range.mpr (Heap.lt_size e'),by simp [q]⟩
  have z:(hidT h H).get? b=none:=PySem.W.hideAll_none (trk h H) hm
  rw [z] at e;cases e
noncomputable def AEZ (g h:Heap) (L:Addr):List (Addr×Obj):=(List.range h.objs.size).filterMap fun a=>if a=L∨(g.get? a).isSome=true then none else (h.get? a).map fun o=>(a,o)
theorem ADL {g h:Heap} {L a:Addr} {o:Obj} (h1:a≠L) (h2:g.get? a=none) (h3:h.get? a=some o):(a,o)∈AEZ g h L :=
 List.mem_filterMap.mpr ⟨a,List.mem_range.mpr (Heap.lt_size h3),by simp [h1,h2,h3]⟩
theorem AGQ {g h:Heap} {L:Addr} {p:Addr×Obj} (hp:p∈AEZ g h L):p.1≠L∧g.get? p.1=none∧h.get? p.1=some p.2:=by
 obtain ⟨b,_,e⟩:=List.mem_filterMap.mp hp
 split at e
 ·cases e
 ·rename_i hn
  cases q:h.get? b with
  | none=>rw [q] at e;simp at e
  | some u =>
   rw [q] at e
   simp only [Option.map_some,Option.some.injEq] at e
   subst e
   refine ⟨fun z=>hn (.inl z),?_,q⟩
   show g.get? b=none
   cases r:g.get? b with
   | none=>rfl
   | some v=>exact (hn (.inr (by simp [r]))).elim
noncomputable def rest (g h:Heap) (L d:Addr):List (Addr×Obj):=(AEZ g h L).filter fun p=>decide (p.1≠d)
theorem AMn {g h:Heap} {L:Addr}:News g L h (AEZ g h L):=fun p hp=>let ⟨a,b,c⟩:=AGQ hp;⟨c,a,b⟩
structure Mod (K:PySem.W.Frag) (mg:Str→Option Value) (base:Heap):Prop where
 kin:K.In base
 glob:base.Ns mainGlobals mg
 blt:∃ mb,base.Ns builtinsNs mb∧∀ x:Str,x≠"__name__"→mb x=bootBuiltins x
 nolimit:base.NoLimit
structure Cx where
 prog:Program
 w:World
 K:PySem.W.Frag
 mg:Str→Option Value
 base:Heap
 A:Around
 N:List Str
 s₀:Shared
 H₀:Hp
 env:Env
 outer:List Env
 stack:List Env
 ex:List Addr
 fn:Str→Bool
 calm:Bool
 pn:List (Addr×Obj)
 xe:Value→Shared→Prop
noncomputable def frs (l:List Env):List Addr:=l.filterMap (·.frame)
noncomputable abbrev Cx.fs (X:Cx):List Addr:=frs X.outer
def Vis (sc:Scope) (x:Str):Prop:=sc.names.lookup x=some .local∨sc.names.lookup x=some .cell∨sc.names.lookup x=some .free
def Loc (sc:Scope) (x:Str):Prop:=sc.names.lookup x=some .local∨sc.names.lookup x=some .cell
def Look (env:Env) (h:Heap) (m:Str→Option Value) (x:Str) (u:Value):Prop :=
 (env.kindOf x=some .local∧m x=some u)∨((env.kindOf x=some .cell∨env.kindOf x=some .free)∧∃ c,env.cells.lookup x=some c∧h.IsCell c (some u))
structure Cx.Ok (X:Cx):Prop where
 mod:Mod X.K X.mg X.base
 kind:X.env.scope.kind=.function
 glob:X.env.globals=mainGlobals
 blt:X.env.builtins=builtinsNs
 above:X.s₀.heap.objs.size≤X.env.locals
 inj:∀ x y c,X.env.cells.lookup x=some c→X.env.cells.lookup y=some c→x=y
 has:∀ x,(X.env.kindOf x=some .cell∨X.env.kindOf x=some .free)→∃ c,X.env.cells.lookup x=some c
 cab:∀ x c,X.fn x=true→X.env.cells.lookup x=some c→X.s₀.heap.objs.size≤c
 hd:X.calm=true→X.A.handled=none
 frames:X.A.frames=some X.stack
 stk:X.stack=X.outer∨(X.stack=X.env :: X.outer∧X.env.frame=some X.env.locals)
 exf:∀ b∈X.ex,b≠X.env.locals∧∀ x c,X.env.cells.lookup x=some c→c≠b
 bs:∀ b o,X.base.get? b=some o→X.s₀.heap.get? b=some o∧X.H₀ b=none
 bsz:X.base.objs.size≤X.s₀.heap.objs.size
 noex:∀ b o,X.base.get? b=some o→b ∉ X.ex
 exfs:∀ b∈X.ex,b ∉ X.fs
 funs:X.s₀.heap.FunFrames X.base X.outer
 frf:∀ b∈X.fs,X.H₀ b=none
structure Inv (X:Cx) (pins:List (Addr×Obj)) (σ:List (Option V)) (H:Hp) (s:Shared):Prop where
 ok:X.Ok
 os:s.os=X.s₀.os
 bare:AllBare s.gens
 base:Un X.fs X.ex X.H₀ H X.s₀.heap s.heap
 loc:∃ m,s.heap.Ns X.env.locals m∧∀ (i:Nat) (x:Str) (v:V),X.N[i]?=some x→σ[i]?=some (some v)→Vis X.env.scope x→∃ u,RelV v u∧Look X.env s.heap m x u
 cell:∀ x c,X.env.cells.lookup x=some c→∃ v,s.heap.IsCell c v
 free:H X.env.locals=none
 freeC:∀ x c,X.env.cells.lookup x=some c→H c=none
 pin:∀ p∈X.pn ++ pins,s.heap.get? p.1=some p.2∧H p.1=none∧p.1≠X.env.locals∧p.1 ∉ X.fs∧∀ v,p.2.data≠.cell v
 hok:HOk X.prog X.w H s.heap
 len:σ.length=X.N.length
section
variable {X:Cx} {pins:List (Addr×Obj)} {σ:List (Option V)} {H H':Hp} {s:Shared} {h':Heap}
theorem Cx.Ok.nofr (ok:X.Ok) {b:Addr} {o:Obj} (e:X.base.get? b=some o):b ∉ X.fs:=fun hb=>by
 have:=(ok.funs.mem hb).1
 rw [e] at this;cases this
theorem Inv.bs (I:Inv X pins σ H s):∀ b o,X.base.get? b=some o→s.heap.get? b=some o∧H b=none:=fun b o e =>
 ⟨I.base.keep b o (I.ok.bs b o e).1 (I.ok.bs b o e).2 (I.ok.nofr e) (I.ok.noex b o e),I.base.free b o (I.ok.bs b o e).1 (I.ok.bs b o e).2 (I.ok.noex b o e)⟩
theorem Inv.bk (I:Inv X pins σ H s):∀ b o,X.base.get? b=some o→s.heap.get? b=some o:=fun b o e=>(I.bs b o e).1
theorem Inv.mod (I:Inv X pins σ H s):Mod X.K X.mg X.base:=I.ok.mod
theorem Inv.kIn (I:Inv X pins σ H s):X.K.In s.heap:=I.ok.mod.kin.keeps I.bk
theorem Inv.nolimit (I:Inv X pins σ H s):s.heap.NoLimit:=I.ok.mod.nolimit.keeps I.bk
theorem Inv.lt (I:Inv X pins σ H s):X.env.locals<s.heap.objs.size:=let ⟨_,hn,_⟩:=I.loc;hn.lt
theorem Inv.sz (I:Inv X pins σ H s):X.s₀.heap.objs.size≤s.heap.objs.size:=Nat.le_trans I.ok.above (Nat.le_of_lt I.lt)
theorem Inv.nofs (I:Inv X pins σ H s) {a:Addr} (h:s.heap.objs.size≤a):a ∉ X.fs:=fun hb=>by
 obtain ⟨_,o,ho,_⟩:=I.ok.funs.mem hb
 exact absurd (Nat.lt_of_lt_of_le (Heap.lt_size ho) (Nat.le_trans I.sz h)) (Nat.lt_irrefl _)
theorem Inv.cne (I:Inv X pins σ H s):∀ x c,X.env.cells.lookup x=some c→c≠X.env.locals:=fun x c e z=>by
 obtain ⟨v,o,ho,hd⟩:=I.cell x c e
 obtain ⟨m,⟨o',es,ep,ho',hd',_⟩,_⟩:=I.loc
 rw [z,ho'] at ho;cases ho;rw [hd'] at hd;cases hd
theorem Inv.funs (I:Inv X pins σ H s):s.heap.FunFrames X.base X.outer:=by
 have all:∀ (l:List Env),(∀ b∈frs l,b∈X.fs)→X.s₀.heap.FunFrames X.base l→s.heap.FunFrames X.base l:=by
  intro l
  induction l with
  | nil=>intro _ _;trivial
  | cons env r ih =>
   intro hs hl
   obtain ⟨hk,⟨L,o,hf,hn,ho,hd⟩,hr⟩:=hl
   have hL:L∈X.fs:=hs L (by unfold frs;rw [List.filterMap_cons,hf];exact List.mem_cons_self)
   obtain ⟨sl,e⟩:=I.base.slot L o ho (I.ok.frf L hL) hL fun z=>I.ok.exfs L z hL
   exact ⟨hk,⟨L,_,hf,hn,e,hd⟩,ih (fun b hb=>hs b (by unfold frs;rw [List.filterMap_cons,hf];exact List.mem_cons_of_mem _ hb)) hr⟩
 exact all X.outer (fun _ hb=>hb) I.ok.funs
theorem Inv.stack (I:Inv X pins σ H s):s.heap.FunFrames X.base X.stack:=by
 rcases I.ok.stk with e | ⟨e,hf⟩
 ·rw [e];exact I.funs
 ·rw [e]
  obtain ⟨m,hn,_⟩:=I.loc
  refine .cons (by rw [I.ok.kind];decide) hf hn ?_ I.funs
  exact Heap.get?_none_of_le (Nat.le_trans I.ok.bsz I.ok.above)
theorem Inv.stkSub (I:Inv X pins σ H s):∀ b∈frs X.stack,b∈X.env.locals :: X.fs:=fun b hb=>by
 rcases I.ok.stk with e | ⟨e,hf⟩
 ·rw [e] at hb;exact List.mem_cons_of_mem _ hb
 ·rw [e] at hb
  unfold frs at hb
  rw [List.filterMap_cons,hf] at hb
  exact hb
theorem Inv.stkFree (I:Inv X pins σ H s):∀ b∈frs X.stack,H b=none:=fun b hb=>by
 rcases List.mem_cons.mp (I.stkSub b hb) with e | hb
 ·rw [e];exact I.free
 ·obtain ⟨_,o,ho,_⟩:=I.ok.funs.mem hb
  exact I.base.free b o ho (I.ok.frf b hb) fun z=>I.ok.exfs b z hb
theorem Inv.step {g':Array GenState} {t':Nat} {d':Drawn} {ch:List Addr} (I:Inv X pins σ H s)
  (hch:∀ b∈ch,(b∈X.ex∨X.s₀.heap.objs.size≤b)∧b≠X.env.locals∧(∀ x c,X.env.cells.lookup x=some c→c≠b)∧∀ p∈X.pn ++ pins,p.1≠b)
  (keep:∀ b o,b≠X.env.locals→b ∉ X.fs→b ∉ ch→s.heap.get? b=some o→H b=none→h'.get? b=some o)
  (slot:∀ b o,b≠X.env.locals→b∈X.fs→b ∉ ch→s.heap.get? b=some o→H b=none→∃ sl,h'.get? b=some { o with slots:=sl }) (free:∀ b o,b ∉ ch→s.heap.get? b=some o→H b=none→H' b=none)
  (there:∀ b o,b ∉ ch→s.heap.get? b=some o→∃ o',h'.get? b=some o')
  (tups:∀ b xs,H b=some (.tup xs)→H' b=some (.tup xs)) (frzs:∀ b o u,H b=some (.frz o u)→H' b=some (.frz o u)) (tbls:∀ b ps,H b=some (.tbl ps)→∃ more,H' b=some (.tbl (ps ++ more)))
  (ns:∀ m,s.heap.Ns X.env.locals m→h'.Ns X.env.locals m) (hok:HOk X.prog X.w H' h') (hg:AllBare g') :
  Inv X pins σ H' { s with heap:=h',gens:=g',drawn:=d',toks:=t' }:=by
 have neL:∀ b o,X.s₀.heap.get? b=some o→b≠X.env.locals:=fun b o e=>Nat.ne_of_lt (Nat.lt_of_lt_of_le (Heap.lt_size e) I.ok.above)
 have neC:∀ b o,X.s₀.heap.get? b=some o→b ∉ X.ex→b ∉ ch:=fun b o e hx hb=>by
  rcases (hch b hb).1 with z | z
  ·exact hx z
  ·exact absurd (Nat.lt_of_lt_of_le (Heap.lt_size e) z) (Nat.lt_irrefl _)
 have cellK:∀ x c,X.env.cells.lookup x=some c→∀ v,s.heap.IsCell c v→h'.IsCell c v:=fun x c e v ⟨o,ho,hd⟩=>by
  have nch:c ∉ ch:=fun z=>(hch c z).2.2.1 x c e rfl
  by_cases hc:c∈X.fs
  ·obtain ⟨sl,q⟩:=slot c o (I.cne x c e) hc nch ho (I.freeC x c e)
   exact ⟨_,q,hd⟩
  ·exact ⟨o,keep c o (I.cne x c e) hc nch ho (I.freeC x c e),hd⟩
 refine ⟨I.ok,I.os,hg,⟨fun b o e n hb hx=>?_,fun b o e n hb hx=>?_,fun b o e n hx=>?_,fun b o e hx=>?_,fun b xs e=>tups b xs (I.base.tups b xs e),fun b o xs e=>frzs b o xs (I.base.frzs b o xs e),fun b ps e=>?_⟩,?_,fun x c e=>?_,?_,fun x c e=>?_,fun p hp=>?_,hok,I.len⟩
 ·exact keep b o (neL b o e) hb (neC b o e hx) (I.base.keep b o e n hb hx) (I.base.free b o e n hx)
 ·obtain ⟨sl,e1⟩:=I.base.slot b o e n hb hx
  obtain ⟨sl',e2⟩:=slot b _ (neL b o e) hb (neC b o e hx) e1 (I.base.free b o e n hx)
  exact ⟨sl',e2⟩
 ·obtain ⟨o',e1⟩:=I.base.there b o e hx
  exact free b o' (neC b o e hx) e1 (I.base.free b o e n hx)
 ·obtain ⟨o',e1⟩:=I.base.there b o e hx
  exact there b o' (neC b o e hx) e1
 ·obtain ⟨m1,e1⟩:=I.base.tbls b ps e
  obtain ⟨m2,e2⟩:=tbls b _ e1
  exact ⟨m1 ++ m2,by rw [e2,Array.append_assoc]⟩
 ·obtain ⟨m,hn,hl⟩:=I.loc
  refine ⟨m,ns m hn,fun i x v e1 e2 e3=>?_⟩
  obtain ⟨u,r,l⟩:=hl i x v e1 e2 e3
  refine ⟨u,r,?_⟩
  rcases l with l | ⟨k,c,e,z⟩
  ·exact .inl l
  ·exact .inr ⟨k,c,e,cellK x c e _ z⟩
 ·obtain ⟨v,z⟩:=I.cell x c e
  exact ⟨v,cellK x c e v z⟩
 ·obtain ⟨m,⟨o,_,_,ho,_⟩,_⟩:=I.loc
  exact free _ o (fun z=>(hch _ z).2.1 rfl) ho I.free
 ·obtain ⟨v,o,ho,hd⟩:=I.cell x c e
  exact free c o (fun z=>(hch c z).2.2.1 x c e rfl) ho (I.freeC x c e)
 ·obtain ⟨e,n,ne,nf,d⟩:=I.pin p hp
  have nch:p.1 ∉ ch:=fun z=>(hch p.1 z).2.2.2 p hp rfl
  exact ⟨keep p.1 p.2 ne nf nch e n,free p.1 p.2 nch e n,ne,nf,d⟩
theorem Inv.un {t':Nat} (I:Inv X pins σ H s) (u:Un X.fs [] H H' s.heap h') (hok:HOk X.prog X.w H' h'):Inv X pins σ H' { s with heap:=h',toks:=t' }:=by
 obtain ⟨m,⟨o,es,ep,ho,r⟩,_⟩:=id I.loc
 obtain ⟨sl,hL⟩:=u.any ho I.free (by simp)
 exact I.step (g':=s.gens) (d':=s.drawn) (ch:=[]) (fun _ z=>nomatch z) (fun b o _ hb _ e n=>u.keep b o e n hb (by simp)) (fun b o _ hb _ e n=>u.slot b o e n hb (by simp)) (fun b o _ e n=>u.free b o e n (by simp)) (fun b o _ e=>u.there b o e (by simp)) u.tups u.frzs u.tbls (fun m' hm=>by
  obtain ⟨o',es',ep',ho',r'⟩:=hm
  rw [ho] at ho';cases ho'
  exact ⟨_,es',ep',hL,r'⟩) hok I.bare
theorem Inv.call {g':Array GenState} {t':Nat} {d':Drawn} {ch:List Addr} (I:Inv X pins σ H s) (u:Un (frs X.stack) ch H H' s.heap h') (hok:HOk X.prog X.w H' h') (hg:AllBare g')
  (hch:∀ b∈ch,(b∈X.ex∨X.s₀.heap.objs.size≤b)∧b≠X.env.locals∧(∀ x c,X.env.cells.lookup x=some c→c≠b)∧∀ p∈X.pn ++ pins,p.1≠b) :
  Inv X pins σ H' { s with heap:=h',gens:=g',drawn:=d',toks:=t' }:=by
 obtain ⟨m,⟨o,es,ep,ho,r⟩,_⟩:=id I.loc
 obtain ⟨sl,hL⟩:=u.any ho I.free fun z=>(hch _ z).2.1 rfl
 exact I.step (ch:=ch) hch (fun b o hL hb hc e n=>u.keep b o e n (fun z=>(List.mem_cons.mp (I.stkSub b z)).elim hL hb) hc) (fun b o _ _ hc e n=>u.any e n hc) (fun b o hc e n=>u.free b o e n hc) (fun b o hc e=>u.there b o e hc) u.tups u.frzs u.tbls (fun m' hm=>by
  obtain ⟨o',es',ep',ho',r'⟩:=hm
  rw [ho] at ho';cases ho'
  exact ⟨_,es',ep',hL,r'⟩) hok hg
theorem Inv.turned {t':Nat} {it:Addr} (I:Inv X pins σ H s) (k:∀ b o,b≠it→s.heap.get? b=some o→h'.get? b=some o) (hn:H it=none) (hL:it≠X.env.locals)
  (h1:it∈X.ex∨X.s₀.heap.objs.size≤it) (h2:∀ x c,X.env.cells.lookup x=some c→c≠it) (h3:∀ p∈X.pn ++ pins,p.1≠it):Inv X pins σ H { s with heap:=h',toks:=t' }:=by
 have nit:∀ b u,H b=some u→b≠it:=fun b u e z=>by rw [z,hn] at e;cases e
 refine I.step (g':=s.gens) (d':=s.drawn) (ch:=[it]) (fun b hb=>?_) (fun b o _ _ hc e _=>k b o (fun z=>hc (by simp [z])) e) (fun b o _ _ hc e _=>⟨o.slots,k b o (fun z=>hc (by simp [z])) e⟩) (fun _ _ _ _ n=>n)
  (fun b o hc e=>⟨o,k b o (fun z=>hc (by simp [z])) e⟩) (fun _ _ e=>e) (fun _ _ _ e=>e) (fun b ps e=>⟨#[],by rw [e];simp⟩) (fun m hm=>?_) (fun b u e=>?_) I.bare
 ·have e:b=it:=by simpa using hb
  subst e
  exact ⟨h1,hL,h2,h3⟩
 ·obtain ⟨o,es,ep,ho,r⟩:=hm
  exact ⟨o,es,ep,k _ o (Ne.symm hL) ho,r⟩
 ·refine (I.hok b u e).stay (fun c v hc q=>k c v ?_ q) (fun _ q=>q) fun _ _ q=>q
  rcases hc with z | z
  ·rw [z];exact nit b u e
  ·exact nit c _ z
theorem Inv.tok (I:Inv X pins σ H s) (t:Nat):Inv X pins σ H { s with toks:=t }:=I.un (h':=s.heap) (t':=t) Un.refl I.hok
theorem Inv.kept {t':Nat} (I:Inv X pins σ H s) (k:∀ b u,s.heap.get? b=some u→h'.get? b=some u):Inv X pins σ H { s with heap:=h',toks:=t' }:=I.un (Un.kept k) (I.hok.kept k)
theorem Inv.laid {a:Addr} {o:HO} {t':Nat} (I:Inv X pins σ H s) (k:∀ b u,s.heap.get? b=some u→h'.get? b=some u) (hp:s.heap.objs.size≤a) (new:AAe X.prog X.w (upd H a o) h' a o) :
  Inv X pins σ (upd H a o) { s with heap:=h',toks:=t' }:=I.un (Un.laid k hp (I.hok.fresh hp)) (I.hok.laid k hp new)
theorem Inv.write {x e:Addr} {o:HO} {t':Nat} (I:Inv X pins σ H s) (mu:Mut (H x)) (he:e=x∨H e=some (.own x)) (k:∀ b u,b≠e→s.heap.get? b=some u→h'.get? b=some u) (heo:∃ u,h'.get? e=some u)
  (new:AAe X.prog X.w (upd H x o) h' x o):Inv X pins σ (upd H x o) { s with heap:=h',toks:=t' }:=I.un (Un.write mu he k heo) (I.hok.write mu he k heo new)
theorem Inv.weak {σ':List (Option V)} (I:Inv X pins σ H s) (hl:σ'.length=σ.length) (w:∀ (i:Nat) v,σ'[i]?=some (some v)→σ[i]?=some (some v)):Inv X pins σ' H s :=
 ⟨I.ok,I.os,I.bare,I.base,let ⟨m,hn,hl'⟩:=I.loc;⟨m,hn,fun i x v e1 e2 e3=>hl' i x v e1 (w i v e2) e3⟩,I.cell,I.free,I.freeC,I.pin,I.hok,hl.trans I.len⟩
theorem Inv.pins_of {pins':List (Addr×Obj)} (I:Inv X pins σ H s) (h:∀ p∈pins',s.heap.get? p.1=some p.2∧H p.1=none∧p.1≠X.env.locals∧p.1 ∉ X.fs∧∀ v,p.2.data≠.cell v):Inv X pins' σ H s :=
 ⟨I.ok,I.os,I.bare,I.base,I.loc,I.cell,I.free,I.freeC,fun p hp=>(List.mem_append.mp hp).elim (fun z=>I.pin p (List.mem_append_left _ z)) (h p),I.hok,I.len⟩
theorem AH6 {N:List Str} (hN:N.Nodup) {i j:Nat} {x:Str} (a:N[i]?=some x) (b:N[j]?=some x):i=j:=by
 obtain ⟨h1,e1⟩:=List.getElem?_eq_some_iff.mp a
 obtain ⟨h2,e2⟩:=List.getElem?_eq_some_iff.mp b
 exact (List.getElem_inj hN).mp (e1.trans e2.symm)
theorem AG0 {M:Model} {A:Around} {E:Value→Shared→Prop} {i:Nat} {x:Str} {v:V} {u:Value} {Q:Unit→Shared→Prop} (I:Inv X pins σ H s) (hN:X.N.Nodup) (hi:X.N[i]?=some x) (hx:Loc X.env.scope x) (r:RelV v u)
  (h:∀ s',Inv X pins (σ.set i (some v)) H s'→(∃ a,Heap.SameBut a s.heap s'.heap∧(a=X.env.locals∨X.env.cells.lookup x=some a))→Q () s') (hf:X.fn x=true∨X.env.scope.names.lookup x=some .local:=by trivial):wpAny M A (storeName X.env x u) Q E s:=by
 obtain ⟨m,hn,hl⟩:=id I.loc
 have hcls:(X.env.scope.kind == .class || (X.env.scope.kind == .module && X.env.locals != X.env.globals))=false:=by rw [I.ok.kind];rfl
 have hiσ:i<σ.length:=by rw [I.len];exact (List.getElem?_eq_some_iff.mp hi).1
 have cne:=I.cne
 have tracked:∀ {a:Addr} {h':Heap},(∃ o,s.heap.get? a=some o∧H a=none)→Heap.SameBut a s.heap h'→HOk X.prog X.w H h':=fun {a h'} ha hs b ob e=>by
  obtain ⟨_,_,hfree⟩:=ha
  refine (I.hok b ob e).stay (fun c w' hc q=>(hs.2 c ?_).trans q) (fun _ q=>q) fun _ _ q=>q
  rintro rfl
  rcases hc with rfl | hc
  ·rw [hfree] at e;cases e
  ·rw [hfree] at hc;cases hc
 rcases hx with hk | hk
 ·refine wpAny_storeName_local hk hn (fun h' hn' hs=>?_) hcls
  obtain ⟨oL,_,_,hoL,_⟩:=id hn
  refine h _ ⟨I.ok,I.os,I.bare,⟨fun b o e n hb hx=>?_,fun b o e n hb hx=>?_,I.base.free,fun b o e hx=>?_,I.base.tups,I.base.frzs,I.base.tbls⟩,⟨_,hn',fun j y v' e1 e2 e3=>?_⟩,fun y c e=>?_,I.free,I.freeC,fun p hp=>?_,tracked ⟨oL,hoL,I.free⟩ hs,by simpa using I.len⟩ ⟨_,hs,.inl rfl⟩
  ·exact (hs.2 b (Nat.ne_of_lt (Nat.lt_of_lt_of_le (Heap.lt_size e) I.ok.above))).trans (I.base.keep b o e n hb hx)
  ·obtain ⟨sl,e1⟩:=I.base.slot b o e n hb hx
   exact ⟨sl,(hs.2 b (Nat.ne_of_lt (Nat.lt_of_lt_of_le (Heap.lt_size e) I.ok.above))).trans e1⟩
  ·obtain ⟨o',e1⟩:=I.base.there b o e hx
   exact ⟨o',(hs.2 b (Nat.ne_of_lt (Nat.lt_of_lt_of_le (Heap.lt_size e) I.ok.above))).trans e1⟩
  ·by_cases hj:j=i
   ·subst hj
    rw [hi] at e1;cases e1
    rw [List.getElem?_set_self hiσ] at e2
    cases e2
    exact ⟨u,r,.inl ⟨hk,by simp⟩⟩
   ·rw [List.getElem?_set_ne (Ne.symm hj)] at e2
    obtain ⟨u',r',q⟩:=hl j y v' e1 e2 e3
    refine ⟨u',r',?_⟩
    rcases q with ⟨k,e⟩ | ⟨k,c,e,z⟩
    ·refine .inl ⟨k,?_⟩
     have:y≠x:=fun e=>hj (AH6 hN e1 (e ▸ hi))
     simp [this,e]
    ·exact .inr ⟨k,c,e,z.sameBut hs (cne y c e)⟩
  ·obtain ⟨w',z⟩:=I.cell y c e
   exact ⟨w',z.sameBut hs (cne y c e)⟩
  ·obtain ⟨e,n,ne,nf,d⟩:=I.pin p hp
   exact ⟨(hs.2 p.1 ne).trans e,n,ne,nf,d⟩
 ·have hfn:X.fn x=true:=by
   rcases hf with z | z
   ·exact z
   ·rw [z] at hk;cases hk
  obtain ⟨c,hc⟩:=I.ok.has x (.inl hk)
  obtain ⟨w',z⟩:=I.cell x c hc
  refine wpAny_storeName_cell I.ok.kind hk hc z (fun h' hc' hs=>?_)
  obtain ⟨oc,hoc,hocd⟩:=id z
  refine h { s with heap:=h' } ⟨I.ok,I.os,I.bare,⟨fun b o e n hb hx=>?_,fun b o e n hb hx=>?_,I.base.free,fun b o e hx=>?_,I.base.tups,I.base.frzs,I.base.tbls⟩,⟨m,hn.sameBut hs (Ne.symm (cne x c hc)),fun j y v' e1 e2 e3=>?_⟩,fun y c' e=>?_,I.free,I.freeC,fun p hp=>?_,tracked ⟨oc,hoc,I.freeC x c hc⟩ hs,by simpa using I.len⟩ ⟨c,hs,.inr hc⟩
  ·exact (hs.2 b (Nat.ne_of_lt (Nat.lt_of_lt_of_le (Heap.lt_size e) (I.ok.cab x c hfn hc)))).trans (I.base.keep b o e n hb hx)
  ·obtain ⟨sl,e1⟩:=I.base.slot b o e n hb hx
   exact ⟨sl,(hs.2 b (Nat.ne_of_lt (Nat.lt_of_lt_of_le (Heap.lt_size e) (I.ok.cab x c hfn hc)))).trans e1⟩
  ·obtain ⟨o',e1⟩:=I.base.there b o e hx
   exact ⟨o',(hs.2 b (Nat.ne_of_lt (Nat.lt_of_lt_of_le (Heap.lt_size e) (I.ok.cab x c hfn hc)))).trans e1⟩
  ·by_cases hj:j=i
   ·subst hj
    rw [hi] at e1;cases e1
    rw [List.getElem?_set_self hiσ] at e2
    cases e2
    exact ⟨u,r,.inr ⟨.inl hk,c,hc,hc'⟩⟩
   ·rw [List.getElem?_set_ne (Ne.symm hj)] at e2
    obtain ⟨u',r',q⟩:=hl j y v' e1 e2 e3
    refine ⟨u',r',?_⟩
    rcases q with q | ⟨k,c',e,z'⟩
    ·exact .inl q
    ·refine .inr ⟨k,c',e,z'.sameBut hs ?_⟩
     rintro rfl
     exact hj (AH6 hN e1 (I.ok.inj _ _ _ e hc ▸ hi))
  ·by_cases hcc:c'=c
   ·subst hcc;exact ⟨_,hc'⟩
   ·obtain ⟨w2,z2⟩:=I.cell y c' e
    exact ⟨w2,z2.sameBut hs hcc⟩
  ·obtain ⟨e,n,ne,nf,d⟩:=I.pin p hp
   refine ⟨(hs.2 p.1 ?_).trans e,n,ne,nf,d⟩
   intro q
   rw [q,hoc] at e
   have q':oc=p.2:=Option.some.inj e
   exact d w' (by rw [←q'];exact hocd)
theorem AH7 {M:Model} {A:Around} {E:Value→Shared→Prop} {i:Nat} {x:Str} {v:V} {u:Value} {Q:Unit→Shared→Prop} (I:Inv X pins σ H s) (hN:X.N.Nodup) (hi:X.N[i]?=some x) (hx:Loc X.env.scope x) (r:RelV v u)
  (h:∀ s',Inv X pins (σ.set i (some v)) H s'→Q () s') (hf:X.fn x=true∨X.env.scope.names.lookup x=some .local:=by trivial):wpAny M A (storeName X.env x u) Q E s :=
 AG0 I hN hi hx r (fun s' I' _=>h s' I') hf
theorem Inv.call' {s':Shared} {ch:List Addr} (I:Inv X pins σ H s) (ho:s'.os=s.os) (u:Un (frs X.stack) ch H H' s.heap s'.heap) (hok:HOk X.prog X.w H' s'.heap) (hg:AllBare s'.gens)
  (hch:∀ b∈ch,(b∈X.ex∨X.s₀.heap.objs.size≤b)∧b≠X.env.locals∧(∀ x c,X.env.cells.lookup x=some c→c≠b)∧∀ p∈X.pn ++ pins,p.1≠b):Inv X pins σ H' s':=by
 obtain ⟨h',g',d',t',o'⟩:=s'
 have e:o'=s.os:=ho
 subst e
 exact I.call (g':=g') (t':=t') (d':=d') u hok hg hch
end
noncomputable abbrev XK:=Value→Option Addr→Hp→Prop
noncomputable abbrev St:=List (Option V)
noncomputable abbrev VK:=V→Hp→Prop
noncomputable abbrev TE:=St→Hp→VK→Prop
noncomputable abbrev TT:=St→Hp→(Bool→Hp→Prop)→Prop
noncomputable abbrev TA:=St→Hp→(List V→Hp→Prop)→Prop
structure Ends where
 nx:St→Hp→Prop
 rt:VK
 bk:St→Hp→Prop:=fun _ _=>False
 ct:St→Hp→Prop:=fun _ _=>False
noncomputable abbrev TS:=Ends→St→Hp→Prop
def EP (X:Cx) (pins:List (Addr×Obj)) (σ:St) (Q:VK) (u:Value) (s':Shared):Prop:=∃ v H',Inv X pins σ H' s'∧RelV v u∧Q v H'
def TP (X:Cx) (pins:List (Addr×Obj)) (σ:St) (Q:Bool→Hp→Prop) (b:Bool) (s':Shared):Prop:=∃ H',Inv X pins σ H' s'∧Q b H'
def AP (X:Cx) (pins:List (Addr×Obj)) (σ:St) (Q:List V→Hp→Prop) (us:List Value) (s':Shared):Prop:=∃ vs H',Inv X pins σ H' s'∧Vals vs us∧Q vs H'
def SP (X:Cx) (pins:List (Addr×Obj)) (D:Ends) (f:Flow) (s':Shared):Prop :=
 match f with
 | .next=>∃ σ' H',Inv X pins σ' H' s'∧D.nx σ' H'
 | .brk=>∃ σ' H',Inv X pins σ' H' s'∧D.bk σ' H'
 | .cont=>∃ σ' H',Inv X pins σ' H' s'∧D.ct σ' H'
 | .ret u=>∃ v σ' H',Inv X pins σ' H' s'∧RelV v u∧D.rt v H'
def PE (X:Cx) (e:Expr) (t:TE):Prop :=
 ∀ (pins:List (Addr×Obj)) (s:Shared) (σ:St) (H:Hp) (Q:VK),Inv X pins σ H s→t σ H Q→wpAny (model X.prog X.w) X.A (eval e X.env) (EP X pins σ Q) X.xe s
def PT (X:Cx) (e:Expr) (t:TT):Prop :=
 ∀ (pins:List (Addr×Obj)) (s:Shared) (σ:St) (H:Hp) (Q:Bool→Hp→Prop),Inv X pins σ H s→t σ H Q→wpAny (model X.prog X.w) X.A (isTrue e X.env (eval e X.env)) (TP X pins σ Q) X.xe s
def PW (X:Cx) (e:Expr) (t:TT):Prop :=
 ∀ (whole:Sem Value) (pins:List (Addr×Obj)) (s:Shared) (σ:St) (H:Hp) (Q:Bool→Hp→Prop),Inv X pins σ H s→t σ H Q→wpAny (model X.prog X.w) X.A (isTrue e X.env whole) (TP X pins σ Q) X.xe s
theorem PW.pt {X:Cx} {e:Expr} {t:TT} (h:PW X e t):PT X e t:=h _
def PA (X:Cx) (es:List Expr) (t:TA):Prop :=
 ∀ (pos:Pos) (pins:List (Addr×Obj)) (s:Shared) (σ:St) (H:Hp) (Q:List V→Hp→Prop),Inv X pins σ H s→t σ H Q→wpAny (model X.prog X.w) X.A (spliced (backTo pos (starEach es X.env))) (AP X pins σ Q) X.xe s
def PS (X:Cx) (st:Stmt) (t:TS):Prop :=
 ∀ (pins:List (Addr×Obj)) (s:Shared) (σ:St) (H:Hp) (D:Ends),Inv X pins σ H s→t D σ H→wpAny (model X.prog X.w) X.A (exec st X.env) (SP X pins D) X.xe s
def PSs (X:Cx) (st:List Stmt) (t:TS):Prop :=
 ∀ (pins:List (Addr×Obj)) (s:Shared) (σ:St) (H:Hp) (D:Ends),Inv X pins σ H s→t D σ H→wpAny (model X.prog X.w) X.A (execs st X.env) (SP X pins D) X.xe s
theorem thn {α:Type} {t:Sem α} {Q Q':α→Shared→Prop} {M:Model} {A:Around} {E:Value→Shared→Prop} {s:Shared} (h:wpAny M A t Q E s) (hQ:∀ a s,Q a s→Q' a s):wpAny M A t Q' E s:=wpAny_mono h hQ fun _ _ x=>x
section
variable {X:Cx}
def tVar (i:Nat):TE:=fun σ H Q=>∃ v,σ[i]?=some (some v)∧Q v H
def tC (v:V):TE:=fun _ H Q=>Q v H
theorem AB2 {i:Nat} {x:Str} {pos:Pos} (hN:X.N[i]?=some x) (hv:Vis X.env.scope x) (hd:(x == ("__debug__":Str))=false:=by decide) (hcd:(x == ("__classdict__":Str))=false:=by decide):PE X (.Name x pos) (tVar i):=by
 intro pins s σ H Q I h
 obtain ⟨v,e,h⟩:=h
 obtain ⟨m,hn,hl⟩:=I.loc
 obtain ⟨u,r,l⟩:=hl i x v hN e hv
 have fin:EP X pins σ Q u s:=⟨v,H,I,r,h⟩
 rcases l with ⟨hk,hm⟩ | ⟨hk,c,hc,hcell⟩
 ·exact wpAny_Name (wpAny_loadName_local I.ok.kind hk hn hm fin) hd
 ·rcases hk with hk | hk
  ·exact wpAny_Name (wpAny_loadName_cell I.ok.kind hk hc hcell fin) hd
  ·exact wpAny_Name (wpAny_loadName_free I.ok.kind hk hc hcell fin hcd) hd
theorem AAK {i j pos}:PE X (.Constant (.int i) j pos) (tC (.int i)):=fun _ _ _ H _ I h=>wpAny_Constant_int ⟨.int i,H,I.tok _,⟨_,rfl⟩,h⟩
theorem AH8 {x j pos}:PE X (.Constant (.str x) j pos) (tC (.str x)):=fun _ _ _ H _ I h=>Calls.Constant_str ⟨.str x,H,I.tok _,⟨_,rfl⟩,h⟩
def Gl (X:Cx) (x:Str):Prop:=X.env.kindOf x=some .globalImplicit
theorem AN6 {E:Value→Shared→Prop} {pins:List (Addr×Obj)} {s:Shared} {σ:St} {H:Hp} {x:Str} {u:Value} {pos:Pos} {Q:Value→Shared→Prop} (I:Inv X pins σ H s) (hg:Gl X x) (hm:X.mg x=some u) (h:Q u s)
  (hd:(x == ("__debug__":Str))=false:=by decide):wpAny (model X.prog X.w) X.A (eval (.Name x pos) X.env) Q E s :=
 Calls.Name_function_global I.ok.kind hg (Calls.loadGlobal_global (by rw [I.ok.glob];exact I.mod.glob.keeps I.bk) hm h) hd
theorem ADy {E:Value→Shared→Prop} {pins:List (Addr×Obj)} {s:Shared} {σ:St} {H:Hp} {x:Str} {u:Value} {pos:Pos} {Q:Value→Shared→Prop} (I:Inv X pins σ H s) (hg:Gl X x) (hm:X.mg x=none) (hv:bootBuiltins x=some u) (h:Q u s)
  (hn:x≠"__name__":=by decide) (hd:(x == ("__debug__":Str))=false:=by decide):wpAny (model X.prog X.w) X.A (eval (.Name x pos) X.env) Q E s:=by
 obtain ⟨mb,h1,h2⟩:=I.mod.blt
 exact Calls.Name_function_global I.ok.kind hg (Calls.loadGlobal_builtin (by rw [I.ok.glob];exact I.mod.glob.keeps I.bk) hm (by rw [I.ok.blt];exact h1.keeps I.bk) ((h2 x hn).trans hv) h) hd
theorem AN7 {x:Str} {v:V} {u:Value} {pos:Pos} (hg:Gl X x) (hm:X.mg x=none) (hv:bootBuiltins x=some u) (r:RelV v u) (hn:x≠"__name__":=by decide) (hd:(x == ("__debug__":Str))=false:=by decide):PE X (.Name x pos) (tC v) :=
 fun _ _ _ H _ I h=>ADy I hg hm hv ⟨v,H,I,r,h⟩ hn hd
variable {a b:Expr} {ta tb:TE} {pos:Pos}
def tB (t:TE):TT:=fun σ H Q=>t σ H fun x H1=>∃ c,x=.bl c∧Q c H1
theorem AO6 {e:Expr} {t:TE} (h:PE X e t) (he:∀ whole,isTrue e X.env whole=(do let v ←whole;standAt e.pos;holding [v] (truthy v)):=by intro _;rfl):PT X e (tB t):=by
 intro pins s σ H Q I hw
 refine isTrue_plain (thn (h pins s σ H _ I hw) fun v s1 ⟨x,H1,I1,r1,q1⟩=>?_) (he _)
 obtain ⟨d,rfl,q⟩:=q1
 cases r1
 exact wpAny_truthy_bool ⟨H1,I1,q⟩
variable {tA tB':TT} {rest:List Expr}
def tAnd (t u:TT):TT:=fun σ H Q=>t σ H fun c H1=>if c=true then u σ H1 Q else Q false H1
def tOr (t u:TT):TT:=fun σ H Q=>t σ H fun c H1=>if c=true then Q true H1 else u σ H1 Q
def tNot (t:TT):TT:=fun σ H Q=>t σ H fun c H1=>Q (!c) H1
theorem AN8 (ha:PT X a tA):PW X (.BoolOp .And [a] pos) tA:=by
 intro wh pins s σ H Q I h
 refine isTrue_and (thn (ha pins s σ H Q I h) fun c s1 e=>?_)
 cases c with
 | true=>exact isTrue_and_nil e
 | false=>exact e
theorem AO7 (ha:PT X a tA):PW X (.BoolOp .Or [a] pos) tA:=by
 intro wh pins s σ H Q I h
 refine isTrue_or (thn (ha pins s σ H Q I h) fun c s1 e=>?_)
 cases c with
 | false=>exact isTrue_or_nil e
 | true=>exact e
theorem AO8 (ha:PT X a tA) (hb:PW X (.BoolOp .And (b :: rest) pos) tB'):PW X (.BoolOp .And (a :: b :: rest) pos) (tAnd tA tB'):=by
 intro wh pins s σ H Q I h
 refine isTrue_and (thn (ha pins s σ H _ I h) fun c s1 ⟨H1,I1,q1⟩=>?_)
 cases c with
 | true=>exact hb wh pins s1 σ H1 Q I1 q1
 | false=>exact ⟨H1,I1,q1⟩
theorem AQC (ha:PT X a tA) (hb:PW X (.BoolOp .Or (b :: rest) pos) tB'):PW X (.BoolOp .Or (a :: b :: rest) pos) (tOr tA tB'):=by
 intro wh pins s σ H Q I h
 refine isTrue_or (thn (ha pins s σ H _ I h) fun c s1 ⟨H1,I1,q1⟩=>?_)
 cases c with
 | true=>exact ⟨H1,I1,q1⟩
 | false=>exact hb wh pins s1 σ H1 Q I1 q1
theorem AO9 (ha:PT X a tA):PT X (.UnaryOp .Not a pos) (tNot tA):=by
 intro pins s σ H Q I h
 exact isTrue_not (ha pins s σ H (fun c H1=>Q (!c) H1) I h)
def AQD (ta tb:TE):TE:=fun σ H Q=>ta σ H fun x H1=>∃ c,x=.bl c∧if c=true then tb σ H1 Q else Q (.bl false) H1
theorem APA {op} {t:TE} (h:PE X a t):PE X (.BoolOp op [a] pos) t:=fun pins s σ H Q I hw=>BoolOp_one (h pins s σ H Q I hw)
theorem APB (ha:PE X a ta) (hb:PE X (.BoolOp .And (b :: rest) pos) tb):PE X (.BoolOp .And (a :: b :: rest) pos) (AQD ta tb):=by
 intro pins s σ H Q I h
 refine BoolOp_and (thn (ha pins s σ H _ I h) fun v s1 ⟨x,H1,I1,r1,q1⟩=>?_)
 obtain ⟨c,rfl,q1⟩:=q1
 cases r1
 refine wpAny_truthy_bool ?_
 cases c with
 | true=>exact hb pins s1 σ H1 Q I1 q1
 | false=>exact ⟨.bl false,H1,I1,rfl,q1⟩
end
def SqL (K:PySem.W.Frag) (H:Hp) (a:Addr) (xs:List V):Prop :=
 Rd H a (.lst xs) ∨
  ∃ (o:Obj) (its:Array Value) (n:Nat),K.lookup a=some o∧o.cls=.type "list"∧o.dict=none∧o.data=.seq its n∧its.size≤sizeLine∧Vals xs its.toList
def SqT (K:PySem.W.Frag) (H:Hp) (a:Addr) (xs:List V):Prop :=
 Rd H a (.tup xs) ∨
  ∃ (o:Obj) (its:Array Value) (n:Nat),K.lookup a=some o∧o.cls=.type "tuple"∧o.data=.seq its n∧its.size≤sizeLine∧Vals xs its.toList
noncomputable def absV:Value→Option V
 | .none=>some .non
 | .bool b=>some (.bl b)
 | .int i _=>some (.int i)
 | .str x _=>some (.str x)
 | .bytes b _=>some (.byt b)
 | .float b _=>some (.flt b)
 | .ref a=>some (.ref a)
 | .type n=>some (.ty n)
 | _=>none
theorem RelV.abs {x:V} {u:Value} (r:RelV x u):absV u=some x:=by
 cases x with
 | non=>cases r;rfl
 | bl _=>cases r;rfl
 | int _=>obtain ⟨t,rfl⟩:=r;rfl
 | str _=>obtain ⟨t,rfl⟩:=r;rfl
 | byt _=>obtain ⟨t,rfl⟩:=r;rfl
 | flt _=>obtain ⟨t,rfl⟩:=r;rfl
 | ref _=>cases r;rfl
 | ty _=>cases r;rfl
theorem RelV.inj {x y:V} {u:Value} (r:RelV x u) (q:RelV y u):x=y:=Option.some.inj (r.abs.symm.trans q.abs)
theorem Vals.inj:∀ {xs ys:List V} {us:List Value},Vals xs us→Vals ys us→xs=ys
 | _,_,_,.nil,.nil=>rfl
 | _,_,_,.cons r t,.cons r' t'=>by rw [r.inj r',Vals.inj t t']
section
variable {X:Cx} {pins:List (Addr×Obj)} {σ:St} {H:Hp} {s:Shared} {a:Addr} {xs ys:List V}
theorem SqL.of {K:PySem.W.Frag} (h:H a=some (.lst xs)):SqL K H a xs:=.inl (.inl h)
theorem SqT.of {K:PySem.W.Frag} (h:H a=some (.tup xs)):SqT K H a xs:=.inl (.inl h)
theorem Inv.list (I:Inv X pins σ H s) (h:SqL X.K H a xs):∃ its:List Value,Vals xs its∧PlainL s.heap a its.toArray∧xs.length≤sizeLine:=by
 rcases h with h | ⟨o,its,n,hk,hc,hd,hs,hz,r⟩
 ·obtain ⟨z,its,n,r,e⟩:=h.ok I.hok
  exact ⟨its,r,⟨_,n,e,rfl,rfl,rfl⟩,z⟩
 ·refine ⟨its.toList,r,⟨o,n,I.kIn a o hk,hc,hd,by simpa using hs⟩,?_⟩
  have e:=r.length
  simp only [Array.length_toList] at e
  lia
theorem Inv.tuple (I:Inv X pins σ H s) (h:SqT X.K H a xs):∃ its:List Value,Vals xs its∧IsTup s.heap a its.toArray∧xs.length≤sizeLine:=by
 rcases h with h | ⟨o,its,n,hk,hc,hs,hz,r⟩
 ·obtain ⟨z,its,r,p⟩:=h.ok I.hok
  exact ⟨its,r,p.tup,z⟩
 ·refine ⟨its.toList,r,⟨o,I.kIn a o hk,hc,n,by simpa using hs⟩,?_⟩
  have e:=r.length
  simp only [Array.length_toList] at e
  lia
theorem Inv.list_inj (I:Inv X pins σ H s) (h:SqL X.K H a xs) (h':SqL X.K H a ys):xs=ys:=by
 obtain ⟨its,r,⟨o,n,e,_,_,d⟩,_⟩:=I.list h
 obtain ⟨its',r',⟨o',n',e',_,_,d'⟩,_⟩:=I.list h'
 rw [e] at e';cases e'
 rw [d] at d'
 injection d' with d1 _
 have:its=its':=by simpa using congrArg Array.toList d1
 subst this
 exact r.inj r'
theorem Inv.tuple_inj (I:Inv X pins σ H s) (h:SqT X.K H a xs) (h':SqT X.K H a ys):xs=ys:=by
 obtain ⟨its,r,⟨o,e,_,n,d⟩,_⟩:=I.tuple h
 obtain ⟨its',r',⟨o',e',_,n',d'⟩,_⟩:=I.tuple h'
 rw [e] at e';cases e'
 rw [d] at d'
 injection d' with d1 _
 have:its=its':=by simpa using congrArg Array.toList d1
 subst this
 exact r.inj r'
end
noncomputable abbrev Cx.wish (X:Cx) (E:Value→Shared→Prop):Cx:={ X with xe:=E }
noncomputable abbrev Cx.nox (X:Cx):Cx:=X.wish fun _ _=>False
theorem Cx.Ok.wish {X:Cx} (ok:X.Ok) (E:Value→Shared→Prop):(X.wish E).Ok :=
 ⟨ok.mod,ok.kind,ok.glob,ok.blt,ok.above,ok.inj,ok.has,ok.cab,ok.hd,ok.frames,ok.stk,ok.exf,ok.bs,ok.bsz,ok.noex,ok.exfs,ok.funs,ok.frf⟩
theorem Cx.Ok.unwish {X:Cx} {E:Value→Shared→Prop} (ok:(X.wish E).Ok):X.Ok :=
 ⟨ok.mod,ok.kind,ok.glob,ok.blt,ok.above,ok.inj,ok.has,ok.cab,ok.hd,ok.frames,ok.stk,ok.exf,ok.bs,ok.bsz,ok.noex,ok.exfs,ok.funs,ok.frf⟩
section
variable {X:Cx} {pins:List (Addr×Obj)} {σ:St} {H:Hp} {s:Shared} {E:Value→Shared→Prop}
theorem Inv.wish (I:Inv X pins σ H s) (E:Value→Shared→Prop):Inv (X.wish E) pins σ H s:=⟨I.ok.wish E,I.os,I.bare,I.base,I.loc,I.cell,I.free,I.freeC,I.pin,I.hok,I.len⟩
theorem Inv.unwish (I:Inv (X.wish E) pins σ H s):Inv X pins σ H s:=⟨I.ok.unwish,I.os,I.bare,I.base,I.loc,I.cell,I.free,I.freeC,I.pin,I.hok,I.len⟩
theorem SP.unwish {D:Ends} {f:Flow} {s':Shared} (h:SP (X.wish E) pins D f s'):SP X pins D f s':=by
 cases f with
 | next=>obtain ⟨σ',H',I,q⟩:=h;exact ⟨σ',H',I.unwish,q⟩
 | brk=>obtain ⟨σ',H',I,q⟩:=h;exact ⟨σ',H',I.unwish,q⟩
 | cont=>obtain ⟨σ',H',I,q⟩:=h;exact ⟨σ',H',I.unwish,q⟩
 | ret u=>obtain ⟨v,σ',H',I,r,q⟩:=h;exact ⟨v,σ',H',I.unwish,r,q⟩
theorem PSs.nox {st:List Stmt} {t:TS} (h:PSs X.nox st t):PSs X st t:=fun pins s σ H D I hw =>
 wpAny_mono (h pins s σ H D (I.wish _) hw) (fun _ _ q=>q.unwish) fun _ _ z=>False.elim z
end
section
variable {X:Cx} {st:Stmt} {rest:List Stmt} {t u:TS} {e:Expr} {te:TE} {pos:Pos}
def ANi:TS:=fun D σ H=>D.nx σ H
def tSeq (t u:TS):TS:=fun D σ H=>t { D with nx:=u D } σ H
theorem ADN:PSs X [] ANi:=fun _ _ σ H _ I h=>wpAny_execs_nil ⟨σ,H,I,h⟩
theorem AAX (h1:PS X st t) (h2:PSs X rest u):PSs X (st :: rest) (tSeq t u):=by
 intro pins s σ H D I h
 refine wpAny_execs_cons (thn (h1 pins s σ H { D with nx:=u D } I h) fun f s1 q=>?_)
 cases f with
 | next =>
  obtain ⟨σ',H',I',q⟩:=q
  exact h2 pins s1 σ' H' D I' q
 | ret v=>exact q
 | brk=>exact q
 | cont=>exact q
theorem ABR (h1:PS X st t):PSs X [st] t:=by
 intro pins s σ H D I h
 refine wpAny_execs_cons (thn (h1 pins s σ H D I h) fun f s1 q=>?_)
 cases f with
 | next=>exact wpAny_execs_nil q
 | ret v=>exact q
 | brk=>exact q
 | cont=>exact q
theorem Inv.quiet {pins:List (Addr×Obj)} {σ:St} {H:Hp} {s:Shared} (I:Inv X pins σ H s):interactive X.env=false:=by simp [interactive,I.ok.kind]
def AKA (te:TE):TS:=fun D σ H=>te σ H fun _ H1=>D.nx σ H1
theorem AGR (he:PE X e te) (hs:swapsWith e none pos.line X.env=pure false:=by rfl):PS X (.Expr e pos) (AKA te):=by
 intro pins s σ H D I h
 exact wpAny_Expr_any (thn (he pins s σ H _ I h) fun v s1 ⟨x,H1,I1,r1,q1⟩=>⟨σ,H1,I1,q1⟩) I.quiet hs
def tRet (te:TE):TS:=fun D σ H=>te σ H D.rt
theorem ADO (he:PE X e te):PS X (.Return (some e) pos) (tRet te):=by
 intro pins s σ H D I h
 exact wpAny_Return_some (thn (he pins s σ H _ I h) fun v s1 ⟨x,H1,I1,r1,q1⟩=>⟨x,σ,H1,I1,r1,q1⟩)
def tIfS (c:TT) (t u:TS):TS:=fun D σ H=>c σ H fun b H1=>if b=true then t D σ H1 else u D σ H1
theorem AFS {c:Expr} {a b:List Stmt} {tc:TT} (hc:PT X c tc) (ha:PSs X a t) (hb:PSs X b u):PS X (.If c a b pos) (tIfS tc t u):=by
 intro pins s σ H D I h
 refine wpAny_If (thn (hc pins s σ H _ I h) fun d s1 ⟨H1,I1,q1⟩=>?_)
 cases d with
 | true=>exact ha pins s1 σ H1 D I1 q1
 | false=>exact hb pins s1 σ H1 D I1 q1
def APC:TS:=fun _ _ _=>False
theorem AMo:PS X st APC:=fun _ _ _ _ _ _ h=>h.elim
end
noncomputable abbrev TG:=V→St→Hp→(St→Hp→Prop)→Prop
noncomputable abbrev TGs:=List V→St→Hp→(St→Hp→Prop)→Prop
def PG (X:Cx) (target:Expr) (t:TG):Prop :=
 ∀ (pins:List (Addr×Obj)) (s:Shared) (σ:St) (H:Hp) (v:V) (u:Value) (Q:St→Hp→Prop),Inv X pins σ H s→RelV v u→t v σ H Q →
  wpAny (model X.prog X.w) X.A (assign target X.env u) (fun _ s'=>∃ σ' H',Inv X pins σ' H' s'∧Q σ' H') X.xe s
def PGs (X:Cx) (ts:List Expr) (t:TGs):Prop :=
 ∀ (pins:List (Addr×Obj)) (s:Shared) (σ:St) (H:Hp) (vs:List V) (us:List Value) (Q:St→Hp→Prop),Inv X pins σ H s→Vals vs us→t vs σ H Q →
  wpAny (model X.prog X.w) X.A (assignInOrder ((assignEach ts X.env).map (·.2)) us) (fun _ s'=>∃ σ' H',Inv X pins σ' H' s'∧Q σ' H') X.xe s
noncomputable abbrev TSet:=V→V→V→Hp→(Hp→Prop)→Prop
def PSet (X:Cx) (t:TSet):Prop :=
 ∀ (pins:List (Addr×Obj)) (s:Shared) (σ:St) (H:Hp) (o i v:V) (ov iv u:Value) (Q:Hp→Prop),Inv X pins σ H s→RelV o ov→RelV i iv→RelV v u→t o i v H Q →
  wpAny (model X.prog X.w) X.A (setItem ov iv u) (fun _ s'=>∃ H',Inv X pins σ H' s'∧Q H') X.xe s
noncomputable abbrev TIp:=V→V→Hp→VK→Prop
def PIp (X:Cx) (op:Operator) (t:TIp):Prop :=
 ∀ (pins:List (Addr×Obj)) (s:Shared) (σ:St) (H:Hp) (x y:V) (v u:Value) (Q:VK),Inv X pins σ H s→RelV x v→RelV y u→t x y H Q →
  wpAny (model X.prog X.w) X.A (inplaceOp op v u) (EP X pins σ Q) X.xe s
section
variable {X:Cx} {pos:Pos}
def ABU (i:Nat):TG:=fun v σ H Q=>Q (σ.set i (some v)) H
theorem AAf {i:Nat} {x:Str} (hN:X.N.Nodup) (hi:X.N[i]?=some x) (hx:Loc X.env.scope x) (hf:X.fn x=true∨X.env.scope.names.lookup x=some .local:=by trivial):PG X (.Name x pos) (ABU i):=by
 intro pins s σ H v u Q I r h
 exact wpAny_assign_Name (AH7 I hN hi hx r (fun s' I'=>⟨_,H,I',h⟩) hf)
def gNil:TGs:=fun vs σ H Q=>vs=[]∧Q σ H
def AHq (t:TG) (u:TGs):TGs:=fun vs σ H Q=>∃ v r,vs=v :: r∧t v σ H fun σ' H'=>u r σ' H' Q
theorem ACo:PGs X [] gNil:=by
 intro pins s σ H vs us Q I r h
 obtain ⟨e,h⟩:=h
 subst e
 cases r
 exact assignInOrder_nil ⟨σ,H,I,h⟩
theorem AA7 {e:Expr} {es:List Expr} {t:TG} {u:TGs} (h1:PG X e t) (h2:PGs X es u)
  (hs:(assignEach (e :: es) X.env).map (·.2)=assign e X.env :: (assignEach es X.env).map (·.2):=by rfl):PGs X (e :: es) (AHq t u):=by
 intro pins s σ H vs us Q I r h
 obtain ⟨v,vr,e1,h⟩:=h
 subst e1
 cases r with
 | cons r rr =>
  rw [hs]
  refine assignInOrder_cons (thn (h1 pins s σ H _ _ _ I r h) fun _ s1 ⟨σ1,H1,I1,q1⟩=>?_)
  exact h2 pins s1 σ1 H1 _ _ Q I1 rr q1
def gTup (K:PySem.W.Frag) (n:Nat) (t:TGs):TG:=fun v σ H Q=>∃ a xs,v=.ref a∧SqT K H a xs∧xs.length=n∧t xs σ H Q
theorem ALH {es:List Expr} {k:Nat} {t:TGs} {n:Nat} (hc:X.calm=true) (h:PGs X es t)
  (hn:(assignEach es X.env).length=n:=by rfl) (hst:(assignEach es X.env).findIdx? (·.1)=none:=by rfl):PG X (.Tuple es k pos) (gTup X.K n t):=by
 intro pins s σ H v u Q I r hw
 obtain ⟨a,xs,e1,hq,hl,hw⟩:=hw
 subst e1
 cases r
 obtain ⟨its,rv,ht,hz⟩:=I.tuple hq
 refine assign_Tuple_tuple (I.ok.hd hc) ht (by simp [hn,←hl,rv.length]) hst fun h' hx=>?_
 have I1:Inv X pins σ H { s with heap:=h' }:=I.kept (t':=s.toks) fun b o e=>hx b o (Nat.ne_of_lt (Heap.lt_size e)) e
 exact h pins _ σ H xs _ Q I1 (by simpa using rv) hw
def gSub (to ti:TE) (t:TSet):TG:=fun v σ H Q=>to σ H fun o H1=>ti σ H1 fun i H2=>t o i v H2 fun H3=>Q σ H3
theorem AH9 {o i:Expr} {to ti:TE} {t:TSet} (ho:PE X o to) (hi:PE X i ti) (hs:PSet X t)
  (ha:∀ v,assign (.Subscript o i pos) X.env v=(do
   let ov ←holding [v] (eval o X.env)
   let iv ←holding [v,ov] (eval i X.env)
   standAt pos
   holding [v,ov,iv] (setItem ov iv v)
   release [v,ov,iv] []):=by intro _;rfl):PG X (.Subscript o i pos) (gSub to ti t):=by
 intro pins s σ H v u Q I r h
 rw [ha]
 refine wB (wpAny_holding (thn (ho pins s σ H _ I h) fun ov s1 ⟨x,H1,I1,r1,q1⟩=>?_))
 refine wB (wpAny_holding (thn (hi pins s1 σ H1 _ I1 q1) fun iv s2 ⟨y,H2,I2,r2,q2⟩=>?_))
 refine wB (wpAny_standAt (wB (wpAny_holding (thn (hs pins s2 σ H2 x y v ov iv u _ I2 r1 r2 r q2) fun _ s3 ⟨H3,I3,q3⟩=>?_))))
 exact wpAny_release ⟨σ,H3,I3,q3⟩
def tAsg (te:TE) (g:TG):TS:=fun D σ H=>te σ H fun x H1=>g x σ H1 D.nx
theorem AFT {tg e:Expr} {te:TE} {g:TG} (he:PE X e te) (hg:PG X tg g) (hs:swapsWithSole [tg] e pos.line X.env=pure false:=by rfl) (hw:swappedStores [tg] e X.env=pure none:=by rfl)
  (h1:(assignEach [tg] X.env).map (·.2)=[assign tg X.env]:=by rfl):PS X (.Assign [tg] e pos) (tAsg te g):=by
 intro pins s σ H D I h
 refine wpAny_Assign_stores (thn (he pins s σ H _ I h) fun v s1 ⟨x,H1,I1,r1,q1⟩=>?_) hs hw
 rw [h1]
 exact thn (hg pins s1 σ H1 x v _ I1 r1 q1) fun _ s2 q=>q
theorem ABI {i:Nat} {x:Str} {e:Expr} {te:TE} {pos':Pos} (hN:X.N.Nodup) (hi:X.N[i]?=some x) (hx:Loc X.env.scope x) (he:PE X e te) (hs:swapsWith e (some (.Name x pos')) pos.line X.env=pure false:=by rfl) (hf:X.fn x=true∨X.env.scope.names.lookup x=some .local:=by trivial) :
  PS X (.Assign [.Name x pos'] e pos) (tAsg te (ABU i)):=by
 intro pins s σ H D I h
 refine wpAny_Assign_Name (thn (he pins s σ H _ I h) fun v s1 ⟨y,H1,I1,r1,q1⟩=>?_) hs
 exact AH7 I1 hN hi hx r1 (fun s2 I2=>⟨_,H1,I2,q1⟩) hf
def ANj (to ti te:TE) (tget:V→V→Hp→VK→Prop) (tip:TIp) (tset:TSet):TS:=fun D σ H=>to σ H fun o H1=>ti σ H1 fun i H2=>tget o i H2 fun x H3=>te σ H3 fun y H4=>tip x y H4 fun z H5=>tset o i z H5 fun H6=>D.nx σ H6
def PGet (X:Cx) (t:V→V→Hp→VK→Prop):Prop :=
 ∀ (pins:List (Addr×Obj)) (s:Shared) (σ:St) (H:Hp) (o i:V) (ov iv:Value) (Q:VK),Inv X pins σ H s→RelV o ov→RelV i iv→t o i H Q →
  wpAny (model X.prog X.w) X.A (getItem ov iv) (EP X pins σ Q) X.xe s
theorem AN9 {o i e:Expr} {to ti te:TE} {tget:V→V→Hp→VK→Prop} {tip:TIp} {tset:TSet} {op:Operator} {tpos:Pos} (ho:PE X o to) (hi:PE X i ti) (hg:PGet X tget) (he:PE X e te) (hp:PIp X op tip) (hs:PSet X tset)
  (ha:∀ ov iv new,augStore i ov iv new=(do holding [new,ov,iv] (setItem ov iv new);release [new,ov,iv] [];pure .next):=by intros;rfl):PS X (.AugAssign (.Subscript o i tpos) op e pos) (ANj to ti te tget tip tset):=by
 intro pins s σ H D I h
 refine wpAny_AugAssign_SubscriptAny (thn (ho pins s σ H _ I h) fun ov s1 ⟨x1,H1,I1,r1,q1⟩=>?_) ha
 refine thn (hi pins s1 σ H1 _ I1 q1) fun iv s2 ⟨x2,H2,I2,r2,q2⟩=>?_
 refine thn (hg pins s2 σ H2 x1 x2 ov iv _ I2 r1 r2 q2) fun old s3 ⟨x3,H3,I3,r3,q3⟩=>?_
 refine thn (he pins s3 σ H3 _ I3 q3) fun v s4 ⟨x4,H4,I4,r4,q4⟩=>?_
 refine thn (hp pins s4 σ H4 x3 x4 old v _ I4 r3 r4 q4) fun new s5 ⟨x5,H5,I5,r5,q5⟩=>?_
 exact thn (hs pins s5 σ H5 x1 x2 x5 ov iv new _ I5 r1 r2 r5 q5) fun _ s6 ⟨H6,I6,q6⟩=>⟨σ,H6,I6,q6⟩
noncomputable def ipI (f:Int→Int→Int):TIp:=fun x y H Q=>∃ i j,x=.int i∧y=.int j∧Q (.int (f i j)) H
theorem APD:PIp X .Add (ipI fun i j=>i + j):=by
 intro pins s σ H x y v u Q I r1 r2 h
 obtain ⟨i,j,e1,e2,q⟩:=h
 subst e1;subst e2
 obtain ⟨t,rfl⟩:=r1
 obtain ⟨t',rfl⟩:=r2
 exact iadd_int ⟨.int _,H,I.tok _,⟨_,rfl⟩,q⟩
end
section
variable {X:Cx} {pos:Pos}
def APE (c:TT) (tb:TS):TS:=fun D σ H=>∃ W:Nat→St→Hp→Prop,(∃ m,W m σ H)∧∀ m σ H,W m σ H →
 c σ H fun b H1=>if b=true then ∃ N:St→Hp→Prop,(∀ σ' H',N σ' H'→∃ m',m'<m∧W m' σ' H')∧tb { D with nx:=N,ct:=N,bk:=D.nx } σ H1 else D.nx σ H1
theorem AMp {c:Expr} {body:List Stmt} {tc:TT} {tb:TS} (hp:PassesOwn (model X.prog X.w) X.A X.env X.xe) (hc:PT X c tc) (hb:PSs X body tb):PS X (.While c body [] pos) (APE tc tb):=by
 intro pins s σ H D I h
 obtain ⟨W,⟨m0,w0⟩,turn⟩:=h
 refine wpAny_While (codeAny_whileLoop (fun n s'=>∃ σ' H',Inv X pins σ' H' s'∧W n σ' H') ?_ m0 ⟨σ,H,I,w0⟩)
 rintro n s1 ⟨σ1,H1,I1,w1⟩
 refine wpAny_passesOwn hp (thn (hc pins s1 σ1 H1 _ I1 (turn n σ1 H1 w1)) fun b s2 ⟨H2,I2,q2⟩=>?_)
 cases b with
 | true =>
  obtain ⟨N,hN,q2⟩:=q2
  rw [if_pos rfl]
  refine wpAny_passesOwn hp (thn (hb pins s2 σ1 H2 _ I2 q2) fun f s3 q3=>?_)
  cases f with
  | next =>
   obtain ⟨σ3,H3,I3,n3⟩:=q3
   obtain ⟨m',hm,w3⟩:=hN σ3 H3 n3
   exact ⟨m',hm,σ3,H3,I3,w3⟩
  | cont =>
   obtain ⟨σ3,H3,I3,n3⟩:=q3
   obtain ⟨m',hm,w3⟩:=hN σ3 H3 n3
   exact ⟨m',hm,σ3,H3,I3,w3⟩
  | brk=>exact q3
  | ret v=>exact q3
 | false =>
  rw [if_neg Bool.false_ne_true]
  exact wpAny_execs_nil ⟨σ1,H2,I2,q2⟩
end
structure It where
 go:Nat→Hp→Prop
 yld:Nat→Hp→V→Hp→Prop
 stop:Nat→Hp→Prop
def FpOk (X:Cx) (pins:List (Addr×Obj)) (H:Hp) (b:Addr):Prop :=
 H b=none∧b≠X.env.locals∧b ∉ X.fs∧(b∈X.ex∨X.s₀.heap.objs.size≤b)∧(∀ x c,X.env.cells.lookup x=some c→c≠b)∧∀ p∈X.pn ++ pins,p.1≠b
theorem Inv.fpOk {X:Cx} {pins:List (Addr×Obj)} {σ:St} {H H':Hp} {s:Shared} {b:Addr} (I:Inv X pins σ H s) (hb:s.heap.objs.size≤b) (hn:H' b=none):FpOk X pins H' b:=by
 refine ⟨hn,Nat.ne_of_gt (Nat.lt_of_lt_of_le I.lt hb),I.nofs hb,.inr (Nat.le_trans I.sz hb),fun x c e z=>?_,fun p hp z=>?_⟩
 ·obtain ⟨v,q⟩:=I.cell x c e
  exact absurd (Nat.lt_of_lt_of_le q.lt (by rw [z];exact hb)) (Nat.lt_irrefl _)
 ·exact absurd (Nat.lt_of_lt_of_le (Heap.lt_size (I.pin p hp).1) (by rw [z];exact hb)) (Nat.lt_irrefl _)
structure Turn (P:Program) (w:World) (K:PySem.W.Frag) (tg:Expr) (J:It) (fp:List Addr) (it:Addr) (tn:Nat→Heap→Prop):Prop where
 mem:it∈fp
 obj:∀ i h,tn i h→∀ b∈fp,∃ o,h.get? b=some o∧∀ v,o.data≠.cell v
 keep:∀ i h h',tn i h→(∀ b∈fp,∀ o,h.get? b=some o→h'.get? b=some o)→tn i h'
 item:∀ (X:Cx),X.prog=P→X.w=w→X.K=K→X.calm=true→∀ (i:Nat) (pins:List (Addr×Obj)) (s:Shared) (σ:St) (H:Hp) (E:Value→Shared→Prop),Inv X pins σ H s→(∀ b∈fp,FpOk X pins H b)→tn i s.heap→J.go i H →
  wpAny (model P w) X.A (pyNext (.ref it)) (fun r s1=>∃ u,r=some u ∧
   wpAny (model P w) X.A (letOwnedTupleGo tg (.ref it) u) (fun _ s2=>∃ x H',Inv X pins σ H' s2∧RelV x u∧J.yld i H x H'∧tn (i + 1) s2.heap∧∀ b∈fp,H' b=none) E s1) E s
 done:∀ (X:Cx),X.prog=P→X.w=w→X.K=K→X.calm=true→∀ (i:Nat) (pins:List (Addr×Obj)) (s:Shared) (σ:St) (H:Hp) (E:Value→Shared→Prop),Inv X pins σ H s→(∀ b∈fp,FpOk X pins H b)→tn i s.heap→J.stop i H →
  wpAny (model P w) X.A (pyNext (.ref it)) (fun r s1=>r=none∧Inv X pins σ H s1) E s
 self:∀ (A:Around) (i:Nat) (s:Shared) (Q:Value→Shared→Prop) (E:Value→Shared→Prop),tn i s.heap→Q (.ref it) s→wpAny (model P w) A (pyIter (.ref it)) Q E s
noncomputable abbrev TI:=St→Hp→(It→Hp→Prop)→Prop
def PIE (X:Cx) (pins:List (Addr×Obj)) (σ:St) (tg:Expr) (R:It→Hp→Prop) (itv:Value) (s2:Shared):Prop :=
 ∃ (it:Addr) (fp:List Addr) (tn:Nat→Heap→Prop) (J:It) (H':Hp),itv=.ref it∧Inv X pins σ H' s2∧Turn X.prog X.w X.K tg J fp it tn∧tn 0 s2.heap∧(∀ b∈fp,FpOk X pins H' b)∧R J H'
def PI (X:Cx) (tg iter:Expr) (wi:TI):Prop :=
 ∀ (pins:List (Addr×Obj)) (s:Shared) (σ:St) (H:Hp) (R:It→Hp→Prop),Inv X pins σ H s→wi σ H R →
  wpAny (model X.prog X.w) X.A (eval iter X.env) (fun v s1=>wpAny (model X.prog X.w) X.A (pyIter v) (PIE X pins σ tg R) X.xe s1) X.xe s
theorem AKB {M : Model} {A : Around} {E : Value → Shared → Prop} {s : Shared} {tg : Expr} {it : Addr} {u : Value} {o : Obj} {n : String} {vs : Array Value} {Q : Unit → Shared → Prop} (ho : s.heap.get? it = some o) (hc : o.cls = .type n) (hd : o.data = .fields vs)
    (hn : ["enumerate", "zip", "dict_itemiterator", "dict_reverseitemiterator", "odict_iterator", "itertools.zip_longest", "itertools.pairwise"].contains n = false) (hQ : Q () s) : wpAny M A (letOwnedTupleGo tg (.ref it) u) Q E s := by
  unfold letOwnedTupleGo
  cases tg <;> first
    | exact wP hQ
    | (cases u <;> first
        | exact wP hQ
        | (refine wB (wpAny_load ho ?_)
           rw [hc, hd]
           show wpAny M A (if (["enumerate", "zip", "dict_itemiterator", "dict_reverseitemiterator", "odict_iterator", "itertools.zip_longest", "itertools.pairwise"].contains n && vs[0]? == some (rawInt _)) = true then _ else _) Q E s
           rw [if_neg (by intro h; rw [hn, Bool.false_and] at h; cases h)]
           exact wP hQ))
noncomputable def Itl (K:PySem.W.Frag) (a:Addr):It :=
 ⟨fun i H=>∃ xs x,SqL K H a xs∧xs[i]?=some x,fun i H x H'=>H'=H∧∀ xs,SqL K H a xs→xs[i]?=some x,fun i H=>∃ xs,SqL K H a xs∧xs.length≤i⟩
noncomputable def Itt (K:PySem.W.Frag) (a:Addr):It :=
 ⟨fun i H=>∃ xs x,SqT K H a xs∧xs[i]?=some x,fun i H x H'=>H'=H∧∀ xs,SqT K H a xs→xs[i]?=some x,fun i H=>∃ xs,SqT K H a xs∧xs.length≤i⟩
noncomputable def Itr (lo:Int) (n:Nat):It:=⟨fun i _=>i<n,fun i H x H'=>H'=H∧x=.int (lo + i),fun i _=>n≤i⟩
theorem ALI {P:Program} {w:World} {K:PySem.W.Frag} {tg:Expr} (a it:Addr):Turn P w K tg (Itl K a) [it] it (fun i h=>h.IsListIter it a i) where
 mem:=by simp
 obj:=fun i h st b hb=>by
  have e:b=it:=by simpa using hb
  subst e
  obtain ⟨o,e,c,d⟩:=st
  exact ⟨o,e,fun v z=>by rw [d] at z;cases z⟩
 keep:=fun i h h' st k=>st.at fun o e=>k it (by simp) o e
 item:=by
  intro X hP hw hK hc i pins s σ H E I hf st hg
  subst hP hw hK
  obtain ⟨xs,x,hq,hx⟩:=hg
  obtain ⟨its,rv,p,hz⟩:=I.list hq
  obtain ⟨u,hu,ru⟩:=rv.get hx
  obtain ⟨f0,f1,f2,f3,f4,f5⟩:=hf it (by simp)
  refine wpAny_pyNext_list_item st p.isList (x:=u) (by simpa using hu) fun h' st' sb=>?_
  have I1:Inv X pins σ H { s with heap:=h' }:=I.turned (t':=s.toks) (fun b o hb e=>(sb.2 b hb).trans e) f0 f1 f3 f4 f5
  obtain ⟨o,e,c,d⟩:=id st'
  exact ⟨u,rfl,AKB (s:={ s with heap:=h' }) e c d (by decide) ⟨x,H,I1,ru,⟨rfl,fun ys hy=>by rw [I.list_inj hy hq];exact hx⟩,st',fun b hb=>(hf b hb).1⟩⟩
 done:=by
  intro X hP hw hK hc i pins s σ H E I hf st hg
  subst hP hw hK
  obtain ⟨xs,hq,hx⟩:=hg
  obtain ⟨its,rv,p,hz⟩:=I.list hq
  obtain ⟨f0,f1,f2,f3,f4,f5⟩:=hf it (by simp)
  have hl:=rv.length
  exact wpAny_pyNext_list_end (I.ok.hd hc) st p.isList (by simp;lia) fun h' eb=>⟨rfl,I.turned (t':=s.toks) (fun b o hb e=>eb b o hb e) f0 f1 f3 f4 f5⟩
 self:=fun _ _ _ _ _ st h=>wpAny_pyIter_listiter st h
theorem AKC {P:Program} {w:World} {K:PySem.W.Frag} {tg:Expr} (a it:Addr):Turn P w K tg (Itt K a) [it] it (fun i h=>h.IsTupleIter it a i) where
 mem:=by simp
 obj:=fun i h st b hb=>by
  have e:b=it:=by simpa using hb
  subst e
  obtain ⟨o,e,c,d⟩:=st
  exact ⟨o,e,fun v z=>by rw [d] at z;cases z⟩
 keep:=fun i h h' st k=>st.at fun o e=>k it (by simp) o e
 item:=by
  intro X hP hw hK hc i pins s σ H E I hf st hg
  subst hP hw hK
  obtain ⟨xs,x,hq,hx⟩:=hg
  obtain ⟨its,rv,p,hz⟩:=I.tuple hq
  obtain ⟨u,hu,ru⟩:=rv.get hx
  obtain ⟨f0,f1,f2,f3,f4,f5⟩:=hf it (by simp)
  refine wpAny_pyNext_tuple_item st (show s.heap.IsTuple a its.toArray from p) (x:=u) (by simpa using hu) fun h' st' sb=>?_
  have I1:Inv X pins σ H { s with heap:=h' }:=I.turned (t':=s.toks) (fun b o hb e=>(sb.2 b hb).trans e) f0 f1 f3 f4 f5
  obtain ⟨o,e,c,d⟩:=id st'
  exact ⟨u,rfl,AKB (s:={ s with heap:=h' }) e c d (by decide) ⟨x,H,I1,ru,⟨rfl,fun ys hy=>by rw [I.tuple_inj hy hq];exact hx⟩,st',fun b hb=>(hf b hb).1⟩⟩
 done:=by
  intro X hP hw hK hc i pins s σ H E I hf st hg
  subst hP hw hK
  obtain ⟨xs,hq,hx⟩:=hg
  obtain ⟨its,rv,p,hz⟩:=I.tuple hq
  obtain ⟨f0,f1,f2,f3,f4,f5⟩:=hf it (by simp)
  have hl:=rv.length
  exact wpAny_pyNext_tuple_end (I.ok.hd hc) st (show s.heap.IsTuple a its.toArray from p) (by simp;lia) fun h' eb=>⟨rfl,I.turned (t':=s.toks) (fun b o hb e=>eb b o hb e) f0 f1 f3 f4 f5⟩
 self:=fun _ _ _ _ _ st h=>wpAny_pyIter_tupleiter st h
theorem AKD {P:Program} {w:World} {K:PySem.W.Frag} {tg:Expr} (it:Addr) (lo:Int) (n:Nat):Turn P w K tg (Itr lo n) [it] it (fun i h=>IsRangeIter h it (lo + (i:Nat) * 1) ((n:Int) - (i:Nat)) 1) where
 mem:=by simp
 obj:=fun i h st b hb=>by
  have e:b=it:=by simpa using hb
  subst e
  exact ⟨_,st,fun v z=>by
   have z':Data.fields _=Data.cell v:=z
   cases z'⟩
 keep:=fun i h h' st k=>k it (by simp) _ st
 item:=by
  intro X hP hw hK hc i pins s σ H E I hf st hg
  subst hP hw hK
  obtain ⟨f0,f1,f2,f3,f4,f5⟩:=hf it (by simp)
  have W:=Walks.range (prog:=X.prog) (w:=X.w) (I.ok.hd hc) it lo 1 n
  refine W.item i s _ _ hg st fun v h' tk hv st' kk=>?_
  obtain ⟨t,rfl⟩:=hv
  have I1:Inv X pins σ H { s with heap:=h',toks:=tk }:=I.turned (fun b o hb e=>kk b o (by simpa using hb) e) f0 f1 f3 f4 f5
  refine ⟨_,rfl,AKB (s:={ s with heap:=h',toks:=tk }) (n:="range_iterator") st' rfl rfl (by decide) ⟨.int (lo + i),H,I1,⟨t,?_⟩,⟨rfl,rfl⟩,st',fun b hb=>(hf b hb).1⟩⟩
  rw [Int.mul_one]
 done:=by
  intro X hP hw hK hc i pins s σ H E I hf st hg
  subst hP hw hK
  obtain ⟨f0,f1,f2,f3,f4,f5⟩:=hf it (by simp)
  exact wpAny_pyNext_range_end (I.ok.hd hc) st (by have:n≤i:=hg;lia) fun h' eb=>⟨rfl,I.turned (t':=s.toks) (fun b o hb e=>eb b o hb e) f0 f1 f3 f4 f5⟩
 self:=fun _ _ _ _ _ st h=>wpAny_pyIter_rangeiter st h
section
variable {X:Cx} {tg:Expr}
def ANk (K:PySem.W.Frag) (tl:TE):TI:=fun σ H R=>tl σ H fun x H1=>∃ a,x=.ref a∧(∃ xs,SqL K H1 a xs)∧R (Itl K a) H1
def iTup (K:PySem.W.Frag) (tl:TE):TI:=fun σ H R=>tl σ H fun x H1=>∃ a,x=.ref a∧(∃ xs,SqT K H1 a xs)∧R (Itt K a) H1
theorem AJa {l:Expr} {tl:TE} (hl:PE X l tl):PI X tg l (ANk X.K tl):=by
 intro pins s σ H R I h
 refine thn (hl pins s σ H _ I h) fun v s1 ⟨x,H1,I1,r1,q1⟩=>?_
 obtain ⟨a,e,⟨xs,hq⟩,q⟩:=q1
 subst e
 cases r1
 obtain ⟨its,rv,p,hz⟩:=I1.list hq
 refine wpAny_pyIter_list p.isList ?_
 refine ⟨s1.heap.objs.size,[s1.heap.objs.size],_,_,H1,rfl,I1.kept (t':=s1.toks) fun b o e=>Heap.get?_push_of_some _ e,ALI a _,⟨_,Heap.get?_push_size _ rfl,rfl,rfl⟩,fun b hb=>?_,q⟩
 have e:b=s1.heap.objs.size:=by simpa using hb
 subst e
 exact I1.fpOk (Nat.le_refl _) (I1.hok.fresh (Nat.le_refl _))
theorem ALJ {l:Expr} {tl:TE} (hl:PE X l tl):PI X tg l (iTup X.K tl):=by
 intro pins s σ H R I h
 refine thn (hl pins s σ H _ I h) fun v s1 ⟨x,H1,I1,r1,q1⟩=>?_
 obtain ⟨a,e,⟨xs,hq⟩,q⟩:=q1
 subst e
 cases r1
 obtain ⟨its,rv,p,hz⟩:=I1.tuple hq
 refine wpAny_pyIter_tuple (show s1.heap.IsTuple a its.toArray from p) ?_
 refine ⟨s1.heap.objs.size,[s1.heap.objs.size],_,_,H1,rfl,I1.kept (t':=s1.toks) fun b o e=>Heap.get?_push_of_some _ e,AKC a _,⟨_,Heap.get?_push_size _ rfl,rfl,rfl⟩,fun b hb=>?_,q⟩
 have e:b=s1.heap.objs.size:=by simpa using hb
 subst e
 exact I1.fpOk (Nat.le_refl _) (I1.hok.fresh (Nat.le_refl _))
theorem AMq {pins:List (Addr×Obj)} {σ:St} {H:Hp} {s:Shared} {R:It→Hp→Prop} {E:Value→Shared→Prop} {lo hi:Int} {t u v:Tok} {tk:Nat} (I:Inv X pins σ H s) (h1:-(2 ^ 62)≤lo) (h2:lo<2 ^ 62) (h3:-(2 ^ 62)≤hi) (h4:hi<2 ^ 62)
  (q:R (Itr lo (hi - lo).toNat) H):wpAny (model X.prog X.w) X.A (pyIter (.ref s.heap.objs.size)) (PIE X pins σ tg R) E { s with heap:=s.heap.push { cls:=.type "range",data:=.fields #[.int lo t,.int hi u,.int 1 v] },toks:=tk }:=by
 refine wpAny_pyIter_range (IsRange.new ..) (small_one h1 h2 h3 h4) ?_
 have I1:Inv X pins σ H { s with heap:=s.heap.push { cls:=.type "range",data:=.fields #[.int lo t,.int hi u,.int 1 v] },toks:=tk }:=I.kept fun b o e=>Heap.get?_push_of_some _ e
 refine ⟨(s.heap.push { cls:=.type "range",data:=.fields #[.int lo t,.int hi u,.int 1 v] }).objs.size,[(s.heap.push { cls:=.type "range",data:=.fields #[.int lo t,.int hi u,.int 1 v] }).objs.size],_,_,H,rfl,
  I1.kept (t':=tk) fun b o e=>Heap.get?_push_of_some _ e,AKD _ lo (hi - lo).toNat,?_,fun b hb=>?_,q⟩
 ·have e1:lo + ((0:Nat):Int) * 1=lo:=by simp
  have e2:(((hi - lo).toNat:Nat):Int) - ((0:Nat):Int)=Builtin.Range.rangeSize lo hi 1:=by rw [rangeSize_one];split <;> lia
  show IsRangeIter _ _ (lo + ((0:Nat):Int) * 1) ((((hi - lo).toNat:Nat):Int) - ((0:Nat):Int)) 1
  rw [e1,e2]
  exact Heap.get?_push_size _ rfl
 ·have e:b=(s.heap.push { cls:=.type "range",data:=.fields #[.int lo t,.int hi u,.int 1 v] }).objs.size:=by simpa using hb
  subst e
  exact I1.fpOk (Nat.le_refl _) (I1.hok.fresh (Nat.le_refl _))
def AQE (ta:TA):TI:=fun σ H R=>ta σ H fun vs H1=>∃ j:Int,vs=[.int j]∧-(2 ^ 62)≤j∧j<2 ^ 62∧R (Itr 0 j.toNat) H1
theorem ADA {a:Expr} {ta:TA} {p pos:Pos} (hg:Gl X "range") (hm:X.mg "range"=none) (ha:PA X [a] ta) (hs:starEach [a] X.env=[(false,eval a X.env)]:=by rfl):PI X tg (.Call (.Name "range" p) [a] [] pos) (AQE ta):=by
 intro pins s σ H R I h
 refine Call_ (ADy I hg hm boot_range (PyProof.Rows.callWith_type1 (thn (ha pos pins s σ H _ I h) fun us s1 ⟨vs,H1,I1,r1,q1⟩=>?_) hs rfl))
 obtain ⟨j,e,q1,q2,q⟩:=q1
 subst e
 cases r1 with
 | cons r rr =>
  cases rr
  obtain ⟨t,rfl⟩:=r
  exact call_range_1 (AMq I1 (by lia) (by lia) q1 q2 (by simpa using q))
def tFor (wi:TI) (g:TG) (tb:TS):TS:=fun D σ H=>wi σ H fun J H1=>∃ W:Nat→Nat→St→Hp→Prop,(∃ m,W 0 m σ H1)∧∀ i m σ H,W i m σ H →
 (J.stop i H∧D.nx σ H)∨(J.go i H∧∃ N:St→Hp→Prop,(∀ σ' H',N σ' H'→∃ m',m'<m∧W (i + 1) m' σ' H')∧∀ x H',J.yld i H x H'→g x σ H' fun σ2 H2=>tb { D with nx:=N,ct:=N,bk:=D.nx } σ2 H2)
noncomputable def ACc (fp:List Addr) (h:Heap):List (Addr×Obj):=fp.filterMap fun b=>(h.get? b).map fun o=>(b,o)
theorem ABV {fp:List Addr} {h:Heap} {b:Addr} {o:Obj} (hb:b∈fp) (e:h.get? b=some o):(b,o)∈ACc fp h:=List.mem_filterMap.mpr ⟨b,hb,by rw [e];rfl⟩
theorem ALK {fp:List Addr} {h:Heap} {p:Addr×Obj} (hp:p∈ACc fp h):p.1∈fp∧h.get? p.1=some p.2:=by
 obtain ⟨b,hb,e⟩:=List.mem_filterMap.mp hp
 cases q:h.get? b with
 | none=>rw [q] at e;cases e
 | some o =>
  rw [q] at e
  have e':(b,o)=p:=Option.some.inj e
  subst e'
  exact ⟨hb,q⟩
theorem Inv.pinned {pins:List (Addr×Obj)} {σ:St} {H:Hp} {s:Shared} {fp:List Addr} (I:Inv X pins σ H s) (hf:∀ b∈fp,FpOk X pins H b) (ho:∀ b∈fp,∃ o,s.heap.get? b=some o∧∀ v,o.data≠.cell v):Inv X (pins ++ ACc fp s.heap) σ H s :=
 I.pins_of fun p hp=>(List.mem_append.mp hp).elim (fun z=>I.pin p (List.mem_append_right _ z)) fun z=>by
  obtain ⟨hb,e⟩:=ALK z
  obtain ⟨f0,f1,f2,_⟩:=hf p.1 hb
  obtain ⟨o,e',d⟩:=ho p.1 hb
  rw [e] at e';cases e'
  exact ⟨e,f0,f1,f2,d⟩
theorem Inv.unpinned {pins pl:List (Addr×Obj)} {σ:St} {H:Hp} {s:Shared} (I:Inv X (pins ++ pl) σ H s):Inv X pins σ H s:=I.pins_of fun p hp=>I.pin p (List.mem_append_right _ (List.mem_append_left _ hp))
theorem AFU {iter:Expr} {body:List Stmt} {wi:TI} {g:TG} {tb:TS} {pos:Pos} (hp:PassesOwn (model X.prog X.w) X.A X.env X.xe) (hc:X.calm=true) (hi:PI X tg iter wi) (hg:PG X tg g) (hb:PSs X body tb)
  (hs:∀ x,foldedSetIterable iter X.env x=pure x:=by intro _;rfl):PS X (.For tg iter body [] pos) (tFor wi g tb):=by
 intro pins s σ H D I h
 refine wpAny_For (thn (hi pins s σ H _ I h) fun v s1 h1=>thn h1 fun itv s2 h2=>?_) hs
 obtain ⟨it,fp,tn,J,H2,e,I2,T,st2,f2,W,⟨m0,w0⟩,turn⟩:=h2
 subst e
 -- what stays true of the iterator's objects through the loop
 have stat:∀ {H':Hp},(∀ b∈fp,H' b=none)→∀ b∈fp,FpOk X pins H' b:=fun hn b hb=>⟨hn b hb,(f2 b hb).2⟩
 refine codeAny_forLoop_any (fun n s'=>∃ i σ' H',Inv X pins σ' H' s'∧tn i s'.heap∧(∀ b∈fp,H' b=none)∧W i n σ' H') ?_ m0 ⟨0,σ,H2,I2,st2,fun b hb=>(f2 b hb).1,w0⟩
 rintro n s3 ⟨i,σ3,H3,I3,st3,fr3,w3⟩
 rcases turn i n σ3 H3 w3 with ⟨stop,qn⟩ | ⟨go,N,hN,step⟩
 ·refine wpAny_passesOwn hp (thn (T.done X rfl rfl rfl hc i pins s3 σ3 H3 X.xe I3 (stat fr3) st3 stop) fun r s4 ⟨hr,I4⟩=>?_)
  subst hr
  exact wpAny_execs_nil ⟨σ3,H3,I4,qn⟩
 ·refine wpAny_passesOwn hp (thn (T.item X rfl rfl rfl hc i pins s3 σ3 H3 X.xe I3 (stat fr3) st3 go) fun r s4 ⟨u,hr,h4⟩=>?_)
  subst hr
  refine wpAny_passesOwn hp (thn h4 fun _ s5 ⟨x,H5,I5,r5,y5,st5,fr5⟩=>?_)
  have I5':=I5.pinned (stat fr5) (T.obj _ _ st5)
  refine wpAny_passesOwn hp (thn (hg _ s5 σ3 H5 x u _ I5' r5 (step x H5 y5)) fun _ s6 ⟨σ6,H6,I6,q6⟩=>?_)
  refine wpAny_passesOwn hp (thn (hb _ s6 σ6 H6 _ I6 q6) fun f s7 q7=>?_)
  have again:∀ {σ7:St} {H7:Hp},Inv X (pins ++ ACc fp s5.heap) σ7 H7 s7→N σ7 H7→∃ m,m<n∧∃ i σ' H',Inv X pins σ' H' s7∧tn i s7.heap∧(∀ b∈fp,H' b=none)∧W i m σ' H':=fun {σ7 H7} I7 n7=>by
   obtain ⟨m',hm,w7⟩:=hN σ7 H7 n7
   refine ⟨m',hm,i + 1,σ7,H7,I7.unpinned,T.keep _ _ _ st5 fun b hb o e=>(I7.pin (b,o) (List.mem_append_right _ (List.mem_append_right _ (ABV hb e)))).1,fun b hb=>?_,w7⟩
   obtain ⟨o,e,d⟩:=T.obj _ _ st5 b hb
   exact (I7.pin (b,o) (List.mem_append_right _ (List.mem_append_right _ (ABV hb e)))).2.1
  cases f with
  | next=>obtain ⟨σ7,H7,I7,n7⟩:=q7;exact again I7 n7
  | cont=>obtain ⟨σ7,H7,I7,n7⟩:=q7;exact again I7 n7
  | brk=>obtain ⟨σ7,H7,I7,q7⟩:=q7;exact ⟨σ7,H7,I7.unpinned,q7⟩
  | ret v=>obtain ⟨x7,σ7,H7,I7,r7,q7⟩:=q7;exact ⟨x7,σ7,H7,I7.unpinned,r7,q7⟩
end
theorem AMr {K:PySem.W.Frag} {a:Addr} {xs:List V} {g:TG} {tb:TS} {D:Ends} {σ:St} {H:Hp} (Pv:Nat→St→Hp→Prop) (h0:Pv 0 σ H) (hl:∀ i σ H,i≤xs.length→Pv i σ H→SqL K H a xs)
  (hs:∀ i x σ H,xs[i]?=some x→Pv i σ H→g x σ H fun σ2 H2=>tb { D with nx:=Pv (i + 1),ct:=Pv (i + 1),bk:=D.nx } σ2 H2) (hd:∀ σ H,Pv xs.length σ H→D.nx σ H) :
  ∃ W:Nat→Nat→St→Hp→Prop,(∃ m,W 0 m σ H)∧∀ i m σ H,W i m σ H →
   ((Itl K a).stop i H∧D.nx σ H)∨((Itl K a).go i H∧∃ N:St→Hp→Prop,(∀ σ' H',N σ' H'→∃ m',m'<m∧W (i + 1) m' σ' H')∧∀ x H',(Itl K a).yld i H x H'→g x σ H' fun σ2 H2=>tb { D with nx:=N,ct:=N,bk:=D.nx } σ2 H2):=by
 refine ⟨fun i m σ H=>m=xs.length - i∧i≤xs.length∧Pv i σ H,⟨xs.length,by simp,Nat.zero_le _,h0⟩,?_⟩
 rintro i m σ H ⟨rfl,hi,p⟩
 have q:=hl i σ H hi p
 by_cases hlt:i<xs.length
 ·refine .inr ⟨⟨xs,xs[i],q,by simp [hlt]⟩,Pv (i + 1),fun σ' H' p'=>⟨xs.length - (i + 1),by lia,rfl,hlt,p'⟩,fun x H' y=>?_⟩
  obtain ⟨e,y⟩:=y
  subst e
  exact hs i x σ _ (y xs q) p
 ·have e:i=xs.length:=by lia
  subst e
  exact .inl ⟨⟨xs,q,Nat.le_refl _⟩,hd σ H p⟩
theorem AG1 {lo:Int} {n:Nat} {g:TG} {tb:TS} {D:Ends} {σ:St} {H:Hp} (Pv:Nat→St→Hp→Prop) (h0:Pv 0 σ H)
  (hs:∀ i σ H,i<n→Pv i σ H→g (.int (lo + i)) σ H fun σ2 H2=>tb { D with nx:=Pv (i + 1),ct:=Pv (i + 1),bk:=D.nx } σ2 H2) (hd:∀ σ H,Pv n σ H→D.nx σ H) :
  ∃ W:Nat→Nat→St→Hp→Prop,(∃ m,W 0 m σ H)∧∀ i m σ H,W i m σ H →
   ((Itr lo n).stop i H∧D.nx σ H)∨((Itr lo n).go i H∧∃ N:St→Hp→Prop,(∀ σ' H',N σ' H'→∃ m',m'<m∧W (i + 1) m' σ' H')∧∀ x H',(Itr lo n).yld i H x H'→g x σ H' fun σ2 H2=>tb { D with nx:=N,ct:=N,bk:=D.nx } σ2 H2):=by
 refine ⟨fun i m σ H=>m=n - i∧i≤n∧Pv i σ H,⟨n,by simp,Nat.zero_le _,h0⟩,?_⟩
 rintro i m σ H ⟨rfl,hi,p⟩
 by_cases hlt:i<n
 ·refine .inr ⟨hlt,Pv (i + 1),fun σ' H' p'=>⟨n - (i + 1),by lia,rfl,hlt,p'⟩,fun x H' y=>?_⟩
  obtain ⟨e,y⟩:=y
  subst e y
  exact hs i σ _ hlt p
 ·have e:i=n:=by lia
  subst e
  exact .inl ⟨Nat.le_refl _,hd σ H p⟩
noncomputable abbrev R2:=V→V→Hp→VK→Prop
def OpR (X:Cx) (f:Value→Value→Sem Value) (r:R2):Prop :=
 ∀ (pins:List (Addr×Obj)) (s:Shared) (σ:St) (H:Hp) (x y:V) (v u:Value) (Q:VK),Inv X pins σ H s→RelV x v→RelV y u→r x y H Q →
  wpAny (model X.prog X.w) X.A (f v u) (EP X pins σ Q) X.xe s
def UnR (X:Cx) (f:Value→Sem Value) (r:V→Hp→VK→Prop):Prop :=
 ∀ (pins:List (Addr×Obj)) (s:Shared) (σ:St) (H:Hp) (x:V) (v:Value) (Q:VK),Inv X pins σ H s→RelV x v→r x H Q →
  wpAny (model X.prog X.w) X.A (f v) (EP X pins σ Q) X.xe s
def AAs (X:Cx) (f:Value) (r:List V→Hp→VK→Prop):Prop :=
 ∀ (pins:List (Addr×Obj)) (s:Shared) (σ:St) (H:Hp) (xs:List V) (us:List Value) (Q:VK),Inv X pins σ H s→Vals xs us→r xs H Q →
  wpAny (model X.prog X.w) X.A (call f us) (EP X pins σ Q) X.xe s
def tOp (r:R2) (ta tb:TE):TE:=fun σ H Q=>ta σ H fun x H1=>tb σ H1 fun y H2=>r x y H2 Q
def tUn (r:V→Hp→VK→Prop) (ta:TE):TE:=fun σ H Q=>ta σ H fun x H1=>r x H1 Q
noncomputable def rI (C:Int→Int→Prop) (g:Int→Int→V):R2:=fun x y H Q=>∃ i j,x=.int i∧y=.int j∧C i j∧Q (g i j) H
noncomputable def rI0 (g:Int→Int→V):R2:=fun x y H Q=>∃ i j,x=.int i∧y=.int j∧Q (g i j) H
noncomputable def rU (g:Int→V):V→Hp→VK→Prop:=fun x H Q=>∃ i,x=.int i∧Q (g i) H
section
variable {X:Cx} {a b c:Expr} {ta tb tc:TE} {pos:Pos}
theorem binT (ha:PE X a ta) (hb:PE X b tb) {pins:List (Addr×Obj)} {s:Shared} {σ:St} {H:Hp} {R:V→V→Hp→Prop} (I:Inv X pins σ H s)
  (h:ta σ H fun x H1=>tb σ H1 fun y H2=>R x y H2) {Q:Value→Shared→Prop} {f:Value→Value→Sem Value}
  (hf:∀ v u s2 x y H2,Inv X pins σ H2 s2→RelV x v→RelV y u→R x y H2→wpAny (model X.prog X.w) X.A (f v u) Q X.xe s2) :
  wpAny (model X.prog X.w) X.A (eval a X.env) (fun v s₁=>wpAny (model X.prog X.w) X.A (eval b X.env) (fun u s₂=>wpAny (model X.prog X.w) X.A (f v u) Q X.xe s₂) X.xe s₁) X.xe s:=by
 refine thn (ha pins s σ H _ I h) fun v s1 ⟨x,H1,I1,r1,q1⟩=>?_
 refine thn (hb pins s1 σ H1 _ I1 q1) fun u s2 ⟨y,H2,I2,r2,q2⟩=>?_
 exact hf v u s2 x y H2 I2 r1 r2 q2
theorem AAt {op:Operator} {r:R2} (ho:OpR X (binaryOp op) r) (ha:PE X a ta) (hb:PE X b tb):PE X (.BinOp a op b pos) (tOp r ta tb):=by
 intro pins s σ H Q I h
 exact wpAny_BinOp (binT ha hb I h fun v u s2 x y H2 I2 rx ry q=>ho pins s2 σ H2 x y v u Q I2 rx ry q)
theorem AQF {op:UnaryOp} {r:V→Hp→VK→Prop} (ho:UnR X (unaryOp op) r) (ha:PE X a ta):PE X (.UnaryOp op a pos) (tUn r ta):=by
 intro pins s σ H Q I h
 exact UnaryOp_ (thn (ha pins s σ H _ I h) fun v s1 ⟨x,H1,I1,r1,q1⟩=>ho pins s1 σ H1 x v Q I1 r1 q1)
theorem opI {f:Value→Value→Sem Value} {C:Int→Int→Prop} {g:Int→Int→Int}
  (rule:∀ (i j:Int) (t u:Tok) (s:Shared) (Q:Value→Shared→Prop) (E:Value→Shared→Prop),C i j→Q (.int (g i j) s.toks) { s with toks:=s.toks + 1 }→wpAny (model X.prog X.w) X.A (f (.int i t) (.int j u)) Q E s) :
  OpR X f (rI C fun i j=>.int (g i j)):=by
 intro pins s σ H x y v u Q I rx ry h
 obtain ⟨i,j,rfl,rfl,hc,q⟩:=h
 obtain ⟨t,rfl⟩:=rx
 obtain ⟨t',rfl⟩:=ry
 exact rule i j t t' s _ _ hc ⟨.int (g i j),H,I.tok _,⟨_,rfl⟩,q⟩
theorem opI0 {f:Value→Value→Sem Value} {g:Int→Int→Int}
  (rule:∀ (i j:Int) (t u:Tok) (s:Shared) (Q:Value→Shared→Prop) (E:Value→Shared→Prop),Q (.int (g i j) s.toks) { s with toks:=s.toks + 1 }→wpAny (model X.prog X.w) X.A (f (.int i t) (.int j u)) Q E s) :
  OpR X f (rI0 fun i j=>.int (g i j)):=by
 intro pins s σ H x y v u Q I rx ry h
 obtain ⟨i,j,rfl,rfl,q⟩:=h
 obtain ⟨t,rfl⟩:=rx
 obtain ⟨t',rfl⟩:=ry
 exact rule i j t t' s _ _ ⟨.int (g i j),H,I.tok _,⟨_,rfl⟩,q⟩
theorem opB0 {f:Value→Value→Sem Value} {g:Int→Int→Bool}
  (rule:∀ (i j:Int) (t u:Tok) (s:Shared) (Q:Value→Shared→Prop) (E:Value→Shared→Prop),Q (.bool (g i j)) s→wpAny (model X.prog X.w) X.A (f (.int i t) (.int j u)) Q E s) :
  OpR X f (rI0 fun i j=>.bl (g i j)):=by
 intro pins s σ H x y v u Q I rx ry h
 obtain ⟨i,j,rfl,rfl,q⟩:=h
 obtain ⟨t,rfl⟩:=rx
 obtain ⟨t',rfl⟩:=ry
 exact rule i j t t' s _ _ ⟨.bl (g i j),H,I,rfl,q⟩
def CPow (i j:Int):Prop:=0≤j∧j≤1000000∧i.natAbs<2 ^ 64
def CMul (i j:Int):Prop:=(-(2 ^ 64)<i∧i<2 ^ 64)∨(-(2 ^ 64)<j∧j<2 ^ 64)
theorem CMul.ok {i j:Int} (h:CMul i j):IntMulOk i j:=by
 rcases h with ⟨h1,h2⟩ | ⟨h1,h2⟩
 ·exact .of_left (intBits_le_64 h1 h2)
 ·exact .of_right (intBits_le_64 h1 h2)
theorem AKE (k:Nat):(0:Int)≤2 ^ k:=by
 rw [two_pow_cast]
 exact Int.natCast_nonneg _
theorem ABs:OpR X (binaryOp .Add) (rI0 fun i j=>.int (i + j)):=opI0 fun _ _ _ _ _ _ _ q=>add_int q
theorem AFV:OpR X (binaryOp .Sub) (rI0 fun i j=>.int (i - j)):=opI0 fun _ _ _ _ _ _ _ q=>sub_int q
theorem ADP:OpR X (binaryOp .Mult) (rI CMul fun i j=>.int (i * j)):=opI fun _ _ _ _ _ _ _ hc q=>mul_int q hc.ok
theorem ACu:OpR X (binaryOp .Mod) (rI (fun _ j=>0<j) fun i j=>.int (i % j)):=opI fun i j _ _ _ _ _ hc q=>by
 have h1:(0:Int)<j:=hc
 exact mod_int' (by lia) (by rw [Int.fmod_eq_emod_of_nonneg i (by lia)];exact q)
theorem ALL:OpR X (binaryOp .Pow) (rI CPow fun i j=>.int (i ^ j.toNat)):=opI fun _ _ _ _ _ _ _ hc q=>pow_int_small hc.1 hc.2.1 hc.2.2 q
theorem APF:OpR X (binaryOp .RShift) (rI (fun _ j=>0≤j) fun i j=>.int (i / 2 ^ j.toNat)):=opI fun i j _ _ _ _ _ hc q =>
 rshift_int hc (by rw [Int.fdiv_eq_ediv_of_nonneg i (AKE _)];exact q)
theorem unI {f:Value→Sem Value} {g:Int→Int}
  (rule:∀ (i:Int) (t:Tok) (s:Shared) (Q:Value→Shared→Prop) (E:Value→Shared→Prop),Q (.int (g i) s.toks) { s with toks:=s.toks + 1 }→wpAny (model X.prog X.w) X.A (f (.int i t)) Q E s) :
  UnR X f (rU fun i=>.int (g i)):=by
 intro pins s σ H x v Q I rx h
 obtain ⟨i,rfl,q⟩:=h
 obtain ⟨t,rfl⟩:=rx
 exact rule i t s _ _ ⟨.int (g i),H,I.tok _,⟨_,rfl⟩,q⟩
theorem APG:UnR X (unaryOp .USub) (rU fun i=>.int (-i)):=unI fun _ _ _ _ _ q=>neg_int q
end
section
variable {X:Cx} {a b c:Expr} {ta tb tc:TE} {pos:Pos}
theorem ANl:OpR X (compareOp .Lt) (rI0 fun i j=>.bl (decide (i<j))):=opB0 fun _ _ _ _ _ _ _ q=>lt_int q
theorem ANm:OpR X (compareOp .LtE) (rI0 fun i j=>.bl (decide (i≤j))):=opB0 fun _ _ _ _ _ _ _ q=>le_int q
theorem AHr:OpR X (compareOp .Gt) (rI0 fun i j=>.bl (decide (j<i))):=opB0 fun _ _ _ _ _ _ _ q=>gt_int q
theorem AAc (b:Expr) {op:CmpOp} (h:op≠.In:=by decide) (h2:op≠.NotIn:=by decide):behindInMarks op b=false:=by
 have e1:(op == CmpOp.In)=false:=by cases op <;> first | rfl | exact absurd rfl h
 have e2:(op == CmpOp.NotIn)=false:=by cases op <;> first | rfl | exact absurd rfl h2
 cases b <;> simp [behindInMarks,e1,e2]
theorem AOA {op:CmpOp} {r:R2} (ho:OpR X (compareOp op) r) (ha:PE X a ta) (hb:PE X b tb) (hm:behindInMarks op b=false):PE X (.Compare a [op] [b] pos) (tOp r ta tb):=by
 intro pins s σ H Q I h
 exact wpAny_Compare1 (binT ha hb I h fun v u s2 x y H2 I2 rx ry q=>ho pins s2 σ H2 x y v u Q I2 rx ry q) hm
def AKF (t:TE):TT:=fun σ H Q=>t σ H fun x H'=>∃ k,x=.bl k∧Q k H'
theorem ACp {op:CmpOp} {r:R2} (ho:OpR X (compareOp op) r) (ha:PE X a ta) (hb:PE X b tb) (hm:behindInMarks op b=false):PT X (.Compare a [op] [b] pos) (AKF (tOp r ta tb)):=by
 intro pins s σ H Q I h
 refine wpAny_isTrue_Compare1 (thn (ha pins s σ H _ I h) fun v s1 ⟨x,H1,I1,r1,q1⟩=>thn (hb pins s1 σ H1 _ I1 q1) fun u s2 ⟨y,H2,I2,r2,q2⟩ =>
  thn (ho pins s2 σ H2 x y v u _ I2 r1 r2 q2) fun c s3 ⟨z,H3,I3,r3,k,e,q3⟩=>?_) hm
 subst e
 cases r3
 exact wpAny_truthy_bool ⟨H3,I3,q3⟩
theorem ACv:(sizeLine:Nat)<2 ^ 63:=by rw [sizeLine_eq];decide
theorem AFW:OpR X (binaryOp .Add) (fun x y H Q=>∃ i j,x=.str i∧y=.str j∧i.length + j.length≤sizeLine∧Q (.str (i ++ j)) H):=by
 intro pins s σ H x y v u Q I rx ry h
 obtain ⟨i,j,rfl,rfl,hz,q⟩:=h
 obtain ⟨t,rfl⟩:=rx
 obtain ⟨t',rfl⟩:=ry
 exact add_str (fun t' tk=>⟨.str (i ++ j),H,I.tok _,⟨_,rfl⟩,q⟩) hz
theorem AHs {x:V} {us:List Value} (r:Vals [x] us):∃ u,us=[u]∧RelV x u:=by
 cases r with
 | cons r1 r2=>cases r2;exact ⟨_,rfl,r1⟩
theorem AKG {x y:V} {us:List Value} (r:Vals [x,y] us):∃ u w',us=[u,w']∧RelV x u∧RelV y w':=by
 cases r with
 | cons r1 r2 =>
  cases r2 with
  | cons r3 r4=>cases r4;exact ⟨_,_,rfl,r1,r3⟩
theorem ALM (hc:X.calm=true):AAs X (.builtin "max") (fun xs H Q=>∃ i j,xs=[.int i,.int j]∧Q (.int (if j > i then j else i)) H):=by
 intro pins s σ H xs us Q I r h
 obtain ⟨i,j,rfl,q⟩:=h
 obtain ⟨u,w',rfl,⟨t,rfl⟩,⟨t',rfl⟩⟩:=AKG r
 refine max_two_ints (I.ok.hd hc) fun h' tk k=>⟨_,H,I.kept k,?_,q⟩
 by_cases hj:j > i
 ·rw [if_pos hj,if_pos hj];exact ⟨_,rfl⟩
 ·rw [if_neg hj,if_neg hj];exact ⟨_,rfl⟩
theorem ALN (hc:X.calm=true):AAs X (.builtin "min") (fun xs H Q=>∃ i j,xs=[.int i,.int j]∧Q (.int (if j<i then j else i)) H):=by
 intro pins s σ H xs us Q I r h
 obtain ⟨i,j,rfl,q⟩:=h
 obtain ⟨u,w',rfl,⟨t,rfl⟩,⟨t',rfl⟩⟩:=AKG r
 refine min_two_ints (I.ok.hd hc) fun h' tk k=>⟨_,H,I.kept k,?_,q⟩
 by_cases hj:j<i
 ·rw [if_pos hj,if_pos hj];exact ⟨_,rfl⟩
 ·rw [if_neg hj,if_neg hj];exact ⟨_,rfl⟩
end
structure ObjM (h:Heap) (x dx C:Addr) (mA:Str→Option Value):Prop where
 obj:h.get? x=some (PySem.W.instObj C dx)
 ns:h.Ns1 dx mA
 ne:dx≠x
theorem ALO {h:Heap} {dx:Addr} {mA:Str→Option Value} (n:h.Ns1 dx mA):∃ od,h.get? dx=some od∧∀ name,PySem.W.lookIn name od=some (mA name):=by
 obtain ⟨o,es,ep,ho,hd,hk,_,hm⟩:=n
 refine ⟨o,ho,fun name=>?_⟩
 have e:=hm name
 unfold nsFind findBy at e
 rw [←Array.find?_toList] at e
 unfold PySem.W.lookIn
 rw [hd]
 dsimp only
 split
 ·rename_i y q
  rw [q] at e
  exact congrArg some e
 ·rename_i q
  rw [q] at e
  have a:es.toList.any (·.refKey)=false:=by
   rw [List.any_eq_false]
   intro y hy
   obtain ⟨z,t,hkey⟩:=hk y (Array.mem_toList_iff.mp hy)
   simp [DictEntry.refKey,hkey]
  have a':¬ es.toList.any (·.refKey)=true:=by rw [a];exact Bool.false_ne_true
  rw [if_neg a']
  exact congrArg some e
theorem ObjM.look {h:Heap} {x dx C:Addr} {mA:Str→Option Value} (I:ObjM h x dx C mA):∃ od,PySem.W.InstAt h x (PySem.W.instObj C dx) C (some od)∧∀ name,PySem.W.lookIn name od=some (mA name) :=
 let ⟨od,ho,hl⟩:=ALO I.ns
 ⟨od,⟨I.obj,rfl,rfl,ho⟩,hl⟩
section
variable {prog:Program} {w:World} {A:Around} {E:Value→Shared→Prop} {s:Shared} {K:PySem.W.Frag} {x dx C f:Addr} {mA:Str→Option Value} {name:Str} {v:Value}
end
theorem RelO.some_of {v:V} {o:Option Value} (r:RelO (some v) o):∃ u,o=some u∧RelV v u:=by
 cases o with
 | none=>exact (show False from r).elim
 | some u=>exact ⟨u,rfl,r⟩
section
variable {P:Program} {w:World} {H H':Hp} {h h':Heap} {a C dx:Addr} {fs fs':List (Str×V)}
theorem AOB (hok:HOk P w H h) (e:H a=some (.ins C dx fs)):∃ mA,ObjM h a dx C mA∧(∀ f,RelO (fs.lookup f) (mA f))∧PySem.Within mA (fs.map (·.1))∧fs.length≤1000∧H dx=some (.own a):=by
 obtain ⟨d,z,ne,ob,mA,n,r,q⟩:=(show AAe P w H h a (.ins C dx fs) from hok a _ e)
 exact ⟨mA,⟨ob,n,ne⟩,r,q,z,d⟩
end
structure Cls (K:PySem.W.Frag) (C:Addr):Prop where
 pg:PySem.W.plainGet K C Str.empty=true
 hd:PySem.W.hasDictIn K C=true
 po:PySem.W.plainOver K C=true
 sa:PySem.W.findIn K (.ref C) "__setattr__"=some (some (.builtin "object.__setattr__"))
theorem Cls.get {K:PySem.W.Frag} {C:Addr} (c:Cls K C) (f:Str):PySem.W.plainGet K C f=true:=c.pg
structure Con (K:PySem.W.Frag) (C:Addr) (f:Str) (v:V) (u:Value):Prop where
 at_:PySem.W.findIn K (.ref C) f=some (some u)
 rel:RelV v u
 get:PySem.W.specialIn K u "__get__"=some none
 cp:PySem.W.copiedNames.contains f=false
structure Meth (K:PySem.W.Frag) (C:Addr) (m:Str) (f:Addr):Prop where
 at_:PySem.W.findIn K (.ref C) m=some (some (.ref f))
 fn:PySem.W.isFn K (.ref f)=true
 kp:PySem.W.keepIn K (.ref f)=true
section
variable {X:Cx} {pins:List (Addr×Obj)} {σ:St} {H:Hp} {s:Shared} {a C dx:Addr} {fs:List (Str×V)} {f:Str} {v:V} {A:Around} {E:Value→Shared→Prop}
end
def InOp (X:Cx) (op:Operator) (rd:V→V→Hp→VK→Prop):Prop :=
 ∀ (pins:List (Addr×Obj)) (s:Shared) (σ:St) (H:Hp) (x y:V) (u v:Value) (Q:VK),Inv X pins σ H s→RelV x u→RelV y v→rd x y H Q→wpAny (model X.prog X.w) X.A (inplaceOp op u v) (EP X pins σ Q) X.xe s
section
variable {X:Cx} {o e value:Expr} {f:Str} {pos pos' tpos:Pos} {ta tv:TE}
noncomputable def rSub:V→V→Hp→VK→Prop:=fun x y H Q=>∃ i j,x=.int i∧y=.int j∧Q (.int (i - j)) H
theorem APH:InOp X .Sub rSub:=by
 rintro pins s σ H x y u v Q I rx ry ⟨i,j,rfl,rfl,q⟩
 obtain ⟨t,rfl⟩:=(show ∃ t,u=Value.int i t from rx)
 obtain ⟨t',rfl⟩:=(show ∃ t',v=Value.int j t' from ry)
 exact PyProof.Rows.isub_int ⟨.int (i - j),H,I.tok _,⟨_,rfl⟩,q⟩
end
section
variable {X:Cx} {pins:List (Addr×Obj)} {σ:St} {H:Hp} {s:Shared} {A:Around} {E:Value→Shared→Prop} {Q:Value→Shared→Prop} {c:Value} {b:Bool}
inductive TyOf (K:PySem.W.Frag) (H:Hp):V→Value→Prop where
 | non:TyOf K H .non (.type "NoneType")
 | bl (x:Bool):TyOf K H (.bl x) (.type "bool")
 | int (i:Int):TyOf K H (.int i) (.type "int")
 | str (x:Str):TyOf K H (.str x) (.type "str")
 | flt (x:UInt64):TyOf K H (.flt x) (.type "float")
 | lst {a:Addr} {xs:List V} (e:H a=some (.lst xs)):TyOf K H (.ref a) (.type "list")
 | frz {a:Addr} {o:Obj} {xs:List V} (e:H a=some (.frz o (.lst xs))):TyOf K H (.ref a) (.type "list")
 | tup {a:Addr} {xs:List V} (e:H a=some (.tup xs)):TyOf K H (.ref a) (.type "tuple")
 | dK {a:Addr} {kvs:List (Key×V)} (e:H a=some (.dK kvs)):TyOf K H (.ref a) (.type "dict")
 | dT {a:Addr} {kvs:List (List Key×V)} (e:H a=some (.dT kvs)):TyOf K H (.ref a) (.type "dict")
 | ins {a C dx:Addr} {fs:List (Str×V)} (e:H a=some (.ins C dx fs)) (cl:Cls K C) (ha:PySem.W.findIn K (.ref C) "__class__"=some (some (.builtin "object.__class__")))
   (hn:PySem.W.specialIn K (.builtin "object.__class__") "__get__"=some (some (.builtin "getset_descriptor.__get__"))) (htk:PySem.W.takesIn K (.builtin "object.__class__")=some true)
   (hm:PySem.W.mroIn K C (.type "object")=some true):TyOf K H (.ref a) (.ref C)
theorem ALP {x:V} {u t:Value} (I:Inv X pins σ H s) (rx:RelV x u) (ty:TyOf X.K H x t) (e:PySem.W.kitOne X.K t c=some b) (h:∀ tk,Q (.bool b) { s with toks:=tk }) :
  wpAny (model X.prog X.w) A (call (.builtin "isinstance") [u,c]) Q E s:=by
 cases ty with
 | non=>cases (show u=Value.none from rx);exact PySem.W.kia_one PySem.W.kitx_none I.kIn True.intro e (fun z=>nomatch z) h
 | bl y=>cases (show u=Value.bool y from rx);exact PySem.W.kia_one PySem.W.kitx_bool I.kIn True.intro e (fun z=>nomatch z) h
 | int i=>obtain ⟨t,q⟩:=(show ∃ t,u=Value.int i t from rx);cases q;exact PySem.W.kia_one PySem.W.kitx_int I.kIn True.intro e (fun z=>nomatch z) h
 | str y=>obtain ⟨t,q⟩:=(show ∃ t,u=Value.str y t from rx);cases q;exact PySem.W.kia_one PySem.W.kitx_str I.kIn True.intro e (fun z=>nomatch z) h
 | flt y=>obtain ⟨t,q⟩:=(show ∃ t,u=Value.float y t from rx);cases q;exact PySem.W.kia_one PySem.W.kitx_float I.kIn True.intro e (fun z=>nomatch z) h
 | @lst a xs ea =>
  cases (show u=Value.ref a from rx)
  obtain ⟨_,_,n,_,h1⟩:=(show AAe X.prog X.w H s.heap a (.lst xs) from I.hok a _ ea)
  exact PySem.W.kia_one PySem.W.kitx_list I.kIn ⟨_,h1,rfl⟩ e (fun z=>nomatch z) h
 | @frz a ob xs ea =>
  cases (show u=Value.ref a from rx)
  obtain ⟨_,_,_,n,_,h1⟩:=(show AAe X.prog X.w H s.heap a (.frz ob (.lst xs)) from I.hok a _ ea)
  exact PySem.W.kia_one PySem.W.kitx_list I.kIn ⟨_,h1,rfl⟩ e (fun z=>nomatch z) h
 | @tup a xs ea =>
  cases (show u=Value.ref a from rx)
  obtain ⟨_,_,_,p⟩:=(show AAe X.prog X.w H s.heap a (.tup xs) from I.hok a _ ea)
  obtain ⟨o,h1,h2,_⟩:=p
  exact PySem.W.kia_one PySem.W.kitx_tuple I.kIn ⟨o,h1,h2⟩ e (fun z=>nomatch z) h
 | @dK a kvs ea =>
  cases (show u=Value.ref a from rx)
  obtain ⟨_,_,vs,_,p⟩:=(show AAe X.prog X.w H s.heap a (.dK kvs) from I.hok a _ ea)
  obtain ⟨o,es,ep,h1,h2,_⟩:=p
  exact PySem.W.kia_one PySem.W.kitx_dict I.kIn ⟨o,h1,h2.1⟩ e (fun z=>nomatch z) h
 | @dT a kvs ea =>
  cases (show u=Value.ref a from rx)
  obtain ⟨_,_,xs,_,o,es,ep,h1,h2,_⟩:=(show AAe X.prog X.w H s.heap a (.dT kvs) from I.hok a _ ea)
  exact PySem.W.kia_one PySem.W.kitx_dict I.kIn ⟨o,h1,h2.1⟩ e (fun z=>nomatch z) h
 | @ins a C dx fs ea cl ha hn htk hm =>
  cases (show u=Value.ref a from rx)
  obtain ⟨mA,O,_⟩:=AOB I.hok ea
  obtain ⟨od,J,_⟩:=O.look
  exact PySem.W.kia_one (PySem.W.kitx_own (cl.get _) cl.hd ha hn htk hm) I.kIn J e (fun z=>nomatch z) h
end
structure Room (k:Nat) (A:Around):Prop where
 hd:A.handled=none
 dp:A.depth + 3 * k + 5<recursionLimit
 un:A.units + 16 * k + 200<cLine
theorem Room.mono {j k:Nat} {A:Around} (r:Room k A) (h:j≤k):Room j A:=⟨r.hd,by have:=r.dp;lia,by have:=r.un;lia⟩
theorem Room.deeper {k:Nat} {A:Around} (r:Room (k + 1) A) (env:Env):Room k (A.deeper env) :=
 ⟨r.hd,by have:=r.dp;show A.depth + 1 + 3 * k + 5<_;lia,by have:=r.un;show A.units + 3 + 16 * k + 200<_;lia⟩
theorem Room.depth {k:Nat} {A:Around} (r:Room k A):A.depth<recursionLimit:=by have:=r.dp;lia
theorem Room.units {k:Nat} {A:Around} (r:Room k A):A.units + 64<cLine:=by have:=r.un;lia
def tNil:TA:=fun _ H Q=>Q [] H
def ABy (ta:TE) (tr:TA):TA:=fun σ H Q=>ta σ H fun x H1=>tr σ H1 fun xs H2=>Q (x :: xs) H2
section
variable {X:Cx} {e:Expr} {es:List Expr} {te:TE} {t:TA} {pos:Pos}
theorem AAY:PA X [] tNil:=fun _ _ _ _ H Q I h=>Calls.spliced_nil ⟨[],H,I,.nil,h⟩
theorem AAL (ha:PE X e te) (hr:PA X es t) (hs:starEach (e :: es) X.env=(false,eval e X.env) :: starEach es X.env:=by rfl):PA X (e :: es) (ABy te t):=by
 intro pos pins s σ H Q I h
 rw [hs]
 show wpAny _ _ (spliced ((false,eval e X.env) :: backTo pos (starEach es X.env))) _ _ s
 refine Calls.spliced_cons (thn (ha pins s σ H _ I h) fun u s1 ⟨x,H1,I1,r1,q1⟩=>?_)
 exact thn (hr pos pins s1 σ H1 _ I1 q1) fun us s2 ⟨xs,H2,I2,r2,q2⟩=>⟨x :: xs,H2,I2,.cons r1 r2,q2⟩
def tTup (t:TA):TE:=fun σ H Q=>t σ H fun xs H1=>xs.length≤sizeLine∧∀ p,H1 p=none→Q (.ref p) (upd H1 p (.tup xs))
def tLst (t:TA):TE:=fun σ H Q=>t σ H fun xs H1=>xs.length≤sizeLine∧∀ p,H1 p=none→Q (.ref p) (upd H1 p (.lst xs))
theorem API {x1} (h:PA X es t):PE X (.Tuple es x1 pos) (tTup t):=by
 intro pins s σ H Q I hq
 refine wpAny_Tuple_spliced (thn (h pos pins s σ H _ I hq) fun us s1 ⟨xs,H1,I1,r,z,q⟩=>⟨by rw [←r.length];exact z,?_⟩)
 have hf:H1 s1.heap.objs.size=none:=I1.hok.fresh (Nat.le_refl _)
 refine ⟨.ref s1.heap.objs.size,upd H1 s1.heap.objs.size (.tup xs),I1.laid (t':=s1.toks) (fun b u e=>Heap.get?_push_of_some _ e) (Nat.le_refl _) ?_,rfl,q _ hf⟩
 exact ⟨z,us,r,TupO.new _ _⟩
theorem AFX (h:PA X es t):PE X (.List es pos) (tLst t):=by
 intro pins s σ H Q I hq
 refine wpAny_List_spliced (thn (h pos pins s σ H _ I hq) fun us s1 ⟨xs,H1,I1,r,z,q⟩=>⟨by rw [←r.length];exact z,?_⟩)
 have hf:H1 s1.heap.objs.size=none:=I1.hok.fresh (Nat.le_refl _)
 refine ⟨.ref s1.heap.objs.size,upd H1 s1.heap.objs.size (.lst xs),I1.laid (t':=s1.toks) (fun b u e=>Heap.get?_push_of_some _ e) (Nat.le_refl _) ?_,rfl,q _ hf⟩
 exact ⟨z,us,0,r,Heap.get?_push_size _ rfl⟩
end
noncomputable abbrev Sp:=List V→Hp→VK→XK→Prop
noncomputable abbrev CXT:=List Env→Hp→Shared→XK→Value→Shared→Prop
structure Env0 (P:Program) (w:World) (K:PySem.W.Frag) (mg:Str→Option Value) (base:Heap) (A:Around) (outer:List Env) (s:Shared) (H:Hp):Prop where
 frames:A.frames=some outer
 mod:Mod K mg base
 bs:∀ b o,base.get? b=some o→s.heap.get? b=some o∧H b=none
 bsz:base.objs.size≤s.heap.objs.size
 funs:s.heap.FunFrames base outer
 frf:∀ b∈frs outer,H b=none
 hok:HOk P w H s.heap
 bare:AllBare s.gens
def CE (outer:List Env) (P:Program) (w:World) (H:Hp) (s:Shared) (Q:VK) (u:Value) (s':Shared):Prop :=
 ∃ v H',s'.os=s.os∧AllBare s'.gens∧Un (frs outer) [] H H' s.heap s'.heap∧HOk P w H' s'.heap∧RelV v u∧Q v H'
def CR (CX:CXT) (outer:List Env) (P:Program) (w:World) (H:Hp) (s:Shared) (Q:VK) (E:XK) (r:Result) (s':Shared):Prop :=
 match r with
 | .ok (.ret u)=>CE outer P w H s Q u s'
 | .ok _=>False
 | .error e=>CX outer H s E e s'
structure FnOk (P:Program) (w:World) (K:PySem.W.Frag) (mg:Str→Option Value) (base:Heap) (CX:CXT) (k:Nat) (f:Addr) (fd:FuncData) (ps:List Str) (sp:Sp):Prop where
 len:∀ vs H Q E,sp vs H Q E→vs.length=ps.length
 run:∀ (A:Around) (outer:List Env) (s:Shared) (H:Hp) (args:Args) (us:List Value) (vs:List V) (Q:VK) (E:XK),Room k A→Env0 P w K mg base A outer s H→BindsTo s fd args (ps.zip us)→Vals vs us→sp vs H Q E →
  codeAny (model P w) A (.call (.ref f) args) (CR CX outer P w H s Q E) s
theorem FnOk.imp {P:Program} {w:World} {K:PySem.W.Frag} {mg:Str→Option Value} {base:Heap} {CX:CXT} {k:Nat} {f:Addr} {fd:FuncData} {ps:List Str} {sp sp':Sp} (F:FnOk P w K mg base CX k f fd ps sp)
  (h:∀ vs H Q E,sp' vs H Q E→sp vs H Q E):FnOk P w K mg base CX k f fd ps sp' :=
 ⟨fun vs H Q E q=>F.len vs H Q E (h _ _ _ _ q),fun A outer s H args us vs Q E hr he hb hv hs=>F.run A outer s H args us vs Q E hr he hb hv (h _ _ _ _ hs)⟩
section
variable {X:Cx} {pins:List (Addr×Obj)} {σ:St} {H:Hp} {s s':Shared}
theorem Inv.env0 (I:Inv X pins σ H s):Env0 X.prog X.w X.K X.mg X.base X.A X.stack s H :=
 ⟨I.ok.frames,I.ok.mod,I.bs,Nat.le_trans I.ok.bsz I.sz,I.stack,I.stkFree,I.hok,I.bare⟩
theorem Inv.after {Q:VK} {u:Value} (I:Inv X pins σ H s) (h:CE X.stack X.prog X.w H s Q u s'):EP X pins σ Q u s':=by
 obtain ⟨v,H',os,bare,un,hok,r,q⟩:=h
 obtain ⟨hh,g,d,t,os'⟩:=s'
 obtain rfl:os'=s.os:=os
 exact ⟨v,H',I.call (h':=hh) (g':=g) (d':=d) (t':=t) (ch:=[]) un hok bare (fun b z=>absurd z (by simp)),r,q⟩
end
def AFY (sp:Sp) (dvs:List V) (E:XK) (t:TA):TE:=fun σ H Q=>t σ H fun vs H1=>sp (vs ++ dvs) H1 Q E
def AEa (K:PySem.W.Frag) (fd:FuncData) (ps:List Str) (ds:List Value):Prop :=
 ∀ (s:Shared) (us:List Value),K.In s.heap→(us ++ ds).length=ps.length→BindsTo s fd ⟨us,[]⟩ (ps.zip (us ++ ds))
theorem AEa.all {K:PySem.W.Frag} {fd:FuncData} {ps:List Str} (h:∀ us:List Value,us.length=ps.length→bindArgs fd ⟨us,[]⟩=pure (ps.zip us)):AEa K fd ps []:=fun s us _ hl=>by
 rw [List.append_nil] at hl ⊢
 exact .of_eq (h us hl)
def AIA (CX:CXT) (X:Cx) (E:XK):Prop:=∀ (pins:List (Addr×Obj)) (σ:St) (H:Hp) (s:Shared) (e:Value) (s':Shared),Inv X pins σ H s→CX X.stack H s E e s'→X.xe e s'
section
variable {X:Cx} {CX:CXT} {k:Nat} {f C:Addr} {fd:FuncData} {ps:List Str} {sp:Sp} {dvs:List V} {ds:List Value} {E:XK} {x m:Str} {p pos apos:Pos} {e o:Expr} {es:List Expr} {ta:TE} {t:TA}
theorem APJ {pins:List (Addr×Obj)} {σ:St} {H:Hp} {s:Shared} {Q:VK} {us:List Value} {vs:List V} (F:FnOk X.prog X.w X.K X.mg X.base CX k f fd ps sp) (hr:Room k X.A) (hb:AEa X.K fd ps ds) (hd:Vals dvs ds) (hx:AIA CX X E)
  (I:Inv X pins σ H s) (r:Vals vs us) (h:sp (vs ++ dvs) H Q E):wpAny (model X.prog X.w) X.A (call (.ref f) us) (EP X pins σ Q) X.xe s:=by
 have r2:Vals (vs ++ dvs) (us ++ ds):=r.append hd
 have hl:(us ++ ds).length=ps.length:=by rw [←r2.length];exact F.len _ _ _ _ h
 refine wpAny_call (codeAny_mono (F.run X.A X.stack s H ⟨us,[]⟩ (us ++ ds) (vs ++ dvs) Q E hr I.env0 (hb s us I.kIn hl) r2 h) fun r s' hq=>?_)
 cases r with
 | error e=>exact hx pins σ H s e s' I hq
 | ok fl =>
  cases fl with
  | ret u=>exact I.after hq
  | next=>exact False.elim hq
  | brk=>exact False.elim hq
  | cont=>exact False.elim hq
theorem AOC (F:FnOk X.prog X.w X.K X.mg X.base CX k f fd ps sp) (hr:Room k X.A) (hg:Gl X x) (hm:X.mg x=some (.ref f)) (hk:PySem.W.keepIn X.K (.ref f)=true) (hb:AEa X.K fd ps ds) (hd:Vals dvs ds) (hx:AIA CX X E)
  (ha:PA X (e :: es) t) (hdb:(x == ("__debug__":Str))=false:=by decide) (he:starEach (e :: es) X.env=(false,eval e X.env) :: starEach es X.env:=by rfl) (hpl:(backTo pos (starEach es X.env)).any (·.1)=false:=by rfl) :
  PE X (.Call (.Name x p) (e :: es) [] pos) (AFY sp dvs E t):=by
 intro pins s σ H Q I h
 refine wpAny_Call_Name_kw (AN6 I hg hm ?_ hdb)
 refine PySem.W.callWith_K (h₀:=X.base) I.ok.mod.kin hk (thn (ha pos pins s σ H _ I h) fun us s1 ⟨vs,H1,I1,r,q⟩=>⟨I1.kIn,?_⟩) he hpl
 exact APJ F hr hb hd hx I1 r q
structure Mk (K:PySem.W.Frag) (C f:Addr):Prop where
 makes:PySem.W.makesIn K C=true
 init:PySem.W.findIn K (.ref C) "__init__"=some (some (.ref f))
 fn:PySem.W.isFn K (.ref f)=true
 kp:PySem.W.keepIn K (.ref C)=true
end
section
variable {X:Cx} {CX:CXT} {k:Nat} {f C:Addr} {fd:FuncData} {ps ks:List Str} {sp:Sp} {E:XK} {x m:Str} {p pos apos kpos:Pos} {e o:Expr} {es:List Expr} {kws:List Keyword} {te ta:TE} {t tk:TA} {nm:Option Str}
structure KBinds (K:PySem.W.Frag) (fd:FuncData) (ps ks:List Str) (g:List Value→List Value→List Value) (gV:List V→List V→List V):Prop where
 to:∀ (s:Shared) (us ws:List Value),K.In s.heap→(g us ws).length=ps.length→BindsTo s fd ⟨us,ks.zip ws⟩ (ps.zip (g us ws))
 rel:∀ {vs:List V} {us:List Value} {zs:List V} {ws:List Value},Vals vs us→Vals zs ws→Vals (gV vs zs) (g us ws)
variable {g:List Value→List Value→List Value} {gV:List V→List V→List V}
end
structure FnScope (N P:List Str) (sc:Scope):Prop where
 kind:sc.kind=.function
 co:sc.isCoroutine=false
 gen:sc.isGenerator=false
 nd:N.Nodup
 pre:N.take P.length=P
 par:∀ x∈P,sc.names.lookup x=some .local∨sc.names.lookup x=some .cell
 nofree:∀ y∈sc.names,y.2≠.free
theorem AG2 {kindOf:Str→Option NameKind} {x:Str}:∀ {binds:List (Str×Value)} {m:Str→Option Value},(∀ v,(x,v) ∉ binds)→bindL kindOf binds m x=m x
 | [],_,_=>rfl
 | (n,v) :: r,m,h=>by
  unfold bindL
  rw [AG2 fun w hw=>h w (List.mem_cons_of_mem _ hw)]
  split
  ·have:x≠n:=by rintro rfl;exact h v List.mem_cons_self
   simp [this]
  ·rfl
theorem AG3 {kindOf:Str→Option NameKind} {x:Str}:∀ {binds:List (Str×Value)} {m:Str→Option Value},(∀ v,(x,v) ∉ binds)→bindC kindOf binds m x=m x
 | [],_,_=>rfl
 | (n,v) :: r,m,h=>by
  unfold bindC
  rw [AG3 fun w hw=>h w (List.mem_cons_of_mem _ hw)]
  split
  ·rfl
  ·have:x≠n:=by rintro rfl;exact h v List.mem_cons_self
   simp [this]
theorem AG4 {kindOf:Str→Option NameKind} {x:Str} {v:Value}:∀ {P:List Str} {vs:List Value} {i:Nat} {m:Str→Option Value},P.Nodup→P[i]?=some x→vs[i]?=some v→kindOf x=some .local →
  bindL kindOf (P.zip vs) m x=some v
 | [],_,_,_,_,h,_,_=>by simp at h
 | _ :: _,[],_,_,_,_,h,_=>by simp at h
 | p :: P,w :: vs,0,m,nd,h1,h2,hk=>by
  simp at h1 h2;subst h1;subst h2
  show bindL kindOf ((p,w) :: P.zip vs) m p=_
  unfold bindL
  rw [AG2 fun v hv=>(List.nodup_cons.mp nd).1 (List.of_mem_zip hv).1,if_pos hk]
  simp
 | p :: P,w :: vs,i + 1,m,nd,h1,h2,hk=>by
  show bindL kindOf ((p,w) :: P.zip vs) m x=_
  unfold bindL
  exact AG4 (i:=i) (List.nodup_cons.mp nd).2 (by simpa using h1) (by simpa using h2) hk
theorem AG5 {kindOf:Str→Option NameKind} {x:Str} {v:Value}:∀ {P:List Str} {vs:List Value} {i:Nat} {m:Str→Option Value},P.Nodup→P[i]?=some x→vs[i]?=some v→kindOf x≠some .local →
  bindC kindOf (P.zip vs) m x=some v
 | [],_,_,_,_,h,_,_=>by simp at h
 | _ :: _,[],_,_,_,_,h,_=>by simp at h
 | p :: P,w :: vs,0,m,nd,h1,h2,hk=>by
  simp at h1 h2;subst h1;subst h2
  show bindC kindOf ((p,w) :: P.zip vs) m p=_
  unfold bindC
  rw [AG3 fun v hv=>(List.nodup_cons.mp nd).1 (List.of_mem_zip hv).1,if_neg hk]
  simp
 | p :: P,w :: vs,i + 1,m,nd,h1,h2,hk=>by
  show bindC kindOf ((p,w) :: P.zip vs) m x=_
  unfold bindC
  exact AG5 (i:=i) (List.nodup_cons.mp nd).2 (by simpa using h1) (by simpa using h2) hk
noncomputable def start (N:List Str) (vs:List V):St:=vs.map some ++ List.replicate (N.length - vs.length) none
noncomputable def cxOf (CX:CXT) (P:Program) (w:World) (K:PySem.W.Frag) (mg:Str→Option Value) (base:Heap) (N:List Str) (qual:Str) (scope:Scope) (f:Addr) (cd:Value) (A:Around) (outer:List Env) (s:Shared) (H:Hp) (E:XK):Cx where
 prog:=P
 w:=w
 K:=K
 mg:=mg
 base:=base
 A:=A.deeper (envOfC qual scope s.heap.objs.size f cd)
 N:=N
 s₀:=s
 H₀:=H
 env:=envOfC qual scope s.heap.objs.size f cd
 outer:=outer
 stack:=envOfC qual scope s.heap.objs.size f cd :: outer
 ex:=[]
 calm:=true
 fn:=fun _=>true
 pn:=[]
 xe:=fun e s'=>wpAny (model P w) (A.deeper (envOfC qual scope s.heap.objs.size f cd)) (leaving (envOfC qual scope s.heap.objs.size f cd) e) (fun _ s''=>CX outer H s E e s'') (fun e' s''=>CX outer H s E e' s'') s'
theorem AIB {sc:Scope} {n:Nat} {x:Str} (h:sc.names.lookup x=some .cell):∃ c,(cellsFrom n sc.names []).lookup x=some c:=by
 have q:=PySem.W.cellsFrom_some sc.names n [] (.inl h)
 exact Option.isSome_iff_exists.mp q
theorem ALQ {CX:CXT} {P:Program} {w:World} {K:PySem.W.Frag} {mg:Str→Option Value} {base:Heap} {N ps:List Str} {qual:Str} {scope:Scope} {f:Addr} {cd:Value} {A:Around} {outer:List Env} {s s1:Shared} {H:Hp} {E:XK} {us:List Value} {vs:List V}
  (S:FnScope N ps scope) (hd:A.handled=none) (e0:Env0 P w K mg base A outer s H) (hl:vs.length=ps.length) (r:Vals vs us)
  (x:InCallC s s.heap.objs.size (bindL (envOfC qual scope s.heap.objs.size f cd).kindOf (ps.zip us) fun _=>none) (cellsFrom (s.heap.objs.size + 1) scope.names []) (bindC (envOfC qual scope s.heap.objs.size f cd).kindOf (ps.zip us) fun _=>none) s1) :
  Inv (cxOf CX P w K mg base N qual scope f cd A outer s H E) [] (start N vs) H s1:=by
 have hpl:ps.length≤N.length:=by have:=congrArg List.length S.pre;rw [List.length_take] at this;lia
 obtain ⟨h1,tk,rfl,hk⟩:=x.done
 have noA:∀ b:Addr,b ∉ (cxOf CX P w K mg base N qual scope f cd A outer s H E).ex:=fun b z=>absurd (show b∈([]:List Addr) from z) (by simp)
 refine ⟨⟨e0.mod,S.kind,rfl,rfl,Nat.le_refl _,fun y z c h1 h2=>?_,fun y hy=>?_,fun y c _ h=>?_,fun _=>hd,Around.frames_deeper e0.frames,.inr ⟨rfl,rfl⟩,fun b z=>absurd z (noA b),e0.bs,e0.bsz,fun b _ _=>noA b,fun b z=>absurd z (noA b),e0.funs,e0.frf⟩,
  rfl,e0.bare,Un.kept hk,⟨_,x.toInCall.ns,fun i y v h1 h2 h3=>?_⟩,fun y c h=>⟨_,x.cell y c h⟩,e0.hok.fresh (Nat.le_refl _),fun y c h=>?_,fun p hp=>absurd (show p∈([]:List (Addr×Obj)) from hp) (by simp),e0.hok.kept hk,?_⟩
 ·exact name_of_addr x.apart (PySem.mem_of_lookup h1) (PySem.mem_of_lookup h2)
 ·have hy:scope.names.lookup y=some .cell∨scope.names.lookup y=some .free:=hy
  rcases hy with hy | hy
  ·exact AIB hy
  ·exact absurd rfl (S.nofree _ (PySem.mem_of_lookup hy))
 ·exact Nat.le_of_lt (x.above y c (PySem.mem_of_lookup h))
 ·have hi:i<vs.length:=by
   unfold start at h2
   by_cases hi:i<vs.length
   ·exact hi
   ·rw [List.getElem?_append_right (by simpa using hi)] at h2
    rw [List.getElem?_replicate] at h2
    split at h2 <;> cases h2
  have ha:vs[i]?=some v:=by
   unfold start at h2
   rw [List.getElem?_append_left (by simpa using hi),List.getElem?_map] at h2
   cases e:vs[i]? with
   | none=>rw [e] at h2;cases h2
   | some a=>rw [e] at h2;cases h2;rfl
  obtain ⟨u,hu,rv⟩:=r.get ha
  have hp:ps[i]?=some y:=by
   rw [←S.pre,List.getElem?_take_of_lt (by lia)];exact h1
  have ndP:ps.Nodup:=by rw [←S.pre];exact S.nd.sublist (List.take_sublist _ _)
  refine ⟨u,rv,?_⟩
  rcases S.par y (List.mem_of_getElem? hp) with k | k
  ·exact .inl ⟨k,AG4 ndP hp hu k⟩
  ·obtain ⟨c,e⟩:=AIB (n:=s.heap.objs.size + 1) k
   refine .inr ⟨.inl k,c,e,?_⟩
   have q:=x.cell y c e
   rw [AG5 ndP hp hu (by show scope.names.lookup y≠_;rw [k];decide)] at q
   exact q
 ·exact e0.hok.fresh (Nat.le_of_lt (x.above y c (PySem.mem_of_lookup h)))
 ·unfold start
  show _=N.length
  rw [List.length_append,List.length_map,List.length_replicate]
  lia
theorem AQG {CX:CXT} {P:Program} {w:World} {K:PySem.W.Frag} {mg:Str→Option Value} {base:Heap} {k:Nat} {f:Addr} {name qual:Str} {params:Arguments} {body:List Stmt} {scope:Scope} {dV kV doc pm cdv ct oc:Value} {an od:Option Addr}
  {osl:Array (Option Value)} {N ps:List Str} {sp:Sp} (lk:K.lookup f=some ⟨oc,od,.func (PySem.W.fnOf name qual params body scope dV kV doc pm an cdv ct),osl⟩) (hcd:PySem.W.codeIn K cdv qual=true) (S:FnScope N ps scope)
  (len:∀ vs H Q E,sp vs H Q E→vs.length=ps.length)
  (hbody:∀ (A:Around) (outer:List Env) (s:Shared) (H:Hp) (vs:List V) (Q:VK) (E:XK),Room k (A.deeper (envOfC qual scope s.heap.objs.size f cdv))→sp vs H Q E →
   ∃ t,PSs (cxOf CX P w K mg base N qual scope f cdv A outer s H E) body t∧t { nx:=fun _ H'=>Q .non H',rt:=Q } (start N vs) H) :
  FnOk P w K mg base CX (k + 1) f (PySem.W.fnOf name qual params body scope dV kV doc pm an cdv ct) ps sp:=by
 refine ⟨len,fun A outer s H args us vs Q E hr e0 hb r hsp=>?_⟩
 have hl:=len _ _ _ _ hsp
 have KX:K.In s.heap:=e0.mod.kin.keeps fun b o e=>(e0.bs b o e).1
 have lim:s.heap.NoLimit:=e0.mod.nolimit.keeps fun b o e=>(e0.bs b o e).1
 have hkind:∀ y∈ps.zip us,scope.names.lookup y.1=some .local∨(scope.names.lookup y.1=some .cell∧((cellsFrom (s.heap.objs.size + 1) scope.names []).lookup y.1).isSome=true):=fun ⟨n,v⟩ hy=>by
  rcases S.par n (List.of_mem_zip hy).1 with q | q
  ·exact .inl q
  ·exact .inr ⟨q,PySem.W.cellsFrom_some _ _ _ (.inl q)⟩
 refine codeAny_call_function hr.depth (KX _ _ lk) rfl S.co S.gen rfl (PySem.W.codeRec_of KX hcd) (hb _ _ _ _ ?_)
 refine wpAny_newFunctionEnv_cells S.kind hkind fun env he s1 x=>?_
 subst he
 refine ⟨lim.keeps x.toInCall.keep,codeAny_func ?_⟩
 obtain ⟨t,ht,hq⟩:=hbody A outer s H vs Q E (hr.deeper _) hsp
 have I:Inv (cxOf CX P w K mg base N qual scope f cdv A outer s H E) [] (start N vs) H s1:=ALQ S hr.hd e0 hl r x
 refine wpAny_mono (ht [] s1 (start N vs) H _ I hq) (fun fl s' hs=>?_) fun e s' hs=>hs
 have fin:∀ {σ':St} {H':Hp} {v:V} {u:Value},Inv (cxOf CX P w K mg base N qual scope f cdv A outer s H E) [] σ' H' s'→RelV v u→Q v H'→CE outer P w H s Q u s' :=
  fun {σ' H' v u} J rv q=>⟨v,H',J.os,J.bare,J.base,J.hok,rv,q⟩
 cases fl with
 | ret u =>
  obtain ⟨v,σ',H',J,rv,q⟩:=hs
  exact fin J rv q
 | next =>
  obtain ⟨σ',H',J,q⟩:=hs
  exact fin (v:=V.non) (u:=Value.none) J rfl q
 | brk =>
  obtain ⟨_,_,_,q⟩:=hs
  exact False.elim q
 | cont =>
  obtain ⟨_,_,_,q⟩:=hs
  exact False.elim q
section
variable {X:Cx} {x:Str} {p pos:Pos} {e:Expr} {es:List Expr} {t:TA} {id T:String} {r:List V→Hp→VK→Prop}
def tCB (r:List V→Hp→VK→Prop) (t:TA):TE:=fun σ H Q=>t σ H fun vs H1=>r vs H1 Q
theorem ACC (hc:AAs X (.builtin id) r) (hg:Gl X x) (hm:X.mg x=none) (hv:bootBuiltins x=some (.builtin id)) (ha:PA X (e :: es) t) (hn:x≠"__name__":=by decide) (hdb:(x == ("__debug__":Str))=false:=by decide)
  (he:starEach (e :: es) X.env=(false,eval e X.env) :: starEach es X.env:=by rfl) (hpl:(backTo pos (starEach es X.env)).any (·.1)=false:=by rfl):PE X (.Call (.Name x p) (e :: es) [] pos) (tCB r t):=by
 intro pins s σ H Q I h
 refine wpAny_Call_Name_kw (ADy I hg hm hv ?_ hn hdb)
 exact PyProof.Rows.callWith_builtin1 (thn (ha pos pins s σ H _ I h) fun us s1 ⟨vs,H1,I1,r1,q1⟩=>hc pins s1 σ H1 vs us Q I1 r1 q1) he hpl
theorem ADz (hc:AAs X (.type T) r) (hg:Gl X x) (hm:X.mg x=none) (hv:bootBuiltins x=some (.type T)) (ha:PA X (e :: es) t) (hn:x≠"__name__":=by decide) (hdb:(x == ("__debug__":Str))=false:=by decide)
  (he:starEach (e :: es) X.env=(false,eval e X.env) :: starEach es X.env:=by rfl) (hpl:(backTo pos (starEach es X.env)).any (·.1)=false:=by rfl):PE X (.Call (.Name x p) (e :: es) [] pos) (tCB r t):=by
 intro pins s σ H Q I h
 refine wpAny_Call_Name_kw (ADy I hg hm hv ?_ hn hdb)
 exact PyProof.Rows.callWith_type1 (thn (ha pos pins s σ H _ I h) fun us s1 ⟨vs,H1,I1,r1,q1⟩=>hc pins s1 σ H1 vs us Q I1 r1 q1) he hpl
end
end L2
namespace HT
open PySem PyProof.Rows
noncomputable def lexLt:List Int→List Int→Bool
 | [],[]=>false
 | [],_ :: _=>true
 | _ :: _,[]=>false
 | x :: xs,y :: ys=>if x=y then lexLt xs ys else decide (x<y)
theorem lexLt_cons (x y:Int) (xs ys:List Int):lexLt (x :: xs) (y :: ys)=if x=y then lexLt xs ys else decide (x<y):=rfl
theorem AHh:lexLt [] []=false:=rfl
theorem AGS (y:Int) (ys:List Int):lexLt [] (y :: ys)=true:=rfl
theorem AGT (x:Int) (xs:List Int):lexLt (x :: xs) []=false:=rfl
theorem AMs (A:Around) (s:Shared) (a:Int) (t:Tok) (c:Int) (u:Tok):∃ e,SeqAt.EqAt A s (.int a t) (.int c u) e∧(e=true ↔ a=c) :=
 ⟨(a == c),SeqAt.EqAt.int_int a t c u,by simp⟩
theorem AMt (A:Around) (s:Shared) (a:Int) (t:Tok) (c:Int) (u:Tok) (prog:Program) (w:World) (E:Value→Shared→Prop) (Q:Value→Shared→Prop) (h:Q (.bool (decide (a<c))) s) :
  wpAny (model prog w) A (richCompare .Lt (.int a t) (.int c u)) Q E s :=
 (PyProof.Rows.lt_int h:wpAny (model prog w) A (compareOp .Lt (.int a t) (.int c u)) Q E s)
section
open PySem.SeqAt
open PySem.AutoSeq1 (wpAny_loadPart')
open PySem.MeetsSeq PySem.MeetsSeq2 PySem.MeetsSeq3
theorem tuple_lt_ints (l b:Addr) (items items2:Array Value) (n n2:Nat) (dd dd2:Option Addr) (sl sl2:Array (Option Value)) (ns ms:List Int) (hi:IntsAre items.toList ns) (hj:IntsAre items2.toList ms) :
  Meets (Builtin.«tuple.__lt__» ⟨[.ref l,.ref b],[]⟩)
   (fun _ R s=>s.heap.get? l=some { cls:=.type "tuple",dict:=dd,data:=.seq items n,slots:=sl }∧s.heap.get? b=some { cls:=.type "tuple",dict:=dd2,data:=.seq items2 n2,slots:=sl2 } ∧
    R (.ok (.ret (.bool (lexLt ns ms)))) s) :=
 .of_wp fun prog w A R s h=>by
  obtain ⟨hp,g,d,tk,os⟩:=s;obtain ⟨hl,hb,h⟩:=h
  have f2:=AutoSeq1.sub_tuple_tuple
  have z1:items.size=ns.length:=by rw [←hi.length];simp
  have z2:items2.size=ms.length:=by rw [←hj.length];simp
  wp_walk using wpAny_loadPart' hl,wpAny_loadPart' hb,wpAny_forIn_list _ (fun rest b s'=>b.1=none∧s'=⟨hp,g,d,tk,os⟩∧∃ (vs ws:List Value) (ns' ms':List Int),rest=vs.zip ws ∧
   IntsAre vs ns'∧IntsAre ws ms'∧ns'.length + items2.size=ms'.length + items.size∧R (.ok (.ret (.bool (lexLt ns' ms')))) ⟨hp,g,d,tk,os⟩) _
  case turn =>
   rintro ⟨y,x⟩ rest b s' ⟨hb',rfl,vs,ws,ns',ms',hz,hvi,hwi,hlen,hR⟩
   cases hvi with
   | nil=>rw [List.zip_nil_left] at hz;cases hz
   | cons a t hvi' =>
    cases hwi with
    | nil=>rw [List.zip_nil_right] at hz;cases hz
    | cons c u hwi' =>
     rw [List.zip_cons_cons] at hz
     injection hz with hyx hrest
     injection hyx with hy hx
     subst hy hx
     rw [lexLt_cons] at hR
     simp only [List.length_cons] at hlen
     obtain ⟨e,he,hiff⟩:=AMs A.in1 ⟨hp,g,d,tk,os⟩ a t c u
     refine wB (he prog w _ _ ?_)
     cases e with
     | true =>
      rw [if_pos (hiff.mp rfl)] at hR
      wp_walk
      exact ⟨rfl,rfl,_,_,_,_,hrest,hvi',hwi',by lia,hR⟩
     | false =>
      rw [if_neg (fun q=>absurd (hiff.mpr q) Bool.false_ne_true)] at hR
      have hri:=AMt A.in1 ⟨hp,g,d,tk,os⟩ a t c u prog w
      wp_walk using hri
      exact ⟨_,rfl,by simpa using hR⟩
  case fin =>
   rintro ⟨b1,b2⟩ s' ⟨hb',rfl,vs,ws,ns',ms',hz,hvi,hwi,hlen,hR⟩
   simp only at hb'
   subst hb'
   have hv:lexLt ns' ms'=decide (items.size<items2.size):=by
    cases hvi with
    | nil =>
     cases hwi with
     | nil =>
      simp only [List.length_nil] at hlen
      rw [AHh]
      exact (decide_eq_false (by lia)).symm
     | cons c u hw =>
      simp only [List.length_nil,List.length_cons] at hlen
      rw [AGS]
      exact (decide_eq_true (by lia)).symm
    | cons a t hv =>
     cases hwi with
     | nil =>
      simp only [List.length_nil,List.length_cons] at hlen
      rw [AGT]
      exact (decide_eq_false (by lia)).symm
     | cons c u hw =>
      rw [List.zip_cons_cons] at hz
      cases hz
   rw [hv] at hR
   wp_walk
   exact ⟨_,rfl,by simpa [Builtin.Tuple.tupleCompareSizes] using hR⟩
  case h =>
   exact ⟨rfl,rfl,items.toList,items2.toList,ns,ms,rfl,hi,hj,by lia,h⟩
end
section
variable {prog:Program} {w:World} {A:Around} {E:Value→Shared→Prop} {s:Shared}
theorem cat_tup {t b:Addr} {vs ws:List Value} {Q:Value→Shared→Prop} (ht:IsTup s.heap t vs.toArray) (hb:IsTup s.heap b ws.toArray) (hv:vs≠[])
  (h1:ws=[]→Q (.ref t) s) (h2:ws≠[]→Q (.ref s.heap.objs.size) { s with heap:=s.heap.push { cls:=.type "tuple",data:=.seq (vs ++ ws).toArray } })
  (hsz:vs.length + ws.length≤sizeLine):wpAny (model prog w) A (binaryOp .Add (.ref t) (.ref b)) Q E s:=by
 obtain ⟨⟨cls,dd,data,sl⟩,ho,hc,n,hd⟩:=id ht
 obtain ⟨⟨cls2,dd2,data2,sl2⟩,ho2,hc2,n2,hd2⟩:=id hb
 simp only at hc hd hc2 hd2
 subst hc hd hc2 hd2
 have e:vs.toArray ++ ws.toArray=(vs ++ ws).toArray:=by simp
 by_cases hw:ws=[]
 ·exact concat_meets ⟨_,ho,rfl⟩ ⟨_,ho2,rfl⟩ noFill_tuple_add seq_tuple_add PySem.F.slot_tuple_add PySem.F.entry_tuple_add (PySem.F.args_tuple_add_2 _ _)
   (tuple_addW1 t b vs.toArray ws.toArray n n2 dd dd2 sl sl2 (by simpa using hv) (by simp [hw])) ⟨ho,ho2,h1 hw⟩
 ·refine concat_meets ⟨_,ho,rfl⟩ ⟨_,ho2,rfl⟩ noFill_tuple_add seq_tuple_add PySem.F.slot_tuple_add PySem.F.entry_tuple_add (PySem.F.args_tuple_add_2 _ _)
   (tuple_addW2 t b vs.toArray ws.toArray n n2 dd dd2 sl sl2 (by simpa using hv) (by simpa using hw) (by rw [List.size_toArray,List.size_toArray];exact hsz)) ⟨ho,ho2,?_⟩
  rw [e]
  exact h2 hw
noncomputable def sIx (n d:Nat):Option Int→Nat
 | none=>d
 | some v=>if v<0 then (v + (n:Int)).toNat else min v.toNat n
theorem APK (n d:Nat) (hd:d≤n) (o:Option Int):sIx n d o≤n:=by
 cases o with
 | none=>exact hd
 | some v =>
  show (if v<0 then (v + (n:Int)).toNat else min v.toNat n)≤n
  by_cases hv:v<0
  ·rw [if_pos hv];lia
  ·rw [if_neg hv];exact Nat.min_le_right _ _
theorem AJb (v:Int) (n d:Nat):(if v<0 then max (v + (n:Int)) 0 else min v (n:Int))=((sIx n d (some v):Nat):Int):=by
 show (if v<0 then max (v + (n:Int)) 0 else min v (n:Int))=(((if v<0 then (v + (n:Int)).toNat else min v.toNat n):Nat):Int)
 by_cases hv:v<0
 ·simp only [if_pos hv];lia
 ·simp only [if_neg hv];lia
theorem AKH (lo hi:Option Int) (n:Nat):Builtin.Slice.sliceAdjust lo hi 1 (n:Int)=(((sIx n 0 lo:Nat):Int),((sIx n n hi:Nat):Int)):=by
 have h1:¬ ((1:Int)<0):=by lia
 unfold Builtin.Slice.sliceAdjust
 simp only [h1,if_false]
 refine Prod.ext ?_ ?_
 ·cases lo with
  | none=>rfl
  | some v=>exact AJb v n 0
 ·cases hi with
  | none=>rfl
  | some v=>exact AJb v n n
theorem AKI (i j:Nat):Builtin.Slice.slicePlaces (i:Int) (j:Int) 1=j - i:=by
 unfold Builtin.Slice.slicePlaces
 have h1:(1:Int) > 0:=by lia
 simp only [h1,if_true,Int.ediv_one]
 split <;> lia
theorem AFZ {v:Value} {o:Option Int} {Q:Option Int→Shared→Prop} (p:IsPart v o) (h:Q o s):wpAny (model prog w) A (Builtin.Slice.slicePartIndex v) Q E s:=by
 cases p with
 | none=>exact slicePart_none h
 | int i t=>exact slicePart_int h
theorem ACw {sl:Addr} {vl vu:Value} {lo hi:Option Int} {n:Nat} {Q:Int×Int×Nat→Shared→Prop} (hs:s.heap.IsSliceOf sl vl vu .none) (pl:IsPart vl lo) (pu:IsPart vu hi)
  (h:Q (((sIx n 0 lo:Nat):Int),1,sIx n n hi - sIx n 0 lo) s):wpAny (model prog w) A (Builtin.Slice.sliceApplied (.ref sl) (pure (n:Int))) Q E s:=by
 obtain ⟨os,hos,hcs,hds⟩:=id hs
 unfold Builtin.Slice.sliceApplied Builtin.Slice.sliceFields
 refine wB (wB (wpAny_field hos hds (x:=vl) rfl (wB (wpAny_field hos hds (x:=vu) rfl (wB (wpAny_field hos hds (x:=.none) rfl (wP ?_)))))))
 refine wB (slicePart_none ?_)
 show wpAny _ _ (if ((1:Int) == 0)=true then _ else _) _ _ s
 rw [if_neg (by decide)]
 refine wB (AFZ pl (wB (AFZ pu (wB (wP ?_)))))
 show wpAny _ _ (match Builtin.Slice.sliceAdjust lo hi 1 (n:Int) with | (lo,hi)=>pure (lo,(1:Int),Builtin.Slice.slicePlaces lo hi 1)) _ _ s
 rw [AKH lo hi n]
 show wpAny _ _ (pure (((sIx n 0 lo:Nat):Int),(1:Int),Builtin.Slice.slicePlaces ((sIx n 0 lo:Nat):Int) ((sIx n n hi:Nat):Int) 1)) _ _ s
 rw [AKI]
 exact wP h
theorem AMu (xs:Array Value) (i k:Nat):((List.range k).filterMap fun (m:Nat)=>xs[((i:Int) + (m:Int) * 1).toNat]?).toArray=((xs.toList.drop i).take k).toArray:=by
 have e:(fun (m:Nat)=>xs[((i:Int) + (m:Int) * 1).toNat]?)=fun m=>xs[i + m]?:=by
  funext m
  have:((i:Int) + (m:Int) * 1).toNat=i + m:=by lia
  rw [this]
 rw [e]
 have:=pick_run xs i k
 rw [List.filterMap_map] at this
 have e2:((fun x=>xs[x]?) ∘ fun x=>i + x)=fun m=>xs[i + m]?:=rfl
 rw [e2] at this
 rw [this]
theorem getItem_tuple_cut {t sl:Addr} {items:Array Value} {vl vu:Value} {lo hi:Option Int} {Q:Value→Shared→Prop} (ht:IsTup s.heap t items) (hs:s.heap.IsSliceOf sl vl vu .none) (pl:IsPart vl lo) (pu:IsPart vu hi)
  (hw:¬ (sIx items.size 0 lo=0∧sIx items.size items.size hi=items.size))
  (h:Q (.ref s.heap.objs.size) { s with heap:=s.heap.push { cls:=.type "tuple",data:=.seq ((items.toList.drop (sIx items.size 0 lo)).take (sIx items.size items.size hi - sIx items.size 0 lo)).toArray } })
  (hsz:items.size≤sizeLine):wpAny (model prog w) A (getItem (.ref t) (.ref sl)) Q E s:=by
 have htake:sizeOk (.seq ((items.toList.drop (sIx items.size 0 lo)).take (sIx items.size items.size hi - sIx items.size 0 lo)).toArray):=by
  show ((items.toList.drop (sIx items.size 0 lo)).take (sIx items.size items.size hi - sIx items.size 0 lo)).toArray.size≤sizeLine
  rw [List.size_toArray,List.length_take,List.length_drop,Array.length_toList]
  lia
 have hj:sIx items.size items.size hi≤items.size:=APK _ _ (Nat.le_refl _) hi
 obtain ⟨os,hos,hcs,hds⟩:=id hs
 have hTs:s.TypeIs (.ref sl) "slice":=⟨os,hos,hcs⟩
 unfold getItem
 try with_reducible refine wpAny_holding ?_
 first | refine wB (wP ?_) | skip
 refine wB (wpAny_sequenceKey ht.typeIs (by decide) ?_)
 refine wB (wpAny_callSpecial?_slot (name:=Str.ofString "__getitem__") ht.typeIs PyProof.Rows.slot_tuple_getitem
  (wpAny_call_entry PyProof.Rows.slot_tuple_getitem ht.typeIs entry_tuple_getitem ?_ (args_tuple_getitem _ _)))
 show wpAny _ _ (Builtin.Tuple.tupleItemsOf (.ref t) >>= _) _ _ s
 refine wB (tupleItemsOf_ ht ?_)
 refine wB (wpAny_typeOf hTs ?_)
 rw [if_pos (by decide)]
 refine wB (ACw hs pl pu ?_)
 have hno:¬ ((((sIx items.size 0 lo:Nat):Int) == 0 && (1:Int) == 1 && (sIx items.size items.size hi - sIx items.size 0 lo) == items.size)=true):=by
  intro q
  rw [Bool.and_eq_true,Bool.and_eq_true] at q
  have q1:((sIx items.size 0 lo:Nat):Int)=0:=eq_of_beq q.1.1
  have q2:sIx items.size items.size hi - sIx items.size 0 lo=items.size:=eq_of_beq q.2
  exact hw ⟨by lia,by lia⟩
 show wpAny _ _ (if (((sIx items.size 0 lo:Nat):Int) == 0 && (1:Int) == 1 && (sIx items.size items.size hi - sIx items.size 0 lo) == items.size)=true then _ else _) _ _ s
 rw [if_neg hno,AMu]
 first
  | exact wB (m:=Builtin.Tuple.tupleExact _) (wpAny_newObj_type (wP ⟨_,rfl,wP h⟩) htake)
  | exact wB (m:=Builtin.Tuple.tupleExact _) (wpAny_newObj_type (wB (wP (wP ⟨_,rfl,wP h⟩))) htake)
  | exact wB (wB (m:=Builtin.Tuple.tupleExact _) (wpAny_newObj_type (wP (wP ⟨_,rfl,wP h⟩)) htake))
  | exact wB (wB (m:=Builtin.Tuple.tupleExact _) (wpAny_newObj_type (wP ⟨_,rfl,wP h⟩) htake))
end
end HT
namespace L2
open PySem PySem.Spec PyProof.Rows
noncomputable abbrev TO:=St→Hp→(Option Int→Hp→Prop)→Prop
def PO (X:Cx) (e:Option Expr) (t:TO):Prop :=
 ∀ (pins:List (Addr×Obj)) (s:Shared) (σ:St) (H:Hp) (Q:Option Int→Hp→Prop),Inv X pins σ H s→t σ H Q →
  wpAny (model X.prog X.w) X.A (evalPart e X.env) (fun u s'=>∃ o H',Inv X pins σ H' s'∧IsPart u o∧Q o H') X.xe s
noncomputable def AOD:TO:=fun _ H Q=>Q none H
noncomputable def AQH (t:TE):TO:=fun σ H Q=>t σ H fun x H1=>∃ i,x=.int i∧Q (some i) H1
theorem AKJ {ns:List Int}:∀ {us:List Value},Vals (ns.map V.int) us→IntsAre us ns:=by
 induction ns with
 | nil=>intro us r;rw [List.map_nil] at r;cases r;exact .nil
 | cons n ns ih =>
  intro us r
  rw [List.map_cons] at r
  cases r with
  | cons r1 r2 =>
   obtain ⟨t,e⟩:=r1
   subst e
   exact .cons n t (ih r2)
section
variable {X:Cx} {e:Expr} {te:TE} {lo hi:Option Expr} {tl th:TO} {pos p2:Pos}
theorem ADQ:PO X none AOD:=by
 intro pins s σ H Q I h
 rw [evalPart_none]
 exact wP ⟨none,H,I,.none,h⟩
theorem ADR (h:PE X e te):PO X (some e) (AQH te):=by
 intro pins s σ H Q I hw
 rw [evalPart_some]
 refine thn (h pins s σ H _ I hw) fun u s1 ⟨x,H1,I1,r1,q1⟩=>?_
 obtain ⟨i,rfl,q⟩:=q1
 obtain ⟨t,rfl⟩:=r1
 exact ⟨some i,H1,I1,.int i t,q⟩
def SlR (X:Cx) (r:V→Option Int→Option Int→Hp→VK→Prop):Prop :=
 ∀ (pins:List (Addr×Obj)) (s:Shared) (σ:St) (H:Hp) (x:V) (v vl vu:Value) (lo hi:Option Int) (sl:Addr) (Q:VK),Inv X pins σ H s→RelV x v→s.heap.IsSliceOf sl vl vu .none→IsPart vl lo→IsPart vu hi→r x lo hi H Q →
  ∃ T id,typeLookup (.type T) "__getitem__"=pure (some (.builtin id))∧s.TypeIs v T∧wpAny (model X.prog X.w) X.A (getItem v (.ref sl)) (EP X pins σ Q) X.xe s
theorem SlR.or {r r':V→Option Int→Option Int→Hp→VK→Prop} (h:SlR X r) (h':SlR X r'):SlR X (fun x lo hi H Q=>r x lo hi H Q∨r' x lo hi H Q):=by
 intro pins s σ H x v vl vu lo hi sl Q I rx hs pl pu q
 rcases q with q | q
 ·exact h pins s σ H x v vl vu lo hi sl Q I rx hs pl pu q
 ·exact h' pins s σ H x v vl vu lo hi sl Q I rx hs pl pu q
def tSl (r:V→Option Int→Option Int→Hp→VK→Prop) (te:TE) (tl th:TO):TE:=fun σ H Q=>te σ H fun x H1=>tl σ H1 fun l H2=>th σ H2 fun u H3=>r x l u H3 Q
theorem ACx {r:V→Option Int→Option Int→Hp→VK→Prop} (hr:SlR X r) (he:PE X e te) (hl:PO X lo tl) (hu:PO X hi th):PE X (.Subscript e (.Slice lo hi none p2) pos) (tSl r te tl th):=by
 intro pins s σ H Q I h
 refine Subscript_ (thn (he pins s σ H _ I h) fun v s1 ⟨x,H1,I1,r1,q1⟩=>?_)
 refine wpAny_Slice (thn (hl pins s1 σ H1 _ I1 q1) fun vl s2 ⟨l,H2,I2,pl,q2⟩=>thn (hu pins s2 σ H2 _ I2 q2) fun vu s3 ⟨u,H3,I3,pu,q3⟩=>?_)
 rw [evalPart_none]
 refine wP ?_
 have I4:Inv X pins σ H3 { s3 with heap:=s3.heap.push { cls:=.type "slice",data:=.fields #[vl,vu,.none] } }:=I3.kept (t':=s3.toks) fun b ob q=>Heap.get?_push_of_some _ q
 obtain ⟨T,id,hT,ht,hg⟩:=hr pins { s3 with heap:=s3.heap.push { cls:=.type "slice",data:=.fields #[vl,vu,.none] } } σ H3 x v vl vu l u s3.heap.objs.size Q I4 r1 (Heap.IsSliceOf.new ..) pl pu q3
 show wpAny (model X.prog X.w) X.A (subscriptTail e (.Slice lo hi none p2) v (.ref s3.heap.objs.size)) (EP X pins σ Q) X.xe { s3 with heap:=s3.heap.push { cls:=.type "slice",data:=.fields #[vl,vu,.none] } }
 exact tail_any (ops:=[.ref s3.heap.objs.size,v]) ht hT hg (by with_unfolding_all rfl)
noncomputable def cutV (xs:List V) (lo hi:Option Int):List V:=(xs.drop (HT.sIx xs.length 0 lo)).take (HT.sIx xs.length xs.length hi - HT.sIx xs.length 0 lo)
theorem AEw (xs:List V) (lo hi:Option Int):(cutV xs lo hi).length≤xs.length:=by
 unfold cutV
 rw [List.length_take,List.length_drop]
 lia
noncomputable def rSlT (K:PySem.W.Frag):V→Option Int→Option Int→Hp→VK→Prop:=fun x lo hi H Q=>∃ a xs,x=.ref a∧SqT K H a xs ∧
 ¬ (HT.sIx xs.length 0 lo=0∧HT.sIx xs.length xs.length hi=xs.length)∧∀ p,H p=none→Q (.ref p) (upd H p (.tup (cutV xs lo hi)))
theorem APL:SlR X (rSlT X.K):=by
 intro pins s σ H x v vl vu lo hi sl Q I rx hs pl pu h
 obtain ⟨a,xs,rfl,hx,hw,q⟩:=h
 cases rx
 obtain ⟨its,r,ht,hz⟩:=I.tuple hx
 have hlen:its.toArray.size=xs.length:=by rw [List.size_toArray];exact r.length.symm
 refine ⟨"tuple",_,PyProof.Rows.slot_tuple_getitem.lookup,ht.typeIs,?_⟩
 refine HT.getItem_tuple_cut ht hs pl pu (by rw [hlen];exact hw) ?_ (by rw [hlen];exact hz)
 rw [hlen]
 refine ⟨.ref s.heap.objs.size,_,I.laid (t':=s.toks) (o:=.tup (cutV xs lo hi)) (fun b ob q=>Heap.get?_push_of_some _ q) (Nat.le_refl _) ?_,rfl,q _ (I.hok.fresh (Nat.le_refl _))⟩
 exact ⟨Nat.le_trans (AEw xs lo hi) hz,_,(r.drop (HT.sIx xs.length 0 lo)).take (HT.sIx xs.length xs.length hi - HT.sIx xs.length 0 lo),TupO.new _ _⟩
noncomputable def AQI (K:PySem.W.Frag):R2:=fun x y H Q=>∃ a b xs ys,x=.ref a∧y=.ref b∧SqT K H a xs∧SqT K H b ys∧xs≠[]∧xs.length + ys.length≤sizeLine ∧
 (ys=[]→Q (.ref a) H)∧(ys≠[]→∀ p,H p=none→Q (.ref p) (upd H p (.tup (xs ++ ys))))
theorem Vals.nil_iff {xs:List V} {us:List Value} (r:Vals xs us):us=[] ↔ xs=[]:=by
 cases r with
 | nil=>simp
 | cons _ _=>simp
theorem AOE:OpR X (binaryOp .Add) (AQI X.K):=by
 intro pins s σ H x y v u Q I rx ry h
 obtain ⟨a,b,xs,ys,rfl,rfl,ha,hb,hx,hz,q1,q2⟩:=h
 cases rx
 cases ry
 obtain ⟨its,r1,p1,_⟩:=I.tuple ha
 obtain ⟨its2,r2,p2,_⟩:=I.tuple hb
 refine HT.cat_tup p1 p2 (fun z=>hx (r1.nil_iff.mp z)) (fun z=>⟨.ref a,H,I,rfl,q1 (r2.nil_iff.mp z)⟩) (fun z=>?_) (by rw [←r1.length,←r2.length];exact hz)
 refine ⟨.ref s.heap.objs.size,_,I.laid (t':=s.toks) (o:=.tup (xs ++ ys)) (fun b ob q=>Heap.get?_push_of_some _ q) (Nat.le_refl _) ?_,rfl,q2 (fun w=>z (r2.nil_iff.mpr w)) _ (I.hok.fresh (Nat.le_refl _))⟩
 exact ⟨by rw [List.length_append];exact hz,_,r1.append r2,TupO.new _ _⟩
end
noncomputable def ixN (n:Nat) (i:Int):Option Nat:=if 0≤i then (if i<n then some i.toNat else none) else if -(n:Int)≤i then some (i + n).toNat else none
noncomputable def atI {α:Type} (xs:List α) (i:Int):Option α:=(ixN xs.length i).bind fun j=>xs[j]?
theorem AJc {n:Nat} {i:Int} {j:Nat} (h:ixN n i=some j):seqIndex? i n=some j∧j<n∧-(n:Int)≤i∧i<n:=by
 unfold ixN at h
 by_cases h0:0≤i
 ·rw [if_pos h0] at h
  by_cases h1:i<n
  ·rw [if_pos h1] at h
   have e:i.toNat=j:=Option.some.inj h
   exact ⟨by rw [seqIndex_of h0 h1,e],by lia,by lia,h1⟩
  ·rw [if_neg h1] at h;cases h
 ·rw [if_neg h0] at h
  by_cases h1:-(n:Int)≤i
  ·rw [if_pos h1] at h
   have e:(i + n).toNat=j:=Option.some.inj h
   exact ⟨by rw [seqIndex_neg (by lia) h1,e],by lia,h1,by lia⟩
  ·rw [if_neg h1] at h;cases h
theorem AEb {α:Type} {xs:List α} {i:Int} {v:α} (h:atI xs i=some v):∃ j,seqIndex? i xs.length=some j∧xs[j]?=some v∧j<xs.length∧-(xs.length:Int)≤i∧i<xs.length:=by
 unfold atI at h
 cases e:ixN xs.length i with
 | none=>rw [e] at h;cases h
 | some j =>
  rw [e] at h
  obtain ⟨h1,h2,h3,h4⟩:=AJc e
  exact ⟨j,h1,h,h2,h3,h4⟩
theorem ABS {α:Type} {xs:List α} {j:Nat} {v:α} (h:xs[j]?=some v):atI xs (j:Int)=some v:=by
 have hj:j<xs.length:=(List.getElem?_eq_some_iff.mp h).1
 have e:ixN xs.length (j:Int)=some j:=by
  unfold ixN
  rw [if_pos (by lia),if_pos (by lia)];simp
 unfold atI;rw [e];exact h
def AJd (b:Expr):Prop:=∀ o i,subscripted b false o i=operate [o,i] (getItem o i)
def IxR (X:Cx) (r:R2):Prop :=
 ∀ (value slice:Expr) (pins:List (Addr×Obj)) (s:Shared) (σ:St) (H:Hp) (x y:V) (v u:Value) (Q:VK),Inv X pins σ H s→RelV x v→RelV y u→r x y H Q →
  subscripted slice false v u=operate [v,u] (getItem v u)→wpAny (model X.prog X.w) X.A (subscriptTail value slice v u) (EP X pins σ Q) X.xe s
def MtR (X:Cx) (id:String) (r:V→List V→Hp→VK→Prop):Prop :=
 ∀ (pins:List (Addr×Obj)) (s:Shared) (σ:St) (H:Hp) (x:V) (xs:List V) (v:Value) (us:List Value) (Q:VK),Inv X pins σ H s→RelV x v→Vals xs us→r x xs H Q →
  wpAny (model X.prog X.w) X.A (call (.builtin id) (v :: us)) (EP X pins σ Q) X.xe s
section
variable {X:Cx} {a b:Expr} {ta tb:TE} {pos:Pos}
theorem ABW {r:R2} (hr:IxR X r) (ha:PE X a ta) (hb:PE X b tb) (hs:AJd b):PE X (.Subscript a b pos) (tOp r ta tb):=by
 intro pins s σ H Q I h
 exact Subscript_ (binT ha hb I h fun v u s2 x y H2 I2 rx ry q=>hr a b pins s2 σ H2 x y v u Q I2 rx ry q (hs _ _))
noncomputable def rIxL (K:PySem.W.Frag):R2:=fun x y H Q=>∃ p xs i v,x=.ref p∧y=.int i∧SqL K H p xs∧atI xs i=some v∧Q v H
noncomputable def rIxT (K:PySem.W.Frag):R2:=fun x y H Q=>∃ p xs i v,x=.ref p∧y=.int i∧SqT K H p xs∧atI xs i=some v∧Q v H
noncomputable def rIxS:R2:=fun x y H Q=>∃ z i c,x=.str z∧y=.int i∧z.length≤sizeLine∧atI z.cps.toList i=some c∧Q (.str ⟨#[c]⟩) H
theorem AJe:IxR X (rIxL X.K):=by
 intro value slice pins s σ H x y v u Q I rx ry h hs
 obtain ⟨p,xs,i,z,rfl,rfl,hq,he,q⟩:=h
 cases rx
 obtain ⟨t,rfl⟩:=ry
 obtain ⟨its,r,pl,hz⟩:=I.list hq
 obtain ⟨j,h1,h2,h3,h4,h5⟩:=AEb he
 obtain ⟨w,ew,rw'⟩:=r.get h2
 have hl:=r.length
 have hn:=ACv
 have fin:EP X pins σ Q w s:=⟨z,H,I,rw',q⟩
 by_cases h0:0≤i
 ·have hj:i.toNat=j:=by
   rw [seqIndex_of h0 h5] at h1
   exact Option.some.inj h1
  exact item_listR pl.isList h0 (by lia) (by rw [hj];simpa using ew) fin hs
 ·have hj:(i + (its.toArray.size:Int)).toNat=j:=by
   rw [seqIndex_neg (by lia) h4] at h1
   rw [List.size_toArray,←hl]
   exact Option.some.inj h1
  exact subscriptTail_builtinR (x:=w) pl.isList.typeIs slot_list_getitem.lookup
   (wpAny_getItem_list_neg (Q:=fun r s'=>r=w∧EP X pins σ Q r s') pl.isList (by lia) (by rw [List.size_toArray] <;> lia) (by lia) (by rw [hj];simpa using ew) ⟨rfl,fin⟩) hs
theorem APM:IxR X (rIxT X.K):=by
 intro value slice pins s σ H x y v u Q I rx ry h hs
 obtain ⟨p,xs,i,z,rfl,rfl,hq,he,q⟩:=h
 cases rx
 obtain ⟨t,rfl⟩:=ry
 obtain ⟨its,r,pl,hz⟩:=I.tuple hq
 obtain ⟨j,h1,h2,h3,h4,h5⟩:=AEb he
 obtain ⟨w,ew,rw'⟩:=r.get h2
 have hl:=r.length
 have hn:=ACv
 have fin:EP X pins σ Q w s:=⟨z,H,I,rw',q⟩
 exact subscriptTail_builtinR (x:=w) pl.typeIs slot_tuple_getitem.lookup
  (getItem_tuple (j:=j) (Q:=fun r s'=>r=w∧EP X pins σ Q r s') pl (by lia) (by lia) (by rw [List.size_toArray,←hl];exact h1) (by simpa using ew) ⟨rfl,fin⟩) hs
theorem AIC:IxR X rIxS:=by
 intro value slice pins s σ H x y v u Q I rx ry h hs
 obtain ⟨z,i,c,rfl,rfl,hz,he,q⟩:=h
 obtain ⟨t,rfl⟩:=rx
 obtain ⟨t',rfl⟩:=ry
 obtain ⟨j,h1,h2,h3,h4,h5⟩:=AEb he
 have hl:z.cps.toList.length=z.length:=by simp [Str.length]
 rw [hl] at h1 h4 h5
 have hn:=ACv
 exact tail_any (typeIs_str s z t) slot_str_getitem.lookup (getItem_str (c:=c) (by
  have e1:decide (i < -(2 ^ 63:Int))=false:=decide_eq_false (by lia)
  have e2:decide (i ≥ 2 ^ 63)=false:=decide_eq_false (by lia)
  rw [e1,e2,Bool.or_false]) (by rw [h1];simpa using h2) ⟨.str ⟨#[c]⟩,H,I.tok _,⟨_,rfl⟩,q⟩) hs
theorem AKK (its:List Value) (n j:Nat) (u:Value):Obj.mapSeq (·.setIfInBounds j u) { cls:=.type "list",data:=.seq its.toArray n }={ cls:=.type "list",data:=.seq (its.set j u).toArray n }:=by
 simp [Obj.mapSeq]
theorem Inv.lst {pins:List (Addr×Obj)} {σ:St} {H:Hp} {s:Shared} {p:Addr} {xs:List V} (I:Inv X pins σ H s) (h:H p=some (.lst xs)) :
  ∃ (its:List Value) (n:Nat),Vals xs its∧s.heap.get? p=some { cls:=.type "list",data:=.seq its.toArray n }∧xs.length≤sizeLine:=by
 obtain ⟨z,its,n,r,e⟩:=I.hok p _ h
 exact ⟨its,n,r,e,z⟩
theorem Inv.lstUpd {pins:List (Addr×Obj)} {σ:St} {H:Hp} {s:Shared} {p:Addr} {xs ys:List V} {its its':List Value} {n n':Nat} {f:Obj→Obj} (I:Inv X pins σ H s) (h:H p=some (.lst xs))
  (ho:s.heap.get? p=some { cls:=.type "list",data:=.seq its.toArray n }) (hf:f { cls:=.type "list",data:=.seq its.toArray n }={ cls:=.type "list",data:=.seq its'.toArray n' }) (r:Vals ys its') (hz:ys.length≤sizeLine) (t:Nat) :
  Inv X pins σ (upd H p (.lst ys)) { s with heap:=s.heap.update p f,toks:=t }:=by
 have e:(s.heap.update p f).get? p=some { cls:=.type "list",data:=.seq its'.toArray n' }:=by
  rw [Heap.get?_update_self f ho (by rw [hf] <;> rfl),hf]
 refine I.write (x:=p) (e:=p) (by rw [h];trivial) (.inl rfl) (fun b u hb q=>(Heap.get?_update_other _ _ (Ne.symm hb)).trans q) ⟨_,e⟩ ?_
 exact ⟨hz,its',n',r,e⟩
noncomputable def AKL:V→V→V→Hp→(Hp→Prop)→Prop:=fun o i v H Q=>∃ p xs k j,o=.ref p∧i=.int k∧H p=some (.lst xs)∧ixN xs.length k=some j∧Q (upd H p (.lst (xs.set j v)))
theorem ADh:PSet X AKL:=by
 intro pins s σ H o i v ov iv u Q I ro ri rv h
 obtain ⟨p,xs,k,j,rfl,rfl,hp,hj,q⟩:=h
 cases ro
 obtain ⟨t,rfl⟩:=ri
 obtain ⟨its,n,r,ho,hz⟩:=I.lst hp
 obtain ⟨h1,h2,h3,h4⟩:=AJc hj
 have hl:=r.length
 have hn:=ACv
 have I':Inv X pins σ (upd H p (.lst (xs.set j v))) { s with heap:=s.heap.update p (Obj.mapSeq (·.setIfInBounds j u)) } :=
  I.lstUpd hp ho (AKK its n j u) (r.set rv j) (by rw [List.length_set];exact hz) s.toks
 by_cases h0:0≤k
 ·have hk:k.toNat=j:=by
   rw [seqIndex_of h0 h4] at h1
   exact Option.some.inj h1
  exact PySem.W.ki_setAt ho h0 (by lia) (by rw [List.size_toArray,←hl];exact h4) (by rw [hk];exact ⟨_,I',q⟩)
 ·have hk:(k + (its.toArray.size:Int)).toNat=j:=by
   rw [seqIndex_neg (by lia) h3] at h1
   rw [List.size_toArray,←hl]
   exact Option.some.inj h1
  exact PySem.W.ki_setBack ho (by lia) (by rw [List.size_toArray,←hl];exact h3) (by lia) (by rw [hk];exact ⟨_,I',q⟩)
theorem AID (lo hi:Option Int) (n:Nat):(sliceBounds lo hi none n).1=((HT.sIx n 0 lo:Nat):Int)∧(sliceBounds lo hi none n).2.1=((HT.sIx n n hi:Nat):Int)∧(sliceBounds lo hi none n).2.2=1:=by
 refine ⟨?_,?_,rfl⟩
 ·cases lo with
  | none=>simp [sliceBounds,HT.sIx]
  | some i =>
   simp only [sliceBounds,HT.sIx,Option.getD_none,show (1:Int) > 0 by decide,if_true]
   by_cases h:i<0
   ·simp only [h,if_true] <;> lia
   ·simp only [h,if_false] <;> lia
 ·cases hi with
  | none=>simp [sliceBounds,HT.sIx]
  | some i =>
   simp only [sliceBounds,HT.sIx,Option.getD_none,show (1:Int) > 0 by decide,if_true]
   by_cases h:i<0
   ·simp only [h,if_true] <;> lia
   ·simp only [h,if_false] <;> lia
theorem AHi (its:List Value) (lo hi:Option Int):slicePick its.toArray lo hi none=((its.drop (HT.sIx its.length 0 lo)).take (HT.sIx its.length its.length hi - HT.sIx its.length 0 lo)).toArray:=by
 obtain ⟨h1,h2,h3⟩:=AID lo hi its.toArray.size
 unfold slicePick
 rw [h1,h2,h3]
 simp only [sliceRange_one,pick_run,List.size_toArray] <;> rfl
noncomputable def rSlL (K:PySem.W.Frag):V→Option Int→Option Int→Hp→VK→Prop:=fun x lo hi H Q=>∃ a xs,x=.ref a∧SqL K H a xs∧∀ p,H p=none→Q (.ref p) (upd H p (.lst (cutV xs lo hi)))
theorem AEc:SlR X (rSlL X.K):=by
 intro pins s σ H x v vl vu lo hi sl Q I rx hs pl pu h
 obtain ⟨a,xs,rfl,hx,q⟩:=h
 cases rx
 obtain ⟨its,r,ht,hz⟩:=I.list hx
 have hlen:=r.length
 refine ⟨"list",_,slot_list_getitem.lookup,ht.isList.typeIs,?_⟩
 refine wpAny_getItem_list_slice ht.isList hs pl pu .none (by simp) ?_ (by rw [List.size_toArray] <;> lia)
 rw [AHi,←hlen]
 refine ⟨.ref s.heap.objs.size,_,I.laid (t':=s.toks) (o:=.lst (cutV xs lo hi)) (fun b ob q=>Heap.get?_push_of_some _ q) (Nat.le_refl _) ?_,rfl,q _ (I.hok.fresh (Nat.le_refl _))⟩
 exact ⟨Nat.le_trans (AEw xs lo hi) hz,_,0,(r.drop (HT.sIx xs.length 0 lo)).take (HT.sIx xs.length xs.length hi - HT.sIx xs.length 0 lo),Heap.get?_push_size _ rfl⟩
noncomputable def ACi:V→Bool
 | .non=>true
 | .bl _=>true
 | .int _=>true
 | .str _=>true
 | _=>false
noncomputable def eqV:V→V→Bool
 | .non,.non=>true
 | .bl a,.bl b=>a == b
 | .bl a,.int b=>(if a then 1 else 0) == b
 | .int a,.bl b=>a == (if b then 1 else 0)
 | .int a,.int b=>a == b
 | .str a,.str b=>a == b
 | _,_=>false
theorem APN {A:Around} {s:Shared} {y x:V} {u v:Value} (ry:RelV y u) (rx:RelV x v) (fy:ACi y=true) (fx:ACi x=true):SeqAt.EqAt A s u v (eqV y x):=by
 cases y with
 | non =>
  cases ry
  cases x with
  | non=>cases rx;exact SeqAt.EqAt.same _
  | bl b=>cases rx;exact SeqAt.EqAt.none_bool b
  | int b=>obtain ⟨t,rfl⟩:=rx;exact SeqAt.EqAt.none_int b t
  | str b=>obtain ⟨t,rfl⟩:=rx;exact SeqAt.EqAt.none_str b t
  | _=>exact absurd (show false=true from fx) Bool.false_ne_true
 | bl a =>
  cases ry
  cases x with
  | non=>cases rx;exact SeqAt.EqAt.bool_none a
  | bl b=>cases rx;exact SeqAt.EqAt.bool_bool a b
  | int b=>obtain ⟨t,rfl⟩:=rx;exact SeqAt.EqAt.bool_int a b t
  | str b=>obtain ⟨t,rfl⟩:=rx;exact SeqAt.EqAt.bool_str a b t
  | _=>exact absurd (show false=true from fx) Bool.false_ne_true
 | int a =>
  obtain ⟨t',rfl⟩:=ry
  cases x with
  | non=>cases rx;exact SeqAt.EqAt.int_none a t'
  | bl b=>cases rx;exact SeqAt.EqAt.int_bool a t' b
  | int b=>obtain ⟨t,rfl⟩:=rx;exact SeqAt.EqAt.int_int a t' b t
  | str b=>obtain ⟨t,rfl⟩:=rx;exact SeqAt.EqAt.int_str a t' b t
  | _=>exact absurd (show false=true from fx) Bool.false_ne_true
 | str a =>
  obtain ⟨t',rfl⟩:=ry
  cases x with
  | non=>cases rx;exact SeqAt.EqAt.str_none a t'
  | bl b=>cases rx;exact SeqAt.EqAt.str_bool a t' b
  | int b=>obtain ⟨t,rfl⟩:=rx;exact SeqAt.EqAt.str_int a t' b t
  | str b=>obtain ⟨t,rfl⟩:=rx;exact SeqAt.EqAt.str_str a t' b t
  | _=>exact absurd (show false=true from fx) Bool.false_ne_true
 | _=>exact absurd (show false=true from fy) Bool.false_ne_true
noncomputable def eqU (x:V) (u:Value):Bool:=match u with
 | .none=>eqV .non x
 | .bool b=>eqV (.bl b) x
 | .int i _=>eqV (.int i) x
 | .str z _=>eqV (.str z) x
 | _=>false
theorem ALR {x y:V} {u:Value} (r:RelV y u) (f:ACi y=true):eqU x u=eqV y x:=by
 cases y with
 | non=>cases r;rfl
 | bl b=>cases r;rfl
 | int i=>obtain ⟨t,rfl⟩:=r;rfl
 | str z=>obtain ⟨t,rfl⟩:=r;rfl
 | _=>exact absurd (show false=true from f) Bool.false_ne_true
theorem AGU {x:V}:∀ {xs:List V} {us:List Value},Vals xs us→xs.all ACi=true→us.any (eqU x)=xs.any fun y=>eqV y x
 | _,_,.nil,_=>rfl
 | y :: xs,u :: us,.cons r t,f=>by
  rw [List.all_cons,Bool.and_eq_true] at f
  rw [List.any_cons,List.any_cons,ALR r f.1,AGU t f.2]
theorem AE5 {A:Around} {s:Shared} {x:V} {v:Value} (rx:RelV x v) (fx:ACi x=true):∀ {xs:List V} {us:List Value},Vals xs us→xs.all ACi=true→∀ u∈us,SeqAt.EqAt A s u v (eqU x u)
 | _,_,.nil,_=>fun u hu=>by cases hu
 | y :: xs,u :: us,.cons r t,f=>fun u' hu=>by
  rw [List.all_cons,Bool.and_eq_true] at f
  rcases List.mem_cons.mp hu with rfl | hu
  ·rw [ALR r f.1];exact APN r rx f.1 fx
  ·exact AE5 rx fx t f.2 u' hu
noncomputable def inV (x:V) (xs:List V):Bool:=xs.any fun y=>eqV y x
noncomputable def rIn (K:PySem.W.Frag) (neg:Bool):R2:=fun x y H Q=>∃ p xs,y=.ref p∧(SqL K H p xs∨SqT K H p xs)∧ACi x=true∧xs.all ACi=true∧Q (.bl (if neg then !inV x xs else inV x xs)) H
theorem ALS:OpR X (compareOp .In) (rIn X.K false):=by
 intro pins s σ H x y v u Q I rx ry h
 obtain ⟨p,xs,rfl,hq,fx,fs,q⟩:=h
 cases ry
 rcases hq with hq | hq
 ·obtain ⟨its,r,pl,hz⟩:=I.list hq
  refine SeqAt.in_listAt (eqU x) pl.isList (fun w hw=>AE5 rx fx r fs w (by simpa using hw)) ⟨.bl _,H,I,rfl,?_⟩
  rw [show its.toArray.any (eqU x)=its.any (eqU x) by simp,AGU r fs]
  exact q
 ·obtain ⟨its,r,pl,hz⟩:=I.tuple hq
  refine SeqAt.in_tupleAt (eqU x) pl (fun w hw=>AE5 rx fx r fs w (by simpa using hw)) ⟨.bl _,H,I,rfl,?_⟩
  rw [show its.toArray.any (eqU x)=its.any (eqU x) by simp,AGU r fs]
  exact q
theorem AD0:AAs X (.builtin "len") (fun xs H Q=>∃ p ys,xs=[.ref p]∧(SqL X.K H p ys∨SqT X.K H p ys)∧Q (.int ys.length) H):=by
 intro pins s σ H xs us Q I r h
 obtain ⟨p,ys,rfl,hq,q⟩:=h
 obtain ⟨u,rfl,rx⟩:=AHs r
 cases rx
 have hn:=ACv
 rcases hq with hq | hq
 ·obtain ⟨its,r',pl,hz⟩:=I.list hq
  have hlen:=r'.length
  exact Calls.call_len_list pl.isList (by simp only [List.size_toArray] <;> lia) ⟨.int ys.length,H,I.tok _,⟨s.toks + 1,by rw [List.size_toArray,hlen]⟩,q⟩
 ·obtain ⟨its,r',pl,hz⟩:=I.tuple hq
  have hlen:=r'.length
  exact len_tuple pl (by simp only [List.size_toArray] <;> lia) ⟨.int ys.length,H,I.tok _,⟨s.toks + 1,by rw [List.size_toArray,hlen]⟩,q⟩
theorem AD1:AAs X (.builtin "len") (fun xs H Q=>∃ z,xs=[.str z]∧z.length≤sizeLine∧Q (.int z.length) H):=by
 intro pins s σ H xs us Q I r h
 obtain ⟨z,rfl,hz,q⟩:=h
 obtain ⟨u,rfl,t,rfl⟩:=AHs r
 have hn:=ACv
 exact len_str (by lia) ⟨.int z.length,H,I.tok _,⟨_,rfl⟩,q⟩
theorem AIE:AAs X (.type "list") (fun xs H Q=>∃ p ys,xs=[.ref p]∧(SqL X.K H p ys∨SqT X.K H p ys)∧∀ l,H l=none→Q (.ref l) (upd H l (.lst ys))):=by
 intro pins s σ H xs us Q I r h
 obtain ⟨p,ys,rfl,hq,q⟩:=h
 obtain ⟨u,rfl,rx⟩:=AHs r
 cases rx
 have fin:∀ (its:List Value),Vals ys its→ys.length≤sizeLine→∀ (h':Heap) (c':Nat),(∀ b o',s.heap.get? b=some o'→h'.get? b=some o') →
   h'.get? s.heap.objs.size=some { cls:=.type "list",dict:=none,data:=.seq its.toArray c',slots:=#[] }→EP X pins σ Q (.ref s.heap.objs.size) { s with heap:=h' }:=fun its r' hz h' c' kp e =>
  ⟨.ref s.heap.objs.size,_,I.laid (t':=s.toks) kp (Nat.le_refl _) (show AAe X.prog X.w _ h' _ (.lst ys) from ⟨hz,its,c',r',e⟩),rfl,q _ (I.hok.fresh (Nat.le_refl _))⟩
 rcases hq with hq | hq
 ·obtain ⟨its,r',pl,hz⟩:=I.list hq
  have hlen:=r'.length
  obtain ⟨o,ho,hc,n,hd⟩:=pl.isList
  exact call_list_seq p (.inl rfl) ho hc hd (fun h' c' kp e=>fin its r' hz h' c' kp e) (by simp only [List.size_toArray] <;> lia)
 ·obtain ⟨its,r',pl,hz⟩:=I.tuple hq
  have hlen:=r'.length
  obtain ⟨o,ho,hc,n,hd⟩:=pl
  exact call_list_seq p (.inr rfl) ho hc hd (fun h' c' kp e=>fin its r' hz h' c' kp e) (by simp only [List.size_toArray] <;> lia)
theorem AHj:AAs X (.type "tuple") (fun xs H Q=>∃ p ys,xs=[.ref p]∧((SqL X.K H p ys∧∀ l,H l=none→Q (.ref l) (upd H l (.tup ys)))∨(SqT X.K H p ys∧Q (.ref p) H))):=by
 intro pins s σ H xs us Q I r h
 obtain ⟨p,ys,rfl,h⟩:=h
 obtain ⟨u,rfl,rx⟩:=AHs r
 cases rx
 rcases h with ⟨hq,q⟩ | ⟨hq,q⟩
 ·obtain ⟨its,r',pl,hz⟩:=I.list hq
  have hlen:=r'.length
  refine call_tuple_list pl.isList (fun h' kp=>?_) (by simp only [List.size_toArray] <;> lia)
  have I1:Inv X pins σ H { s with heap:=h' }:=I.kept (t':=s.toks) kp
  have I2:Inv X pins σ (upd H h'.objs.size (.tup ys)) { s with heap:=h'.push { cls:=.type "tuple",data:=.seq its.toArray } } :=
   I1.laid (t':=s.toks) (fun b o e=>Heap.get?_push_of_some _ e) (Nat.le_refl _) (show AAe X.prog X.w _ _ _ (.tup ys) from ⟨hz,its,r',TupO.new _ _⟩)
  exact ⟨.ref h'.objs.size,_,I2,rfl,q _ (I1.hok.fresh (Nat.le_refl _))⟩
 ·obtain ⟨its,r',pl,hz⟩:=I.tuple hq
  exact call_tuple_same pl ⟨.ref p,H,I,rfl,q⟩
def tyV (K:PySem.W.Frag) (T:String) (x:V) (H:Hp):Prop:=match x with
 | .str _=>T="str"
 | .int _=>T="int"
 | .ref p=>(T="list"∧∃ xs,SqL K H p xs)∨(T="tuple"∧∃ o,K.lookup p=some o∧o.cls=.type "tuple"∧o.dict=none) ∨
   (T="dict"∧((∃ kvs,H p=some (.dK kvs))∨∃ kvs,H p=some (.dT kvs)))∨(T="set"∧∃ S n,H p=some (.set S n))
 | _=>False
theorem APO {pins:List (Addr×Obj)} {σ:St} {H:Hp} {s:Shared} {T:String} {x:V} {v:Value} (I:Inv X pins σ H s) (r:RelV x v) (ty:tyV X.K T x H) :
  s.TypeIs v T∧∀ a,v=.ref a→∃ ob,s.heap.get? a=some ob∧ob.dict=none:=by
 cases x with
 | str z =>
  obtain ⟨t,rfl⟩:=r
  cases (show T="str" from ty)
  exact ⟨typeIs_str s z t,fun _ e=>nomatch e⟩
 | int i =>
  obtain ⟨t,rfl⟩:=r
  cases (show T="int" from ty)
  exact ⟨typeIs_int s i t,fun _ e=>nomatch e⟩
 | ref p =>
  cases r
  rcases ty with ⟨rfl,xs,hq⟩ | ⟨rfl,o,hk,hc,hd⟩ | ⟨rfl,hk⟩ | ⟨rfl,S,n,hk⟩
  ·obtain ⟨its,_,pl,_⟩:=I.list hq
   refine ⟨pl.isList.typeIs,fun a e=>?_⟩
   cases e
   obtain ⟨o,n,e,c,hd,_⟩:=pl
   exact ⟨o,e,hd⟩
  ·refine ⟨⟨o,I.kIn p o hk,hc⟩,fun a e=>?_⟩
   cases e
   exact ⟨o,I.kIn _ o hk,hd⟩
  ·have z:∃ o,s.heap.get? p=some o∧o.ExactDict:=by
    rcases hk with ⟨kvs,hk⟩ | ⟨kvs,hk⟩
    ·obtain ⟨_,_,_,_,o,_,_,e,ex,_⟩:=I.hok p _ hk
     exact ⟨o,e,ex⟩
    ·obtain ⟨_,_,_,_,o,_,_,e,ex,_⟩:=I.hok p _ hk
     exact ⟨o,e,ex⟩
   obtain ⟨o,e,ex⟩:=z
   refine ⟨⟨o,e,ex.1⟩,fun a e2=>?_⟩
   cases e2
   exact ⟨o,e,ex.2.1⟩
  ·obtain ⟨o,_,_,_,e,ex,_⟩:=I.hok p _ hk
   refine ⟨⟨o,e,ex.1⟩,fun a e2=>?_⟩
   cases e2
   exact ⟨o,e,ex.2.1⟩
 | _=>exact False.elim ty
def tBM (K:PySem.W.Frag) (T:String) (r:V→List V→Hp→VK→Prop) (to:TE) (t:TA):TE:=fun σ H Q=>to σ H fun x H1=>tyV K T x H1∧t σ H1 fun xs H2=>r x xs H2 Q
variable {o e:Expr} {es:List Expr} {to:TE} {t:TA} {name:Str} {apos cpos:Pos} {T id:String} {r:V→List V→Hp→VK→Prop}
theorem AFa (pa:PlainAttrs T) (slot:Slot T name id) (hty:typeOf (.builtin id)=pure (.type "method_descriptor")) (hm:MtR X id r) (ho:PE X o to) (ha:PA X (e :: es) t)
  (hbase:attributeBase o name X.env (eval o X.env)=eval o X.env:=by rfl)
  (hfew:((backTo cpos (starEach (e :: es) X.env)).all (fun x=>!x.1) && (backToKw cpos (keywordEach [] X.env)).all (fun x=>x.1.isSome)
   && decide ((e :: es).length + ([]:List Keyword).length + (if ([]:List Keyword).isEmpty then 0 else 1)<30))=true:=by rfl)
  (hline:(apos.endLine == cpos.line)=true:=by rfl) (hs:starEach (e :: es) X.env=(false,eval e X.env) :: starEach es X.env:=by rfl) (hplain:(backTo cpos (starEach es X.env)).any (·.1)=false:=by rfl) :
  PE X (.Call (.Attribute o name apos) (e :: es) [] cpos) (tBM X.K T r to t):=by
 intro pins s σ H Q I h
 refine wpAny_Call_method_late hbase hfew hline rfl (thn (ho pins s σ H _ I h) fun v s1 ⟨x,H1,I1,r1,ty,q1⟩=>?_)
 obtain ⟨h1,h2⟩:=APO I1 r1 ty
 refine ⟨T,id,pa,slot,hty,h1,h2,?_⟩
 have hA:=ha cpos pins s1 σ H1 _ I1 q1
 rw [hs] at hA ⊢
 refine Calls.callWith_builtin (by show (false || (backTo cpos (starEach es X.env)).any (·.1))=false;rw [hplain] <;> rfl) (Calls.evalArgs_plain ?_)
 exact thn hA fun us s2 ⟨vs,H2,I2,r2,q2⟩=>hm pins s2 σ H2 x vs v us Q I2 r1 r2 q2
end
def MtM (X:Cx) (id:String) (r:V→List V→Hp→VK→Prop):Prop :=
 ∀ (pins:List (Addr×Obj)) (s:Shared) (σ:St) (H:Hp) (x:V) (xs:List V) (v:Value) (us:List Value) (Q:VK),Inv X pins σ H s→RelV x v→Vals xs us→r x xs H Q →
  wpAny (model X.prog X.w) X.A (call (.builtin id) (v :: us)) (EP X pins σ Q) X.xe s
theorem Vals.one {x:V} {us:List Value} (h:Vals [x] us):∃ u,us=[u]∧RelV x u:=by
 cases h with
 | cons r h=>cases h;exact ⟨_,rfl,r⟩
theorem Vals.two {x y:V} {us:List Value} (h:Vals [x,y] us):∃ u v,us=[u,v]∧RelV x u∧RelV y v:=by
 cases h with
 | cons r h=>obtain ⟨v,rfl,q⟩:=Vals.one h;exact ⟨_,_,rfl,r,q⟩
theorem Vals.eraseIdx:∀ {xs:List V} {us:List Value} (i:Nat),Vals xs us→Vals (xs.eraseIdx i) (us.eraseIdx i)
 | _,_,_,.nil=>.nil
 | _,_,0,.cons _ t=>t
 | _,_,i + 1,.cons r t=>.cons r (Vals.eraseIdx i t)
theorem AG6 {α:Type}:∀ (l:List α) (i:Nat),(l.eraseIdx i).length≤l.length
 | [],_=>Nat.le_refl _
 | _ :: _,0=>Nat.le_succ _
 | _ :: r,i + 1=>Nat.succ_le_succ (AG6 r i)
section
variable {X:Cx} {pins:List (Addr×Obj)} {σ:St} {H:Hp} {s:Shared} {l b:Addr} {xs ys zs:List V}
theorem Inv.lset {its its':List Value} {n:Nat} {f:Array Value→Array Value} {t':Nat} (I:Inv X pins σ H s) (hH:H l=some (.lst xs))
  (e:s.heap.get? l=some { cls:=.type "list",data:=.seq its.toArray n }) (hf:f its.toArray=its'.toArray) (hv:Vals ys its') (hz:ys.length≤sizeLine) :
  Inv X pins σ (upd H l (.lst ys)) { s with heap:=s.heap.update l (Obj.mapSeq f),toks:=t' }:=by
 have q:=PySem.IsL.update e f
 rw [hf] at q
 refine I.write (x:=l) (e:=l) (by rw [hH];exact trivial) (.inl rfl) (fun b' u hb hu=>(Heap.get?_update_other s.heap (Obj.mapSeq f) (Ne.symm hb)).trans hu) ⟨_,q⟩ ?_
 exact ⟨hz,its',_,hv,q⟩
theorem Inv.lnew {its:List Value} {t':Nat} (I:Inv X pins σ H s) (hv:Vals ys its) (hz:ys.length≤sizeLine) :
  Inv X pins σ (upd H s.heap.objs.size (.lst ys)) { s with heap:=s.heap.push { cls:=.type "list",data:=.seq its.toArray },toks:=t' } :=
 I.laid (fun _ _ q=>Heap.get?_push_of_some _ q) (Nat.le_refl _) ⟨hz,its,0,hv,Heap.get?_push_size _ rfl⟩
theorem Inv.fresh (I:Inv X pins σ H s):H s.heap.objs.size=none:=I.hok.fresh (Nat.le_refl _)
theorem Inv.lstM (I:Inv X pins σ H s) (hH:H l=some (.lst xs)):xs.length≤sizeLine∧∃ (its:List Value) (n:Nat),Vals xs its∧xs.length=its.length∧s.heap.get? l=some { cls:=.type "list",data:=.seq its.toArray n }:=by
 obtain ⟨z,its,n,r,e⟩:=I.hok l _ hH
 exact ⟨z,its,n,r,r.length,e⟩
theorem AMv {n:Nat} (h:n≤sizeLine):Builtin.List.listTooLong n=false:=by
 unfold Builtin.List.listTooLong
 exact decide_eq_false (by lia)
end
section
variable {X:Cx}
noncomputable def AGV:V→List V→Hp→VK→Prop:=fun x vs H Q=>∃ l xs y,x=.ref l∧vs=[y]∧H l=some (.lst xs)∧xs.length<sizeLine∧Q .non (upd H l (.lst (xs ++ [y])))
theorem ACd:MtM X "list.append" AGV:=by
 intro pins s σ H x vs v us Q I rx rv h
 obtain ⟨l,xs,y,rfl,rfl,hH,hz,q⟩:=h
 cases rx
 obtain ⟨u,rfl,ru⟩:=rv.one
 obtain ⟨z,its,n,r,hl,e⟩:=I.lstM hH
 refine call_meets F.slot_list_append ⟨_,e,rfl⟩ F.entry_list_append (F.args_list_append_2 _ _) (PySem.list_append l its.toArray n u (by rw [List.size_toArray];lia)) ⟨e,?_⟩
 refine ⟨.non,_,I.lset (its':=its ++ [u]) hH e (by simp) (r.append (.cons ru .nil)) ?_,rfl,q⟩
 rw [List.length_append,List.length_singleton]
 lia
noncomputable def AOF:V→List V→Hp→VK→Prop:=fun x vs H Q=>∃ l b xs zs,x=.ref l∧vs=[.ref b]∧H l=some (.lst xs)∧H b=some (.lst zs)∧xs.length + zs.length≤sizeLine∧Q .non (upd H l (.lst (xs ++ zs)))
theorem mt_extend:MtM X "list.extend" AOF:=by
 intro pins s σ H x vs v us Q I rx rv h
 obtain ⟨l,b,xs,zs,rfl,rfl,hH,hB,hz,q⟩:=h
 cases rx
 obtain ⟨u,rfl,ru⟩:=rv.one
 cases ru
 obtain ⟨z,its,n,r,hl,e⟩:=I.lstM hH
 obtain ⟨z2,its2,n2,r2,hl2,e2⟩:=I.lstM hB
 have hsz:its.toArray.size + its2.toArray.size≤sizeLine:=by rw [List.size_toArray,List.size_toArray];lia
 have hlong:¬ (!its.toArray.isEmpty && Builtin.List.listTooLong (its.toArray.size + its2.toArray.size))=true:=by
  rw [AMv hsz,Bool.and_false]
  exact Bool.false_ne_true
 refine call_meets F.slot_list_extend ⟨_,e,rfl⟩ F.entry_list_extend (F.args_list_extend_2 _ _)
  (AutoSeq1.list_extend_list_list_0 l its.toArray n b its2.toArray n2 hlong (by rw [List.size_toArray];lia) (by lia)) ⟨e,e2,?_⟩
 refine ⟨.non,_,I.lset (its':=its ++ its2) hH e (by simp) (r.append r2) ?_,rfl,q⟩
 rw [List.length_append]
 lia
noncomputable def ALT:V→List V→Hp→VK→Prop:=fun x vs H Q=>∃ l xs i k y,x=.ref l∧vs=[.int i]∧H l=some (.lst xs)∧-(2 ^ 63)≤i∧i<2 ^ 63∧seqIndex? i xs.length=some k∧xs[k]?=some y∧Q y (upd H l (.lst (xs.eraseIdx k)))
theorem AMw:MtM X "list.pop" ALT:=by
 intro pins s σ H x vs v us Q I rx rv h
 obtain ⟨l,xs,i,k,y,rfl,rfl,hH,h1,h2,hk,hy,q⟩:=h
 cases rx
 obtain ⟨u,rfl,ru⟩:=rv.one
 obtain ⟨t,rfl⟩:=ru
 obtain ⟨z,its,n,r,hl,e⟩:=I.lstM hH
 obtain ⟨w,hw,rw'⟩:=r.get hy
 refine call_meets F.slot_list_pop ⟨_,e,rfl⟩ F.entry_list_pop (F.args_list_pop_2 _ _)
  (MeetsSeq.list_pop_at l its.toArray n i t k w (fitsIndex_both h1 h2) (by rw [List.size_toArray,←hl];exact hk) (by rw [←Array.getElem?_toList];exact hw) (by rw [List.size_toArray];lia)) ⟨e,?_⟩
 refine ⟨y,_,I.lset (its':=its.eraseIdx k) hH e ?_ (r.eraseIdx k) ?_,rw',q⟩
 ·show its.toArray.eraseIdxIfInBounds k=(its.eraseIdx k).toArray
  rw [List.eraseIdxIfInBounds_toArray]
 ·have:=AG6 xs k
  lia
noncomputable def rCat:R2:=fun x y H Q=>∃ l b xs zs,x=.ref l∧y=.ref b∧H l=some (.lst xs)∧H b=some (.lst zs)∧xs.length + zs.length≤sizeLine∧∀ p,H p=none→Q (.ref p) (upd H p (.lst (xs ++ zs)))
theorem APP:OpR X (binaryOp .Add) rCat:=by
 intro pins s σ H x y v u Q I rx ry h
 obtain ⟨l,b,xs,zs,rfl,rfl,hH,hB,hz,q⟩:=h
 cases rx
 cases ry
 obtain ⟨z,its,n,r,hl,e⟩:=I.lstM hH
 obtain ⟨z2,its2,n2,r2,hl2,e2⟩:=I.lstM hB
 refine PySem.P.add_list e e2 ?_ (by rw [List.size_toArray,List.size_toArray];lia)
 have ea:its.toArray ++ its2.toArray=(its ++ its2).toArray:=by simp
 rw [ea]
 exact ⟨.ref _,_,I.lnew (t':=s.toks) (r.append r2) (by rw [List.length_append];lia),rfl,q _ I.fresh⟩
end
section
variable {prog:Program} {w:World} {A:Around} {E:Value→Shared→Prop} {s:Shared}
end
section
variable {X:Cx}
end
section
variable {κ:Type} [DecidableEq κ]
noncomputable def valV (kvs:List (κ×V)) (k:κ):Option V:=(kvs.find? fun kv=>decide (kv.1=k)).map (·.2)
noncomputable def putK (kvs:List (κ×V)) (k:κ) (v:V):List (κ×V) :=
 if (kvs.any fun kv=>decide (kv.1=k))=true then kvs.map (fun kv=>if kv.1=k then (kv.1,v) else kv) else kvs ++ [(k,v)]
theorem ADi {p:κ×V} {r:List (κ×V)} {k:κ} (e:p.1=k):valV (p :: r) k=some p.2:=by simp [valV,List.find?_cons,e]
theorem AE6 {p:κ×V} {r:List (κ×V)} {k:κ} (e:¬ p.1=k):valV (p :: r) k=valV r k:=by simp [valV,List.find?_cons,e]
theorem AIF (k:κ):∀ kvs:List (κ×V),(kvs.any fun kv=>decide (kv.1=k))=(valV kvs k).isSome
 | []=>rfl
 | p :: r=>by
  rw [List.any_cons]
  by_cases e:p.1=k
  ·simp only [ADi e,decide_eq_true e,Bool.true_or,Option.isSome_some]
  ·rw [AE6 e,decide_eq_false e,Bool.false_or];exact AIF k r
theorem ACY (kvs:List (κ×V)) (k:κ) (v:V):(putK kvs k v).length≤kvs.length + 1:=by
 unfold putK
 split
 ·rw [List.length_map];lia
 ·rw [List.length_append,List.length_cons,List.length_nil];lia
theorem RelO.isSome_eq {o:Option V} {u:Option Value} (r:RelO o u):o.isSome=u.isSome:=by
 cases o with
 | none=>cases u with
  | none=>rfl
  | some _=>exact (show False from r).elim
 | some _=>cases u with
  | none=>exact (show False from r).elim
  | some _=>rfl
theorem RelO.getD {o:Option V} {u:Option Value} {d:V} {d':Value} (r:RelO o u) (rd:RelV d d'):RelV (o.getD d) (u.getD d'):=by
 cases o with
 | none=>cases u with
  | none=>exact rd
  | some _=>exact (show False from r).elim
 | some _=>cases u with
  | none=>exact (show False from r).elim
  | some _=>exact r
theorem KV.val {kvs:List (κ×V)} {vs:List (κ×Value)} (r:KV kvs vs) (k:κ):RelO (valV kvs k) (valueAt vs k):=by
 unfold KV at r
 induction r with
 | nil=>exact True.intro
 | @cons p q ps qs h t ih =>
  obtain ⟨h1,h2⟩:=h
  by_cases e:p.1=k
  ·have e':q.1=k:=h1.symm.trans e
   have b:valueAt (q :: qs) k=some q.2:=by simp [valueAt,List.find?_cons,e']
   rw [ADi e,b];exact h2
  ·have e':¬ q.1=k:=fun z=>e (h1.trans z)
   have b:valueAt (q :: qs) k=valueAt qs k:=by simp [valueAt,List.find?_cons,e']
   rw [AE6 e,b];exact ih
theorem KV.any {kvs:List (κ×V)} {vs:List (κ×Value)} (r:KV kvs vs) (k:κ):(kvs.any fun kv=>decide (kv.1=k))=vs.any fun kv=>decide (kv.1=k):=by
 unfold KV at r
 induction r with
 | nil=>rfl
 | cons h t ih=>rw [List.any_cons,List.any_cons,ih,h.1]
theorem KV.repl {kvs:List (κ×V)} {vs:List (κ×Value)} (r:KV kvs vs) (k:κ) {y:V} {u:Value} (ry:RelV y u) :
  KV (kvs.map fun kv=>if kv.1=k then (kv.1,y) else kv) (vs.map fun kv=>if kv.1=k then (kv.1,u) else kv):=by
 unfold KV at r ⊢
 induction r with
 | nil=>exact .nil
 | @cons p q ps qs h t ih =>
  rw [List.map_cons,List.map_cons]
  refine .cons ?_ ih
  obtain ⟨h1,h2⟩:=h
  by_cases e:p.1=k
  ·rw [if_pos e,if_pos (h1.symm.trans e)];exact ⟨h1,ry⟩
  ·rw [if_neg e,if_neg (fun z=>e (h1.trans z))];exact ⟨h1,h2⟩
theorem KV.put {kvs:List (κ×V)} {vs:List (κ×Value)} (r:KV kvs vs) (k:κ) {y:V} {u:Value} (ry:RelV y u):KV (putK kvs k y) (stored vs k u):=by
 unfold putK stored
 rw [r.any k]
 by_cases e:(vs.any fun kv=>decide (kv.1=k))=true
 ·rw [if_pos e,if_pos e];exact r.repl k ry
 ·rw [if_neg e,if_neg e];exact Paired.snoc r ⟨rfl,ry⟩
theorem KV.length {kvs:List (κ×V)} {vs:List (κ×Value)} (r:KV kvs vs):kvs.length=vs.length:=Paired.length r
end
theorem AHt {P:Program} {w:World} {k:Key} {u:Value} (r:RelV (kV k) u):(AAo P w).is k u=true:=by
 cases k with
 | inl i=>obtain ⟨t,e⟩:=(show ∃ t,u=Value.int i t from r);subst e;exact AJP P w i t
 | inr x=>obtain ⟨t,e⟩:=(show ∃ t,u=Value.str x t from r);subst e;exact AJQ P w x t
theorem AG7 {P:Program} {w:World}:∀ {ks:List Key} {us:List Value},Vals (ks.map kV) us→ItemsAre (AAo P w) ks us
 | [],_,r=>by rw [List.map_nil] at r;cases r;exact .nil
 | k :: ks,_,r=>by
  rw [List.map_cons] at r
  cases r with
  | cons h t=>exact .cons (AHt h) (AG7 t)
noncomputable abbrev KT (H:Hp):List (List Key×V)→List (List Key×Addr×Value)→Prop:=Paired fun p q=>p.1=q.1∧H q.2.1=some (.tup (p.1.map kV))∧RelV p.2 q.2.2
theorem KT.val {H:Hp} {kvs:List (List Key×V)} {xs:List (List Key×Addr×Value)} (r:KT H kvs xs) (k:List Key):RelO (valV kvs k) ((atKey xs k).map (·.2)):=by
 induction r with
 | nil=>exact True.intro
 | @cons p q ps qs h t ih =>
  obtain ⟨h1,_,h2⟩:=h
  by_cases e:p.1=k
  ·have e':q.1=k:=h1.symm.trans e
   have b:atKey (q :: qs) k=some q.2:=by simp [atKey,List.find?_cons,e']
   rw [ADi e,b];exact h2
  ·have e':¬ q.1=k:=fun z=>e (h1.trans z)
   have b:atKey (q :: qs) k=atKey qs k:=by simp [atKey,List.find?_cons,e']
   rw [AE6 e,b];exact ih
theorem KT.repl {H:Hp} {kvs:List (List Key×V)} {xs:List (List Key×Addr×Value)} (r:KT H kvs xs) (k:List Key) {y:V} {u:Value} (ry:RelV y u) :
  KT H (kvs.map fun kv=>if kv.1=k then (kv.1,y) else kv) (xs.map (putAt k u)):=by
 induction r with
 | nil=>exact .nil
 | @cons p q ps qs h t ih =>
  rw [List.map_cons,List.map_cons]
  refine .cons ?_ ih
  obtain ⟨h1,h2,h3⟩:=h
  unfold putAt
  by_cases e:p.1=k
  ·rw [if_pos e,if_pos (h1.symm.trans e)];exact ⟨h1,h2,ry⟩
  ·rw [if_neg e,if_neg (fun z=>e (h1.trans z))];exact ⟨h1,h2,h3⟩
theorem KT.put {H:Hp} {kvs:List (List Key×V)} {xs:List (List Key×Addr×Value)} (r:KT H kvs xs) (k:List Key) {b:Addr} {y:V} {u:Value} (hb:H b=some (.tup (k.map kV))) (ry:RelV y u) :
  KT H (putK kvs k y) (storedH xs k b u):=by
 have e:(kvs.any fun kv=>decide (kv.1=k))=(atKey xs k).isSome:=by
  rw [AIF,(r.val k).isSome_eq,Option.isSome_map]
 unfold putK storedH
 rw [e]
 by_cases q:(atKey xs k).isSome=true
 ·rw [if_pos q,if_pos q];exact r.repl k ry
 ·rw [if_neg q,if_neg q];exact Paired.snoc r ⟨rfl,hb,ry⟩
theorem KT.keeps {H H':Hp} {kvs:List (List Key×V)} {xs:List (List Key×Addr×Value)} (r:KT H kvs xs) (ht:∀ b ys,H b=some (.tup ys)→H' b=some (.tup ys)):KT H' kvs xs :=
 Paired.mapP r fun _ _ z=>⟨z.1,ht _ _ z.2.1,z.2.2⟩
section
variable {P:Program} {w:World} {H:Hp} {h:Heap} {a:Addr}
theorem ANn {u:HO} (ok:HOk P w H h) (e:Rd H a u):AAe P w H h a u:=e.ok ok
theorem AFb {kvs:List (Key×V)} (ok:HOk P w H h) (e:Rd H a (.dK kvs)):kvs.length≤sizeLine∧(a == sysModules)=false∧∃ vs,KV kvs vs∧h.DictOf (AAo P w) a vs :=
 show AAe P w H h a (.dK kvs) from ANn ok e
theorem AQJ {kvs:List (Key×V)} (ok:HOk P w H h) (e:H a=some (.dK kvs)):kvs.length≤sizeLine∧(a == sysModules)=false∧∃ vs,KV kvs vs∧h.DictOf (AAo P w) a vs:=AFb ok (.inl e)
theorem AD2 {ks:List Key} (ok:HOk P w H h) (e:H a=some (.tup (ks.map kV))):(tupleKind (AAo P w)).is h ks a:=by
 obtain ⟨_,its,r,o,h1,h2,⟨n,h3⟩,_⟩:=(show AAe P w H h a (.tup (ks.map kV)) from ok a _ e)
 exact ⟨o,its.toArray,n,h1,h2,h3,by simpa using AG7 r⟩
theorem AFc {kvs:List (List Key×V)} (ok:HOk P w H h) (e:Rd H a (.dT kvs)):kvs.length≤sizeLine∧(a == sysModules)=false ∧
  ∃ xs,KT H kvs xs∧h.DictOfH (tupleKind (AAo P w)) a xs:=by
 obtain ⟨z,y,xs,r,o,es,ep,h1,h2,h3,h4,h5⟩:=(show AAe P w H h a (.dT kvs) from ANn ok e)
 refine ⟨z,y,xs,r,o,es,ep,h1,h2,h3,h4,fun x hx=>?_,h5⟩
 have all:∀ {l:List (List Key×V)} {m:List (List Key×Addr×Value)},KT H l m→∀ x∈m,(tupleKind (AAo P w)).is h x.1 x.2.1:=by
  intro l m q
  induction q with
  | nil=>intro x hx;exact nomatch hx
  | @cons p q ps qs hq t ih =>
   intro x hx
   rcases List.mem_cons.mp hx with e | hx
   ·subst e
    exact AD2 ok (by rw [←hq.1];exact hq.2.1)
   ·exact ih x hx
 exact all r x hx
theorem ANo {kvs:List (List Key×V)} (ok:HOk P w H h) (e:H a=some (.dT kvs)):kvs.length≤sizeLine∧(a == sysModules)=false ∧
  ∃ xs,KT H kvs xs∧h.DictOfH (tupleKind (AAo P w)) a xs:=AFc ok (.inl e)
end
def DGet (H:Hp) (a:Addr) (y:V) (r:Option V):Prop :=
 (∃ kvs k,Rd H a (.dK kvs)∧y=kV k∧r=valV kvs k)∨∃ kvs k b,Rd H a (.dT kvs)∧y=.ref b∧H b=some (.tup (k.map kV))∧r=valV kvs k
def DPut (H:Hp) (a:Addr) (y v:V) (H':Hp):Prop :=
 (∃ kvs k,H a=some (.dK kvs)∧y=kV k∧kvs.length<sizeLine∧H'=upd H a (.dK (putK kvs k v))) ∨
 ∃ kvs k b,H a=some (.dT kvs)∧y=.ref b∧H b=some (.tup (k.map kV))∧kvs.length<sizeLine∧H'=upd H a (.dT (putK kvs k v))
theorem DGet.k {H:Hp} {a:Addr} {kvs:List (Key×V)} {k:Key} (e:H a=some (.dK kvs)):DGet H a (kV k) (valV kvs k):=.inl ⟨kvs,k,.inl e,rfl,rfl⟩
theorem DGet.t {H:Hp} {a b:Addr} {kvs:List (List Key×V)} {k:List Key} (e:H a=some (.dT kvs)) (eb:H b=some (.tup (k.map kV))):DGet H a (.ref b) (valV kvs k):=.inr ⟨kvs,k,b,.inl e,rfl,eb,rfl⟩
theorem DPut.k {H:Hp} {a:Addr} {kvs:List (Key×V)} {k:Key} {v:V} (e:H a=some (.dK kvs)) (hl:kvs.length<sizeLine):DPut H a (kV k) v (upd H a (.dK (putK kvs k v))):=.inl ⟨kvs,k,e,rfl,hl,rfl⟩
theorem DPut.t {H:Hp} {a b:Addr} {kvs:List (List Key×V)} {k:List Key} {v:V} (e:H a=some (.dT kvs)) (eb:H b=some (.tup (k.map kV))) (hl:kvs.length<sizeLine) :
  DPut H a (.ref b) v (upd H a (.dT (putK kvs k v))):=.inr ⟨kvs,k,b,e,rfl,eb,hl,rfl⟩
section
variable {X:Cx} {pins:List (Addr×Obj)} {σ:St} {H:Hp} {s:Shared} {a:Addr} {y v:V} {u r:Value} {o:Option V} {A:Around} {E:Value→Shared→Prop}
theorem Inv.big (I:Inv X pins σ H s):sysModules<s.heap.objs.size:=by
 have h:mainGlobals<s.heap.objs.size:=(I.mod.glob.keeps I.bk).lt
 exact Nat.lt_trans (by decide) h
theorem AG8 {Q:Value→Shared→Prop} (hu:A.units + 1<cLine) (I:Inv X pins σ H s) (g:DGet H a y (some v)) (ry:RelV y u) (h:∀ w' s',Inv X pins σ H s'→RelV v w'→Q w' s') :
  wpAny (model X.prog X.w) A (getItem (.ref a) u) Q E s:=by
 rcases g with ⟨kvs,k,e,ey,l⟩ | ⟨kvs,k,b,e,ey,eb,l⟩
 ·subst ey
  obtain ⟨z,hd,vs,rel,dd⟩:=AFb I.hok e
  obtain ⟨w',hw,rw'⟩:=RelO.some_of (v:=v) (o:=valueAt vs k) (by rw [l];exact rel.val k)
  exact wpAny_getItem_of (AHt ry) dd.mapOf hw (h w' _ (I.tok _) rw')
 ·subst ey
  cases (show u=Value.ref b from ry)
  obtain ⟨z,hd,xs,rel,dd⟩:=AFc I.hok e
  obtain ⟨w',hw,rw'⟩:=RelO.some_of (v:=v) (o:=(atKey xs k).map (·.2)) (by rw [l];exact rel.val k)
  obtain ⟨p,hp,hp2⟩:=Option.map_eq_some_iff.mp hw
  refine wpAny_getItem_heap (tupleKind_room_in1 hu) (AD2 I.hok eb) dd hp ?_
  rw [hp2]
  exact h w' _ (I.tok _) rw'
theorem AGW {h':Heap} {t':Nat} {ob:HO} (I:Inv X pins σ H s) (mu:Mut (H a)) (hs:Heap.SameBut a s.heap h') (he:∃ q,h'.get? a=some q) (new:AAe X.prog X.w (upd H a ob) h' a ob) :
  Inv X pins σ (upd H a ob) { s with heap:=h',toks:=t' } :=
 I.write (x:=a) (e:=a) mu (.inl rfl) (fun b q hb z=>(hs.2 b hb).trans z) he new
theorem APQ {P:Program} {w:World} {H':Hp} {h':Heap} {kvs:List (Key×V)} {vs:List (Key×Value)} (z:kvs.length≤sizeLine) (hd:(a == sysModules)=false) (rel:KV kvs vs) (dd:h'.DictOf (AAo P w) a vs) :
  AAe P w H' h' a (.dK kvs):=⟨z,hd,vs,rel,dd⟩
theorem AG9 {H':Hp} {Q:Unit→Shared→Prop} (hu:A.units + 1<cLine) (I:Inv X pins σ H s) (g:DPut H a y v H') (ry:RelV y u) (rv:RelV v r) (h:∀ s',Inv X pins σ H' s'→Q () s') :
  wpAny (model X.prog X.w) A (setItem (.ref a) u r) Q E s:=by
 rcases g with ⟨kvs,k,e,ey,l,eH⟩ | ⟨kvs,k,b,e,ey,eb,l,eH⟩
 ·subst ey eH
  obtain ⟨z,hd,vs,rel,dd⟩:=AQJ I.hok e
  have hz:vs.length≤sizeLine:=by rw [←rel.length];exact z
  have hl:(putK kvs k v).length≤sizeLine:=by have:=ACY kvs k v;lia
  refine wpAny_setItem_pairs (hsz:=hz) (AHt ry) dd fun h' dd' hs=>h _ ?_
  have he:∃ q,h'.get? a=some q:=let ⟨q,_,_,hq,_⟩:=dd';⟨q,hq⟩
  exact AGW I (by rw [e];exact True.intro) hs he (APQ hl hd (rel.put k rv) dd')
 ·subst ey eH
  cases (show u=Value.ref b from ry)
  obtain ⟨z,hd,xs,rel,dd⟩:=ANo I.hok e
  have hz:xs.length≤sizeLine:=by rw [←Paired.length rel];exact z
  have hl:(putK kvs k v).length≤sizeLine:=by have:=ACY kvs k v;lia
  refine wpAny_setItem_heap (hsz:=hz) (tupleKind_room_in1 hu) (AD2 I.hok eb) dd fun h' dd' hs=>h _ ?_
  obtain ⟨q,es,ep,hq,h2,h3,h4,_,h5⟩:=dd'
  refine AGW I (by rw [e];exact True.intro) hs ⟨q,hq⟩ ⟨hl,hd,_,(rel.put k eb rv).keeps fun c ys ec=>?_,q,es,ep,hq,h2,h3,h4,h5⟩
  rw [AAE (AEY ec e (fun z=>nomatch z))]
  exact ec
end
section
variable {X:Cx} {pins:List (Addr×Obj)} {σ:St} {H:Hp} {s:Shared} {a:Addr} {kvs:List (Key×V)} {k:Key} {u:Value} {A:Around} {E:Value→Shared→Prop}
end
def NoSl (i:Expr):Prop:=∀ ov iv,subscripted i false ov iv=operate [ov,iv] (getItem ov iv)
theorem AOG {prog:Program} {w:World} {A:Around} {E:Value→Shared→Prop} {s:Shared} {env:Env} {value slice:Expr} {pos:Pos} {T id:String} {Q:Value→Shared→Prop}
  (hl:typeLookup (.type T) "__getitem__"=pure (some (.builtin id))) (hs:NoSl slice)
  (h:wpAny (model prog w) A (eval value env) (fun o s₁=>wpAny (model prog w) A (eval slice env) (fun i s₂=>s₂.TypeIs o T∧wpAny (model prog w) A (getItem o i) Q E s₂) E s₁) E s) :
  wpAny (model prog w) A (eval (.Subscript value slice pos) env) Q E s:=by
 refine Subscript_ (wpAny_mono h (fun o s₁ h₁=>wpAny_mono h₁ (fun i s₂ h₂=>?_) fun _ _ x=>x) fun _ _ x=>x)
 obtain ⟨hT,h₂⟩:=h₂
 unfold subscriptTail
 refine wB ?_
 rw [getitemInPython_of_ne hT.not_modules]
 refine wB (wpAny_specialOf hT hl ?_)
 have fin:wpAny (model prog w) A (subscripted slice false o i) (fun r s₃=>wpAny (model prog w) A (letTemporaryGo value o r >>= fun _=>pure r) Q E s₃) E s₂:=by
  rw [hs o i]
  exact wpAny_operating (wpAny_mono h₂ (fun r s₃ h₃=>wB (wpAny_letTemporaryGo (wP h₃))) fun _ _ x=>x)
 first
  | exact wP (wB fin)
  | exact wB (wP (wB fin))
  | exact wB fin
theorem AJR {X:Cx} {pins:List (Addr×Obj)} {σ:St} {H:Hp} {s:Shared} {a:Addr} {y:V} {o:Option V} (I:Inv X pins σ H s) (g:DGet H a y o):s.TypeIs (.ref a) "dict":=by
 rcases g with ⟨kvs,k,e,_,_⟩ | ⟨kvs,k,b,e,_,_,_⟩
 ·obtain ⟨_,_,vs,_,dd⟩:=AFb I.hok e
  exact dd.typeIs
 ·obtain ⟨_,_,xs,_,dd⟩:=AFc I.hok e
  exact dd.typeIs
def AQK (td ty:TE):TE:=fun σ H Q=>td σ H fun x H1=>ty σ H1 fun y H2=>∃ a v,x=.ref a∧DGet H2 a y (some v)∧Q v H2
def ANp (td ty tv:TE):TS:=fun D σ H=>tv σ H fun v H1=>td σ H1 fun x H2=>ty σ H2 fun y H3=>∃ a H4,x=.ref a∧DPut H3 a y v H4∧D.nx σ H4
def ANq (td ty tv:TE) (rd:V→V→Hp→VK→Prop):TS:=fun D σ H=>td σ H fun x H1=>ty σ H1 fun y H2=>∃ a v,x=.ref a∧DGet H2 a y (some v) ∧
 tv σ H2 fun y2 H3=>rd v y2 H3 fun z H4=>∃ H5,DPut H4 a y z H5∧D.nx σ H5
section
variable {X:Cx} {o i e value:Expr} {pos pos' tpos:Pos} {td ty tv:TE}
theorem AOH (hu:X.A.units + 1<cLine) (ho:PE X o td) (hi:PE X i ty) (hs:NoSl i):PE X (.Subscript o i pos) (AQK td ty):=by
 intro pins s σ H Q I h
 refine AOG PySem.F.slot_dict_getitem.lookup hs (thn (ho pins s σ H _ I h) fun u s1 ⟨x,H1,I1,rx,q1⟩=>thn (hi pins s1 σ H1 _ I1 q1) fun iv s2 ⟨y,H2,I2,ry,a,v,ex,g,q2⟩=>?_)
 subst ex
 obtain rfl:u=Value.ref a:=rx
 exact ⟨AJR I2 g,AG8 hu I2 g ry fun w' s3 I3 rw'=>⟨v,H2,I3,rw',q2⟩⟩
theorem AOI (hu:X.A.units + 1<cLine) (ho:PE X o td) (hi:PE X i ty) (hv:PE X value tv) (hs:swapsWith value (some (.Subscript o i pos')) pos.line X.env=pure false) :
  PS X (.Assign [.Subscript o i pos'] value pos) (ANp td ty tv):=by
 intro pins s σ H D I h
 refine wpAny_Assign_Subscript (thn (hv pins s σ H _ I h) fun r s1 ⟨v,H1,I1,rv,q1⟩=>thn (ho pins s1 σ H1 _ I1 q1) fun u s2 ⟨x,H2,I2,rx,q2⟩=>thn (hi pins s2 σ H2 _ I2 q2) fun iv s3 ⟨y,H3,I3,ry,a,H4,ex,g,q3⟩=>?_) hs
 subst ex
 obtain rfl:u=Value.ref a:=rx
 exact AG9 hu I3 g ry rv fun s4 I4=>⟨σ,H4,I4,q3⟩
theorem AOJ {op:Operator} {rd:V→V→Hp→VK→Prop} (hu:X.A.units + 1<cLine) (ho:PE X o td) (hi:PE X i ty) (hv:PE X value tv) (hop:InOp X op rd)
  (ha:∀ ov iv new,augStore i ov iv new=(do holding [new,ov,iv] (setItem ov iv new);release [new,ov,iv] [];pure .next)):PS X (.AugAssign (.Subscript o i tpos) op value pos) (ANq td ty tv rd):=by
 intro pins s σ H D I h
 refine wpAny_AugAssign_SubscriptAny (thn (ho pins s σ H _ I h) fun u s1 ⟨x,H1,I1,rx,q1⟩=>thn (hi pins s1 σ H1 _ I1 q1) fun iv s2 ⟨y,H2,I2,ry,a,v,ex,g,q2⟩=>?_) ha
 subst ex
 obtain rfl:u=Value.ref a:=rx
 refine AG8 hu I2 g ry fun w' s3 I3 rw'=>thn (hv pins s3 σ H2 _ I3 q2) fun w2 s4 ⟨y2,H3,I4,ry2,q3⟩=>thn (hop pins s4 σ H3 v y2 w' w2 _ I4 rw' ry2 q3) fun w3 s5 ⟨z,H4,I5,rz,H5,g5,q4⟩=>?_
 exact AG9 hu I5 g5 ry rz fun s6 I6=>⟨σ,H5,I6,q4⟩
end
theorem AIG {P:Program} {w:World} {H:Hp} (h:Heap) (hb:sysModules<h.objs.size):AAe P w H (h.push { cls:=.type "dict",data:=.dict #[] }) h.objs.size (.dT []) :=
 ⟨Nat.zero_le _,beq_eq_false_iff_ne.mpr (Ne.symm (Nat.ne_of_lt hb)),[],.nil,_,#[],0,Heap.get?_push_size _ rfl,⟨rfl,rfl,rfl⟩,rfl,rfl,List.nodup_nil⟩
def APR:TE:=fun _ H Q=>∀ p,H p=none→Q (.ref p) (upd H p (.dT []))
section
variable {X:Cx} {pos:Pos}
theorem AMx:PE X (.Dict [] [] pos) APR:=fun pins s σ H Q I h =>
 wpAny_Dict_empty ⟨.ref s.heap.objs.size,_,I.laid (a:=s.heap.objs.size) (o:=.dT []) (t':=s.toks) (fun _ _ q=>Heap.get?_push_of_some _ q) (Nat.le_refl _) (AIG s.heap I.big),rfl,h _ (I.hok.fresh (Nat.le_refl _))⟩
end
structure M1 (X:Cx) (o:Expr) (m:Str) (apos:Pos) (e:Expr) (cpos:Pos):Prop where
 base:attributeBase o m X.env (eval o X.env)=eval o X.env
 few:((backTo cpos (starEach [e] X.env)).all (fun x=>!x.1) && (backToKw cpos (keywordEach [] X.env)).all (fun x=>x.1.isSome)
  && decide (([e]:List Expr).length + ([]:List Keyword).length + (if ([]:List Keyword).isEmpty then 0 else 1)<30))=true
 line:(apos.endLine == cpos.line)=true
 trees:backTo cpos (starEach [e] X.env)=[(false,eval e X.env)]
structure M2 (X:Cx) (o:Expr) (m:Str) (apos:Pos) (e f:Expr) (cpos:Pos):Prop where
 base:attributeBase o m X.env (eval o X.env)=eval o X.env
 few:((backTo cpos (starEach [e,f] X.env)).all (fun x=>!x.1) && (backToKw cpos (keywordEach [] X.env)).all (fun x=>x.1.isSome)
  && decide (([e,f]:List Expr).length + ([]:List Keyword).length + (if ([]:List Keyword).isEmpty then 0 else 1)<30))=true
 line:(apos.endLine == cpos.line)=true
 trees:backTo cpos (starEach [e,f] X.env)=[(false,eval e X.env),(false,eval f X.env)]
def IsD (H:Hp) (a:Addr):Prop:=(∃ kvs,Rd H a (.dK kvs))∨∃ kvs,Rd H a (.dT kvs)
theorem APS {X:Cx} {pins:List (Addr×Obj)} {σ:St} {H:Hp} {s:Shared} {a:Addr} (I:Inv X pins σ H s) (d:IsD H a) :
  s.TypeIs (.ref a) "dict"∧(∀ b,Value.ref a=.ref b→∃ ob,s.heap.get? b=some ob∧ob.dict=none)∧(a == sysModules)=false:=by
 rcases d with ⟨kvs,e⟩ | ⟨kvs,e⟩
 ·obtain ⟨_,hd,vs,_,dd⟩:=AFb I.hok e
  refine ⟨dd.typeIs,fun b q=>?_,hd⟩
  cases q
  obtain ⟨ob,_,_,h1,h2,_⟩:=dd
  exact ⟨ob,h1,h2.2.1⟩
 ·obtain ⟨_,hd,xs,_,dd⟩:=AFc I.hok e
  refine ⟨dd.typeIs,fun b q=>?_,hd⟩
  cases q
  obtain ⟨ob,_,_,h1,h2,_⟩:=dd
  exact ⟨ob,h1,h2.2.1⟩
section
variable {X:Cx} {pins:List (Addr×Obj)} {σ:St} {H:Hp} {s:Shared} {a:Addr} {y d:V} {u r:Value} {o:Option V} {A:Around} {E:Value→Shared→Prop}
theorem APT {Q:Value→Shared→Prop} (hu:A.units + 1<cLine) (I:Inv X pins σ H s) (g:DGet H a y o) (ry:RelV y u) (rd:RelV d r) (h:∀ w' s',Inv X pins σ H s'→RelV (o.getD d) w'→Q w' s') :
  wpAny (model X.prog X.w) A (call (.builtin "dict.get") [.ref a,u,r]) Q E s:=by
 rcases g with ⟨kvs,k,e,ey,l⟩ | ⟨kvs,k,b,e,ey,eb,l⟩
 ·subst ey
  obtain ⟨z,hd,vs,rel,dd⟩:=AFb I.hok e
  refine call_meetsIn PySem.F.slot_dict_get dd.typeIs PySem.F.entry_dict_get (PySem.F.args_dict_get_3 _ _ _) (meets_dict_get_default (AAo X.prog X.w) a (AHt ry) hd r) ⟨_,dd.mapOf,h _ _ (I.tok _) ?_⟩
  rw [l]
  exact (rel.val k).getD rd
 ·subst ey
  cases (show u=Value.ref b from ry)
  obtain ⟨z,hd,xs,rel,dd⟩:=AFc I.hok e
  refine call_meetsIn PySem.F.slot_dict_get dd.typeIs PySem.F.entry_dict_get (PySem.F.args_dict_get_3 _ _ _) (meetsH_dict_get_default (tupleKind (AAo X.prog X.w)) a b hd r) ⟨tupleKind_room_in1 hu,k,xs,AD2 I.hok eb,dd,h _ _ (I.tok _) ?_⟩
  rw [l]
  exact (rel.val k).getD rd
end
def APU (td ty tx:TE):TE:=fun σ H Q=>td σ H fun x H1=>∃ a,x=.ref a∧IsD H1 a∧ty σ H1 fun y H2=>tx σ H2 fun z H3=>∃ o,DGet H3 a y o∧Q (o.getD z) H3
section
variable {X:Cx} {o e f:Expr} {apos cpos:Pos} {td ty tx:TE}
theorem AMy (hu:X.A.units + 1<cLine) (ho:PE X o td) (he:PE X e ty) (hf:PE X f tx) (m:M2 X o "get" apos e f cpos):PE X (.Call (.Attribute o "get" apos) [e,f] [] cpos) (APU td ty tx):=by
 intro pins s σ H Q I h
 refine wpAny_Call_method m.base m.few m.line PySem.F.plainAttrs_dict PySem.F.slot_dict_get PySem.F.type_dict_get (thn (ho pins s σ H _ I h) fun u s1 ⟨x,H1,I1,rx,a,ex,d,q1⟩=>?_)
 subst ex
 obtain rfl:u=Value.ref a:=rx
 obtain ⟨t1,t2,_⟩:=APS I1 d
 refine ⟨t1,t2,?_⟩
 rw [m.trees]
 refine Calls.callWith_builtin rfl (Calls.evalArgs_plain (Calls.spliced_cons (thn (he pins s1 σ H1 _ I1 q1) fun iv s2 ⟨y,H2,I2,ry,q2⟩ =>
  Calls.spliced_cons (thn (hf pins s2 σ H2 _ I2 q2) fun fv s3 ⟨z,H3,I3,rz,ov,g,q3⟩=>Calls.spliced_nil ?_))))
 exact APT hu I3 g ry rz fun w' s4 I4 rw'=>⟨_,H3,I4,rw',q3⟩
end
section
variable {X:Cx} {pins:List (Addr×Obj)} {σ:St} {H:Hp} {s:Shared} {a:Addr} {kvs:List (Key×V)} {A:Around} {E:Value→Shared→Prop}
end
section
variable {X:Cx} {pins:List (Addr×Obj)} {σ:St} {H:Hp} {s:Shared} {a:Addr} {y:V} {u:Value} {A:Around} {E:Value→Shared→Prop}
end
end L2
namespace Att
open PySem PySem.W PySem.Calls PyProof.Rows
theorem AFd {P:Params} {h:Heap}:∀ (ns:List Int) (vs:List Value),WellAll P h vs (ns.map WData.int)→IntsAre vs ns:=by
 intro ns
 induction ns with
 | nil =>
  intro vs w
  rw [List.map_nil] at w
  cases w
  exact .nil
 | cons n ns ih =>
  intro vs w
  rw [List.map_cons] at w
  cases w with
  | cons a b =>
   cases a
   exact .cons _ _ (ih _ b)
theorem ALU {l:OpenLaw} {n:Nat} (hn:l.most=some n) {P:Params} {h:Heap} {args:List WData} {vals:List Value}
  (hpre:l.row.toRowW.claim.pre args=true) (hwl:WellAll P h vals args) :
  ∃ a vs ns,vals=[Value.ref a]∧args=[WData.list (ns.map WData.int)]∧h.get? a=some { cls:=.type "list",data:=.seq vs.toArray }∧IntsAre vs ns∧ns.length≤n:=by
 have hsh:WShape.hasAll [] args [.list .int]=true:=(pre_splitW hpre).1
 have hc:l.pre.holds [] { args:=args }=true:=(pre_splitW hpre).2
 obtain ⟨d,r,rfl,h1,h2⟩:=hasAllW_cons hsh
 obtain rfl:=hasAllW_nil h2
 obtain ⟨xs,rfl,h3⟩:=hasW_list h1
 obtain ⟨ns,rfl⟩:=items_int h3
 have hlen:ns.length≤n:=by
  unfold OpenLaw.pre at hc
  have h4:(WTm.not (.lt (.lit (.int (n:Int))) (.len (.arg 0)))).holds [] { args:=[.list (ns.map .int)] }=true:=by
   have h4:=(holds_andW hc).1
   rw [hn] at h4
   exact h4
  have h5:=condW_of h4 (w_not (w_lt w_lit (w_len_list (w_arg rfl))))
  rw [List.length_map] at h5
  refine Nat.le_of_not_lt fun q=>?_
  have q':(n:Int)<((ns.length:Nat):Int):=by lia
  first
   | (rw [decide_eq_true q'] at h5;exact absurd h5 (by decide))
   | (simp at h5;lia)
 cases hwl with
 | cons w1 w2 =>
  cases w2
  cases w1 with
  | list ho hall=>exact ⟨_,_,ns,rfl,rfl,ho,AFd ns _ hall,hlen⟩
theorem ALV (l:OpenLaw) (args:List WData):l.row.toRowW.claim.post args (.bool true) args=true :=
 postW_of (r:=l.row.toRowW) (X:=(true == true))
  (show WShape.has [] (.bool true) .bool=true by first | rfl | decide | simp [WShape.has,WShape.arms,WShape.armsAll])
  (show (WTm.eq .res (.lit (.bool true))).value [] { args:=args,res:=some (.bool true),after:=args }=some (.bool (true == true)) from w_eq_bool (w_res rfl) w_lit) rfl
theorem attach_call {l:OpenLaw} {n:Nat} {q:Program} {loose:List Str} {XP:(Str→Option Value)→Heap→Prop} {YP:World→Heap→Prop} {d:DefRec}
  (hn:l.most=some n) (hdf:d.params.defaults=[])
  (call:∀ (w:World) (s₀ s₁:Shared) (mg mb:Str→Option Value) (fa:Addr) (o:Obj) (pm cd doc:Value) (a:Addr) (vs:List Value) (ns:List Int),
   Ground q loose [] XP w s₀ mg mb s₁.heap→YP w s₁.heap →
   s₁.heap.get? fa=some o→o.data=.func (docDef d.name d.params d.body d.scope pm cd doc)→s₁.heap.CodeRec cd d.name→mg d.name=some (.ref fa) →
   s₁.heap.get? a=some { cls:=.type "list",data:=.seq vs.toArray }→IntsAre vs ns→ns.length≤n→s₁.gens=#[] →
   codeAny (model l.prog w) callerA (.call (.ref fa) ⟨[.ref a],[]⟩) (fun r s'=>r=.ok (.ret (.bool true))∧OldK s₁.heap s'.heap∧s'.os=s₁.os∧AllBare s'.gens) s₁) :
  WalkO q loose XP YP l.row.toRowW d [] (fun f vs=>PySem.call f vs):=by
 intro w s₀ s₁ mg mb G Y fa o pm cd doc dV kV ho hd hcd hD hmg hg args vals as hpre hlay hrd hwl hlo
 obtain rfl:dV=.none:=Dflts.none hD hdf
 obtain rfl:kV=.none:=Dflts.noKw hD
 obtain ⟨a,vs,ns,rfl,rfl,hobj,hints,hlen⟩:=ALU hn hpre hwl
 refine enter_call (codeAny_mono (call w s₀ s₁ mg mb fa o pm cd doc a vs ns G Y ho (fd_plain hd) hcd hmg hobj hints hlen hg) fun r s' hq=>?_)
 obtain ⟨rfl,h2,h3,h4⟩:=hq
 exact ⟨.inl ⟨.bool true,.bool true,[],rfl,fun _=>rfl,.bool true,ALV l _,fun _=>⟨List.Pairwise.nil,fun _ hm=>(nomatch hm)⟩⟩,h2,h3,h4⟩
section
variable {prog:Program} {w:World} {A:Around} {E:Value→Shared→Prop} {s:Shared} {K:Frag}
noncomputable def noObjs (h:Heap):Heap:={ h with objs:=#[] }
theorem noObjs_get (h:Heap) (b:Addr):(noObjs h).get? b=none:=by
 cases e:(noObjs h).get? b with
 | none=>rfl
 | some o=>exact absurd (Heap.lt_size e) (Nat.not_lt_zero _)
noncomputable def ledger (h:Heap) (L d:Addr):List (Addr×Obj):=(List.range h.objs.size).filterMap fun a=>if a=L∨a=d then none else (h.get? a).map fun o=>(a,o)
theorem fr_all {h:Heap} {L:Addr} {m:Str→Option Value} (n:h.Ns L m):Fr (noObjs h) L h m :=
 ⟨n,fun b o e=>(by rw [noObjs_get] at e;cases e),Nat.zero_le _⟩
end
end Att
namespace L2
open PySem PySem.Spec PyProof.Rows
theorem AHA:∀ {vs:List Value} {ns:List Int},IntsAre vs ns→Vals (ns.map V.int) vs
 | _,_,.nil=>.nil
 | _,_,.cons n t h=>.cons ⟨t,rfl⟩ (AHA h)
def Only (H:Hp):Prop:=∀ b,H b=none∨∃ o xs,H b=some (.frz o (.lst xs))
theorem AMz {P:Program} {w:World} {K:PySem.W.Frag} {mg mb:Str→Option Value} {CX:CXT} {k:Nat} {fa a:Addr} {fd:FuncData} {x:Str} {sp:Sp} {s₁:Shared} {vs:List Value} {ns:List Int}
  (KX:K.In s₁.heap) (hns:s₁.heap.Ns mainGlobals mg) (hb:s₁.heap.Ns builtinsNs mb) (hbb:∀ x:Str,x≠"__name__"→mb x=bootBuiltins x) (hlim:s₁.heap.NoLimit) (hg:s₁.gens=#[])
  (ha:s₁.heap.get? a=some { cls:=.type "list",data:=.seq vs.toArray }) (hi:IntsAre vs ns) (hl:ns.length≤sizeLine) (hr:Room k callerA)
  (F:∀ base:Heap,K.In base→base.Ns mainGlobals mg→FnOk P w K mg base CX k fa fd [x] sp) (hbind:∀ (s:Shared) (u:Value),BindsTo s fd ⟨[u],[]⟩ [(x,u)])
  (hsp:∀ H:Hp,Only H→SqL K H a (ns.map V.int)→sp [.ref a] H (fun v _=>v=.bl true) fun _ _ _=>False)
  (hCX:∀ H e s',CX [] H s₁ (fun _ _ _=>False) e s'→False) :
  codeAny (model P w) callerA (.call (.ref fa) ⟨[.ref a],[]⟩) (fun r s'=>r=.ok (.ret (.bool true))∧OldK s₁.heap s'.heap∧s'.os=s₁.os∧AllBare s'.gens) s₁:=by
 have rv:=AHA hi
 have lenV:=hi.length
 -- from an abstract heap in which nothing but the script may be tracked
 have core:∀ H:Hp,Only H→SqL K H a (ns.map V.int)→HOk P w H s₁.heap→(∀ b,H b≠none→b=a)→(H a≠none→K.lookup a=none) →
   codeAny (model P w) callerA (.call (.ref fa) ⟨[.ref a],[]⟩) (fun r s'=>r=.ok (.ret (.bool true))∧OldK s₁.heap s'.heap∧s'.os=s₁.os∧AllBare s'.gens) s₁:=by
  intro H hO hS hok hA hK
  have base_of:∀ {b:Addr} {o:Obj},s₁.heap.get? b=some o→H b=none→(hidT s₁.heap H).get? b=some o:=fun e n=>AMm e n
  have noA:∀ {b:Addr} {o:Obj} {es:Array DictEntry} {ep:Nat},s₁.heap.get? b=some o→o.data=.dict es ep→H b=none:=fun {b o es ep} e d=>by
   cases q:H b with
   | none=>rfl
   | some u =>
    have e':b=a:=hA b (by rw [q];simp)
    subst e'
    rw [ha] at e;cases e
    have d':Data.seq vs.toArray _=Data.dict es ep:=d
    cases d'
  have nsK:∀ {b:Addr} {m:Str→Option Value},s₁.heap.Ns b m→(hidT s₁.heap H).Ns b m:=fun {b m} ⟨o,es,ep,e,d,r⟩=>⟨o,es,ep,base_of e (noA e d),d,r⟩
  have hKb:K.In (hidT s₁.heap H):=fun b o e=>base_of (KX b o e) (by
   cases q:H b with
   | none=>rfl
   | some u =>
    have e':b=a:=hA b (by rw [q];simp)
    subst e'
    rw [hK (by rw [q];simp)] at e;cases e)
  have hM:Mod K mg (hidT s₁.heap H):=⟨hKb,nsK hns,⟨mb,nsK hb,hbb⟩,let ⟨mc,h1,h2⟩:=hlim;⟨mc,nsK h1,h2⟩⟩
  have e0:Env0 P w K mg (hidT s₁.heap H) callerA [] s₁ H:=⟨rfl,hM,fun b o e=>AN5 e,Nat.le_of_eq (ALG _ _),trivial,fun b hb=>absurd (show b∈([]:List Addr) from hb) (by simp),hok,.of_eq hg⟩
  refine codeAny_mono ((F _ hKb (nsK hns)).run callerA [] s₁ H ⟨[.ref a],[]⟩ [.ref a] [.ref a] _ _ hr e0 (hbind s₁ (.ref a)) (.cons rfl .nil) (hsp H hO hS)) fun r s' h=>?_
  cases r with
  | error e=>exact (hCX H e s' h).elim
  | ok fl =>
   cases fl with
   | next=>exact False.elim h
   | brk=>exact False.elim h
   | cont=>exact False.elim h
   | ret u =>
    obtain ⟨v,H',os,bare,un,hok',r',q⟩:=h
    have q':v=.bl true:=q
    subst q'
    obtain rfl:u=Value.bool true:=r'
    refine ⟨rfl,OldK.of_keep fun b o e=>?_,os,bare⟩
    cases q:H b with
    | none=>exact un.keep b o e q (by intro z;exact absurd (show b∈([]:List Addr) from z) (by simp)) (by simp)
    | some u =>
     rcases hO b with z | ⟨ob,xs,z⟩
     ·rw [q] at z;cases z
     ·have z2:=un.frzs b ob _ z
      obtain ⟨e1,_⟩:=hok b _ z
      obtain ⟨e2,_⟩:=hok' b _ z2
      rw [e] at e1;cases e1
      exact e2
 cases hk:K.lookup a with
 | some o =>
  -- the script is one of the module's own objects
  have e:=KX a o hk
  rw [ha] at e
  cases e
  refine core (fun _=>none) (fun _=>.inl rfl) (.inr ⟨_,vs.toArray,_,hk,rfl,rfl,rfl,by rw [List.size_toArray,lenV];exact hl,by simpa using rv⟩) (fun b u z=>by have z':(none:Option HO)=some u:=z;cases z') (fun b z=>absurd rfl z) fun z=>absurd rfl z
 | none =>
  refine core (fun b=>if b=a then some (.frz { cls:=.type "list",data:=.seq vs.toArray } (.lst (ns.map V.int))) else none) (fun b=>?_) (.inl (.inr ⟨{ cls:=.type "list",data:=.seq vs.toArray },if_pos rfl⟩)) (fun b u z=>?_) (fun b z=>?_) fun _=>hk
  ·by_cases hb:b=a
   ·exact .inr ⟨_,_,if_pos hb⟩
   ·exact .inl (if_neg hb)
  ·by_cases hb:b=a
   ·have z':=(if_pos hb).symm.trans z
    cases z'
    subst hb
    exact ⟨ha,by rw [List.length_map];exact hl,vs,_,rv,ha⟩
   ·have z':=(if_neg hb).symm.trans z
    cases z'
  ·by_cases hb:b=a
   ·exact hb
   ·exact absurd (if_neg hb) z
noncomputable abbrev KOf {K:PySem.W.Frag} {h:Heap} (_:K.In h):PySem.W.Frag:=K
theorem walk_of {l:PySem.W.OpenLaw} {n k:Nat} {q:Program} {loose:List Str} {XP:(Str→Option Value)→Heap→Prop} {YP:World→Heap→Prop} {d:DefRec} {K:Params→PySem.W.Frag} {CX:World→CXT} {sp:World→Sp} {x:Str}
  (hn:l.most=some n) (hn2:n≤sizeLine) (hdf:d.params.defaults=[]) (hr:Room k callerA)
  (hY:∀ (w:World) (h:Heap),YP w h→(K w.params).In h)
  (F:∀ (w:World) (mg:Str→Option Value) (fa:Addr) (h:Heap),(K w.params).In h→h.Ns mainGlobals mg→mg d.name=some (.ref fa) →
   ∃ fd:FuncData,(∀ (s:Shared) (u:Value),BindsTo s fd ⟨[u],[]⟩ [(x,u)]) ∧
    ∀ base:Heap,(K w.params).In base→base.Ns mainGlobals mg→FnOk l.prog w (K w.params) mg base (CX w) k fa fd [x] (sp w))
  (hsp:∀ (w:World) (H:Hp) (a:Addr) (ns:List Int),ns.length≤n→Only H→SqL (K w.params) H a (ns.map V.int)→sp w [.ref a] H (fun v _=>v=.bl true) fun _ _ _=>False)
  (hCX:∀ (w:World) (H:Hp) (s:Shared) (e:Value) (s':Shared),CX w [] H s (fun _ _ _=>False) e s'→False) :
  PySem.W.WalkO q loose XP YP l.row.toRowW d [] (fun f vs=>PySem.call f vs):=by
 refine Att.attach_call hn hdf fun w s₀ s₁ mg mb fa o pm cd doc a vs ns G Y ho hd hcd hmg hobj hints hlen hg=>?_
 have KX:=hY w _ Y
 obtain ⟨fd,hb,hF⟩:=F w mg fa _ KX G.T.g hmg
 exact AMz KX G.T.g G.T.b G.T.builtins G.T.nolimit hg hobj hints (Nat.le_trans hlen hn2) hr hF hb (fun H hO hS=>hsp w H a ns hlen hO hS) fun H e s'=>hCX w H s₁ e s'
noncomputable def AAQ (s:Stmt):Arguments:=match s with
 | .FunctionDef _ a _ _ _ _ _ _ _ _=>a
 | _=>{ posonlyargs:=[],args:=[],vararg:=none,kwonlyargs:=[],kw_defaults:=[],kwarg:=none,defaults:=[] }
noncomputable def AAO (s:Stmt):List Stmt:=match s with
 | .FunctionDef _ _ b _ _ _ _ _ _ _=>b
 | _=>[]
noncomputable def AAC (s:Stmt):Scope:=match s with
 | .FunctionDef _ _ _ _ _ _ sc _ _ _=>sc
 | _=>{ kind:=.function,names:=[],isGenerator:=false,isCoroutine:=false }
noncomputable abbrev CX0:CXT:=fun _ _ _ _ _ _=>False
noncomputable abbrev E0:XK:=fun _ _ _=>False
theorem AQL {X:Cx}:AIA CX0 X E0:=fun _ _ _ _ _ _ _ h=>h.elim
structure Fun (K:PySem.W.Frag) (x qual:Str) (st:Stmt) (f:Addr) (fd:FuncData):Prop where
 ex:∃ (oc:Value) (od:Option Addr) (kV doc pm:Value) (an:Option Addr) (cdv ct:Value) (osl:Array (Option Value)),
  fd=PySem.W.fnOf x qual (AAQ st) (AAO st) (AAC st) .none kV doc pm an cdv ct∧K.lookup f=some ⟨oc,od,.func fd,osl⟩∧PySem.W.codeIn K cdv qual=true
 kp:PySem.W.keepIn K (.ref f)=true
section
variable {P:Program} {w:World} {K:PySem.W.Frag} {mg:Str→Option Value} {base:Heap}
theorem Fun.ok {x qual:Str} {st:Stmt} {f:Addr} {fd:FuncData} {N ps:List Str} {k:Nat} {sp:Sp} (F:Fun K x qual st f fd) (S:FnScope N ps (AAC st)) (len:∀ vs H Q E,sp vs H Q E→vs.length=ps.length)
  (hbody:∀ (cdv:Value) (A:Around) (outer:List Env) (s:Shared) (H:Hp) (vs:List V) (Q:VK) (E:XK),Room k (A.deeper (envOfC qual (AAC st) s.heap.objs.size f cdv))→sp vs H Q E →
   ∃ t,PSs (cxOf CX0 P w K mg base N qual (AAC st) f cdv A outer s H E).nox (AAO st) t∧t { nx:=fun _ H'=>Q .non H',rt:=Q } (start N vs) H):FnOk P w K mg base CX0 (k + 1) f fd ps sp:=by
 obtain ⟨oc,od,kV,doc,pm,an,cdv,ct,osl,rfl,lk,hcd⟩:=F.ex
 refine AQG lk hcd S len fun A outer s H vs Q E hr hsp=>?_
 obtain ⟨t,h,q⟩:=hbody cdv A outer s H vs Q E hr hsp
 exact ⟨t,h.nox,q⟩
theorem Fun.binds {x qual:Str} {st:Stmt} {f:Addr} {fd:FuncData} {ps:List Str} (F:Fun K x qual st f fd)
  (h:∀ (kV doc pm:Value) (an:Option Addr) (cdv ct:Value) (us:List Value),us.length=ps.length→bindArgs (PySem.W.fnOf x qual (AAQ st) (AAO st) (AAC st) .none kV doc pm an cdv ct) ⟨us,[]⟩=pure (ps.zip us)):AEa K fd ps []:=by
 obtain ⟨oc,od,kV,doc,pm,an,cdv,ct,osl,rfl,lk,hcd⟩:=F.ex
 exact .all (h kV doc pm an cdv ct)
theorem AAV {x qual:Str} {st:Stmt} {f:Addr} {oc:Value} {od an:Option Addr} {osl:Array (Option Value)} {kV doc pm cdv ct:Value} (l:K.lookup f=some ⟨oc,od,.func (PySem.W.fnOf x qual (AAQ st) (AAO st) (AAC st) .none kV doc pm an cdv ct),osl⟩)
  (c:PySem.W.codeIn K cdv qual=true) (k:PySem.W.keepIn K (.ref f)=true):Fun K x qual st f (PySem.W.fnOf x qual (AAQ st) (AAO st) (AAC st) .none kV doc pm an cdv ct):=⟨⟨oc,od,kV,doc,pm,an,cdv,ct,osl,rfl,l,c⟩,k⟩
end
theorem AFe {A:Around} {k:Nat} (hr:Room k A):A.units + 1<cLine:=Nat.lt_of_le_of_lt (Nat.add_le_add_left (by decide:1≤64) _) hr.units
theorem ABh {n:Nat} (h:n≤1000):n<sizeLine:=Nat.lt_of_le_of_lt h (by decide)
section
variable {X:Cx}
theorem pv (i:Nat) {x:Str} {pos:Pos} (hN:X.N[i]?=some x:=by rfl) (hv:Vis X.env.scope x:=by trivial) (hd:(x == ("__debug__":Str))=false:=by decide)
  (hcd:(x == ("__classdict__":Str))=false:=by decide):PE X (.Name x pos) (tVar i):=AB2 hN hv hd hcd
end
theorem ite2 {c A B:Prop} [Decidable c] (h1:c→A) (h2:¬ c→B):if c then A else B:=by
 by_cases h:c
 ·rw [if_pos h]
  exact h1 h
 ·rw [if_neg h]
  exact h2 h
def Same (H H':Hp):Prop:=∀ b o,H b=some o→H' b=some o
theorem Same.trans {H H1 H2:Hp} (a:Same H H1) (b:Same H1 H2):Same H H2:=fun c o h=>b c o (a c o h)
theorem Same.free {H H':Hp} (e:Same H H') {l:Addr} (h:H' l=Option.none):H l=Option.none:=by
 cases q:H l with
 | none=>rfl
 | some o =>
  rw [e l o q] at h
  cases h
theorem Same.seq {K:PySem.W.Frag} {H H':Hp} {a:Addr} {xs:List V} (e:Same H H') (h:SqL K H a xs):SqL K H' a xs:=by
 rcases h with (h | ⟨o,h⟩) | h
 ·exact .inl (.inl (e _ _ h))
 ·exact .inl (.inr ⟨o,e _ _ h⟩)
 ·exact .inr h
section
variable {X:Cx}
end
section
variable {κ:Type} [DecidableEq κ]
theorem AJf:∀ {l:List κ} {k:κ},l.Nodup→¬ k∈l→(l ++ [k]).Nodup
 | [],k,_,_=>by simp
 | a :: r,k,h,hk=>by
  obtain ⟨h1,h2⟩:=List.nodup_cons.mp h
  show (a :: (r ++ [k])).Nodup
  refine List.nodup_cons.mpr ⟨fun m=>?_,AJf h2 fun m=>hk (List.mem_cons.mpr (Or.inr m))⟩
  rcases List.mem_append.mp m with q | q
  ·exact h1 q
  ·exact hk (List.mem_cons.mpr (Or.inl (List.mem_singleton.mp q).symm))
end
noncomputable def clOf (cells:List (Str×Addr)):List (Str×NameKind)→List (Str×Addr)→List (Str×Addr)
 | [],cs=>cs
 | (n,k) :: r,cs=>clOf cells r (if (k == .free)=true then (match cells.lookup n with | some c=>(n,c) :: cs | none=>cs) else cs)
theorem ADw {scope:Scope} {env:Env} (h:∀ y∈scope.names,y.2=NameKind.free→∃ c,env.cells.lookup y.1=some c):closureFor scope env=pure (clOf env.cells scope.names []):=by
 simp only [closureFor]
 have all:∀ (l:List (Str×NameKind)) (cs:List (Str×Addr)),(∀ y∈l,y.2=NameKind.free→∃ c,env.cells.lookup y.1=some c) →
   (forIn l cs fun (x:Str×NameKind) (r:List (Str×Addr))=>if (x.2 == NameKind.free)=true then do let a ←cellOf env x.1;pure (ForInStep.yield ((x.1,a) :: r)) else pure (ForInStep.yield r))=(pure (clOf env.cells l cs):Sem _):=by
  intro l
  induction l with
  | nil=>intro cs _;rfl
  | cons y r ih =>
   intro cs hy
   obtain ⟨n,k⟩:=y
   have hr:∀ y∈r,y.2=NameKind.free→∃ c,env.cells.lookup y.1=some c:=fun y m=>hy y (List.mem_cons_of_mem _ m)
   rw [List.forIn_cons]
   by_cases hk:(k == NameKind.free)=true
   ·obtain ⟨c,hc⟩:=hy (n,k) List.mem_cons_self (by simpa using hk)
    have hc:env.cells.lookup n=some c:=hc
    have e:cellOf env n=pure c:=by unfold cellOf;rw [hc]
    simp only [hk,if_true,e,clOf,hc]
    exact ih _ hr
   ·simp only [hk,clOf]
    exact ih _ hr
 exact (congrArg (fun z=>z >>= fun r=>(pure r:Sem (List (Str×Addr)))) (all scope.names [] h)).trans rfl
theorem ADj {cells:List (Str×Addr)} {x:Str} {c:Addr}:∀ {names:List (Str×NameKind)} {cs:List (Str×Addr)},(clOf cells names cs).lookup x=some c→cells.lookup x=some c∨cs.lookup x=some c
 | [],cs,h=>.inr h
 | (n,k) :: r,cs,h=>by
  unfold clOf at h
  rcases ADj (names:=r) h with q | q
  ·exact .inl q
  ·split at q
   ·cases hc:cells.lookup n with
    | none=>rw [hc] at q;exact .inr q
    | some c' =>
     rw [hc] at q
     dsimp only at q
     rw [List.lookup_cons] at q
     cases hx:x == n with
     | true =>
      rw [hx] at q
      have e:x=n:=by simpa using hx
      subst e
      exact .inl (hc.trans q)
     | false=>rw [hx] at q;exact .inr q
   ·exact .inr q
theorem AHB {cells:List (Str×Addr)} {x:Str}:∀ {names:List (Str×NameKind)} {cs:List (Str×Addr)},(cs.lookup x).isSome=true→((clOf cells names cs).lookup x).isSome=true
 | [],_,h=>h
 | (n,k) :: r,cs,h=>by
  unfold clOf
  refine AHB (names:=r) ?_
  split
  ·cases hc:cells.lookup n with
   | none=>exact h
   | some c' =>
    dsimp only
    rw [List.lookup_cons]
    cases hx:x == n <;> first | exact h | rfl
  ·exact h
theorem AE7 {cells:List (Str×Addr)} {x:Str} {c:Addr} (hc:cells.lookup x=some c):∀ {names:List (Str×NameKind)} {cs:List (Str×Addr)},(x,NameKind.free)∈names→((clOf cells names cs).lookup x).isSome=true
 | (n,k) :: r,cs,h=>by
  unfold clOf
  rcases List.mem_cons.mp h with e | h
  ·cases e
   refine AHB (names:=r) ?_
   rw [if_pos (by rfl),hc]
   dsimp only
   rw [List.lookup_cons,beq_self_eq_true]
   rfl
  ·exact AE7 hc (names:=r) h
theorem ADx {env:Env} {x:Str}:∀ {names:List (Str×NameKind)},(∀ y∈names,y.2≠NameKind.cell) →
  let l:=(names.map fun (n,k)=>if (k == NameKind.free && env.scope.kind == .function && env.kindOf n == some .cell) then (n,NameKind.cell) else (n,k)).lookup x
  (l=some .cell∨l=some .free)→(x,NameKind.free)∈names
 | [],_,h=>by rcases h with h | h <;> simp at h
 | (n,k) :: r,hn,h=>by
  have ih:=@ADx env x r fun y m=>hn y (List.mem_cons_of_mem _ m)
  simp only [List.map_cons] at h ih
  by_cases hc:(k == NameKind.free && env.scope.kind == .function && env.kindOf n == some .cell)=true
  ·rw [if_pos hc,List.lookup_cons] at h
   have ek:k=.free:=by
    rw [Bool.and_assoc,Bool.and_eq_true] at hc
    simpa using hc.1
   cases hx:x == n with
   | true =>
    have e:x=n:=by simpa using hx
    subst e
    rw [ek]
    exact List.mem_cons_self
   | false=>rw [hx] at h;exact List.mem_cons_of_mem _ (ih h)
  ·rw [if_neg hc,List.lookup_cons] at h
   cases hx:x == n with
   | true =>
    have e:x=n:=by simpa using hx
    subst e
    rw [hx] at h
    rcases h with h | h
    ·exact absurd (Option.some.inj h) (hn (x,k) List.mem_cons_self)
    ·rw [Option.some.inj h];exact List.mem_cons_self
   | false=>rw [hx] at h;exact List.mem_cons_of_mem _ (ih h)
theorem AD3 {env:Env}:∀ {names:List (Str×NameKind)} {x:Str},names.lookup x=some .free →
  let l:=(names.map fun (n,k)=>if (k == NameKind.free && env.scope.kind == .function && env.kindOf n == some .cell) then (n,NameKind.cell) else (n,k)).lookup x
  (l=some .cell∨l=some .free)
 | [],_,h=>by simp at h
 | (n,k) :: r,x,h=>by
  have ih:=@AD3 env r x
  simp only [List.map_cons] at ih ⊢
  by_cases hc:(k == NameKind.free && env.scope.kind == .function && env.kindOf n == some .cell)=true
  ·rw [if_pos hc,List.lookup_cons]
   cases hx:x == n with
   | true=>exact .inl rfl
   | false =>
    rw [List.lookup_cons,hx] at h
    exact ih h
  ·rw [if_neg hc,List.lookup_cons]
   cases hx:x == n with
   | true =>
    rw [List.lookup_cons,hx] at h
    exact .inr h
   | false =>
    rw [List.lookup_cons,hx] at h
    exact ih h
structure CompP where
 cl:List (Str×Addr)
 C:Addr
 s:Shared
 H:Hp
 fp:List Addr
 pins:List (Addr×Obj)
noncomputable def Cx.comp (X:Cx) (N':List Str) (scope:Scope) (p:CompP):Cx where
 prog:=X.prog
 w:=X.w
 K:=X.K
 mg:=X.mg
 base:=X.base
 A:=X.A
 N:=N'
 s₀:=p.s
 H₀:=p.H
 env:=compEnvC scope p.cl p.C X.env
 outer:=X.stack
 stack:=X.stack
 ex:=p.fp
 fn:=fun _=>false
 calm:=X.calm
 pn:=X.pn ++ p.pins
 xe:=fun _ _=>False
structure CompScope (N:List Str) (sc:Scope) (N':List Str) (pick:List (Option Nat)) (scope:Scope):Prop where
 kind:scope.kind=.function
 nocell:∀ y∈scope.names,y.2≠NameKind.cell
 names:∀ y∈scope.names,y.2=NameKind.local→scope.names.lookup y.1=some .local
 free:∀ y∈scope.names,y.2=NameKind.free→scope.names.lookup y.1=some .free
 has:∀ y∈scope.names,y.2=NameKind.free→(sc.names.lookup y.1=some .cell∨sc.names.lookup y.1=some .free)
 len:pick.length=N'.length
 cap:∀ q∈pick.zip N',q.1=none∨(N[q.1.getD 0]?=some q.2∧(q.2,NameKind.free)∈scope.names)
noncomputable def picked (σ:St) (pick:List (Option Nat)):St:=pick.map fun o=>match o with | none=>none | some j=>(σ[j]?).join
def PIfs (X:Cx) (ifs:List Expr) (t:TT):Prop :=
 ∀ (pins:List (Addr×Obj)) (s:Shared) (σ:St) (H:Hp) (Q:Bool→Hp→Prop),Inv X pins σ H s→t σ H Q →
  wpAny (model X.prog X.w) X.A (forIn ifs true fun c r=>if r=true then do let ok ←isTrue c X.env (eval c X.env);pure (ForInStep.yield ok) else pure (ForInStep.yield r)) (TP X pins σ Q) X.xe s
def AQM:TT:=fun _ H Q=>Q true H
theorem AIH {X:Cx}:PIfs X [] AQM:=fun pins s σ H Q I h=>wpAny_tests_nil ⟨H,I,h⟩
theorem AM0 {X:Cx} {c:Expr} {t:TT} (h:PT X c t):PIfs X [c] t:=fun pins s σ H Q I q=>wpAny_tests_one (h pins s σ H Q I q)
theorem AII {prog:Program} {w:World} {A:Around} {R:Result→Shared→Prop} {s:Shared} {elt target iter:Expr} {ifs:List Expr} {scope:Scope} {pos:Pos} {it acc:Value} {env:Env} (I:Nat→Shared→Prop)
  (turn:∀ n s,I n s→wpAny (model prog w) A (pyNext it) (fun r s₁=>match r with
   | none=>R (.ok .next) s₁
   | some v=>wpAny (model prog w) A (letOwnedTupleGo target it v) (fun _ s₁'=>wpAny (model prog w) A (assign target env v) (fun _ s₂ =>
     wpAny (model prog w) A (forIn ifs true fun c r=>if r=true then do let ok ←isTrue c env (eval c env);pure (ForInStep.yield ok) else pure (ForInStep.yield r)) (fun ok s₃ =>
      if ok=true then wpAny (model prog w) A (eval elt env) (fun x s₄ =>
       wpAny (model prog w) A (call (.builtin "list.append") [acc,x]) (fun _ s₅=>∃ m,m<n∧I m s₅) (fun _ _=>False) s₄) (fun _ _=>False) s₃
      else ∃ m,m<n∧I m s₃) (fun _ _=>False) s₂) (fun _ _=>False) s₁') (fun _ _=>False) s₁) (fun _ _=>False) s)
  (n:Nat) (h:I n s) :
  codeAny (model prog w) A (.compLoop (.ListComp elt [⟨target,iter,ifs,0⟩] scope pos) 0 it acc env) R s:=by
 refine codeAny_loop rfl I (fun n s hI=>?_) n h
 show wpAny _ A ((compTurn (.ListComp elt [⟨target,iter,ifs,0⟩] scope pos) 0 it acc env).onRaise (fun x=>do noteFrame x env;theTreesLotGoes x)) _ _ s
 refine wpAny_noted ?_
 rw [compTurn_list]
 refine wB (wpAny_standAt (wB (wpAny_mono (turn n s hI) (fun r s₁ h₁=>?_) fun _ _ h'=>h'.elim)))
 cases r with
 | none=>exact wP h₁
 | some v =>
  refine wB (wpAny_mono h₁ (fun _ s₁' h₁'=>?_) fun _ _ h'=>h'.elim)
  refine wB (wpAny_mono h₁' (fun _ s₂ h₂=>wB (wpAny_mono h₂ (fun ok s₃ h₃=>?_) fun _ _ h'=>h'.elim)) fun _ _ h'=>h'.elim)
  cases ok with
  | false=>exact wP ⟨rfl,h₃⟩
  | true =>
   exact wB (wB (wpAny_mono h₃ (fun x s₄ h₄=>wB (wpAny_mono h₄ (fun _ s₅ h₅=>wP (wP ⟨rfl,h₅⟩)) fun _ _ h'=>h'.elim)) fun _ _ h'=>h'.elim))
def AGX (J:It) (pick:List (Option Nat)) (g:TG) (tt:TT) (te:TE) (σ:St) (Q:VK) (H1:Hp):Prop:=∀ D,H1 D=none→∃ W:Nat→Nat→List V→Hp→Prop,(∃ m,W 0 m [] (upd H1 D (.lst []))) ∧
 ∀ i m ys H2,W i m ys H2→H2 D=some (.lst ys)∧((J.stop i H2∧Q (.ref D) H2)∨(J.go i H2∧∃ M:List V→Hp→Prop,(∀ zs H',M zs H'→∃ m',m'<m∧W (i + 1) m' zs H')∧∀ x H3,J.yld i H2 x H3→g x (L2.picked σ pick) H3 fun σ4 H4=>tt σ4 H4 fun b H5 =>
  if b=true then te σ4 H5 fun y H6=>H6 D=some (.lst ys)∧ys.length<sizeLine∧M (ys ++ [y]) (upd H6 D (.lst (ys ++ [y])))
  else M ys H5))
def AHu (wi:TI) (pick:List (Option Nat)) (g:TG) (tt:TT) (te:TE):TE:=fun σ H Q=>wi σ H fun J H1=>AGX J pick g tt te σ Q H1
def ADS (pick:List (Option Nat)) (g:TG):Prop:=∀ (σ:St) (x:V) (H:Hp) (Q:St→Hp→Prop),g x (L2.picked σ pick) H Q→g x (L2.picked σ pick) H fun σ' H'=>Q σ' H'∧∀ (k:Nat) v,(L2.picked σ pick)[k]?=some (some v)→σ'[k]?=some (some v)
theorem ABa {σ:St} {pick:List (Option Nat)} {i:Nat} (h:pick[i]?=some none):(L2.picked σ pick)[i]?=some none:=by
 unfold L2.picked
 rw [List.getElem?_map,h]
 rfl
theorem AEx {pick:List (Option Nat)} {i:Nat} (h:pick[i]?=some none):ADS pick (ABU i):=fun σ x H Q q=>⟨q,fun k v e=>by
 have ne:i≠k:=fun z=>by subst z;rw [ABa h] at e;cases e
 rw [List.getElem?_set_ne ne]
 exact e⟩
theorem AKM {K:PySem.W.Frag} {pick:List (Option Nat)} {i j:Nat} (h:pick[i]?=some none) (h':pick[j]?=some none):ADS pick (gTup K 2 (AHq (ABU i) (AHq (ABU j) gNil))):=by
 rintro σ x H Q ⟨a,xs,rfl,hs,hl,v,r,rfl,v',r',rfl,rfl,q⟩
 refine ⟨a,_,rfl,hs,hl,v,_,rfl,v',_,rfl,rfl,q,fun k v e=>?_⟩
 have ne:i≠k:=fun z=>by subst z;rw [ABa h] at e;cases e
 have ne':j≠k:=fun z=>by subst z;rw [ABa h'] at e;cases e
 rw [List.getElem?_set_ne ne',List.getElem?_set_ne ne]
 exact e
section
variable {X:Cx} {N':List Str} {pick:List (Option Nat)} {elt tg iter:Expr} {ifs:List Expr} {scope sc:Scope} {pos:Pos} {N:List Str} {wi:TI} {g:TG} {tt:TT} {te:TE}
theorem AFf {pins:List (Addr×Obj)} {s s4:Shared} {σ:St} {H:Hp} {fp:List Addr} {C:Addr} {m:Str→Option Value}
  (S:CompScope N sc N' pick scope) (hN:X.N=N) (hsc:X.env.scope=sc) (I:Inv X pins σ H s) (hf:∀ b∈fp,FpOk X pins H b) (hfo:∀ b∈fp,∃ o,s.heap.get? b=some o)
  (hC:s.heap.objs.size≤C) (hk:∀ b o,s.heap.get? b=some o→s4.heap.get? b=some o) (hn:s4.heap.Ns C m) (ho:s4.os=s.os) (hg:s4.gens=s.gens) :
  Inv (X.comp N' scope ⟨clOf X.env.cells scope.names [],C,s,H,fp,pins⟩) [] (L2.picked σ pick) H s4:=by
 have ok:=I.ok
 have has:∀ y,(y,NameKind.free)∈scope.names→∃ c,X.env.cells.lookup y=some c:=fun y hy=>by
  have q:=S.has (y,.free) hy rfl
  rw [←hsc] at q
  exact ok.has y q
 have sub:∀ y c,(clOf X.env.cells scope.names []).lookup y=some c→X.env.cells.lookup y=some c:=fun y c e=>by
  rcases ADj e with q | q
  ·exact q
  ·simp at q
 have cge:∀ x c,X.env.cells.lookup x=some c→c<s.heap.objs.size:=fun x c e=>by
  obtain ⟨v,q⟩:=I.cell x c e
  exact q.lt
 refine ⟨⟨ok.mod,S.kind,ok.glob,ok.blt,hC,fun x y c e1 e2=>ok.inj x y c (sub x c e1) (sub y c e2),fun x hx=>?_,fun x c z _=>(nomatch (show false=true from z)),ok.hd,ok.frames,.inl rfl,
   fun b hb=>⟨fun z=>?_,fun x c e=>(hf b hb).2.2.2.2.1 x c (sub x c e)⟩,I.bs,Nat.le_trans ok.bsz I.sz,fun b o e hb=>?_,fun b hb z=>?_,I.stack,I.stkFree⟩,
  ho,by rw [hg];exact I.bare,Un.kept hk,⟨m,hn,fun i x v e1 e2 e3=>?_⟩,fun x c e=>?_,I.hok.fresh hC,fun x c e=>I.freeC x c (sub x c e),fun p hp=>?_,I.hok.kept hk,?_⟩
 ·have hx':=ADx S.nocell hx
  obtain ⟨c,hc⟩:=has x hx'
  exact Option.isSome_iff_exists.mp (AE7 hc hx')
 ·obtain ⟨o,e⟩:=hfo b hb
  have e':b=C:=z
  exact absurd (Nat.lt_of_lt_of_le (Heap.lt_size e) (e' ▸ hC)) (Nat.lt_irrefl _)
 ·rcases (hf b hb).2.2.2.1 with q | q
  ·exact ok.noex b o e q
  ·exact absurd (Nat.lt_of_lt_of_le (Heap.lt_size e) (Nat.le_trans ok.bsz q)) (Nat.lt_irrefl _)
 ·rcases List.mem_cons.mp (I.stkSub b z) with q | q
  ·exact (hf b hb).2.1 q
  ·exact (hf b hb).2.2.1 q
 ·-- a captured name
  have hi:i<pick.length:=by
   rcases Nat.lt_or_ge i pick.length with q | q
   ·exact q
   ·unfold L2.picked at e2
    rw [List.getElem?_eq_none (by simpa using q)] at e2
    cases e2
  obtain ⟨o,ho'⟩:∃ o,pick[i]?=some o:=⟨pick[i],by simp [hi]⟩
  unfold L2.picked at e2
  rw [List.getElem?_map,ho'] at e2
  cases o with
  | none=>cases e2
  | some j =>
   have e2:some ((σ[j]?).join)=some (some v):=e2
   have e1:N'[i]?=some x:=e1
   have hz:(some j,x)∈pick.zip N':=by
    refine List.mem_of_getElem? (i:=i) ?_
    rw [List.getElem?_zip_eq_some]
    exact ⟨ho',e1⟩
   obtain ⟨c1,c2⟩:=(S.cap _ hz).resolve_left (fun z=>nomatch z)
   have c1:N[j]?=some x:=c1
   have e3:σ[j]?=some (some v):=by
    have q:=Option.some.inj e2
    cases hσ:σ[j]? with
    | none=>rw [hσ] at q;cases q
    | some y=>rw [hσ] at q;exact congrArg some q
   rw [←hN] at c1
   obtain ⟨m0,hn0,hl0⟩:=I.loc
   have kq:=S.has (x,.free) c2 rfl
   rw [←hsc] at kq
   obtain ⟨u,r,l⟩:=hl0 j x v c1 e3 (kq.elim (fun z=>.inr (.inl z)) fun z=>.inr (.inr z))
   refine ⟨u,r,?_⟩
   obtain ⟨c,hc⟩:=has x c2
   obtain ⟨c',hc'⟩:=Option.isSome_iff_exists.mp (AE7 (cs:=[]) hc c2)
   have ecc:c'=c:=Option.some.inj ((sub x c' hc').symm.trans hc)
   subst ecc
   have kin:(compEnvC scope (clOf X.env.cells scope.names []) C X.env).kindOf x=some .cell∨(compEnvC scope (clOf X.env.cells scope.names []) C X.env).kindOf x=some .free:=by
    exact AD3 (S.free (x,.free) c2 rfl)
   rcases l with ⟨k,_⟩ | ⟨_,c2',hc2,hcell⟩
   ·exfalso
    have k:X.env.scope.names.lookup x=some .local:=k
    rcases kq with z | z
    ·rw [k] at z;cases z
    ·rw [k] at z;cases z
   ·rw [hc] at hc2
    cases hc2
    obtain ⟨oc,hoc,hd⟩:=hcell
    exact .inr ⟨kin,c',hc',oc,hk _ _ hoc,hd⟩
 ·obtain ⟨v,oc,hoc,hd⟩:=I.cell x c (sub x c e)
  exact ⟨v,oc,hk _ _ hoc,hd⟩
 ·have hp':p∈X.pn ++ pins:=by
   have hp:p∈(X.pn ++ pins) ++ []:=hp
   simpa using hp
  obtain ⟨e,n,ne,nf,d⟩:=I.pin p hp'
  refine ⟨hk _ _ e,n,fun z=>?_,fun z=>?_,d⟩
  ·have z:p.1=C:=z
   exact absurd (Nat.lt_of_lt_of_le (Heap.lt_size e) (z ▸ hC)) (Nat.lt_irrefl _)
  ·rcases List.mem_cons.mp (I.stkSub _ z) with q | q
   ·exact ne q
   ·exact nf q
 ·unfold L2.picked
  rw [List.length_map]
  exact S.len
theorem AHC {pins:List (Addr×Obj)} {s:Shared} {σ:St} {H:Hp} {Q:VK} {use:Option (Value→Sem Unit)} {QQ:Value→Shared→Prop}
  (S:CompScope N sc N' pick scope) (hN:X.N=N) (hsc:X.env.scope=sc) (hc:X.calm=true) (hi:PI X tg iter wi) (hk:ADS pick g)
  (hg:∀ p,PG (X.comp N' scope p) tg g) (ht:∀ p,PIfs (X.comp N' scope p) ifs tt) (he:∀ p,PE (X.comp N' scope p) elt te) (hs:∀ x,foldedSetIterable iter X.env x=pure x)
  (I:Inv X pins σ H s) (h:AHu wi pick g tt te σ H Q)
  (fin:∀ (D C:Addr) (H':Hp) (s':Shared) (m:Str→Option Value),Inv X pins σ H' s'→Q (.ref D) H'→H' C=none→C≠X.env.locals→X.s₀.heap.objs.size≤C→(∀ x c,X.env.cells.lookup x=some c→c≠C)→(∀ p∈X.pn ++ pins,p.1≠C)→s'.heap.Ns C m →
   compPost (model X.prog X.w) X.A X.xe use QQ (.ref D) C (.ok .next) s') :
  wpAny (model X.prog X.w) X.A (comprehension (.ListComp elt [⟨tg,iter,ifs,0⟩] scope pos) scope X.env (firstIterPos [⟨tg,iter,ifs,0⟩] pos) (newList []) false (eval iter X.env) use) QQ X.xe s:=by
 have hasC:∀ y∈scope.names,y.2=NameKind.free→∃ c,X.env.cells.lookup y.1=some c:=fun y hy e=>by
  have q:=S.has y hy e
  rw [←hsc] at q
  exact I.ok.has y.1 q
 refine wpAny_comprehension_free rfl hs (ADw hasC) S.kind S.names (thn (hi pins s σ H _ I h) fun v s1 h1=>thn h1 fun itv s2 h2=>?_)
 obtain ⟨it,fp,tn,J,H2,e,I2,T,st2,f2,q⟩:=h2
 subst e
 have fr2:H2 s2.heap.objs.size=none:=I2.fresh
 obtain ⟨W,⟨m0,w0⟩,turn⟩:=q s2.heap.objs.size fr2
 refine wpAny_newObj_type (T:="list") (wpAny_newFunctionEnv S.nocell (by intro y hy;simp at hy) (fun h₁ hns₁ hsb₁=>?_) S.kind)
 dsimp only at hns₁ hsb₁ ⊢
 have I3:Inv X pins σ (upd H2 s2.heap.objs.size (.lst [])) { s2 with heap:=s2.heap.push { cls:=.type "list",dict:=none,data:=.seq ([]:List Value).toArray } } :=
  I2.lnew (t':=s2.toks) (its:=[]) .nil (Nat.zero_le _)
 generalize hH3:s2.heap.push { cls:=.type "list",dict:=none,data:=.seq ([]:List Value).toArray }=G3 at hns₁ hsb₁ I3 ⊢
 have f3:∀ b∈fp,FpOk X pins (upd H2 s2.heap.objs.size (.lst [])) b:=fun b hb=>by
  obtain ⟨o,e,_⟩:=T.obj _ _ st2 b hb
  refine ⟨?_,(f2 b hb).2⟩
  rw [AAE (Nat.ne_of_lt (Heap.lt_size e))]
  exact (f2 b hb).1
 have hfo:∀ b∈fp,∃ o,G3.get? b=some o:=fun b hb=>by
  obtain ⟨o,e,_⟩:=T.obj _ _ st2 b hb
  exact ⟨o,hH3 ▸ Heap.get?_push_of_some _ e⟩
 have k34:∀ b o,G3.get? b=some o→h₁.get? b=some o:=fun b o e=>(hsb₁.2 b (Nat.ne_of_lt (Heap.lt_size e))).trans (Heap.get?_push_of_some _ e)
 have I4:=AFf (s4:={ s2 with heap:=h₁,toks:=s2.toks + ([]:List (Str×Value)).length }) S hN hsc I3 f3 hfo (Nat.le_refl G3.objs.size) k34 hns₁ rfl rfl
 have st4:tn 0 h₁:=T.keep _ _ _ st2 fun b hb o e=>k34 b o (hH3 ▸ Heap.get?_push_of_some _ e)
 have sz3:s2.heap.objs.size≤G3.objs.size:=by rw [←hH3,Heap.size_push];exact Nat.le_succ _
 generalize hp:(⟨clOf X.env.cells scope.names [],G3.objs.size,{ s2 with heap:=G3 },upd H2 s2.heap.objs.size (.lst []),fp,pins⟩:CompP)=p at I4
 have sub:∀ y c,(X.comp N' scope p).env.cells.lookup y=some c→X.env.cells.lookup y=some c:=fun y c e=>by
  subst hp
  rcases ADj (cs:=[]) e with q | q
  ·exact q
  ·simp at q
 -- what stays true of the iterator's objects
 have stat:∀ {H':Hp},(∀ b∈fp,H' b=none)→∀ b∈fp,FpOk (X.comp N' scope p) [] H' b:=fun hn b hb=>by
  refine ⟨hn b hb,fun z=>?_,fun z=>?_,.inl (by subst hp;exact hb),fun x c e=>(f2 b hb).2.2.2.2.1 x c (sub x c e),fun q hq=>?_⟩
  ·subst hp
   obtain ⟨o,e⟩:=hfo b hb
   have z:b=G3.objs.size:=z
   exact absurd (Heap.lt_size e) (by rw [z];exact Nat.lt_irrefl _)
  ·subst hp
   rcases List.mem_cons.mp (I2.stkSub b z) with q | q
   ·exact (f2 b hb).2.1 q
   ·exact (f2 b hb).2.2.1 q
  ·refine (f2 b hb).2.2.2.2.2 q ?_
   subst hp
   have hq:q∈(X.pn ++ pins) ++ []:=hq
   simpa using hq
 have loop:codeAny (model X.prog X.w) X.A (.compLoop (.ListComp elt [⟨tg,iter,ifs,0⟩] scope pos) 0 (.ref it) (.ref s2.heap.objs.size) (X.comp N' scope p).env)
   (compPost (model X.prog X.w) X.A X.xe use QQ (.ref s2.heap.objs.size) G3.objs.size) { s2 with heap:=h₁,toks:=s2.toks + ([]:List (Str×Value)).length }:=by
  refine AII (fun n s'=>∃ i ys H',Inv (X.comp N' scope p) [] (L2.picked σ pick) H' s'∧tn i s'.heap∧(∀ b∈fp,H' b=none)∧W i n ys H') ?_ m0 ⟨0,[],_,I4,st4,fun b hb=>(f3 b hb).1,w0⟩
  rintro n s5 ⟨i,ys,H5,I5,st5,fr5,w5⟩
  obtain ⟨hD,alt⟩:=turn i n ys H5 w5
  rcases alt with ⟨stop,qn⟩ | ⟨go,M,hM,step⟩
  ·refine thn (T.done (X.comp N' scope p) rfl rfl rfl hc i [] s5 _ H5 _ I5 (stat fr5) st5 stop) fun r s6 ⟨hr,I6⟩=>?_
   subst hr
   obtain ⟨m6,hn6,_⟩:=I6.loc
   have un:Un (frs X.stack) fp H2 H5 s2.heap s6.heap:=by
    have u1:Un (frs X.stack) fp H2 (upd H2 s2.heap.objs.size (.lst [])) s2.heap G3:=Un.laid (fun b o e=>hH3 ▸ Heap.get?_push_of_some _ e) (Nat.le_refl _) fr2
    have u2:=I6.base
    subst hp
    exact u1.trans u2
   have IO:Inv X pins σ H5 s6:=I2.call' (by have e:=I6.os;subst hp;exact e) un (by have e:=I6.hok;subst hp;exact e) I6.bare fun b hb=>⟨(f2 b hb).2.2.2.1,(f2 b hb).2.1,(f2 b hb).2.2.2.2.1,(f2 b hb).2.2.2.2.2⟩
   refine fin _ _ H5 s6 m6 IO qn ?_ ?_ ?_ ?_ ?_ ?_
   ·have e:=I6.free;subst hp;exact e
   ·exact Nat.ne_of_gt (Nat.lt_of_lt_of_le I2.lt sz3)
   ·exact Nat.le_trans I2.sz sz3
   ·intro x c e z
    obtain ⟨v,q⟩:=I2.cell x c e
    exact absurd (Nat.lt_of_lt_of_le q.lt sz3) (by rw [z];exact Nat.lt_irrefl _)
   ·intro q hq z
    exact absurd (Nat.lt_of_lt_of_le (Heap.lt_size (I2.pin q hq).1) sz3) (by rw [z];exact Nat.lt_irrefl _)
   ·subst hp;exact hn6
  ·refine thn (T.item (X.comp N' scope p) rfl rfl rfl hc i [] s5 _ H5 _ I5 (stat fr5) st5 go) fun r s6 ⟨u,hr,h6⟩=>?_
   subst hr
   refine thn h6 fun _ s7 ⟨x,H7,I7,r7,y7,st7,fr7⟩=>?_
   have I7':=I7.pinned (stat fr7) (T.obj _ _ st7)
   refine thn (hg p _ s7 _ H7 x u _ I7' r7 (hk σ x H7 _ (step x H7 y7))) fun _ s8 ⟨σ8,H8,I8,q8,w8⟩=>?_
   refine thn (ht p _ s8 σ8 H8 _ I8 q8) fun ok s9 ⟨H9,I9,q9⟩=>?_
   have back:∀ {H':Hp} {s':Shared},Inv (X.comp N' scope p) ([] ++ ACc fp s7.heap) σ8 H' s'→∀ {k:Nat} {zs:List V},M zs H' →
     ∃ m,m<n∧∃ i ys H'',Inv (X.comp N' scope p) [] (L2.picked σ pick) H'' s'∧tn i s'.heap∧(∀ b∈fp,H'' b=none)∧W i m ys H'':=fun {H' s'} I' {k zs} mz=>by
    obtain ⟨m',hm,w'⟩:=hM _ _ mz
    refine ⟨m',hm,i + 1,zs,H',?_,T.keep _ _ _ st7 fun b hb o e=>(I'.pin (b,o) (List.mem_append_right _ (List.mem_append_right _ (ABV hb e)))).1,fun b hb=>?_,w'⟩
    ·refine (I'.unpinned).weak ?_ w8
     rw [(I'.unpinned).len,I7.len]
    ·obtain ⟨o,e,d⟩:=T.obj _ _ st7 b hb
     exact (I'.pin (b,o) (List.mem_append_right _ (List.mem_append_right _ (ABV hb e)))).2.1
   cases ok with
   | false=>exact back I9 (k:=0) q9
   | true =>
    refine thn (he p _ s9 σ8 H9 _ I9 q9) fun v s10 ⟨y,H10,I10,r10,hD10,hz,q10⟩=>?_
    refine thn (ACd (X:=X.comp N' scope p) _ s10 σ8 H10 (.ref s2.heap.objs.size) [y] _ [v] (fun _ H'=>M (ys ++ [y]) H') I10 rfl (.cons r10 .nil) ⟨_,ys,y,rfl,rfl,hD10,hz,q10⟩) fun w s11 ⟨z,H11,I11,r11,q11⟩=>?_
    exact back I11 (k:=0) q11
 subst hp
 exact codeAny_compStart_list loop (T.self _ 0 _ _ _ st4 loop)
theorem AJg (S:CompScope N sc N' pick scope) (hc:X.calm=true) (hi:PI X tg iter wi) (hk:ADS pick g)
  (hg:∀ p,PG (X.comp N' scope p) tg g) (ht:∀ p,PIfs (X.comp N' scope p) ifs tt) (he:∀ p,PE (X.comp N' scope p) elt te) (hN:X.N=N:=by rfl) (hsc:X.env.scope=sc:=by rfl) (hs:∀ x,foldedSetIterable iter X.env x=pure x:=by intro _;rfl) :
  PE X (.ListComp elt [⟨tg,iter,ifs,0⟩] scope pos) (AHu wi pick g tt te):=by
 intro pins s σ H Q I h
 rw [eval_ListComp]
 refine AHC S hN hsc hc hi hk hg ht he hs I h fun D C H' s' m IO q n1 n2 n3 n4 n5 hn=>?_
 exact ⟨m,hn,fun h' hs'=>⟨.ref D,H',IO.turned (t':=s'.toks) (fun b o hb e=>(hs'.2 b hb).trans e) n1 (Ne.symm (Ne.symm n2)) (.inr n3) n4 n5,rfl,q⟩⟩
theorem AKN {i:Nat} {x:Str} {pos' spos:Pos} (S:CompScope N sc N' pick scope) (hnd:X.N.Nodup) (hix:X.N[i]?=some x) (hx:Loc X.env.scope x) (hc:X.calm=true) (hi:PI X tg iter wi) (hk:ADS pick g)
  (hg:∀ p,PG (X.comp N' scope p) tg g) (ht:∀ p,PIfs (X.comp N' scope p) ifs tt) (he:∀ p,PE (X.comp N' scope p) elt te) (hN:X.N=N:=by rfl) (hsc:X.env.scope=sc:=by rfl)
  (hsw:swapsWith (.ListComp elt [⟨tg,iter,ifs,0⟩] scope pos) (some (.Name x pos')) spos.line X.env=pure true:=by rfl) (hs:∀ x,foldedSetIterable iter X.env x=pure x:=by intro _;rfl)
  (hf:X.fn x=true∨X.env.scope.names.lookup x=some .local:=by trivial) :
  PS X (.Assign [.Name x pos'] (.ListComp elt [⟨tg,iter,ifs,0⟩] scope pos) spos) (tAsg (AHu wi pick g tt te) (ABU i)):=by
 intro pins s σ H D I h
 rw [exec_Assign_Name_used _ _ _ _ hsw]
 refine wB (wpAny_standAt (wB ?_))
 show wpAny _ _ (do let _ ←comprehension (.ListComp elt [⟨tg,iter,ifs,0⟩] scope pos) scope X.env _ (newList []) false (eval iter X.env) (some (assign (.Name x pos') X.env))) _ _ s
 refine wB (thn (AHC (QQ:=fun _ s'=>SP X pins D .next s') S hN hsc hc hi hk hg ht he hs I h fun D' C H' s' m IO q n1 n2 n3 n4 n5 hn=>?_) fun _ s' hq=>wP (wP hq))
 refine wpAny_assign_Name (AG0 (v:=V.ref D') IO hnd hix hx rfl (fun s2 I2 ⟨a,hsb,ha⟩=>?_) hf)
 have nC:C≠a:=by
  rcases ha with e | e
  ·rw [e];exact n2
  ·exact fun z=>n4 _ _ e z.symm
 refine ⟨m,hn.sameBut hsb nC,fun h' hs'=>⟨_,H',I2.turned (t':=s2.toks) (fun b o hb e=>(hs'.2 b hb).trans e) n1 n2 (.inr n3) n4 n5,q⟩⟩
end
section
variable {K:PySem.W.Frag} {a:Addr} {xs:List V} {pick:List (Option Nat)} {g:TG} {tt:TT} {te:TE} {σ:St} {H:Hp} {Q:VK} {J:It}
theorem AOK {n:Nat} {y:Nat→V→Prop} (Pv:Addr→Nat→List V→Hp→Prop) (h0:∀ D,H D=none→Pv D 0 [] (upd H D (.lst []))) (hD:∀ D i ys H2,H D=none→i≤n→Pv D i ys H2→H2 D=some (.lst ys))
  (hgo:∀ D i ys H2,H D=none→i<n→Pv D i ys H2→J.go i H2) (hstop:∀ D ys H2,H D=none→Pv D n ys H2→J.stop n H2) (hy:∀ D i ys H2 x H3,H D=none→i<n→Pv D i ys H2→J.yld i H2 x H3→y i x∧H3=H2)
  (hs:∀ D,H D=none→∀ i x ys H2,i<n→y i x→Pv D i ys H2→g x (L2.picked σ pick) H2 fun σ4 H4=>tt σ4 H4 fun b H5=>if b=true then te σ4 H5 fun y H6=>H6 D=some (.lst ys)∧ys.length<sizeLine∧Pv D (i + 1) (ys ++ [y]) (upd H6 D (.lst (ys ++ [y]))) else Pv D (i + 1) ys H5)
  (hd:∀ D ys H2,H D=none→Pv D n ys H2→Q (.ref D) H2):AGX J pick g tt te σ Q H:=by
 intro D hn
 refine ⟨fun i m ys H2=>m=n - i∧i≤n∧Pv D i ys H2,⟨n,by simp,Nat.zero_le _,h0 D hn⟩,?_⟩
 rintro i m ys H2 ⟨rfl,hi,p⟩
 refine ⟨hD D i ys H2 hn hi p,?_⟩
 by_cases hlt:i<n
 ·refine .inr ⟨hgo D i ys H2 hn hlt p,Pv D (i + 1),fun zs H' p'=>⟨n - (i + 1),by lia,rfl,hlt,p'⟩,fun x H' z=>?_⟩
  obtain ⟨z1,z2⟩:=hy D i ys H2 x H' hn hlt p z
  subst z2
  exact hs D hn i x ys _ hlt z1 p
 ·have e:i=n:=by lia
  subst e
  exact .inl ⟨hstop D ys H2 hn p,hd D ys H2 hn p⟩
theorem AKO {lo:Int} {n:Nat} (Pv:Addr→Nat→List V→Hp→Prop) (h0:∀ D,H D=none→Pv D 0 [] (upd H D (.lst []))) (hD:∀ D i ys H2,H D=none→i≤n→Pv D i ys H2→H2 D=some (.lst ys))
  (hs:∀ D,H D=none→∀ (i:Nat) ys H2,i<n→Pv D i ys H2→g (.int (lo + i)) (L2.picked σ pick) H2 fun σ4 H4=>tt σ4 H4 fun b H5=>if b=true then te σ4 H5 fun y H6=>H6 D=some (.lst ys)∧ys.length<sizeLine∧Pv D (i + 1) (ys ++ [y]) (upd H6 D (.lst (ys ++ [y]))) else Pv D (i + 1) ys H5)
  (hd:∀ D ys H2,H D=none→Pv D n ys H2→Q (.ref D) H2):AGX (Itr lo n) pick g tt te σ Q H :=
 AOK (n:=n) (y:=fun i x=>x=.int (lo + i)) Pv h0 hD (fun D i ys H2 hn hi p=>hi) (fun D ys H2 hn p=>Nat.le_refl _) (fun D i ys H2 x H3 hn hi p z=>⟨z.2,z.1⟩)
  (fun D hn i x ys H2 hi hx p=>by subst hx;exact hs D hn i ys H2 hi p) hd
end
section
variable {X:Cx} {tg e:Expr} {te:TE}
end
section
variable {X:Cx}
noncomputable def rSlS:V→Option Int→Option Int→Hp→VK→Prop:=fun x lo hi H Q=>∃ z,x=.str z∧z.length≤sizeLine∧Q (.str (Txt.slice z lo hi)) H
theorem AJh {v:Value} {o:Option Int} (h:IsPart v o):∃ l:Option (Int×Tok),l.map (·.1)=o∧partValue l=v:=by
 cases h with
 | none=>exact ⟨none,rfl,rfl⟩
 | int i t=>exact ⟨some (i,t),rfl,rfl⟩
theorem ALW:SlR X rSlS:=by
 intro pins s σ H x v vl vu lo hi sl Q I rx hs pl pu h
 obtain ⟨z,rfl,hz,q⟩:=h
 obtain ⟨t,rfl⟩:=rx
 obtain ⟨l,rfl,rfl⟩:=AJh pl
 obtain ⟨u,rfl,rfl⟩:=AJh pu
 refine ⟨"str",_,F.slot_str_getitem.lookup,typeIs_str _ _ _,wpAny_getItem_str_slice (l:=l) (u:=u) (st:=none) hs rfl ?_⟩
 exact post_val_or_str ⟨Nat.le_trans (Txt.slice_le z _ _) hz,fun t' k=>⟨.str (Txt.slice z _ _),H,I.tok k,⟨t',rfl⟩,q⟩⟩
theorem ADT:∀ {ys:List Str} {us:List Value},Vals (ys.map V.str) us→StrsAre us ys
 | [],_,.nil=>.nil
 | y :: ys,_,.cons ⟨t,e⟩ r=>by subst e;exact .cons y t (ADT r)
noncomputable def AQN (K:PySem.W.Frag):V→List V→Hp→VK→Prop:=fun x vs H Q=>∃ z p ys,x=.str z∧vs=[.ref p]∧SqL K H p (ys.map V.str)∧(ys.map (·.length)).sum + ys.length * z.length≤16777216∧Q (.str (Txt.join z ys)) H
theorem AOL:MtR X "str.join" (AQN X.K):=by
 intro pins s σ H x vs v us Q I rx rv h
 obtain ⟨z,p,ys,rfl,rfl,hp,hok,q⟩:=h
 obtain ⟨t,rfl⟩:=rx
 obtain ⟨u,rfl,ru⟩:=rv.one
 cases ru
 obtain ⟨its,r,pl,hz⟩:=I.list hp
 exact join_list pl.isList (ADT (by simpa using r)) hok fun t' k=>⟨.str _,H,I.tok k,⟨t',rfl⟩,q⟩
theorem AIJ:∀ {bs:List Bool} {us:List Value},Vals (bs.map V.bl) us→LSm.BoolsAre us bs
 | [],_,.nil=>.nil
 | b :: bs,_,.cons e r=>by cases e;exact .cons b (AIJ r)
theorem AE8 (hc:X.calm=true):AAs X (.builtin "all") (fun xs H Q=>∃ (p:Addr) (bs:List Bool),xs=[.ref p]∧SqL X.K H p (bs.map V.bl)∧Q (.bl (bs.all id)) H):=by
 intro pins s σ H xs us Q I r h
 obtain ⟨p,bs,rfl,hp,q⟩:=h
 obtain ⟨u,rfl,ru⟩:=r.one
 cases ru
 obtain ⟨its,r,pl,hz⟩:=I.list hp
 have hb:=AIJ r
 have hl:=pl.isList
 have hlt:p<s.heap.objs.size:=by obtain ⟨_,e,_⟩:=hl;exact Heap.lt_size e
 refine call_all_walk (wpAny_pyIter_list hl ?_)
 refine ⟨s.heap.objs.size,[s.heap.objs.size,p],[s.heap.objs.size],its.toArray.size,_,_,fun i=>(bs[i]?).getD true,rfl,Walks.list (A:=X.A.in1) (I.ok.hd hc) _ p (Nat.ne_of_lt hlt) its.toArray,
  ⟨⟨_,Heap.get?_push_size _ rfl,rfl,rfl⟩,hl.push _⟩,fun i v s' Q' E' hP hQ=>?_,fun h' tk hk=>?_⟩
 ·obtain ⟨b,e,rfl⟩:=hb.get i v (by simpa using hP)
  simp only [e,Option.getD_some] at hQ
  exact wpAny_truthy_bool hQ
 ·have e:((List.range its.toArray.size).all fun i=>(bs[i]?).getD true)=bs.all id:=by
   rw [List.size_toArray,hb.length];exact LSm.range_all bs
  rw [e]
  exact ⟨.bl _,H,I.kept (t':=tk) (LSm.kept_iter hk),rfl,q⟩
theorem AJS:AAs X (.builtin "isinstance") (fun xs H Q=>∃ x t n b,xs=[x,.ty n]∧TyOf X.K H x t∧PySem.W.kitOne X.K t (.type n)=some b∧Q (.bl b) H):=by
 intro pins s σ H xs us Q I r h
 obtain ⟨x,t,n,b,rfl,ty,e,q⟩:=h
 obtain ⟨u,v,rfl,ru,rv⟩:=r.two
 cases (show v=Value.type n from rv)
 exact ALP I ru ty e fun tk=>⟨.bl b,H,I.tok tk,rfl,q⟩
end
section
variable {X:Cx}
theorem AIK:OpR X (binaryOp .FloorDiv) (rI (fun _ j=>0<j∧j<2 ^ 64) fun i j=>.int (i / j)):=opI fun i j t u s E Q hc q=>by
 have e:i.fdiv j=i / j:=Int.fdiv_eq_ediv_of_nonneg _ (Int.le_of_lt hc.1)
 refine floordiv_int (Int.ne_of_gt hc.1) (by rw [e];exact q) (.inl (PyProof.noPylong_of_log2 ?_))
 have h:j.natAbs<2 ^ 64:=by have:=hc.2;lia
 have h0:j.natAbs≠0:=by have:=hc.1;lia
 exact Nat.lt_of_lt_of_le ((Nat.log2_lt h0).mpr h) (by decide)
noncomputable def rIxF:R2:=fun x y H Q=>∃ p i xs,x=.ref p∧y=.int i∧H p=some (.lst xs)∧∃ v,atI xs i=some v∧Q v H
theorem ixF:IxR X rIxF:=fun value slice pins s σ H x y v u Q I rx ry ⟨p,i,xs,e1,e2,h,w,hw,q⟩ hs=>AJe value slice pins s σ H x y v u Q I rx ry ⟨p,xs,i,w,e1,e2,.of h,hw,q⟩ hs
theorem AM1:PGet X rIxF:=by
 intro pins s σ H o i ov iv Q I ro ri h
 obtain ⟨p,k,xs,rfl,rfl,hp,z,he,q⟩:=h
 cases ro
 obtain ⟨t,rfl⟩:=ri
 obtain ⟨its,r,pl,hz⟩:=I.list (.of hp)
 obtain ⟨j,h1,h2,h3,h4,h5⟩:=AEb he
 obtain ⟨w,ew,rw'⟩:=r.get h2
 have hl:=r.length
 have hn:=ACv
 have fin:EP X pins σ Q w s:=⟨z,H,I,rw',q⟩
 by_cases h0:0≤k
 ·have hj:k.toNat=j:=by
   rw [seqIndex_of h0 h5] at h1
   exact Option.some.inj h1
  exact wpAny_getItem_list pl.isList h0 (by lia) (by rw [hj];simpa using ew) fin
 ·have hj:(k + (its.toArray.size:Int)).toNat=j:=by
   rw [seqIndex_neg (by lia) h4] at h1
   rw [List.size_toArray,←hl]
   exact Option.some.inj h1
  exact wpAny_getItem_list_neg pl.isList (by lia) (by rw [List.size_toArray] <;> lia) (by lia) (by rw [hj];simpa using ew) fin
theorem AD4:AAs X (.builtin "len") (fun xs H Q=>∃ p ys,xs=[.ref p]∧H p=some (.lst ys)∧Q (.int ys.length) H):=by
 intro pins s σ H xs us Q I r h
 obtain ⟨p,ys,rfl,hp,q⟩:=h
 exact AD0 pins s σ H _ us Q I r ⟨p,ys,rfl,.inl (.of hp),q⟩
end
def Fn (P:Program) (w:World) (K:PySem.W.Frag) (mg:Str→Option Value) (base:Heap) (x:Str) (k:Nat) (ps:List Str) (sp:Sp):Prop :=
 ∃ (f:Addr) (fd:FuncData),FnOk P w K mg base CX0 k f fd ps sp∧mg x=some (.ref f)∧PySem.W.keepIn K (.ref f)=true∧AEa K fd ps []
theorem ADk {X:Cx} {x:Str} {k:Nat} {ps:List Str} {sp:Sp} {p pos:Pos} {e:Expr} {es:List Expr} {t:TA} (G:Fn X.prog X.w X.K X.mg X.base x k ps sp) (hr:Room k X.A) (hg:Gl X x)
  (ha:PA X (e :: es) t) (hdb:(x == ("__debug__":Str))=false:=by decide +kernel) (he:starEach (e :: es) X.env=(false,eval e X.env) :: starEach es X.env:=by rfl) (hpl:(backTo pos (starEach es X.env)).any (·.1)=false:=by rfl) :
  PE X (.Call (.Name x p) (e :: es) [] pos) (AFY sp [] E0 t):=by
 obtain ⟨f,fd,F,hm,hk,hb⟩:=G
 exact AOC F hr hg hm hk hb .nil AQL ha hdb he hpl
def AAM (K:PySem.W.Frag) (mg:Str→Option Value) (x:Str) (st:Stmt):Prop:=∃ (f:Addr) (fd:FuncData),Fun K x x st f fd∧mg x=some (.ref f)
theorem AD5 {P:Program} {w:World} {K:PySem.W.Frag} {mg:Str→Option Value} {base:Heap} {x:Str} {st:Stmt} {N ps:List Str} {k:Nat} {sp:Sp} (D:AAM K mg x st) (S:FnScope N ps (AAC st))
  (hb:∀ (kV doc pm:Value) (an:Option Addr) (cdv ct:Value) (us:List Value),us.length=ps.length→bindArgs (PySem.W.fnOf x x (AAQ st) (AAO st) (AAC st) .none kV doc pm an cdv ct) ⟨us,[]⟩=pure (ps.zip us))
  (len:∀ vs H Q E,sp vs H Q E→vs.length=ps.length)
  (hbody:∀ (f:Addr) (cdv:Value) (A:Around) (outer:List Env) (s:Shared) (H:Hp) (vs:List V) (Q:VK) (E:XK),Room k (A.deeper (PyProof.Rows.envOfC x (AAC st) s.heap.objs.size f cdv))→sp vs H Q E →
   ∃ t,PSs (cxOf CX0 P w K mg base N x (AAC st) f cdv A outer s H E).nox (AAO st) t∧t { nx:=fun _ H'=>Q .non H',rt:=Q } (start N vs) H):Fn P w K mg base x (k + 1) ps sp:=by
 obtain ⟨f,fd,F,hm⟩:=D
 exact ⟨f,fd,F.ok S len (hbody f),hm,F.kp,F.binds hb⟩
section
variable {X:Cx}
theorem ABD:AAs X (.type "list") (fun xs H Q=>∃ p ys,xs=[.ref p]∧(H p=some (.lst ys)∨H p=some (.tup ys))∧∀ l,H l=none→Q (.ref l) (upd H l (.lst ys))):=by
 intro pins s σ H xs us Q I r h
 obtain ⟨p,ys,rfl,hp,q⟩:=h
 exact AIE pins s σ H _ us Q I r ⟨p,ys,rfl,hp.elim (fun z=>.inl (.of z)) (fun z=>.inr (.of z)),q⟩
theorem AAu:AAs X (.type "tuple") (fun xs H Q=>∃ p ys,xs=[.ref p]∧H p=some (.lst ys)∧∀ l,H l=none→Q (.ref l) (upd H l (.tup ys))):=by
 intro pins s σ H xs us Q I r h
 obtain ⟨p,ys,rfl,hp,q⟩:=h
 exact AHj pins s σ H _ us Q I r ⟨p,ys,rfl,.inl ⟨.of hp,q⟩⟩
end
theorem AIL {x:Str} {k:Nat} (h:k≤x.length):(Txt.slice x none (some (k:Int))).cps.toList=x.cps.toList.take k:=by
 have e:=beq_iff_eq.mp (slice_closes_to (x:=x) (j:=(k:Int)) ⟨by lia,by have:x.cps.toList.length=x.length:=Array.length_toList;lia⟩)
 rw [e]
 simp
theorem AFg:∀ ys:List Str,(Txt.join ⟨#[]⟩ ys).cps.toList=(ys.map (·.cps.toList)).flatten:=by
 have hj:∀ ys:List Str,(Str.join ⟨#[]⟩ ys).cps.toList=(ys.map (·.cps.toList)).flatten:=by
  intro ys
  induction ys with
  | nil=>rfl
  | cons y r ih =>
   cases r with
   | nil=>simp [Str.join]
   | cons z r =>
    have e:Str.join ⟨#[]⟩ (y :: z :: r)=y ++ ⟨#[]⟩ ++ Str.join ⟨#[]⟩ (z :: r):=rfl
    rw [e]
    show ((y.cps ++ #[]) ++ (Str.join ⟨#[]⟩ (z :: r)).cps).toList=_
    rw [Array.toList_append,ih]
    simp
 intro ys
 have e:=beq_iff_eq.mp (join_plain_closes ⟨#[]⟩ ys)
 rw [e]
 exact hj ys
section
variable {X:Cx}
theorem AD6:∀ {ys:List Str} {us:List Value},StrsAre us ys→Vals (ys.map V.str) us
 | _,_,.nil=>.nil
 | _,_,.cons y t r=>.cons ⟨t,rfl⟩ (AD6 r)
theorem AB6 (_:True):AAs X (.builtin "sorted") (fun xs H Q=>∃ (p:Addr) (ss:List Str),xs=[.ref p]∧H p=some (.lst (ss.map V.str))∧ss.length<64∧∀ (l:Addr) (ss':List Str),H l=none→ss'.Perm ss→sortedS ss'=true→Q (.ref l) (upd H l (.lst (ss'.map V.str)))):=by
 intro pins s σ H xs us Q I r h
 obtain ⟨p,ss,rfl,hp,h64,q⟩:=h
 obtain ⟨u,rfl,ru⟩:=r.one
 cases ru
 obtain ⟨its,r,pl,hz⟩:=I.list (.of hp)
 have hS:=ADT r
 have hl:=r.length
 rw [List.length_map] at hl
 refine sorted_strs pl.isList hS (by lia) fun out ss' h1 h2 h3=>?_
 obtain ⟨e,he⟩:=sortedAll_at s.heap its out
 refine ⟨.ref (s.heap.objs.size + 1),_,I.laid (t':=s.toks) (o:=.lst (ss'.map V.str)) (fun b o q=>sortedAll_old q) (Nat.le_succ _) ?_,rfl,q _ ss' (I.hok.fresh (Nat.le_succ _)) h2 h3⟩
 refine ⟨?_,out.toList,e,AD6 h1,he⟩
 rw [List.length_map,h2.length_eq]
 exact Nat.le_of_lt (ABh (by lia))
theorem AIM (z:Str):∀ xs:List Str,inV (.str z) (xs.map V.str)=decide (z∈xs)
 | []=>rfl
 | x :: r=>by
  have ih:=AIM z r
  unfold inV at ih ⊢
  rw [List.map_cons,List.any_cons,ih]
  by_cases e:x=z
  ·subst e;simp [eqV]
  ·have e':¬ z=x:=fun h=>e h.symm
   simp [eqV,e,e']
theorem AHD:∀ xs:List Str,(xs.map V.str).all ACi=true
 | []=>rfl
 | x :: r=>by rw [List.map_cons,List.all_cons,AHD r];rfl
theorem APV:OpR X (compareOp .In) (fun x y H Q=>∃ (z:Str) (p:Addr) (xs:List Str),x=.str z∧y=.ref p∧(H p=some (.lst (xs.map V.str))∨H p=some (.tup (xs.map V.str)))∧Q (.bl (decide (z∈xs))) H):=by
 intro pins s σ H x y v u Q I rx ry h
 obtain ⟨z,p,xs,rfl,rfl,hp,q⟩:=h
 refine ALS pins s σ H _ _ v u Q I rx ry ⟨p,xs.map V.str,rfl,hp.elim (fun z=>.inl (.of z)) (fun z=>.inr (.of z)),rfl,AHD xs,?_⟩
 rw [AIM]
 exact q
end
open PySem.Builtin PySem.Builtin.Str in
theorem ACQ {x:Str} (h:0<x.length):(Txt.slice x none (some (-1))).cps.toList=x.cps.toList.take (x.length - 1):=by
 have e:Txt.slice x none (some (-1))=Txt.slice x none (some (((x.length - 1:Nat)):Int)):=by
  unfold Txt.slice
  have e2:strSliceIndices none (some (-1)) 1 x.length=strSliceIndices none (some (((x.length - 1:Nat)):Int)) 1 x.length:=by
   unfold strSliceIndices
   have a1:(-1:Int)<0:=by decide
   have a2:¬ (((x.length - 1:Nat)):Int)<0:=by lia
   simp only [a1,a2,if_true,if_false,show (1:Int) > 0 by decide]
   congr 1
   lia
  rw [e2]
 rw [e]
 exact AIL (by lia)
section
variable {X:Cx}
end
end L2
namespace HT
open PySem PySem.Spec PyProof.Rows
section
variable {prog:Program} {w:World} {A:Around} {E:Value→Shared→Prop} {s:Shared}
theorem getItem_tuple_whole {t sl:Addr} {items:Array Value} {vl vu:Value} {lo hi:Option Int} {Q:Value→Shared→Prop} (ht:IsTup s.heap t items) (hs:s.heap.IsSliceOf sl vl vu .none) (pl:IsPart vl lo) (pu:IsPart vu hi)
  (hw:sIx items.size 0 lo=0∧sIx items.size items.size hi=items.size) (h:Q (.ref t) s):wpAny (model prog w) A (getItem (.ref t) (.ref sl)) Q E s:=by
 obtain ⟨os,hos,hcs,hds⟩:=id hs
 have hTs:s.TypeIs (.ref sl) "slice":=⟨os,hos,hcs⟩
 unfold getItem
 try with_reducible refine wpAny_holding ?_
 first | refine wB (wP ?_) | skip
 refine wB (wpAny_sequenceKey ht.typeIs (by decide) ?_)
 refine wB (wpAny_callSpecial?_slot (name:=Str.ofString "__getitem__") ht.typeIs PyProof.Rows.slot_tuple_getitem
  (wpAny_call_entry PyProof.Rows.slot_tuple_getitem ht.typeIs entry_tuple_getitem ?_ (args_tuple_getitem _ _)))
 show wpAny _ _ (Builtin.Tuple.tupleItemsOf (.ref t) >>= _) _ _ s
 refine wB (tupleItemsOf_ ht (wB (wpAny_typeOf hTs ?_)))
 rw [if_pos (by decide)]
 refine wB (ACw hs pl pu ?_)
 show wpAny _ _ (if (((sIx items.size 0 lo:Nat):Int) == 0 && (1:Int) == 1 && (sIx items.size items.size hi - sIx items.size 0 lo) == items.size)=true then _ else _) _ _ s
 rw [if_pos (by rw [hw.1,hw.2];simp)]
 unfold Builtin.Tuple.tupleIsExact
 refine wB (wB (wpAny_typeOf ht.typeIs (wP ?_)))
 simp only [beq_self_eq_true,if_true]
 first
  | exact wB (wpAny_rule (wP ⟨_,rfl,wP h⟩))
  | exact wB (wpAny_rule (wB (wP (wP ⟨_,rfl,wP h⟩))))
  | exact wB (wB (wpAny_rule (wP (wP ⟨_,rfl,wP h⟩))))
end
end HT
namespace L2
open PySem PySem.Spec PyProof.Rows
section
variable {X:Cx} {pins:List (Addr×Obj)} {σ:St} {H:Hp} {s:Shared} {h':Heap}
theorem Inv.turnedL {t':Nat} {ch:List Addr} (I:Inv X pins σ H s) (k:∀ b o,b ∉ ch→s.heap.get? b=some o→h'.get? b=some o) (hf:∀ b∈ch,FpOk X pins H b):Inv X pins σ H { s with heap:=h',toks:=t' }:=by
 have nit:∀ b u,H b=some u→b ∉ ch:=fun b u e z=>by rw [(hf b z).1] at e;cases e
 refine I.step (g':=s.gens) (d':=s.drawn) (ch:=ch) (fun b hb=>⟨(hf b hb).2.2.2.1,(hf b hb).2.1,(hf b hb).2.2.2.2.1,(hf b hb).2.2.2.2.2⟩) (fun b o _ _ hc e _=>k b o hc e) (fun b o _ _ hc e _=>⟨o.slots,k b o hc e⟩) (fun _ _ _ _ n=>n)
  (fun b o hc e=>⟨o,k b o hc e⟩) (fun _ _ e=>e) (fun _ _ _ e=>e) (fun b ps e=>⟨#[],by rw [e];simp⟩) (fun m hm=>?_) (fun b u e=>?_) I.bare
 ·obtain ⟨o,es,ep,ho,r⟩:=hm
  exact ⟨o,es,ep,k _ o (fun z=>(hf _ z).2.1 rfl) ho,r⟩
 ·refine (I.hok b u e).stay (fun c v hc q=>k c v ?_ q) (fun _ q=>q) fun _ _ q=>q
  rcases hc with z | z
  ·rw [z];exact nit b u e
  ·exact nit c _ z
end
theorem AM2:bootBuiltins "zip"=some (.type "zip"):=by decide +kernel
noncomputable def ANr:V→Option Int→Option Int→Hp→VK→Prop:=fun x lo hi H Q=>∃ a xs,x=.ref a∧H a=some (.tup xs) ∧
 ((HT.sIx xs.length 0 lo=0∧HT.sIx xs.length xs.length hi=xs.length)→Q (.ref a) H) ∧
 (¬ (HT.sIx xs.length 0 lo=0∧HT.sIx xs.length xs.length hi=xs.length)→∀ p,H p=none→Q (.ref p) (upd H p (.tup (cutV xs lo hi))))
theorem AOM {X:Cx}:SlR X ANr:=by
 intro pins s σ H x v vl vu lo hi sl Q I rx hs pl pu h
 obtain ⟨a,xs,rfl,hx,h1,h2⟩:=h
 by_cases hw:HT.sIx xs.length 0 lo=0∧HT.sIx xs.length xs.length hi=xs.length
 ·cases rx
  obtain ⟨its,r,ht,hz⟩:=I.tuple (.of hx)
  have hlen:its.toArray.size=xs.length:=by rw [List.size_toArray];exact r.length.symm
  exact ⟨"tuple",_,PyProof.Rows.slot_tuple_getitem.lookup,ht.typeIs,HT.getItem_tuple_whole ht hs pl pu (by rw [hlen];exact hw) ⟨.ref a,H,I,rfl,h1 hw⟩⟩
 ·exact APL pins s σ H _ v vl vu lo hi sl Q I rx hs pl pu ⟨a,xs,rfl,.of hx,hw,h2 hw⟩
end L2
namespace L2
open PySem PySem.Spec PyProof.Rows PySem.W
noncomputable def ev {α:Type} (lt:Nat→Nat→Bool):KasT α→α
 | .ret a=>a
 | .ask i j k=>ev lt (k (lt i j))
section
variable {O:KeyOrd} {key:Nat→O.α}
end
theorem AGY:∀ a:List Int,HT.lexLt a a=false
 | []=>rfl
 | x :: r=>by rw [HT.lexLt_cons,if_pos rfl];exact AGY r
theorem ADB:∀ a b c:List Int,HT.lexLt a b=true→HT.lexLt b c=true→HT.lexLt a c=true
 | [],[],c,h,_=>by simp [HT.lexLt] at h
 | [],_ :: _,[],_,h=>by simp [HT.lexLt] at h
 | [],_ :: _,_ :: _,_,_=>rfl
 | _ :: _,[],_,h,_=>by simp [HT.lexLt] at h
 | _ :: _,_ :: _,[],_,h=>by simp [HT.lexLt] at h
 | x :: xs,y :: ys,z :: zs,h1,h2=>by
  rw [HT.lexLt_cons] at h1 h2 ⊢
  by_cases e1:x=y
  ·subst e1
   rw [if_pos rfl] at h1
   by_cases e2:x=z
   ·subst e2
    rw [if_pos rfl] at h2 ⊢
    exact ADB xs ys zs h1 h2
   ·rw [if_neg e2] at h2 ⊢;exact h2
  ·rw [if_neg e1] at h1
   have h1:=of_decide_eq_true h1
   by_cases e2:y=z
   ·subst e2
    rw [if_neg e1];exact decide_eq_true h1
   ·rw [if_neg e2] at h2
    have h2:=of_decide_eq_true h2
    rw [if_neg (by lia)];exact decide_eq_true (by lia)
theorem ADC:∀ a b:List Int,HT.lexLt a b=false→HT.lexLt b a=false→a=b
 | [],[],_,_=>rfl
 | [],_ :: _,h,_=>by simp [HT.lexLt] at h
 | _ :: _,[],_,h=>by simp [HT.lexLt] at h
 | x :: xs,y :: ys,h1,h2=>by
  rw [HT.lexLt_cons] at h1 h2
  by_cases e1:x=y
  ·subst e1
   rw [if_pos rfl] at h1 h2
   rw [ADC xs ys h1 h2]
  ·rw [if_neg e1] at h1
   rw [if_neg (fun z=>e1 z.symm)] at h2
   have h1:=of_decide_eq_false h1
   have h2:=of_decide_eq_false h2
   lia
theorem AJi (a b c:List Int) (h:HT.lexLt a c=true):HT.lexLt a b=true∨HT.lexLt b c=true:=by
 cases h1:HT.lexLt a b
 ·cases h2:HT.lexLt b c
  ·exfalso
   cases h3:HT.lexLt b a
   ·rw [ADC a b h1 h3,h2] at h;cases h
   ·have:=ADB b a c h3 h
    rw [h2] at this;cases this
  ·exact .inr rfl
 ·exact .inl rfl
noncomputable def lexO:KeyOrd:=⟨List Int,HT.lexLt,AGY,ADB,AJi,ADC⟩
theorem AEy {prog:Program} {w:World} {A:Around} {s:Shared} {Q:Bool→Shared→Prop}:∀ {us vs:List Value} {ns ms:List Int} (i:Nat),IntsAre us ns→IntsAre vs ms→ns.length=ms.length→Q (HT.lexLt ns ms) s→KatLex prog w A true false Q (us.zip vs) i s
 | _,_,_,_,i,.nil,.nil,_,q=>q
 | _,_,_,_,i,.nil,.cons _ _ _,hl,_=>by simp at hl
 | _,_,_,_,i,.cons _ _ _,.nil,hl,_=>by simp at hl
 | _,_,_,_,i,.cons a t hu,.cons c u hv,hl,q=>by
  rw [List.zip_cons_cons]
  refine kat_cons (SeqAt.EqAt.int_int a t c u prog w _ _ ?_)
  rw [HT.lexLt_cons] at q
  by_cases e:a=c
  ·rw [if_pos e] at q
   rw [show (a == c)=true by simpa using e]
   exact kat_yes (AEy (i + 1) hu hv (by simpa using hl) q)
  ·rw [if_neg e] at q
   rw [show (a == c)=false by simpa using e]
   refine kat_no ?_
   by_cases hi:i=0
   ·subst hi
    exact kat_lt_int (E:=fun _ _=>False) q
   ·rw [show (true && i == 0)=false by simp [hi]]
    exact kat_one _ _ (lt_int (E:=fun _ _=>False) q)
end L2
namespace L2
open PySem PySem.Spec PyProof.Rows
noncomputable abbrev bagO (a:Addr) (i c z:Int):HO:=.lst [.ref a,.int i,.int c,.int z]
structure Bag (H:Hp) (b a:Addr):Prop where
 ob:∃ (ns:List Int) (i c z:Int),H b=some (bagO a i c z)∧H a=some (.lst (ns.map V.int))∧0≤i∧a≠b
structure Step (b a:Addr) (H H':Hp):Prop where
 bag:Bag H' b a
 same:∀ p o,p≠b→H p=some o→H' p=some o
section
variable {H H1 H2:Hp} {b a p D:Addr} {o:HO}
theorem Step.refl (h:Bag H b a):Step b a H H:=⟨h,fun _ _ _ e=>e⟩
theorem Step.trans (x:Step b a H H1) (y:Step b a H1 H2):Step b a H H2:=⟨y.bag,fun p o n e=>y.same p o n (x.same p o n e)⟩
theorem Bag.put (h:Bag H b a) (nb:p≠b) (na:p≠a):Bag (upd H p o) b a:=by
 obtain ⟨ns,i,c,z,h1,h2,r⟩:=h
 exact ⟨ns,i,c,z,by rw [AAE nb.symm];exact h1,by rw [AAE na.symm];exact h2,r⟩
theorem Bag.atb (h:Bag H b a):∃ l,H b=some (.lst l):=by
 obtain ⟨ns,i,c,z,h1,_⟩:=h
 exact ⟨_,h1⟩
theorem Bag.ata (h:Bag H b a):∃ l,H a=some (.lst l):=by
 obtain ⟨ns,i,c,z,h1,h2,_⟩:=h
 exact ⟨_,h2⟩
theorem Bag.nb (h:Bag H b a) (n:H p=none):p≠b:=by
 obtain ⟨l,h1⟩:=h.atb
 exact (AAJ h1 n).symm
theorem Bag.na (h:Bag H b a) (n:H p=none):p≠a:=by
 obtain ⟨l,h1⟩:=h.ata
 exact (AAJ h1 n).symm
theorem Bag.new (h:Bag H b a) (n:H p=none):Bag (upd H p o) b a:=h.put (h.nb n) (h.na n)
theorem Step.new (h:Bag H b a) (n:H p=none):Step b a H (upd H p o):=⟨h.new n,fun q u _ e=>by rw [AAE (AAJ e n)];exact e⟩
theorem Bag.neT (h:Bag H b a) {xs:List V} (e:H p=some (.tup xs)):p≠b∧p≠a:=by
 obtain ⟨ns,i,c,z,h1,h2,_⟩:=h
 exact ⟨AEY e h1 (fun z=>by cases z),AEY e h2 (fun z=>by cases z)⟩
theorem Step.free (s:Step b a H H1) (n:H1 p=none):H p=none:=by
 cases e:H p with
 | none=>rfl
 | some o =>
  rw [s.same p o (s.bag.nb n) e] at n
  cases n
end
noncomputable abbrev keyI (r:List Int):List Key:=r.map Sum.inl
noncomputable abbrev keyS (x:Str):Key:=Sum.inr x
inductive P where
 | non | bl (b:Bool) | int (i:Int) | str (x:Str) | bag
 | tup (xs:List P) | lst (xs:List P)
 | dT (ks:List (List Int)) (vs:List P) | dK (ks:List Str) (vs:List P)
mutual
noncomputable def P.imm:P→Bool
 | .lst _=>false | .dT _ _=>false | .dK _ _=>false
 | .tup xs=>P.imms xs
 | .non=>true | .bl _=>true | .int _=>true | .str _=>true | .bag=>true
noncomputable def P.imms:List P→Bool
 | []=>true
 | x :: r=>x.imm && P.imms r
end
noncomputable def P.mut:P→Bool
 | .lst _=>true | .dT _ _=>true | .dK _ _=>true | _=>false
noncomputable def P.items:P→Option (List P)
 | .lst xs=>some xs | .tup xs=>some xs | _=>none
mutual
def Rp (b:Addr) (Z:Addr→Prop) (H:Hp):P→V→Prop
 | .non,v=>v=.non
 | .bl k,v=>v=.bl k
 | .int i,v=>v=.int i
 | .str x,v=>v=.str x
 | .bag,v=>v=.ref b
 | .tup xs,v=>∃ p vs,v=.ref p∧H p=some (.tup vs)∧Rps b Z H xs vs
 | .lst xs,v=>∃ p vs,v=.ref p∧¬ Z p∧H p=some (.lst vs)∧Rps b Z H xs vs
 | .dT ks xs,v=>∃ p vs,v=.ref p∧¬ Z p∧H p=some (.dT ((ks.map keyI).zip vs))∧ks.length=xs.length∧Rps b Z H xs vs
 | .dK ks xs,v=>∃ p vs,v=.ref p∧¬ Z p∧H p=some (.dK ((ks.map keyS).zip vs))∧ks.length=xs.length∧Rps b Z H xs vs
def Rps (b:Addr) (Z:Addr→Prop) (H:Hp):List P→List V→Prop
 | [],vs=>vs=[]
 | x :: xs,vs=>∃ v r,vs=v :: r∧Rp b Z H x v∧Rps b Z H xs r
end
def Rc (b:Addr) (Z:Addr→Prop) (H:Hp):P→Addr→Prop
 | .lst xs,p=>∃ vs,H p=some (.lst vs)∧Rps b Z H xs vs
 | .dT ks xs,p=>∃ vs,H p=some (.dT ((ks.map keyI).zip vs))∧ks.length=xs.length∧Rps b Z H xs vs
 | .dK ks xs,p=>∃ vs,H p=some (.dK ((ks.map keyS).zip vs))∧ks.length=xs.length∧Rps b Z H xs vs
 | _,_=>False
section
variable {b:Addr} {Z Z':Addr→Prop} {H H':Hp}
mutual
theorem Rp.keep (hk:∀ p o,¬ Z p→H p=some o→¬ Z' p∧H' p=some o) (ht:∀ p vs,H p=some (.tup vs)→H' p=some (.tup vs)):∀ {x:P} {v:V},Rp b Z H x v→Rp b Z' H' x v
 | .non,_,h=>h
 | .bl _,_,h=>h
 | .int _,_,h=>h
 | .str _,_,h=>h
 | .bag,_,h=>h
 | .tup xs,v,h=>by
  obtain ⟨p,vs,h1,h2,h3⟩:=h
  exact ⟨p,vs,h1,ht p vs h2,Rps.keep hk ht h3⟩
 | .lst xs,v,h=>by
  obtain ⟨p,vs,h1,h2,h3,h4⟩:=h
  exact ⟨p,vs,h1,(hk p _ h2 h3).1,(hk p _ h2 h3).2,Rps.keep hk ht h4⟩
 | .dT ks xs,v,h=>by
  obtain ⟨p,vs,h1,h2,h3,hl,h4⟩:=h
  exact ⟨p,vs,h1,(hk p _ h2 h3).1,(hk p _ h2 h3).2,hl,Rps.keep hk ht h4⟩
 | .dK ks xs,v,h=>by
  obtain ⟨p,vs,h1,h2,h3,hl,h4⟩:=h
  exact ⟨p,vs,h1,(hk p _ h2 h3).1,(hk p _ h2 h3).2,hl,Rps.keep hk ht h4⟩
theorem Rps.keep (hk:∀ p o,¬ Z p→H p=some o→¬ Z' p∧H' p=some o) (ht:∀ p vs,H p=some (.tup vs)→H' p=some (.tup vs)):∀ {xs:List P} {vs:List V},Rps b Z H xs vs→Rps b Z' H' xs vs
 | [],_,h=>h
 | x :: xs,vs,h=>by
  obtain ⟨v,r,h1,h2,h3⟩:=h
  exact ⟨v,r,h1,Rp.keep hk ht h2,Rps.keep hk ht h3⟩
end
mutual
theorem Rp.imm:∀ {x:P} {v:V},x.imm=true→Rp b Z H x v→Rp b Z' H x v
 | .non,_,_,h=>h
 | .bl _,_,_,h=>h
 | .int _,_,_,h=>h
 | .str _,_,_,h=>h
 | .bag,_,_,h=>h
 | .tup xs,v,hi,h=>by
  obtain ⟨p,vs,h1,h2,h3⟩:=h
  exact ⟨p,vs,h1,h2,Rps.imm (by simpa [P.imm] using hi) h3⟩
 | .lst _,_,hi,_=>by simp [P.imm] at hi
 | .dT _ _,_,hi,_=>by simp [P.imm] at hi
 | .dK _ _,_,hi,_=>by simp [P.imm] at hi
theorem Rps.imm:∀ {xs:List P} {vs:List V},P.imms xs=true→Rps b Z H xs vs→Rps b Z' H xs vs
 | [],_,_,h=>h
 | x :: xs,vs,hi,h=>by
  obtain ⟨v,r,h1,h2,h3⟩:=h
  rw [P.imms,Bool.and_eq_true] at hi
  exact ⟨v,r,h1,Rp.imm hi.1 h2,Rps.imm hi.2 h3⟩
end
theorem Rps.length:∀ {xs:List P} {vs:List V},Rps b Z H xs vs→xs.length=vs.length
 | [],_,h=>by rw [show _=[] from h];rfl
 | x :: xs,vs,h=>by
  obtain ⟨v,r,h1,h2,h3⟩:=h
  rw [h1,List.length_cons,List.length_cons,Rps.length h3]
theorem Rps.get:∀ {xs:List P} {vs:List V} {i:Nat} {x:P},Rps b Z H xs vs→xs[i]?=some x→∃ v,vs[i]?=some v∧Rp b Z H x v
 | [],_,_,_,_,e=>by simp at e
 | y :: xs,vs,0,x,h,e=>by
  obtain ⟨v,r,h1,h2,h3⟩:=h
  simp at e;subst e;subst h1
  exact ⟨v,rfl,h2⟩
 | y :: xs,vs,i + 1,x,h,e=>by
  obtain ⟨v,r,h1,h2,h3⟩:=h
  subst h1
  obtain ⟨u,h4,h5⟩:=Rps.get (i:=i) h3 (by simpa using e)
  exact ⟨u,by simpa using h4,h5⟩
theorem Rps.app:∀ {xs ys:List P} {vs us:List V},Rps b Z H xs vs→Rps b Z H ys us→Rps b Z H (xs ++ ys) (vs ++ us)
 | [],_,_,_,h,g=>by rw [show _=[] from h];exact g
 | x :: xs,ys,vs,us,h,g=>by
  obtain ⟨v,r,h1,h2,h3⟩:=h
  subst h1
  exact ⟨v,r ++ us,rfl,h2,Rps.app h3 g⟩
theorem Rps.take:∀ {xs:List P} {vs:List V} (n:Nat),Rps b Z H xs vs→Rps b Z H (xs.take n) (vs.take n)
 | _,_,0,_=>rfl
 | [],_,_ + 1,h=>by rw [show _=[] from h];rfl
 | x :: xs,vs,n + 1,h=>by
  obtain ⟨v,r,h1,h2,h3⟩:=h
  subst h1
  exact ⟨v,r.take n,rfl,h2,Rps.take n h3⟩
theorem Rps.drop:∀ {xs:List P} {vs:List V} (n:Nat),Rps b Z H xs vs→Rps b Z H (xs.drop n) (vs.drop n)
 | _,_,0,h=>h
 | [],_,_ + 1,h=>by rw [show _=[] from h];rfl
 | x :: xs,vs,n + 1,h=>by
  obtain ⟨v,r,h1,h2,h3⟩:=h
  subst h1
  exact Rps.drop n h3
theorem Rps.set {x:P} {v:V} (h0:Rp b Z H x v):∀ {xs:List P} {vs:List V} (n:Nat),Rps b Z H xs vs→Rps b Z H (xs.set n x) (vs.set n v)
 | [],_,_,h=>by rw [show _=[] from h];rfl
 | y :: xs,vs,0,h=>by
  obtain ⟨u,r,h1,h2,h3⟩:=h
  subst h1
  exact ⟨v,r,rfl,h0,h3⟩
 | y :: xs,vs,n + 1,h=>by
  obtain ⟨u,r,h1,h2,h3⟩:=h
  subst h1
  exact ⟨u,r.set n v,rfl,h2,Rps.set h0 n h3⟩
theorem Rps.erase:∀ {xs:List P} {vs:List V} (n:Nat),Rps b Z H xs vs→Rps b Z H (xs.eraseIdx n) (vs.eraseIdx n)
 | [],_,_,h=>by rw [show _=[] from h];rfl
 | y :: xs,vs,0,h=>by
  obtain ⟨u,r,h1,h2,h3⟩:=h
  subst h1
  exact h3
 | y :: xs,vs,n + 1,h=>by
  obtain ⟨u,r,h1,h2,h3⟩:=h
  subst h1
  exact ⟨u,r.eraseIdx n,rfl,h2,Rps.erase n h3⟩
theorem Rps.snoc {xs:List P} {vs:List V} {x:P} {v:V} (h:Rps b Z H xs vs) (g:Rp b Z H x v):Rps b Z H (xs ++ [x]) (vs ++ [v]):=h.app ⟨v,[],rfl,g,rfl⟩
theorem Rps.ints:∀ {ns:List Int} {vs:List V},Rps b Z H (ns.map P.int) vs ↔ vs=ns.map V.int
 | [],vs=>Iff.rfl
 | n :: ns,vs=>by
  constructor
  ·rintro ⟨v,r,h1,h2,h3⟩
   rw [h1,show v=.int n from h2,Rps.ints.mp h3];rfl
  ·intro h
   exact ⟨.int n,ns.map V.int,h,rfl,Rps.ints.mpr rfl⟩
theorem Rps.strs:∀ {ns:List Str} {vs:List V},Rps b Z H (ns.map P.str) vs ↔ vs=ns.map V.str
 | [],vs=>Iff.rfl
 | n :: ns,vs=>by
  constructor
  ·rintro ⟨v,r,h1,h2,h3⟩
   rw [h1,show v=.str n from h2,Rps.strs.mp h3];rfl
  ·intro h
   exact ⟨.str n,ns.map V.str,h,rfl,Rps.strs.mpr rfl⟩
theorem Rps.bls:∀ {ns:List Bool} {vs:List V},Rps b Z H (ns.map P.bl) vs ↔ vs=ns.map V.bl
 | [],vs=>Iff.rfl
 | n :: ns,vs=>by
  constructor
  ·rintro ⟨v,r,h1,h2,h3⟩
   rw [h1,show v=.bl n from h2,Rps.bls.mp h3];rfl
  ·intro h
   exact ⟨.bl n,ns.map V.bl,h,rfl,Rps.bls.mpr rfl⟩
end
@[simp] theorem AJj (i:Int):(P.int i).imm=true:=rfl
@[simp] theorem AJk (i:Str):(P.str i).imm=true:=rfl
@[simp] theorem ALX (i:Bool):(P.bl i).imm=true:=rfl
@[simp] theorem AJl:P.non.imm=true:=rfl
@[simp] theorem AJm:P.bag.imm=true:=rfl
@[simp] theorem AJn (xs:List P):(P.lst xs).imm=false:=rfl
@[simp] theorem ALY (ks:List (List Int)) (xs:List P):(P.dT ks xs).imm=false:=rfl
@[simp] theorem ALZ (ks:List Str) (xs:List P):(P.dK ks xs).imm=false:=rfl
@[simp] theorem AJo (xs:List P):(P.tup xs).imm=P.imms xs:=by simp [P.imm]
@[simp] theorem AIN:P.imms []=true:=by simp [P.imms]
@[simp] theorem ADD (x:P) (xs:List P):P.imms (x :: xs)=(x.imm && P.imms xs):=by simp [P.imms]
theorem AE9 {xs:List P}:P.imms xs=true ↔ ∀ x∈xs,x.imm=true:=by
 induction xs with
 | nil=>simp
 | cons x r ih=>simp [ih]
theorem ACR {α:Type} {f:α→P} (h:∀ a,(f a).imm=true) (xs:List α):P.imms (xs.map f)=true:=by
 rw [AE9]
 intro x hx
 obtain ⟨a,_,rfl⟩:=List.mem_map.mp hx
 exact h a
@[simp] theorem AD7 (ns:List Int):P.imms (ns.map P.int)=true:=ACR (fun _=>rfl) ns
@[simp] theorem ADE (ns:List Str):P.imms (ns.map P.str)=true:=ACR (fun _=>rfl) ns
@[simp] theorem AIO (ns:List Bool):P.imms (ns.map P.bl)=true:=ACR (fun _=>rfl) ns
@[simp] theorem AJp (xs:List P):(P.lst xs).mut=true:=rfl
@[simp] theorem ALa (ks:List (List Int)) (xs:List P):(P.dT ks xs).mut=true:=rfl
@[simp] theorem ALb (ks:List Str) (xs:List P):(P.dK ks xs).mut=true:=rfl
@[simp] theorem AJq (xs:List P):(P.tup xs).mut=false:=rfl
@[simp] theorem AHE (xs:List P):(P.lst xs).items=some xs:=rfl
@[simp] theorem AHF (xs:List P):(P.tup xs).items=some xs:=rfl
inductive S where
 | emp | sh (x:P) | fr (x:P) | own (x:P)
inductive Fl where
 | nw | fr | cl | bo | rf | an
 deriving DecidableEq
noncomputable def Fl.el:Fl→Fl
 | .nw=>.fr | .fr=>.fr | .bo=>.fr | .cl=>.cl | .rf=>.rf | .an=>.an
noncomputable def Fl.top:Fl→Fl
 | .nw=>.nw | .fr=>.nw | .bo=>.nw | .cl=>.cl | .rf=>.rf | .an=>.an
noncomputable def Fl.join:Fl→Fl→Fl
 | .nw,g=>g | f,.nw=>f
 | .cl,.cl=>.cl | .rf,.rf=>.rf | _,_=>.an
noncomputable def topF (f:Fl) (xs:List P):Fl:=if P.imms xs=true then .nw else f.top
structure Wd where
 b:Addr
 a:Addr
 H₀:Hp
 F:Hp
 O:Addr→Prop
def OwS (ρ:List S) (σ:St) (p:Addr):Prop:=∃ (i:Nat) (x:P),ρ[i]?=some (.own x)∧σ[i]?=some (some (.ref p))
def Ow (W:Wd) (ρ:List S) (σ:St) (p:Addr):Prop:=W.O p∨OwS ρ σ p
def Zof (W:Wd) (ρ:List S) (σ:St):Fl→Addr→Prop
 | .cl,p=>p=W.b∨Ow W ρ σ p
 | .rf,p=>p=W.b∨W.H₀ p≠none
 | .an,p=>p=W.b
 | _,p=>p=W.b∨Ow W ρ σ p∨W.H₀ p≠none
noncomputable abbrev Zf (W:Wd) (ρ:List S) (σ:St):Addr→Prop:=Zof W ρ σ .fr
noncomputable abbrev Zc (W:Wd) (ρ:List S) (σ:St):Addr→Prop:=Zof W ρ σ .cl
def ABX (W:Wd) (ρ:List S) (σ:St) (H:Hp):S→Option V→Prop
 | .emp,_=>True
 | .sh x,o=>∃ v,o=some v∧Rp W.b (Zc W ρ σ) H x v
 | .fr x,o=>∃ v,o=some v∧Rp W.b (Zf W ρ σ) H x v
 | .own x,o=>∃ p,o=some (.ref p)∧W.H₀ p=none∧W.F p=none∧p≠W.b∧p≠W.a∧Rc W.b (Zf W ρ σ) H x p
structure Ok (W:Wd) (ρ:List S) (σ:St) (H:Hp):Prop where
 bag:Bag H W.b W.a
 fb:W.F W.b=none
 old:∀ p o,p≠W.b→W.H₀ p=some o→H p=some o
 frm:∀ p o,W.F p=some o→H p=some o
 oo:∀ p,W.O p→W.H₀ p=none∧W.F p=none∧p≠W.b∧p≠W.a∧∃ o,H p=some o∧∀ ys,o≠.tup ys
 len:σ.length=ρ.length
 slot:∀ (i:Nat) s,ρ[i]?=some s→∃ o,σ[i]?=some o∧ABX W ρ σ H s o
 uniq:∀ (i j:Nat) x y,ρ[i]?=some (S.own x)→ρ[j]?=some (S.own y)→σ[i]?=σ[j]?→i=j
def RF (W:Wd) (ρ:List S) (σ:St) (Hs:Hp):Fl→Hp→P→V→Prop
 | .bo,H,x,v=>∃ p,v=.ref p∧OwS ρ σ p∧Rc W.b (Zf W ρ σ) H x p
 | .nw,H,x,v=>Rp W.b (Zf W ρ σ) H x v∧(x.mut=true→∃ p,v=.ref p∧Hs p=none)
 | f,H,x,v=>Rp W.b (Zof W ρ σ f) H x v
section
variable {W:Wd} {ρ ρ':List S} {σ σ':St} {H H' H1 Hs:Hp} {x:P} {v:V} {xs:List P} {vs:List V} {f:Fl} {p:Addr}
theorem Rc.cell {b:Addr} {Z:Addr→Prop} (h:Rc b Z H x p):∃ o,H p=some o∧∀ ys,o≠.tup ys:=by
 cases x with
 | lst xs=>obtain ⟨vs,h1,_⟩:=h;exact ⟨_,h1,fun _ z=>nomatch z⟩
 | dT ks xs=>obtain ⟨vs,h1,_⟩:=h;exact ⟨_,h1,fun _ z=>nomatch z⟩
 | dK ks xs=>obtain ⟨vs,h1,_⟩:=h;exact ⟨_,h1,fun _ z=>nomatch z⟩
 | _=>exact h.elim
theorem Ok.ow (ok:Ok W ρ σ H) (h:Ow W ρ σ p):W.H₀ p=none∧W.F p=none∧p≠W.b∧p≠W.a∧∃ o,H p=some o∧∀ ys,o≠.tup ys:=by
 rcases h with h | ⟨i,x,h1,h2⟩
 ·exact ok.oo p h
 obtain ⟨o,h3,q,h4,h5,h6,h7,h8,h9⟩:=ok.slot i _ h1
 rw [h2] at h3
 cases h3
 cases h4
 exact ⟨h5,h6,h7,h8,h9.cell⟩
theorem Ok.dom (ok:Ok W ρ σ H) (h:Zof W ρ σ f p):H p≠none:=by
 have hb:p=W.b→H p≠none:=fun e=>by
  obtain ⟨l,q⟩:=ok.bag.atb
  rw [e,q];exact fun z=>nomatch z
 have ho:Ow W ρ σ p→H p≠none:=fun e=>by
  obtain ⟨_,_,_,_,o,q,_⟩:=ok.ow e
  rw [q];exact fun z=>nomatch z
 have hh:W.H₀ p≠none→H p≠none:=fun e z=>by
  by_cases hp:p=W.b
  ·exact hb hp z
  ·cases q:W.H₀ p with
   | none=>exact e q
   | some o=>rw [ok.old p o hp q] at z;cases z
 cases f <;> simp only [Zof] at h
 ·exact h.elim hb fun h=>h.elim ho hh
 ·exact h.elim hb fun h=>h.elim ho hh
 ·exact h.elim hb ho
 ·exact h.elim hb fun h=>h.elim ho hh
 ·exact h.elim hb hh
 ·exact hb h
theorem Zof.b:Zof W ρ σ f W.b:=by
 cases f <;> simp [Zof]
theorem Rp.step (h:Rp W.b (Zof W ρ σ f) H x v) (s:Step W.b W.a H H') (hb:Bag H W.b W.a):Rp W.b (Zof W ρ σ f) H' x v :=
 h.keep (fun p o hz e=>⟨hz,s.same p o (fun z=>hz (z ▸ Zof.b)) e⟩) fun p vs e=>s.same p _ (hb.neT e).1 e
theorem Rps.step (h:Rps W.b (Zof W ρ σ f) H xs vs) (s:Step W.b W.a H H') (hb:Bag H W.b W.a):Rps W.b (Zof W ρ σ f) H' xs vs :=
 h.keep (fun p o hz e=>⟨hz,s.same p o (fun z=>hz (z ▸ Zof.b)) e⟩) fun p vs e=>s.same p _ (hb.neT e).1 e
theorem Rc.step (h:Rc W.b (Zf W ρ σ) H x p) (s:Step W.b W.a H H') (hb:Bag H W.b W.a) (hp:p≠W.b):Rc W.b (Zf W ρ σ) H' x p:=by
 cases x with
 | lst xs=>obtain ⟨vs,h1,h2⟩:=h;exact ⟨vs,s.same p _ hp h1,h2.step s hb⟩
 | dT ks xs=>obtain ⟨vs,h1,h0,h2⟩:=h;exact ⟨vs,s.same p _ hp h1,h0,h2.step s hb⟩
 | dK ks xs=>obtain ⟨vs,h1,h0,h2⟩:=h;exact ⟨vs,s.same p _ hp h1,h0,h2.step s hb⟩
 | _=>exact h.elim
theorem ABX.step {s:S} {o:Option V} (h:ABX W ρ σ H s o) (st:Step W.b W.a H H') (hb:Bag H W.b W.a):ABX W ρ σ H' s o:=by
 cases s with
 | emp=>trivial
 | sh x=>obtain ⟨v,h1,h2⟩:=h;exact ⟨v,h1,h2.step st hb⟩
 | fr x=>obtain ⟨v,h1,h2⟩:=h;exact ⟨v,h1,h2.step st hb⟩
 | own x=>obtain ⟨p,h1,h2,h3,h4,h5,h6⟩:=h;exact ⟨p,h1,h2,h3,h4,h5,h6.step st hb h4⟩
theorem Ok.step (ok:Ok W ρ σ H) (st:Step W.b W.a H H'):Ok W ρ σ H' where
 bag:=st.bag
 fb:=ok.fb
 old:=fun p o hp e=>st.same p o hp (ok.old p o hp e)
 frm:=fun p o e=>st.same p o (fun z=>by rw [z,ok.fb] at e;cases e) (ok.frm p o e)
 oo:=fun p h=>let ⟨h1,h2,h3,h4,o,h5,h6⟩:=ok.oo p h;⟨h1,h2,h3,h4,o,st.same p o h3 h5,h6⟩
 len:=ok.len
 slot:=fun i s e=>let ⟨o,h1,h2⟩:=ok.slot i s e;⟨o,h1,h2.step st ok.bag⟩
 uniq:=ok.uniq
theorem RF.step (h:RF W ρ σ Hs f H x v) (ok:Ok W ρ σ H) (s:Step W.b W.a H H'):RF W ρ σ Hs f H' x v:=by
 cases f with
 | bo =>
  obtain ⟨p,h1,h2,h3⟩:=h
  exact ⟨p,h1,h2,h3.step s ok.bag (ok.ow (.inr h2)).2.2.1⟩
 | nw=>exact ⟨h.1.step (f:=.fr) s ok.bag,h.2⟩
 | fr=>exact Rp.step (f:=.fr) h s ok.bag
 | cl=>exact Rp.step (f:=.cl) h s ok.bag
 | rf=>exact Rp.step (f:=.rf) h s ok.bag
 | an=>exact Rp.step (f:=.an) h s ok.bag
theorem RF.back (h:RF W ρ σ H1 f H x v) (s:Step W.b W.a Hs H1):RF W ρ σ Hs f H x v:=by
 cases f with
 | nw=>exact ⟨h.1,fun m=>let ⟨p,e,n⟩:=h.2 m;⟨p,e,s.free n⟩⟩
 | _=>exact h
theorem RF.any (h:RF W ρ σ Hs f H x v) (ok:Ok W ρ σ H):Rp W.b (Zof W ρ σ .an) H x v:=by
 have k:∀ {g:Fl},Rp W.b (Zof W ρ σ g) H x v→Rp W.b (Zof W ρ σ .an) H x v:=fun {g} h=>h.keep (fun p o hz e=>⟨fun z=>hz (by rw [show p=W.b from z];exact Zof.b),e⟩) fun p vs e=>e
 cases f with
 | bo =>
  obtain ⟨p,h1,h2,h3⟩:=h
  have nb:=(ok.ow (.inr h2)).2.2.1
  have k2:∀ {xs:List P} {vs:List V},Rps W.b (Zf W ρ σ) H xs vs→Rps W.b (Zof W ρ σ .an) H xs vs:=fun h=>h.keep (fun p o hz e=>⟨fun z=>hz (by rw [show p=W.b from z];exact Zof.b),e⟩) fun p vs e=>e
  cases x with
  | lst xs=>obtain ⟨vs,h4,h5⟩:=h3;exact ⟨p,vs,h1,nb,h4,k2 h5⟩
  | dT ks xs=>obtain ⟨vs,h4,h0,h5⟩:=h3;exact ⟨p,vs,h1,nb,h4,h0,k2 h5⟩
  | dK ks xs=>obtain ⟨vs,h4,h0,h5⟩:=h3;exact ⟨p,vs,h1,nb,h4,h0,k2 h5⟩
  | _=>exact h3.elim
 | nw=>exact k (g:=.fr) h.1
 | fr=>exact k (g:=.fr) h
 | cl=>exact k (g:=.cl) h
 | rf=>exact k (g:=.rf) h
 | an=>exact h
theorem RF.items (h:RF W ρ σ Hs f H x v) (hx:x.items=some xs):∃ p vs,v=.ref p∧(H p=some (.lst vs)∨H p=some (.tup vs))∧Rps W.b (Zof W ρ σ f) H xs vs:=by
 have k:∀ {g:Fl},Rp W.b (Zof W ρ σ g) H x v→∃ p vs,v=.ref p∧(H p=some (.lst vs)∨H p=some (.tup vs))∧Rps W.b (Zof W ρ σ g) H xs vs:=fun {g} h=>by
  cases x <;> simp only [P.items] at hx <;> try cases hx
  ·obtain ⟨p,vs,h1,h2,h3⟩:=h;exact ⟨p,vs,h1,.inr h2,h3⟩
  ·obtain ⟨p,vs,h1,h0,h2,h3⟩:=h;exact ⟨p,vs,h1,.inl h2,h3⟩
 cases f with
 | bo =>
  obtain ⟨p,h1,h2,h3⟩:=h
  cases x <;> simp only [P.items] at hx <;> try cases hx
  ·exact h3.elim
  ·obtain ⟨vs,h4,h5⟩:=h3;exact ⟨p,vs,h1,.inl h4,h5⟩
 | nw=>exact k (g:=.fr) h.1
 | fr=>exact k (g:=.fr) h
 | cl=>exact k (g:=.cl) h
 | rf=>exact k (g:=.rf) h
 | an=>exact k (g:=.an) h
theorem RF.ofEl (h:Rp W.b (Zof W ρ σ f) H x v):RF W ρ σ Hs f.el H x v:=by
 cases f <;> exact h
theorem RF.newL (ok:Ok W ρ σ H) (st:Step W.b W.a Hs H) (hr:Rps W.b (Zof W ρ σ f) H xs vs) (hp:H p=none):RF W ρ σ Hs (topF f xs) (upd H p (.lst vs)) (.lst xs) (.ref p):=by
 have nz:∀ g,¬ Zof W ρ σ g p:=fun g z=>ok.dom z hp
 have k:∀ g,Rps W.b (Zof W ρ σ g) H xs vs→Rp W.b (Zof W ρ σ g) (upd H p (.lst vs)) (.lst xs) (.ref p):=fun g h=>⟨p,vs,rfl,nz g,AAG,h.step (Step.new ok.bag hp) ok.bag⟩
 unfold topF
 split
 ·exact ⟨k .fr (hr.imm ‹_›),fun _=>⟨p,rfl,st.free hp⟩⟩
 ·cases f with
  | nw=>exact ⟨k .fr hr,fun _=>⟨p,rfl,st.free hp⟩⟩
  | fr=>exact ⟨k .fr hr,fun _=>⟨p,rfl,st.free hp⟩⟩
  | bo=>exact ⟨k .fr hr,fun _=>⟨p,rfl,st.free hp⟩⟩
  | cl=>exact k .cl hr
  | rf=>exact k .rf hr
  | an=>exact k .an hr
theorem RF.newT (ok:Ok W ρ σ H) (hr:Rps W.b (Zof W ρ σ f) H xs vs) (hp:H p=none):RF W ρ σ Hs (topF f xs) (upd H p (.tup vs)) (.tup xs) (.ref p):=by
 have k:∀ g,Rps W.b (Zof W ρ σ g) H xs vs→Rp W.b (Zof W ρ σ g) (upd H p (.tup vs)) (.tup xs) (.ref p):=fun g h=>⟨p,vs,rfl,AAG,h.step (Step.new ok.bag hp) ok.bag⟩
 unfold topF
 split
 ·exact ⟨k .fr (hr.imm ‹_›),fun m=>by simp at m⟩
 ·cases f with
  | nw=>exact ⟨k .fr hr,fun m=>by simp at m⟩
  | fr=>exact ⟨k .fr hr,fun m=>by simp at m⟩
  | bo=>exact ⟨k .fr hr,fun m=>by simp at m⟩
  | cl=>exact k .cl hr
  | rf=>exact k .rf hr
  | an=>exact k .an hr
end
noncomputable abbrev pE:=List S→(P→Fl→Prop)→Prop
noncomputable abbrev pT:=List S→(Bool→Prop)→Prop
noncomputable abbrev pA:=List S→(List (P×Fl)→Prop)→Prop
def RefE (t:TE) (p:pE):Prop:=∀ (W:Wd) (ρ:List S) (σ:St) (H:Hp) (Q:VK) (K:P→Fl→Prop),Ok W ρ σ H→p ρ K→(∀ x f v H',K x f→Step W.b W.a H H'→RF W ρ σ H f H' x v→Q v H')→t σ H Q
def RefT (t:TT) (p:pT):Prop:=∀ (W:Wd) (ρ:List S) (σ:St) (H:Hp) (Q:Bool→Hp→Prop) (K:Bool→Prop),Ok W ρ σ H→p ρ K→(∀ c H',K c→Step W.b W.a H H'→Q c H')→t σ H Q
def RFs (W:Wd) (ρ:List S) (σ:St) (Hs H:Hp):List (P×Fl)→List V→Prop
 | [],vs=>vs=[]
 | (x,f) :: r,vs=>∃ v t,vs=v :: t∧RF W ρ σ Hs f H x v∧RFs W ρ σ Hs H r t
def RefA (t:TA) (p:pA):Prop:=∀ (W:Wd) (ρ:List S) (σ:St) (H:Hp) (Q:List V→Hp→Prop) (K:List (P×Fl)→Prop),Ok W ρ σ H→p ρ K→(∀ xs vs H',K xs→Step W.b W.a H H'→RFs W ρ σ H H' xs vs→Q vs H')→t σ H Q
section
variable {ι:Type}
def QE (Xs:ι→Cx) (e:Expr) (p:pE):Prop:=∃ t,(∀ i,PE (Xs i) e t)∧RefE t p
def QT (Xs:ι→Cx) (e:Expr) (p:pT):Prop:=∃ t,(∀ i,PT (Xs i) e t)∧RefT t p
def QW (Xs:ι→Cx) (e:Expr) (p:pT):Prop:=∃ t,(∀ i,PW (Xs i) e t)∧RefT t p
def QA (Xs:ι→Cx) (es:List Expr) (p:pA):Prop:=∃ t,(∀ i,PA (Xs i) es t)∧RefA t p
end
noncomputable abbrev p2:=P→Fl→P→Fl→(P→Fl→Prop)→Prop
def Ref2 (r:R2) (pr:p2):Prop:=∀ (W:Wd) (ρ:List S) (σ:St) (Hs H:Hp) (Q:VK) (K:P→Fl→Prop) (x y:P) (f g:Fl) (v u:V),Ok W ρ σ H→Step W.b W.a Hs H→RF W ρ σ Hs f H x v→RF W ρ σ Hs g H y u→pr x f y g K →
 (∀ z h v' H',K z h→Step W.b W.a H H'→RF W ρ σ Hs h H' z v'→Q v' H')→r v u H Q
noncomputable abbrev pC:=List (P×Fl)→(P→Fl→Prop)→Prop
def RefC (r:List V→Hp→VK→Prop) (pr:pC):Prop:=∀ (W:Wd) (ρ:List S) (σ:St) (Hs H:Hp) (Q:VK) (K:P→Fl→Prop) (xs:List (P×Fl)) (vs:List V),Ok W ρ σ H→Step W.b W.a Hs H→RFs W ρ σ Hs H xs vs→pr xs K →
 (∀ z h v' H',K z h→Step W.b W.a H H'→RF W ρ σ Hs h H' z v'→Q v' H')→r vs H Q
section
variable {W:Wd} {ρ:List S} {σ:St} {H H' H1 Hs:Hp} {x:P} {v:V} {f:Fl} {ar:List (P×Fl)} {vs:List V}
theorem RFs.back:∀ {ar:List (P×Fl)} {vs:List V},RFs W ρ σ H1 H ar vs→Step W.b W.a Hs H1→RFs W ρ σ Hs H ar vs
 | [],_,h,_=>h
 | (x,f) :: r,vs,h,st=>by
  obtain ⟨v,t,h1,h2,h3⟩:=h
  exact ⟨v,t,h1,h2.back st,RFs.back h3 st⟩
theorem RFs.any:∀ {ar:List (P×Fl)} {vs:List V},RFs W ρ σ Hs H ar vs→Ok W ρ σ H→Rps W.b (Zof W ρ σ .an) H (ar.map (·.1)) vs
 | [],_,h,_=>h
 | (x,f) :: r,vs,h,ok=>by
  obtain ⟨v,t,h1,h2,h3⟩:=h
  exact ⟨v,t,h1,h2.any ok,RFs.any h3 ok⟩
theorem RFs.length:∀ {ar:List (P×Fl)} {vs:List V},RFs W ρ σ Hs H ar vs→vs.length=ar.length
 | [],_,h=>by rw [show _=[] from h];rfl
 | (x,f) :: r,vs,h=>by
  obtain ⟨v,t,h1,h2,h3⟩:=h
  rw [h1,List.length_cons,List.length_cons,RFs.length h3]
end
def pVar (k:Nat):pE:=fun ρ K=>match ρ[k]? with
 | some (.sh x)=>K x .cl
 | some (.fr x)=>K x .fr
 | some (.own x)=>K x .bo
 | _=>False
def pK (x:P):pE:=fun _ K=>K x .fr
def pOp (pr:p2) (pa pb:pE):pE:=fun ρ K=>pa ρ fun x f=>pb ρ fun y g=>pr x f y g K
def pNil:pA:=fun _ K=>K []
def AKP (pa:pE) (pr:pA):pA:=fun ρ K=>pa ρ fun x f=>pr ρ fun xs=>K ((x,f) :: xs)
def AEd (pr:pC) (pa:pA):pE:=fun ρ K=>pa ρ fun xs=>pr xs K
section
variable {ι:Type} {Xs:ι→Cx} {a b c:Expr} {es:List Expr} {pa pb pc:pE} {pos:Pos}
theorem Ok.var {W:Wd} {ρ:List S} {σ:St} {H:Hp} (ok:Ok W ρ σ H) {k:Nat} {K:P→Fl→Prop} (h:pVar k ρ K):∃ x f v,K x f∧σ[k]?=some (some v)∧RF W ρ σ H f H x v:=by
 unfold pVar at h
 cases e:ρ[k]? with
 | none=>rw [e] at h;exact h.elim
 | some s =>
  rw [e] at h
  obtain ⟨o,h1,h2⟩:=ok.slot k s e
  cases s with
  | emp=>exact h.elim
  | sh x=>obtain ⟨v,rfl,h3⟩:=h2;exact ⟨x,_,v,h,h1,h3⟩
  | fr x=>obtain ⟨v,rfl,h3⟩:=h2;exact ⟨x,_,v,h,h1,h3⟩
  | own x=>obtain ⟨p,rfl,h3,h4,h5,h6,h7⟩:=h2;exact ⟨x,_,_,h,h1,p,rfl,⟨k,x,e,h1⟩,h7⟩
theorem AM3 (k:Nat):RefE (tVar k) (pVar k):=fun W ρ σ H Q K ok h q=>by
 obtain ⟨x,f,v,h1,h2,h3⟩:=ok.var h
 exact ⟨v,h2,q x f v H h1 (Step.refl ok.bag) h3⟩
theorem qv (k:Nat) {x:Str} {pos:Pos} (hN:∀ i,(Xs i).N[k]?=some x:=by intro _;rfl) (hv:∀ i,Vis (Xs i).env.scope x:=by intro _;trivial) (hd:(x == ("__debug__":Str))=false:=by decide)
  (hcd:(x == ("__classdict__":Str))=false:=by decide):QE Xs (.Name x pos) (pVar k):=⟨_,fun i=>AB2 (hN i) (hv i) hd hcd,AM3 k⟩
theorem APW {v:V} {x:P} (hi:x.imm=true) (h:∀ W H,Rp W (fun _=>False) H x v):RefE (tC v) (pK x):=fun W ρ σ H Q K ok hk q=>q x .fr v H hk (Step.refl ok.bag) ((h W.b H).imm hi)
theorem AAF {i j}:QE Xs (.Constant (.int i) j pos) (pK (.int i)):=⟨_,fun _=>AAK,APW rfl fun _ _=>rfl⟩
theorem AEe {r:R2} {pr:p2} {ta tb:TE} (hr:Ref2 r pr) (ha:RefE ta pa) (hb:RefE tb pb):RefE (tOp r ta tb) (pOp pr pa pb):=fun W ρ σ H Q K ok h q =>
 ha W ρ σ H _ _ ok h fun x f v H1 h1 s1 r1=>hb W ρ σ H1 _ _ (ok.step s1) h1 fun y g u H2 h2 s2 r2 =>
  hr W ρ σ H H2 Q K x y f g v u ((ok.step s1).step s2) (s1.trans s2) (r1.step (ok.step s1) s2) (r2.back s1) h2 fun z h v' H' h3 s3 r3=>q z h v' H' h3 ((s1.trans s2).trans s3) r3
theorem ABe {op:Operator} {r:R2} {pr:p2} (ho:∀ i,OpR (Xs i) (binaryOp op) r) (hr:Ref2 r pr) (ha:QE Xs a pa) (hb:QE Xs b pb):QE Xs (.BinOp a op b pos) (pOp pr pa pb):=by
 obtain ⟨ta,ha1,ha2⟩:=ha
 obtain ⟨tb,hb1,hb2⟩:=hb
 exact ⟨_,fun i=>AAt (ho i) (ha1 i) (hb1 i),AEe hr ha2 hb2⟩
theorem AD8 {op:CmpOp} {r:R2} {pr:p2} (ho:∀ i,OpR (Xs i) (compareOp op) r) (hr:Ref2 r pr) (ha:QE Xs a pa) (hb:QE Xs b pb) (hm:behindInMarks op b=false):QE Xs (.Compare a [op] [b] pos) (pOp pr pa pb):=by
 obtain ⟨ta,ha1,ha2⟩:=ha
 obtain ⟨tb,hb1,hb2⟩:=hb
 exact ⟨_,fun i=>AOA (ho i) (ha1 i) (hb1 i) hm,AEe hr ha2 hb2⟩
theorem ABP {r:R2} {pr:p2} (ho:∀ i,IxR (Xs i) r) (hr:Ref2 r pr) (ha:QE Xs a pa) (hb:QE Xs b pb) (hs:AJd b):QE Xs (.Subscript a b pos) (pOp pr pa pb):=by
 obtain ⟨ta,ha1,ha2⟩:=ha
 obtain ⟨tb,hb1,hb2⟩:=hb
 exact ⟨_,fun i=>ABW (ho i) (ha1 i) (hb1 i) hs,AEe hr ha2 hb2⟩
theorem AAB:QA Xs [] pNil:=⟨_,fun _=>AAY,fun W ρ σ H Q K ok h q=>q [] [] H h (Step.refl ok.bag) rfl⟩
theorem AAA {pr:pA} (ha:QE Xs a pa) (hr:QA Xs es pr) (hs:∀ i,starEach (a :: es) (Xs i).env=(false,eval a (Xs i).env) :: starEach es (Xs i).env:=by intro _;rfl):QA Xs (a :: es) (AKP pa pr):=by
 obtain ⟨ta,ha1,ha2⟩:=ha
 obtain ⟨tr,hr1,hr2⟩:=hr
 refine ⟨_,fun i=>AAL (ha1 i) (hr1 i) (hs i),fun W ρ σ H Q K ok h q=>?_⟩
 exact ha2 W ρ σ H _ _ ok h fun x f v H1 h1 s1 r1=>hr2 W ρ σ H1 _ _ (ok.step s1) h1 fun xs vs H2 h2 s2 r2 =>
  q _ _ H2 h2 (s1.trans s2) ⟨v,vs,rfl,r1.step (ok.step s1) s2,r2.back s1⟩
theorem AD9 {r:List V→Hp→VK→Prop} {pr:pC} {t:TA} {p:pA} (hr:RefC r pr) (ha:RefA t p):RefE (tCB r t) (AEd pr p):=fun W ρ σ H Q K ok h q =>
 ha W ρ σ H _ _ ok h fun xs vs H1 h1 s1 r1=>hr W ρ σ H H1 Q K xs vs (ok.step s1) s1 r1 h1 fun z h v' H' h3 s3 r3=>q z h v' H' h3 (s1.trans s3) r3
theorem AAS {x:Str} {id:String} {r:List V→Hp→VK→Prop} {pr:pC} {p:pA} {p1:Pos} (hc:∀ i,AAs (Xs i) (.builtin id) r) (hr:RefC r pr) (hm:∀ i,(Xs i).mg x=none) (hv:bootBuiltins x=some (.builtin id)) (ha:QA Xs (a :: es) p)
  (hg:∀ i,Gl (Xs i) x:=by intro _;rfl) (hn:x≠"__name__":=by decide +kernel) (hdb:(x == ("__debug__":Str))=false:=by decide +kernel) (he:∀ i,starEach (a :: es) (Xs i).env=(false,eval a (Xs i).env) :: starEach es (Xs i).env:=by intro _;rfl) (hpl:∀ i,(backTo pos (starEach es (Xs i).env)).any (·.1)=false:=by intro _;rfl) :
  QE Xs (.Call (.Name x p1) (a :: es) [] pos) (AEd pr p):=by
 obtain ⟨t,h1,h2⟩:=ha
 exact ⟨_,fun i=>ACC (hc i) (hg i) (hm i) hv (h1 i) hn hdb (he i) (hpl i),AD9 hr h2⟩
theorem AAU {x:Str} {T:String} {r:List V→Hp→VK→Prop} {pr:pC} {p:pA} {p1:Pos} (hc:∀ i,AAs (Xs i) (.type T) r) (hr:RefC r pr) (hm:∀ i,(Xs i).mg x=none) (hv:bootBuiltins x=some (.type T)) (ha:QA Xs (a :: es) p)
  (hg:∀ i,Gl (Xs i) x:=by intro _;rfl) (hn:x≠"__name__":=by decide +kernel) (hdb:(x == ("__debug__":Str))=false:=by decide +kernel) (he:∀ i,starEach (a :: es) (Xs i).env=(false,eval a (Xs i).env) :: starEach es (Xs i).env:=by intro _;rfl) (hpl:∀ i,(backTo pos (starEach es (Xs i).env)).any (·.1)=false:=by intro _;rfl) :
  QE Xs (.Call (.Name x p1) (a :: es) [] pos) (AEd pr p):=by
 obtain ⟨t,h1,h2⟩:=ha
 exact ⟨_,fun i=>ADz (hc i) (hg i) (hm i) hv (h1 i) hn hdb (he i) (hpl i),AD9 hr h2⟩
end
noncomputable def AAb:P→Fl→Fl
 | x,.bo=>if x.imm=true then .nw else .rf
 | x,.nw=>.nw
 | x,.fr=>.nw
 | x,.cl=>if x.imm=true then .nw else .cl
 | x,.rf=>if x.imm=true then .nw else .rf
 | x,.an=>if x.imm=true then .nw else .an
noncomputable def AB7:List (P×Fl)→Fl
 | []=>.nw
 | (x,f) :: r=>(AAb x f).join (AB7 r)
def AKQ (p:pA):pE:=fun ρ K=>p ρ fun xs=>K (.tup (xs.map (·.1))) (AB7 xs)
def AKR (p:pA):pE:=fun ρ K=>p ρ fun xs=>K (.lst (xs.map (·.1))) (AB7 xs)
section
variable {W:Wd} {ρ:List S} {σ:St} {H H' H1 Hs:Hp} {x:P} {v:V} {f g:Fl} {ar:List (P×Fl)} {vs:List V}
theorem AFA (ok:Ok W ρ σ H) (h2:RF W ρ σ Hs f H x v):AAb x f≠.bo∧AAb x f≠.fr∧Rp W.b (Zof W ρ σ (AAb x f)) H x v:=by
 by_cases hi:x.imm=true
 ·have e:AAb x f=.nw:=by cases f <;> simp [AAb,hi]
  rw [e]
  exact ⟨by simp,by simp,(h2.any ok).imm hi⟩
 ·cases f with
  | nw=>exact ⟨by simp [AAb],by simp [AAb],h2.1⟩
  | fr=>exact ⟨by simp [AAb],by simp [AAb],h2⟩
  | cl=>simp only [AAb,if_neg hi];exact ⟨by simp,by simp,h2⟩
  | rf=>simp only [AAb,if_neg hi];exact ⟨by simp,by simp,h2⟩
  | an=>simp only [AAb,if_neg hi];exact ⟨by simp,by simp,h2⟩
  | bo =>
   simp only [AAb,if_neg hi]
   refine ⟨by simp,by simp,?_⟩
   obtain ⟨p,q1,q2,q3⟩:=h2
   have qo:=ok.ow (.inr q2)
   have nz:¬ Zof W ρ σ .rf p:=by
    simp only [Zof,not_or,Classical.not_not]
    exact ⟨qo.2.2.1,qo.1⟩
   have kk:∀ {xs:List P} {vs:List V},Rps W.b (Zf W ρ σ) H xs vs→Rps W.b (Zof W ρ σ .rf) H xs vs:=fun h=>h.keep (fun p o hz e=>⟨fun z=>hz (z.elim .inl fun z=>.inr (.inr z)),e⟩) fun p vs e=>e
   cases x with
   | lst xs=>obtain ⟨us,q4,q5⟩:=q3;exact ⟨p,us,q1,nz,q4,kk q5⟩
   | dT ks xs=>obtain ⟨us,q4,q0,q5⟩:=q3;exact ⟨p,us,q1,nz,q4,q0,kk q5⟩
   | dK ks xs=>obtain ⟨us,q4,q0,q5⟩:=q3;exact ⟨p,us,q1,nz,q4,q0,kk q5⟩
   | _=>exact q3.elim
theorem AIP {g j:Fl} (h1:g≠.bo) (h2:g≠.fr) (h3:j≠.bo) (h4:j≠.fr) (p:Addr) (z:Zof W ρ σ (g.join j) p):Zof W ρ σ g p∧Zof W ρ σ j p:=by
 cases g <;> cases j <;> simp_all [Fl.join,Zof] <;> rcases z with z | z <;> simp_all
theorem AGZ {g j:Fl} (h1:g≠.bo) (h2:g≠.fr) (h3:j≠.bo) (h4:j≠.fr):g.join j≠.bo∧g.join j≠.fr:=by
 cases g <;> cases j <;> simp_all [Fl.join]
theorem RFs.items:∀ {ar:List (P×Fl)} {vs:List V},Ok W ρ σ H→RFs W ρ σ Hs H ar vs→AB7 ar≠.bo∧AB7 ar≠.fr∧Rps W.b (Zof W ρ σ (AB7 ar)) H (ar.map (·.1)) vs
 | [],_,_,h=>⟨by simp [AB7],by simp [AB7],h⟩
 | (x,f) :: r,vs,ok,h=>by
  obtain ⟨v,t,h1,h2,h3⟩:=h
  obtain ⟨n1,n2,h4⟩:=RFs.items ok h3
  obtain ⟨hgb,hgf,hx⟩:=AFA ok h2
  have hj:=AIP (W:=W) (ρ:=ρ) (σ:=σ) hgb hgf n1 n2
  exact ⟨(AGZ hgb hgf n1 n2).1,(AGZ hgb hgf n1 n2).2,v,t,h1,hx.keep (fun p o hz e=>⟨fun z=>hz (hj p z).1,e⟩) (fun p vs e=>e),h4.keep (fun p o hz e=>⟨fun z=>hz (hj p z).2,e⟩) (fun p vs e=>e)⟩
theorem RF.topped {g:Fl} (hb:g≠.bo) (hf:g≠.fr):g.top=g:=by cases g <;> simp_all [Fl.top]
end
section
variable {ι:Type} {Xs:ι→Cx} {a b c:Expr} {es:List Expr} {pa pb pc:pE} {pos:Pos}
theorem AEA:∀ {xs:List (P×Fl)},P.imms (xs.map (·.1))=true→AB7 xs=.nw
 | [],_=>rfl
 | (x,f) :: r,hi=>by
  simp only [List.map_cons,ADD,Bool.and_eq_true] at hi
  rw [AB7,AEA hi.2]
  have:AAb x f=.nw:=by cases f <;> simp [AAb,hi.1]
  rw [this];rfl
theorem AEB {x1} {p:pA} (h:QA Xs es p) {n:Nat} (hn:es.length=n:=by rfl) (hz:n≤sizeLine:=by decide):QE Xs (.Tuple es x1 pos) (AKQ fun ρ K=>p ρ fun xs=>xs.length=n∧K xs):=by
 obtain ⟨t,h1,h2⟩:=h
 refine ⟨_,fun i=>API (h1 i),fun W ρ σ H Q K ok hk q=>?_⟩
 refine h2 W ρ σ H _ _ ok hk fun xs vs H1 ⟨hl,k1⟩ s1 r1=>⟨by rw [r1.length,hl];exact hz,fun p hp=>?_⟩
 obtain ⟨n1,n2,r2⟩:=RFs.items (ok.step s1) r1
 have st:=s1.trans (Step.new (o:=.tup vs) s1.bag hp)
 refine q _ _ (.ref p) _ k1 st ?_
 have:=RF.newT (Hs:=H) (ok.step s1) r2 hp
 unfold topF at this
 split at this
 ·rename_i hi
  rw [AEA hi];exact this
 ·rw [RF.topped n1 n2] at this;exact this
theorem ABB {p:pA} (h:QA Xs es p) {n:Nat} (hn:es.length=n:=by rfl) (hz:n≤sizeLine:=by decide):QE Xs (.List es pos) (AKR fun ρ K=>p ρ fun xs=>xs.length=n∧K xs):=by
 obtain ⟨t,h1,h2⟩:=h
 refine ⟨_,fun i=>AFX (h1 i),fun W ρ σ H Q K ok hk q=>?_⟩
 refine h2 W ρ σ H _ _ ok hk fun xs vs H1 ⟨hl,k1⟩ s1 r1=>⟨by rw [r1.length,hl];exact hz,fun p hp=>?_⟩
 obtain ⟨n1,n2,r2⟩:=RFs.items (ok.step s1) r1
 have st:=s1.trans (Step.new (o:=.lst vs) s1.bag hp)
 refine q _ _ (.ref p) _ k1 st ?_
 have:=RF.newL (ok.step s1) s1 r2 hp
 unfold topF at this
 split at this
 ·rename_i hi
  rw [AEA hi];exact this
 ·rw [RF.topped n1 n2] at this;exact this
end
noncomputable def unkI (k:List Key):List Int:=k.map fun x=>match x with | .inl i=>i | .inr _=>0
noncomputable def unkS (k:Key):Str:=match k with | .inr x=>x | .inl _=>⟨#[]⟩
theorem AEC (r:List Int):unkI (keyI r)=r:=by simp [unkI,List.map_map,Function.comp_def]
theorem ALc {ks ks':List (List Int)} (h:ks.map keyI=ks'.map keyI):ks=ks':=by
 have:=congrArg (List.map unkI) h
 simpa [List.map_map,Function.comp_def,AEC] using this
theorem ALd {ks ks':List Str} (h:ks.map keyS=ks'.map keyS):ks=ks':=by
 have:=congrArg (List.map unkS) h
 simpa [List.map_map,Function.comp_def,unkS] using this
theorem AJr {α β:Type} {ks ks':List α} {vs vs':List β} (h1:ks.length=vs.length) (h2:ks'.length=vs'.length) (h:ks.zip vs=ks'.zip vs'):ks=ks'∧vs=vs':=by
 have a:=congrArg (List.map Prod.fst) h
 have b:=congrArg (List.map Prod.snd) h
 rw [List.map_fst_zip (by lia),List.map_fst_zip (by lia)] at a
 rw [List.map_snd_zip (by lia),List.map_snd_zip (by lia)] at b
 exact ⟨a,b⟩
section
variable {b:Addr} {Z Z':Addr→Prop} {H H':Hp}
mutual
theorem Rp.fun (hz:Z b) (hb:∀ vs,H b≠some (.tup vs)):∀ {x y:P} {v:V},Rp b Z H x v→Rp b Z H y v→x=y
 | .non,y,v,h1,h2=>by
  rw [show v=_ from h1] at h2
  cases y <;> simp_all [Rp]
 | .bl _,y,v,h1,h2=>by
  rw [show v=_ from h1] at h2
  cases y <;> simp_all [Rp]
 | .int _,y,v,h1,h2=>by
  rw [show v=_ from h1] at h2
  cases y <;> simp_all [Rp]
 | .str _,y,v,h1,h2=>by
  rw [show v=_ from h1] at h2
  cases y <;> simp_all [Rp]
 | .bag,y,v,h1,h2=>by
  rw [show v=_ from h1] at h2
  cases y <;> simp_all [Rp]
 | .tup xs,y,v,h1,h2=>by
  obtain ⟨p,vs,rfl,e2,e3⟩:=h1
  cases y with
  | tup ys =>
   obtain ⟨q,us,f1,f2,f3⟩:=h2
   cases f1
   rw [e2] at f2
   cases f2
   rw [Rps.fun hz hb e3 f3]
  | lst ys=>obtain ⟨q,us,f1,_,f2,f3⟩:=h2;cases f1;rw [e2] at f2;cases f2
  | dT ks ys=>obtain ⟨q,us,f1,_,f2,f3⟩:=h2;cases f1;rw [e2] at f2;cases f2
  | dK ks ys=>obtain ⟨q,us,f1,_,f2,f3⟩:=h2;cases f1;rw [e2] at f2;cases f2
  | bag=>cases (show V.ref p=V.ref b from h2);exact absurd e2 (hb vs)
  | _=>cases h2
 | .lst xs,y,v,h1,h2=>by
  obtain ⟨p,vs,rfl,e1,e2,e3⟩:=h1
  cases y with
  | lst ys =>
   obtain ⟨q,us,f1,_,f2,f3⟩:=h2
   cases f1
   rw [e2] at f2
   cases f2
   rw [Rps.fun hz hb e3 f3]
  | tup ys=>obtain ⟨q,us,f1,f2,f3⟩:=h2;cases f1;rw [e2] at f2;cases f2
  | dT ks ys=>obtain ⟨q,us,f1,_,f2,f3⟩:=h2;cases f1;rw [e2] at f2;cases f2
  | dK ks ys=>obtain ⟨q,us,f1,_,f2,f3⟩:=h2;cases f1;rw [e2] at f2;cases f2
  | bag=>cases (show V.ref p=V.ref b from h2);exact absurd hz e1
  | _=>cases h2
 | .dT ks xs,y,v,h1,h2=>by
  obtain ⟨p,vs,rfl,e1,e2,el,e3⟩:=h1
  cases y with
  | dT ks' ys =>
   obtain ⟨q,us,f1,_,f2,fl,f3⟩:=h2
   cases f1
   rw [e2] at f2
   obtain ⟨g1,g2⟩:=AJr (by rw [List.length_map];exact el.trans e3.length) (by rw [List.length_map];exact fl.trans f3.length) (HO.dT.inj (Option.some.inj f2))
   have g1:=ALc g1
   subst g1;subst g2
   rw [Rps.fun hz hb e3 f3]
  | tup ys=>obtain ⟨q,us,f1,f2,f3⟩:=h2;cases f1;rw [e2] at f2;cases f2
  | lst ys=>obtain ⟨q,us,f1,_,f2,f3⟩:=h2;cases f1;rw [e2] at f2;cases f2
  | dK ks ys=>obtain ⟨q,us,f1,_,f2,f3⟩:=h2;cases f1;rw [e2] at f2;cases f2
  | bag=>cases (show V.ref p=V.ref b from h2);exact absurd hz e1
  | _=>cases h2
 | .dK ks xs,y,v,h1,h2=>by
  obtain ⟨p,vs,rfl,e1,e2,el,e3⟩:=h1
  cases y with
  | dK ks' ys =>
   obtain ⟨q,us,f1,_,f2,fl,f3⟩:=h2
   cases f1
   rw [e2] at f2
   obtain ⟨g1,g2⟩:=AJr (by rw [List.length_map];exact el.trans e3.length) (by rw [List.length_map];exact fl.trans f3.length) (HO.dK.inj (Option.some.inj f2))
   have g1:=ALd g1
   subst g1;subst g2
   rw [Rps.fun hz hb e3 f3]
  | tup ys=>obtain ⟨q,us,f1,f2,f3⟩:=h2;cases f1;rw [e2] at f2;cases f2
  | lst ys=>obtain ⟨q,us,f1,_,f2,f3⟩:=h2;cases f1;rw [e2] at f2;cases f2
  | dT ks ys=>obtain ⟨q,us,f1,_,f2,f3⟩:=h2;cases f1;rw [e2] at f2;cases f2
  | bag=>cases (show V.ref p=V.ref b from h2);exact absurd hz e1
  | _=>cases h2
theorem Rps.fun (hz:Z b) (hb:∀ vs,H b≠some (.tup vs)):∀ {xs ys:List P} {vs:List V},Rps b Z H xs vs→Rps b Z H ys vs→xs=ys
 | [],ys,vs,h1,h2=>by
  rw [show vs=[] from h1] at h2
  cases ys with
  | nil=>rfl
  | cons y r=>obtain ⟨v,t,e,_⟩:=h2;cases e
 | x :: xs,ys,vs,h1,h2=>by
  obtain ⟨v,r,rfl,e2,e3⟩:=h1
  cases ys with
  | nil=>cases (show v :: r=[] from h2)
  | cons y ys =>
   obtain ⟨u,t,f1,f2,f3⟩:=h2
   cases f1
   rw [Rp.fun hz hb e2 f2,Rps.fun hz hb e3 f3]
end
mutual
theorem Rp.avoid (hz:Z b) (hb:∀ vs,H b≠some (.tup vs)) {x:P} {p:Addr} (hx:Rp b Z H x (.ref p)):∀ {y:P} {v:V},sizeOf y<sizeOf x→Rp b Z H y v→Rp b (fun q=>Z q∨q=p) H y v
 | .non,_,_,h=>h
 | .bl _,_,_,h=>h
 | .int _,_,_,h=>h
 | .str _,_,_,h=>h
 | .bag,_,_,h=>h
 | .tup ys,v,hs,h=>by
  obtain ⟨q,vs,e1,e2,e3⟩:=h
  exact ⟨q,vs,e1,e2,Rps.avoid hz hb hx (by simp at hs ⊢;lia) e3⟩
 | .lst ys,v,hs,h=>by
  obtain ⟨q,vs,rfl,e1,e2,e3⟩:=id h
  refine ⟨q,vs,rfl,fun z=>z.elim e1 fun z=>?_,e2,Rps.avoid hz hb hx (by simp at hs ⊢;lia) e3⟩
  subst z
  rw [Rp.fun hz hb hx h] at hs
  exact Nat.lt_irrefl _ hs
 | .dT ks ys,v,hs,h=>by
  obtain ⟨q,vs,rfl,e1,e2,el,e3⟩:=id h
  refine ⟨q,vs,rfl,fun z=>z.elim e1 fun z=>?_,e2,el,Rps.avoid hz hb hx (by simp at hs ⊢;lia) e3⟩
  subst z
  rw [Rp.fun hz hb hx h] at hs
  exact Nat.lt_irrefl _ hs
 | .dK ks ys,v,hs,h=>by
  obtain ⟨q,vs,rfl,e1,e2,el,e3⟩:=id h
  refine ⟨q,vs,rfl,fun z=>z.elim e1 fun z=>?_,e2,el,Rps.avoid hz hb hx (by simp at hs ⊢;lia) e3⟩
  subst z
  rw [Rp.fun hz hb hx h] at hs
  exact Nat.lt_irrefl _ hs
theorem Rps.avoid (hz:Z b) (hb:∀ vs,H b≠some (.tup vs)) {x:P} {p:Addr} (hx:Rp b Z H x (.ref p)):∀ {ys:List P} {vs:List V},sizeOf ys<sizeOf x→Rps b Z H ys vs→Rps b (fun q=>Z q∨q=p) H ys vs
 | [],_,_,h=>h
 | y :: ys,vs,hs,h=>by
  obtain ⟨v,r,e1,e2,e3⟩:=h
  exact ⟨v,r,e1,Rp.avoid hz hb hx (by simp at hs ⊢;lia) e2,Rps.avoid hz hb hx (by simp at hs ⊢;lia) e3⟩
end
theorem Rp.toRc (hz:Z b) (hb:∀ vs,H b≠some (.tup vs)) {x:P} {p:Addr} (hm:x.mut=true) (hx:Rp b Z H x (.ref p)):¬ Z p∧Rc b (fun q=>Z q∨q=p) H x p:=by
 cases x with
 | lst xs =>
  obtain ⟨q,vs,e0,e1,e2,e3⟩:=id hx
  cases e0
  exact ⟨e1,vs,e2,Rps.avoid hz hb hx (by simp) e3⟩
 | dT ks xs =>
  obtain ⟨q,vs,e0,e1,e2,el,e3⟩:=id hx
  cases e0
  exact ⟨e1,vs,e2,el,Rps.avoid hz hb hx (by simp;lia) e3⟩
 | dK ks xs =>
  obtain ⟨q,vs,e0,e1,e2,el,e3⟩:=id hx
  cases e0
  exact ⟨e1,vs,e2,el,Rps.avoid hz hb hx (by simp;lia) e3⟩
 | _=>simp [P.mut] at hm
end
def pSet (k:Nat) (x:P) (f:Fl) (ρ:List S) (K:List S→Prop):Prop :=
 if x.imm=true then K (ρ.set k (.sh x)) else match f with
 | .nw=>K (ρ.set k (if x.mut=true then .own x else .fr x))
 | .fr=>K (ρ.set k (.fr x))
 | .cl=>K (ρ.set k (.sh x))
 | _=>False
section
variable {W:Wd} {ρ ρ':List S} {σ σ':St} {H H' H1 Hs:Hp} {x:P} {v:V} {xs:List P} {vs:List V} {f:Fl} {p:Addr} {k:Nat}
theorem Ok.nt (ok:Ok W ρ σ H):∀ vs,H W.b≠some (.tup vs):=fun vs e=>(ok.bag.neT e).1 rfl
theorem mv1 (st:Step W.b W.a Hs H) (hn:∀ p,OwS ρ' σ' p→OwS ρ σ p∨Hs p=none) (p:Addr) (o:HO) (hz:¬ Zof W ρ σ f p) (e:Hs p=some o):¬ Zof W ρ' σ' f p∧H p=some o:=by
 refine ⟨fun z=>hz ?_,st.same p o (fun z=>hz (z ▸ Zof.b)) e⟩
 have k:Ow W ρ' σ' p→Ow W ρ σ p:=fun z=>z.elim .inl fun z=>(hn p z).elim .inr fun z=>by rw [e] at z;cases z
 cases f <;> simp only [Zof] at z ⊢
 ·exact z.elim .inl fun z=>.inr (z.elim (fun z=>.inl (k z)) .inr)
 ·exact z.elim .inl fun z=>.inr (z.elim (fun z=>.inl (k z)) .inr)
 ·exact z.elim .inl fun z=>.inr (k z)
 ·exact z.elim .inl fun z=>.inr (z.elim (fun z=>.inl (k z)) .inr)
 ·exact z
 ·exact z
theorem Rp.move (hb:Bag Hs W.b W.a) (st:Step W.b W.a Hs H) (hn:∀ p,OwS ρ' σ' p→OwS ρ σ p∨Hs p=none) (h:Rp W.b (Zof W ρ σ f) Hs x v):Rp W.b (Zof W ρ' σ' f) H x v :=
 h.keep (mv1 st hn) fun p vs e=>st.same p _ (hb.neT e).1 e
theorem Rps.move (hb:Bag Hs W.b W.a) (st:Step W.b W.a Hs H) (hn:∀ p,OwS ρ' σ' p→OwS ρ σ p∨Hs p=none) (h:Rps W.b (Zof W ρ σ f) Hs xs vs):Rps W.b (Zof W ρ' σ' f) H xs vs :=
 h.keep (mv1 st hn) fun p vs e=>st.same p _ (hb.neT e).1 e
theorem Rc.move (hb:Bag Hs W.b W.a) (st:Step W.b W.a Hs H) (hp:p≠W.b) (hn:∀ p,OwS ρ' σ' p→OwS ρ σ p∨Hs p=none) (h:Rc W.b (Zf W ρ σ) Hs x p):Rc W.b (Zf W ρ' σ') H x p:=by
 cases x with
 | lst xs=>obtain ⟨vs,h1,h2⟩:=h;exact ⟨vs,st.same p _ hp h1,h2.move hb st hn⟩
 | dT ks xs=>obtain ⟨vs,h1,h0,h2⟩:=h;exact ⟨vs,st.same p _ hp h1,h0,h2.move hb st hn⟩
 | dK ks xs=>obtain ⟨vs,h1,h0,h2⟩:=h;exact ⟨vs,st.same p _ hp h1,h0,h2.move hb st hn⟩
 | _=>exact h.elim
theorem ABX.move {s:S} {o:Option V} (hb:Bag Hs W.b W.a) (st:Step W.b W.a Hs H) (hn:∀ p,OwS ρ' σ' p→OwS ρ σ p∨Hs p=none) (h:ABX W ρ σ Hs s o):ABX W ρ' σ' H s o:=by
 cases s with
 | emp=>trivial
 | sh x=>obtain ⟨v,h1,h2⟩:=h;exact ⟨v,h1,h2.move hb st hn⟩
 | fr x=>obtain ⟨v,h1,h2⟩:=h;exact ⟨v,h1,h2.move hb st hn⟩
 | own x=>obtain ⟨p,h1,h2,h3,h4,h5,h6⟩:=h;exact ⟨p,h1,h2,h3,h4,h5,h6.move hb st h4 hn⟩
theorem Ok.put {s:S} (ok:Ok W ρ σ Hs) (st:Step W.b W.a Hs H) (hk:k<ρ.length) (hn:∀ p,OwS (ρ.set k s) (σ.set k (some v)) p→OwS ρ σ p∨Hs p=none)
  (hs:ABX W (ρ.set k s) (σ.set k (some v)) H s (some v)) (hu:∀ y,s=.own y→∃ p,v=.ref p∧Hs p=none):Ok W (ρ.set k s) (σ.set k (some v)) H where
 bag:=st.bag
 fb:=ok.fb
 old:=fun p o hp e=>st.same p o hp (ok.old p o hp e)
 frm:=fun p o e=>st.same p o (fun z=>by rw [z,ok.fb] at e;cases e) (ok.frm p o e)
 oo:=(ok.step st).oo
 len:=by rw [List.length_set,List.length_set];exact ok.len
 slot:=fun i s' e=>by
  by_cases hi:k=i
  ·subst hi
   rw [List.getElem?_set_self hk] at e
   cases e
   exact ⟨some v,List.getElem?_set_self (by rw [ok.len];exact hk),hs⟩
  ·rw [List.getElem?_set_ne hi] at e
   obtain ⟨o,h1,h2⟩:=ok.slot i s' e
   exact ⟨o,by rw [List.getElem?_set_ne hi];exact h1,h2.move ok.bag st hn⟩
 uniq:=fun i j x y h1 h2 h3=>by
  have old:∀ i x,k≠i→(ρ.set k s)[i]?=some (.own x)→∃ p o,σ[i]?=some (some (.ref p))∧Hs p=some o:=fun i x hi e=>by
   rw [List.getElem?_set_ne hi] at e
   obtain ⟨o,q1,p,q2,_,_,_,_,q3⟩:=ok.slot i _ e
   obtain ⟨o',q4,_⟩:=q3.cell
   exact ⟨p,o',by rw [q1,q2],q4⟩
  have new:∀ i x,k=i→(ρ.set k s)[i]?=some (.own x)→∃ p,v=.ref p∧Hs p=none:=fun i x hi e=>by
   subst hi
   rw [List.getElem?_set_self hk] at e
   cases e
   exact hu x rfl
  have hks:k<σ.length:=by rw [ok.len];exact hk
  by_cases hi:k=i <;> by_cases hj:k=j
  ·exact hi.symm.trans hj
  ·exfalso
   obtain ⟨p,e1,e2⟩:=new i x hi h1
   obtain ⟨q,o,e3,e4⟩:=old j y hj h2
   rw [←hi,List.getElem?_set_self hks,List.getElem?_set_ne hj,e3,e1] at h3
   cases h3
   rw [e2] at e4;cases e4
  ·exfalso
   obtain ⟨p,e1,e2⟩:=new j y hj h2
   obtain ⟨q,o,e3,e4⟩:=old i x hi h1
   rw [←hj,List.getElem?_set_self hks,List.getElem?_set_ne hi,e3,e1] at h3
   cases h3
   rw [e2] at e4;cases e4
  ·rw [List.getElem?_set_ne hi] at h1 h3
   rw [List.getElem?_set_ne hj] at h2 h3
   exact ok.uniq i j x y h1 h2 h3
theorem ADU {s:S} (hs:∀ x,s≠.own x):∀ p,OwS (ρ.set k s) (σ.set k (some v)) p→OwS ρ σ p:=fun p ⟨i,x,h1,h2⟩=>by
 by_cases hi:k=i
 ·subst hi
  rcases Nat.lt_or_ge k ρ.length with q | q
  ·rw [List.getElem?_set_self q] at h1
   exact absurd (Option.some.inj h1) (hs x)
  ·rw [List.getElem?_eq_none (by rw [List.length_set];exact q)] at h1
   cases h1
 ·rw [List.getElem?_set_ne hi] at h1 h2
  exact ⟨i,x,h1,h2⟩
theorem Ok.set {K:List S→Prop} (ok:Ok W ρ σ Hs) (st:Step W.b W.a Hs H) (r:RF W ρ σ Hs f H x v) (h:pSet k x f ρ K):∃ ρ',K ρ'∧Ok W ρ' (σ.set k (some v)) H:=by
 by_cases hk:ρ.length≤k
 ·have e1:∀ s,ρ.set k s=ρ:=fun s=>List.set_eq_of_length_le hk
  have e2:σ.set k (some v)=σ:=List.set_eq_of_length_le (by rw [ok.len];exact hk)
  rw [e2]
  refine ⟨ρ,?_,ok.step st⟩
  unfold pSet at h
  simp only [e1] at h
  split at h
  ·exact h
  ·cases f <;> first | exact h | exact h.elim
 have hk:k<ρ.length:=Nat.lt_of_not_le hk
 have okH:=ok.step st
 have k1:∀ (s:S),(∀ x,s≠.own x)→ABX W (ρ.set k s) (σ.set k (some v)) H s (some v)→Ok W (ρ.set k s) (σ.set k (some v)) H:=fun s hs hq =>
  ok.put st hk (fun p z=>.inl (ADU hs p z)) hq fun y e=>absurd e (hs y)
 have k2:∀ {s:S} {g:Fl},(∀ x,s≠.own x)→Rp W.b (Zof W ρ σ g) H x v→Rp W.b (Zof W (ρ.set k s) (σ.set k (some v)) g) H x v:=fun {s g} hs hq =>
  Rp.move okH.bag (Step.refl okH.bag) (fun p z=>.inl (ADU hs p z)) hq
 unfold pSet at h
 split at h
 ·rename_i hi
  exact ⟨_,h,k1 _ (fun _ z=>nomatch z) ⟨v,rfl,(r.any okH).imm hi⟩⟩
 ·cases f with
  | nw =>
   dsimp only at h
   by_cases hm:x.mut=true
   ·rw [if_pos hm] at h
    refine ⟨_,h,?_⟩
    obtain ⟨p,rfl,hp⟩:=r.2 hm
    have hn:∀ q,OwS (ρ.set k (.own x)) (σ.set k (some (.ref p))) q→OwS ρ σ q∨Hs q=none:=fun q ⟨i,y,h1,h2⟩=>by
     by_cases hi:k=i
     ·subst hi
      rw [List.getElem?_set_self (by rw [ok.len];exact hk)] at h2
      cases h2
      exact .inr hp
     ·rw [List.getElem?_set_ne hi] at h1 h2
      exact .inl ⟨i,y,h1,h2⟩
    obtain ⟨nz,rc⟩:=Rp.toRc (b:=W.b) (Z:=Zf W ρ σ) Zof.b okH.nt hm r.1
    have nzp:p≠W.b∧W.H₀ p=none:=by
     simp only [Zof,not_or,Classical.not_not] at nz
     exact ⟨nz.1,nz.2.2⟩
    have hF:W.F p=none:=by
     cases q:W.F p with
     | none=>rfl
     | some o=>rw [ok.frm p o q] at hp;cases hp
    have ha:p≠W.a:=ok.bag.na hp
    have zz:∀ q,¬ (Zf W ρ σ q∨q=p)→¬ Zf W (ρ.set k (.own x)) (σ.set k (some (.ref p))) q:=fun q hq z=>hq (by
     simp only [Zof] at z ⊢
     rcases z with z | z | z
     ·exact .inl (.inl z)
     ·rcases z with z | z
      ·exact .inl (.inr (.inl (.inl z)))
      ·obtain ⟨i,y,h1,h2⟩:=z
       by_cases hi:k=i
       ·subst hi
        rw [List.getElem?_set_self (by rw [ok.len];exact hk)] at h2
        cases h2
        exact .inr rfl
       ·rw [List.getElem?_set_ne hi] at h1 h2
        exact .inl (.inr (.inl (.inr ⟨i,y,h1,h2⟩)))
     ·exact .inl (.inr (.inr z)))
    have kk:∀ {xs:List P} {vs:List V},Rps W.b (fun q=>Zf W ρ σ q∨q=p) H xs vs→Rps W.b (Zf W (ρ.set k (.own x)) (σ.set k (some (.ref p)))) H xs vs:=fun h=>h.keep (fun q o hz e=>⟨zz q hz,e⟩) fun q us e=>e
    refine ok.put st hk hn ⟨p,rfl,nzp.2,hF,nzp.1,ha,?_⟩ fun y e=>⟨p,rfl,hp⟩
    cases x with
    | lst xs=>obtain ⟨us,q4,q5⟩:=rc;exact ⟨us,q4,kk q5⟩
    | dT ks xs=>obtain ⟨us,q4,q0,q5⟩:=rc;exact ⟨us,q4,q0,kk q5⟩
    | dK ks xs=>obtain ⟨us,q4,q0,q5⟩:=rc;exact ⟨us,q4,q0,kk q5⟩
    | _=>exact rc.elim
   ·rw [if_neg hm] at h
    exact ⟨_,h,k1 _ (fun _ z=>nomatch z) ⟨v,rfl,k2 (g:=.fr) (fun _ z=>nomatch z) r.1⟩⟩
  | fr=>exact ⟨_,h,k1 _ (fun _ z=>nomatch z) ⟨v,rfl,k2 (g:=.fr) (fun _ z=>nomatch z) r⟩⟩
  | cl=>exact ⟨_,h,k1 _ (fun _ z=>nomatch z) ⟨v,rfl,k2 (g:=.cl) (fun _ z=>nomatch z) r⟩⟩
  | _=>exact h.elim
end
def AFh (p:pE):pT:=fun ρ K=>p ρ fun x _=>∃ k,x=.bl k∧K k
def pAnd (p q:pT):pT:=fun ρ K=>p ρ fun c=>if c=true then q ρ K else K false
def pOr (p q:pT):pT:=fun ρ K=>p ρ fun c=>if c=true then K true else q ρ K
def pNot (p:pT):pT:=fun ρ K=>p ρ fun c=>K (!c)
def AKS (p q:pE):pE:=fun ρ K=>p ρ fun x _=>∃ c,x=.bl c∧if c=true then q ρ K else K (.bl false) .fr
def pOrV (p q:pE):pE:=fun ρ K=>p ρ fun x _=>∃ c,x=.bl c∧if c=true then K (.bl true) .fr else q ρ K
def AQO (p:pE):pE:=fun ρ K=>p ρ fun x _=>∃ c,x=.bl c∧K (.bl (!c)) .fr
def pIf (c:pT) (p q:pE):pE:=fun ρ K=>c ρ fun b=>if b=true then p ρ K else q ρ K
def APX (r r':p2) (pa pb pc:pE):pE:=fun ρ K=>pa ρ fun x f=>pb ρ fun y g=>r x f y g fun z _=>∃ k,z=.bl k∧if k=true then pc ρ fun w h=>r' y g w h K else K (.bl false) .fr
section
variable {ι:Type} {Xs:ι→Cx} {a b c:Expr} {es rest:List Expr} {pa pb pc:pE} {p q:pT} {pos:Pos}
theorem ANs {W:Wd} {ρ:List S} {σ:St} {Hs H:Hp} {f:Fl} {k:Bool} {v:V} (ok:Ok W ρ σ H) (r:RF W ρ σ Hs f H (.bl k) v):v=.bl k:=r.any ok
theorem ABC {W:Wd} {ρ:List S} {σ:St} {Hs H:Hp} {f:Fl} {k:Int} {v:V} (ok:Ok W ρ σ H) (r:RF W ρ σ Hs f H (.int k) v):v=.int k:=r.any ok
theorem ACy {W:Wd} {ρ:List S} {σ:St} {Hs H:Hp} {f:Fl} {k:Str} {v:V} (ok:Ok W ρ σ H) (r:RF W ρ σ Hs f H (.str k) v):v=.str k:=r.any ok
theorem AHG {t:TE} (h:RefE t pa):RefT (AKF t) (AFh pa):=fun W ρ σ H Q K ok hk q =>
 h W ρ σ H _ _ ok hk fun x f v H1 ⟨k,e,h1⟩ s1 r1=>by
  subst e
  exact ⟨k,ANs (ok.step s1) r1,q k H1 h1 s1⟩
theorem AAy {op:CmpOp} {r:R2} {pr:p2} (ho:∀ i,OpR (Xs i) (compareOp op) r) (hr:Ref2 r pr) (ha:QE Xs a pa) (hb:QE Xs b pb) (hm:behindInMarks op b=false):QT Xs (.Compare a [op] [b] pos) (AFh (pOp pr pa pb)):=by
 obtain ⟨ta,ha1,ha2⟩:=ha
 obtain ⟨tb,hb1,hb2⟩:=hb
 exact ⟨_,fun i=>ACp (ho i) (ha1 i) (hb1 i) hm,AHG (AEe hr ha2 hb2)⟩
theorem APY (h:QE Xs a pa) (he:∀ i,∀ whole,isTrue a (Xs i).env whole=(do let v ←whole;standAt a.pos;holding [v] (truthy v)):=by intro _ _;rfl):QT Xs a (AFh pa):=by
 obtain ⟨ta,ha1,ha2⟩:=h
 exact ⟨tB ta,fun i=>AO6 (ha1 i) (he i),AHG ha2⟩
theorem APZ (h:QT Xs a p):QT Xs (.UnaryOp .Not a pos) (pNot p):=by
 obtain ⟨ta,ha1,ha2⟩:=h
 exact ⟨_,fun i=>AO9 (ha1 i),fun W ρ σ H Q K ok hk q=>ha2 W ρ σ H _ _ ok hk fun c H1 h1 s1=>q _ H1 h1 s1⟩
theorem QW.pt (h:QW Xs a p):QT Xs a p:=let ⟨t,h1,h2⟩:=h;⟨t,fun i=>(h1 i).pt,h2⟩
theorem AEf (h:QT Xs a p):QW Xs (.BoolOp .And [a] pos) p:=let ⟨t,h1,h2⟩:=h;⟨t,fun i=>AN8 (h1 i),h2⟩
theorem AFi (ha:QT Xs a p) (hb:QW Xs (.BoolOp .And (b :: rest) pos) q):QW Xs (.BoolOp .And (a :: b :: rest) pos) (pAnd p q):=by
 obtain ⟨ta,ha1,ha2⟩:=ha
 obtain ⟨tb,hb1,hb2⟩:=hb
 refine ⟨_,fun i=>AO8 (ha1 i) (hb1 i),fun W ρ σ H Q K ok hk q=>ha2 W ρ σ H _ _ ok hk fun c H1 h1 s1=>?_⟩
 cases c with
 | true=>exact hb2 W ρ σ H1 _ _ (ok.step s1) h1 fun d H2 h2 s2=>q d H2 h2 (s1.trans s2)
 | false=>exact q false H1 h1 s1
theorem ALe {op} (h:QE Xs a pa):QE Xs (.BoolOp op [a] pos) pa:=let ⟨t,h1,h2⟩:=h;⟨t,fun i=>APA (h1 i),h2⟩
theorem AEg {W:Wd} {ρ:List S} {σ:St} {Hs H:Hp} {k:Bool}:RF W ρ σ Hs .fr H (.bl k) (.bl k):=rfl
theorem ADV {W:Wd} {ρ:List S} {σ:St} {Hs H:Hp} {k:Int}:RF W ρ σ Hs .fr H (.int k) (.int k):=rfl
theorem ALf {W:Wd} {ρ:List S} {σ:St} {Hs H:Hp} {k:Str}:RF W ρ σ Hs .fr H (.str k) (.str k):=rfl
theorem ALg (ha:QE Xs a pa) (hb:QE Xs (.BoolOp .And (b :: rest) pos) pb):QE Xs (.BoolOp .And (a :: b :: rest) pos) (AKS pa pb):=by
 obtain ⟨ta,ha1,ha2⟩:=ha
 obtain ⟨tb,hb1,hb2⟩:=hb
 refine ⟨_,fun i=>APB (ha1 i) (hb1 i),fun W ρ σ H Q K ok hk q=>ha2 W ρ σ H _ _ ok hk fun x f v H1 ⟨c,e,h1⟩ s1 r1=>?_⟩
 subst e
 refine ⟨c,ANs (ok.step s1) r1,?_⟩
 cases c with
 | true=>exact hb2 W ρ σ H1 _ _ (ok.step s1) h1 fun d f v H2 h2 s2 r2=>q d f v H2 h2 (s1.trans s2) (r2.back s1)
 | false=>exact q _ _ _ H1 h1 s1 AEg
end
structure PEnds where
 nx:List S→Prop
 rt:P→Prop
 bk:List S→Prop:=fun _=>False
 ct:List S→Prop:=fun _=>False
 ex:Str→(Str→Hp→Prop)→Prop:=fun _ _=>False
noncomputable abbrev pS:=PEnds→List S→Prop
def ANt (W:Wd) (H:Hp) (x:P) (v:V):Prop:=Bag H W.b W.a∧(∀ p o,p≠W.b→W.H₀ p=some o→H p=some o)∧Rp W.b (fun p=>W.H₀ p≠none) H x v
structure RelD (W:Wd) (E:PEnds) (D:Ends):Prop where
 nx:∀ ρ σ H,E.nx ρ→Ok W ρ σ H→D.nx σ H
 rt:∀ x v H,E.rt x→ANt W H x v→D.rt v H
 bk:∀ ρ σ H,E.bk ρ→Ok W ρ σ H→D.bk σ H
 ct:∀ ρ σ H,E.ct ρ→Ok W ρ σ H→D.ct σ H
 noO:∀ p,¬ W.O p
 ex:∀ n H EX,E.ex n EX→Bag H W.b W.a→(∀ p o,p≠W.b→W.H₀ p=some o→H p=some o)→EX n H
def RefS (t:TS) (p:pS):Prop:=∀ (W:Wd) (ρ:List S) (σ:St) (H:Hp) (D:Ends) (E:PEnds),Ok W ρ σ H→p E ρ→RelD W E D→t D σ H
def QS {ι:Type} (Xs:ι→Cx) (st:Stmt) (p:pS):Prop:=∃ t,(∀ i,PS (Xs i) st t)∧RefS t p
def QSs {ι:Type} (Xs:ι→Cx) (st:List Stmt) (p:pS):Prop:=∃ t,(∀ i,PSs (Xs i) st t)∧RefS t p
def AKT:pS:=fun E ρ=>E.nx ρ
def pSeq (p q:pS):pS:=fun E ρ=>p { E with nx:=q E } ρ
def AIQ:pS:=fun _ _=>False
def AQP (p:pE):pS:=fun E ρ=>p ρ fun _ _=>E.nx ρ
noncomputable def retF (x:P) (f:Fl):Bool:=x.imm || (match f with | .cl=>false | .an=>false | _=>true)
def pRet (p:pE):pS:=fun E ρ=>p ρ fun x f=>retF x f=true∧E.rt x
def AQQ:pS:=fun E _=>E.rt .non
def pIfS (c:pT) (p q:pS):pS:=fun E ρ=>c ρ fun b=>if b=true then p E ρ else q E ρ
def pAsg (p:pE) (k:Nat):pS:=fun E ρ=>p ρ fun x f=>pSet k x f ρ E.nx
section
variable {ι:Type} {Xs:ι→Cx} {st:Stmt} {rest:List Stmt} {p q:pS} {a:Expr} {pa:pE} {pos:Pos}
theorem ACS:QSs Xs [] AKT:=⟨_,fun _=>ADN,fun W ρ σ H D E ok h r=>r.nx ρ σ H h ok⟩
theorem AAH (h:QS Xs st p):QSs Xs [st] p:=let ⟨t,h1,h2⟩:=h;⟨t,fun i=>ABR (h1 i),h2⟩
theorem AAD (h:QS Xs st p) (g:QSs Xs rest q):QSs Xs (st :: rest) (pSeq p q):=by
 obtain ⟨t,h1,h2⟩:=h
 obtain ⟨u,g1,g2⟩:=g
 exact ⟨_,fun i=>AAX (h1 i) (g1 i),fun W ρ σ H D E ok h r=>h2 W ρ σ H _ _ ok h ⟨fun ρ' σ' H' e ok'=>g2 W ρ' σ' H' D E ok' e r,r.rt,r.bk,r.ct,r.noO,r.ex⟩⟩
theorem QSs.weak {p m:pS} (h:QSs Xs rest p) (hw:∀ E ρ,m E ρ→p E ρ):QSs Xs rest m:=let ⟨t,h1,h2⟩:=h;⟨t,h1,fun W ρ σ H D E ok h r=>h2 W ρ σ H D E ok (hw E ρ h) r⟩
theorem AM4:QS Xs st AIQ:=⟨_,fun _=>AMo,fun _ _ _ _ _ _ _ h _=>h.elim⟩
theorem RF.ret {W:Wd} {ρ:List S} {σ:St} {Hs H:Hp} {f:Fl} {x:P} {v:V} (ok:Ok W ρ σ H) (h:RF W ρ σ Hs f H x v) (hr:retF x f=true):ANt W H x v:=by
 refine ⟨ok.bag,ok.old,?_⟩
 by_cases hi:x.imm=true
 ·exact (h.any ok).imm hi
 ·have k:∀ {g:Fl},(∀ p,W.H₀ p≠none→Zof W ρ σ g p)→Rp W.b (Zof W ρ σ g) H x v→Rp W.b (fun p=>W.H₀ p≠none) H x v:=fun {g} hg h=>h.keep (fun p o hz e=>⟨fun z=>hz (hg p z),e⟩) fun p vs e=>e
  cases f with
  | nw=>exact k (g:=.fr) (fun p z=>.inr (.inr z)) h.1
  | fr=>exact k (g:=.fr) (fun p z=>.inr (.inr z)) h
  | rf=>exact k (g:=.rf) (fun p z=>.inr z) h
  | cl=>simp [retF,hi] at hr
  | an=>simp [retF,hi] at hr
  | bo =>
   obtain ⟨p,h1,h2,h3⟩:=h
   have nb:=(ok.ow (.inr h2)).1
   have k2:∀ {xs:List P} {vs:List V},Rps W.b (Zf W ρ σ) H xs vs→Rps W.b (fun p=>W.H₀ p≠none) H xs vs:=fun h=>h.keep (fun p o hz e=>⟨fun z=>hz (.inr (.inr z)),e⟩) fun p vs e=>e
   cases x with
   | lst xs=>obtain ⟨vs,h4,h5⟩:=h3;exact ⟨p,vs,h1,fun z=>z nb,h4,k2 h5⟩
   | dT ks xs=>obtain ⟨vs,h4,h0,h5⟩:=h3;exact ⟨p,vs,h1,fun z=>z nb,h4,h0,k2 h5⟩
   | dK ks xs=>obtain ⟨vs,h4,h0,h5⟩:=h3;exact ⟨p,vs,h1,fun z=>z nb,h4,h0,k2 h5⟩
   | _=>exact h3.elim
theorem AAg (h:QE Xs a pa):QS Xs (.Return (some a) pos) (pRet pa):=by
 obtain ⟨t,h1,h2⟩:=h
 exact ⟨_,fun i=>ADO (h1 i),fun W ρ σ H D E ok h r=>h2 W ρ σ H _ _ ok h fun x f v H1 ⟨k0,k⟩ s1 r1=>r.rt x v H1 k (r1.ret (ok.step s1) k0)⟩
theorem ACZ {c:Expr} {pc:pT} {sa sb:List Stmt} (hc:QT Xs c pc) (ha:QSs Xs sa p) (hb:QSs Xs sb q):QS Xs (.If c sa sb pos) (pIfS pc p q):=by
 obtain ⟨tc,hc1,hc2⟩:=hc
 obtain ⟨ta,ha1,ha2⟩:=ha
 obtain ⟨tb,hb1,hb2⟩:=hb
 refine ⟨_,fun i=>AFS (hc1 i) (ha1 i) (hb1 i),fun W ρ σ H D E ok hk r=>hc2 W ρ σ H _ _ ok hk fun c H1 h1 s1=>?_⟩
 cases c with
 | true=>exact ha2 W ρ σ H1 D E (ok.step s1) h1 r
 | false=>exact hb2 W ρ σ H1 D E (ok.step s1) h1 r
theorem AIR {t:TE} {k:Nat} (h2:RefE t pa):RefS (tAsg t (ABU k)) (pAsg pa k):=fun W ρ σ H D E ok h r =>
 h2 W ρ σ H _ _ ok h fun x f v H1 hk s1 r1=>by
  obtain ⟨ρ',e,ok'⟩:=Ok.set ok s1 r1 hk
  exact r.nx ρ' _ H1 e ok'
theorem AAP {k:Nat} {x:Str} {pos':Pos} (hN:∀ i,(Xs i).N.Nodup) (h:QE Xs a pa) (hi:∀ i,(Xs i).N[k]?=some x:=by intro _;rfl) (hx:∀ i,Loc (Xs i).env.scope x:=by intro _;trivial)
  (hs:∀ i,swapsWith a (some (.Name x pos')) pos.line (Xs i).env=pure false:=by intro _;rfl) (hf:∀ i,(Xs i).fn x=true∨(Xs i).env.scope.names.lookup x=some .local:=by intro _;trivial):QS Xs (.Assign [.Name x pos'] a pos) (pAsg pa k):=by
 obtain ⟨t,h1,h2⟩:=h
 exact ⟨_,fun i=>ABI (hN i) (hi i) (hx i) (h1 i) (hs i) (hf i),AIR h2⟩
end
noncomputable abbrev pG:=P→Fl→List S→(List S→Prop)→Prop
def RefG (g:TG) (p:pG):Prop:=∀ (W:Wd) (ρ:List S) (σ:St) (Hs H:Hp) (x:P) (f:Fl) (v:V) (Q:St→Hp→Prop) (K:List S→Prop),Ok W ρ σ Hs→Step W.b W.a Hs H→RF W ρ σ Hs f H x v→p x f ρ K→(∀ ρ' σ',K ρ'→Ok W ρ' σ' H→Q σ' H)→g v σ H Q
def QG {ι:Type} (Xs:ι→Cx) (tg:Expr) (p:pG):Prop:=∃ g,(∀ i,PG (Xs i) tg g)∧RefG g p
def AFj:List Nat→List P→Fl→List S→(List S→Prop)→Prop
 | [],[],_,ρ,K=>K ρ
 | k :: ks,x :: xs,f,ρ,K=>pSet k x f ρ fun ρ'=>AFj ks xs f ρ' K
 | _,_,_,_,_=>False
def ADW (ks:List Nat):pG:=fun x f ρ K=>∃ xs,x=.tup xs∧xs.length=ks.length∧AFj ks xs f.el ρ K
noncomputable def ACz:List Nat→TGs
 | []=>gNil
 | k :: ks=>AHq (ABU k) (ACz ks)
section
variable {ι:Type} {Xs:ι→Cx} {pos:Pos}
theorem AHH (k:Nat):RefG (ABU k) (fun x f ρ K=>pSet k x f ρ K):=fun W ρ σ Hs H x f v Q K ok st r h q=>by
 obtain ⟨ρ',e,ok'⟩:=Ok.set ok st r h
 exact q ρ' _ e ok'
theorem ACF {k:Nat} {x:Str} (hN:∀ i,(Xs i).N.Nodup) (hi:∀ i,(Xs i).N[k]?=some x:=by intro _;rfl) (hx:∀ i,Loc (Xs i).env.scope x:=by intro _;trivial)
  (hf:∀ i,(Xs i).fn x=true∨(Xs i).env.scope.names.lookup x=some .local:=by intro _;trivial):QG Xs (.Name x pos) (pSet k):=⟨_,fun i=>AAf (hN i) (hi i) (hx i) (hf i),AHH k⟩
theorem AON {W:Wd} {ρ:List S} {σ:St} {H:Hp} {x:P} {f:Fl} {v:V} {k:Nat} {K:List S→Prop} (ok:Ok W ρ σ H) (r:Rp W.b (Zof W ρ σ f) H x v) (h:pSet k x f.el ρ K) :
  ∃ ρ',K ρ'∧Ok W ρ' (σ.set k (some v)) H∧∀ p,OwS ρ' (σ.set k (some v)) p→OwS ρ σ p:=by
 unfold pSet at h
 split at h
 ·rename_i hi
  obtain ⟨ρ',e,ok'⟩:=Ok.set (K:=fun ρ'=>ρ'=ρ.set k (.sh x)) ok (Step.refl ok.bag) (RF.ofEl (Hs:=H) r) (by unfold pSet;rw [if_pos hi])
  subst e
  exact ⟨_,h,ok',ADU fun _ z=>nomatch z⟩
 ·rename_i hi
  have k1:∀ (s:S),(∀ x,s≠.own x)→K (ρ.set k s)→pSet k x f.el ρ (fun ρ'=>ρ'=ρ.set k s)→∃ ρ',K ρ'∧Ok W ρ' (σ.set k (some v)) H∧∀ p,OwS ρ' (σ.set k (some v)) p→OwS ρ σ p:=fun s hs hk hp=>by
   obtain ⟨ρ',e,ok'⟩:=Ok.set ok (Step.refl ok.bag) (RF.ofEl (Hs:=H) r) hp
   subst e
   exact ⟨_,hk,ok',ADU hs⟩
  cases f with
  | nw=>exact k1 (.fr x) (fun _ z=>nomatch z) h (by unfold pSet;rw [if_neg hi];rfl)
  | fr=>exact k1 (.fr x) (fun _ z=>nomatch z) h (by unfold pSet;rw [if_neg hi];rfl)
  | bo=>exact k1 (.fr x) (fun _ z=>nomatch z) h (by unfold pSet;rw [if_neg hi];rfl)
  | cl=>exact k1 (.sh x) (fun _ z=>nomatch z) h (by unfold pSet;rw [if_neg hi];rfl)
  | _=>exact h.elim
theorem AHI {W:Wd} {H:Hp} {f:Fl} {Q:St→Hp→Prop} {K:List S→Prop}:∀ {ks:List Nat} {xs:List P} {vs:List V} {ρ:List S} {σ:St},Ok W ρ σ H→Rps W.b (Zof W ρ σ f) H xs vs→AFj ks xs f.el ρ K→(∀ ρ' σ',K ρ'→Ok W ρ' σ' H→Q σ' H)→ACz ks vs σ H Q
 | [],[],vs,ρ,σ,ok,r,h,q=>⟨r,q ρ σ h ok⟩
 | [],_ :: _,_,_,_,_,_,h,_=>h.elim
 | _ :: _,[],_,_,_,_,_,h,_=>h.elim
 | k :: ks,x :: xs,vs,ρ,σ,ok,r,h,q=>by
  obtain ⟨v,t,e1,r1,r2⟩:=r
  subst e1
  obtain ⟨ρ',hk,ok',sub⟩:=AON ok r1 h
  exact ⟨v,t,rfl,AHI ok' (Rps.move ok.bag (Step.refl ok.bag) (fun p z=>.inl (sub p z)) r2) hk q⟩
theorem AIS {K:PySem.W.Frag} {ks:List Nat} {n:Nat} (hn:ks.length=n):RefG (gTup K n (ACz ks)) (ADW ks):=fun W ρ σ Hs H x f v Q K ok st r h q=>by
 obtain ⟨xs,rfl,hl,h⟩:=h
 obtain ⟨p,vs,rfl,hc,r2⟩:=r.items rfl
 have hc:H p=some (.tup vs):=by
  obtain ⟨p',vs',e1,e2,_⟩:=r.any (ok.step st)
  cases e1
  rcases hc with hc | hc
  ·rw [e2] at hc;cases hc
  ·exact hc
 exact ⟨p,vs,rfl,.of hc,by rw [←r2.length,hl,hn],AHI (ok.step st) r2 h q⟩
theorem AIT {es:List Expr} {k1:Nat} {ks:List Nat} {n:Nat} {Kf:PySem.W.Frag} (hc:∀ i,(Xs i).calm=true) (hK:∀ i,(Xs i).K=Kf) (h:∀ i,PGs (Xs i) es (ACz ks)) (hl:ks.length=n)
  (hn:∀ i,(assignEach es (Xs i).env).length=n:=by intro _;rfl) (hst:∀ i,(assignEach es (Xs i).env).findIdx? (·.1)=none:=by intro _;rfl):QG Xs (.Tuple es k1 pos) (ADW ks) :=
 ⟨gTup Kf n (ACz ks),fun i=>by have:=ALH (k:=k1) (pos:=pos) (hc i) (h i) (hn i) (hst i);rw [hK i] at this;exact this,AIS hl⟩
theorem APa {tg a:Expr} {pa:pE} {pg:pG} (he:QE Xs a pa) (hg:QG Xs tg pg) (hs:∀ i,swapsWithSole [tg] a pos.line (Xs i).env=pure false:=by intro _;rfl) (hw:∀ i,swappedStores [tg] a (Xs i).env=pure none:=by intro _;rfl)
  (h1:∀ i,(assignEach [tg] (Xs i).env).map (·.2)=[assign tg (Xs i).env]:=by intro _;rfl):QS Xs (.Assign [tg] a pos) (fun E ρ=>pa ρ fun x f=>pg x f ρ E.nx):=by
 obtain ⟨t,e1,e2⟩:=he
 obtain ⟨g,g1,g2⟩:=hg
 exact ⟨_,fun i=>AFT (e1 i) (g1 i) (hs i) (hw i) (h1 i),fun W ρ σ H D E ok h r=>e2 W ρ σ H _ _ ok h fun x f v H1 hk s1 r1=>g2 W ρ σ H H1 x f v _ _ ok s1 r1 hk fun ρ' σ' e ok'=>r.nx ρ' σ' H1 e ok'⟩
end
noncomputable abbrev pF:=List P→(P→Prop)→Prop
def spP (f:pF):Sp:=fun vs H Q _=>∃ (b a:Addr) (xs:List P) (K:P→Prop),Bag H b a∧Rps b (fun p=>p=b) H xs vs∧f xs K∧∀ x v H',K x→Step b a H H'→Rp b (fun p=>H p≠none) H' x v→Q v H'
noncomputable def ACe (n:Nat) (xs:List P):List S:=xs.map S.sh ++ List.replicate (n - xs.length) S.emp
def pFn (f:pF) (pa:pA):pE:=fun ρ K=>pa ρ fun xs=>f (xs.map (·.1)) fun z=>K z .nw
theorem ALh {N:List Str} {vs:List V} {i:Nat} {v:V} (h:vs[i]?=some v):(start N vs)[i]?=some (some v):=by
 unfold start
 have hi:i<vs.length:=by
  rcases Nat.lt_or_ge i vs.length with q | q
  ·exact q
  ·rw [List.getElem?_eq_none q] at h;cases h
 rw [List.getElem?_append_left (by rw [List.length_map];exact hi),List.getElem?_map,h]
 rfl
theorem AFk {n:Nat} {xs:List P} {i:Nat} {x:P}:(ACe n xs)[i]?≠some (.own x):=by
 intro h
 have hm:=List.mem_of_getElem? h
 unfold ACe at hm
 rcases List.mem_append.mp hm with z | z
 ·obtain ⟨y,_,e⟩:=List.mem_map.mp z
  cases e
 ·cases (List.mem_replicate.mp z).2
theorem AM5 {N:List Str} {b a:Addr} {H:Hp} {xs:List P} {vs:List V} (hb:Bag H b a) (r:Rps b (fun p=>p=b) H xs vs) (hl:xs.length≤N.length) :
  Ok ⟨b,a,H,fun _=>none,fun _=>False⟩ (ACe N.length xs) (start N vs) H where
 bag:=hb
 fb:=rfl
 old:=fun _ _ _ e=>e
 frm:=fun _ _ e=>nomatch e
 oo:=fun _ z=>z.elim
 len:=by
  have:=r.length
  simp only [start,ACe,List.length_append,List.length_map,List.length_replicate]
  lia
 slot:=fun i s e=>by
  have hv:=r.length
  unfold ACe at e
  rcases Nat.lt_or_ge i xs.length with q | q
  ·rw [List.getElem?_append_left (by rw [List.length_map];exact q),List.getElem?_map] at e
   obtain ⟨v,h1,h2⟩:=r.get (i:=i) (x:=xs[i]) (by simp [q])
   simp only [List.getElem?_eq_getElem q,Option.map_some] at e
   cases e
   refine ⟨some v,ALh h1,v,rfl,h2.keep (fun p o hz e=>⟨fun z=>hz ?_,e⟩) fun p vs e=>e⟩
   rcases z with z | z
   ·exact z
   ·rcases z with z | ⟨j,y,h3,_⟩
    ·exact z.elim
    ·exact absurd h3 AFk
  ·rw [List.getElem?_append_right (by rw [List.length_map];exact q),List.length_map] at e
   have hm:=List.mem_of_getElem? e
   have e2:=(List.mem_replicate.mp hm).2
   subst e2
   have hi:i - xs.length<N.length - xs.length:=by
    rcases Nat.lt_or_ge (i - xs.length) (N.length - xs.length) with z | z
    ·exact z
    ·rw [List.getElem?_eq_none (by rw [List.length_replicate];exact z)] at e;cases e
   refine ⟨none,?_,trivial⟩
   unfold start
   rw [List.getElem?_append_right (by rw [List.length_map,←hv];exact q),List.length_map,←hv,List.getElem?_replicate,if_pos hi]
 uniq:=fun i j x y h1=>absurd h1 AFk
section
variable {P':Program} {w:World} {K:PySem.W.Frag} {mg:Str→Option Value} {base:Heap}
theorem fnP {x:Str} {st:Stmt} {N ps:List Str} {k:Nat} {f:pF} (D:AAM K mg x st) (S:FnScope N ps (AAC st))
  (hb:∀ (kV doc pm:Value) (an:Option Addr) (cdv ct:Value) (us:List Value),us.length=ps.length→bindArgs (PySem.W.fnOf x x (AAQ st) (AAO st) (AAC st) .none kV doc pm an cdv ct) ⟨us,[]⟩=pure (ps.zip us))
  (len:∀ xs K,f xs K→xs.length=ps.length) (hN:ps.length≤N.length)
  (hbody:∀ (fa:Addr) (cdv:Value) (A:Around) (outer:List Env) (s:Shared) (H:Hp) (E:XK),Room k (A.deeper (PyProof.Rows.envOfC x (AAC st) s.heap.objs.size fa cdv)) →
   ∃ p,QSs (fun _:Unit=>(cxOf CX0 P' w K mg base N x (AAC st) fa cdv A outer s H E).nox) (AAO st) p∧∀ xs K,f xs K→p { nx:=fun _=>K .non,rt:=K } (ACe N.length xs)):Fn P' w K mg base x (k + 1) ps (spP f):=by
 refine AD5 D S hb (fun vs H Q E h=>?_) (fun fa cdv A outer s H vs Q E hr h=>?_)
 ·obtain ⟨b,a,xs,K,_,r,hf,_⟩:=h
  rw [←r.length];exact len xs K hf
 ·obtain ⟨b,a,xs,K',hbag,r,hf,hQ⟩:=h
  obtain ⟨p,⟨t,h1,h2⟩,h3⟩:=hbody fa cdv A outer s H E hr
  refine ⟨t,h1 (),h2 _ _ _ H _ _ (AM5 hbag r (by rw [len xs K' hf];exact hN)) (h3 xs K' hf) ⟨fun ρ σ H' e ok=>?_,fun y v H' e ro=>?_,fun _ _ _ e=>e.elim,fun _ _ _ e=>e.elim,fun _ z=>z,fun _ _ _ e=>e.elim⟩⟩
  ·exact hQ _ _ H' e ⟨ok.bag,ok.old⟩ rfl
  ·exact hQ y v H' e ⟨ro.1,ro.2.1⟩ ro.2.2
theorem Fn.imp {x:Str} {k:Nat} {ps:List Str} {sp sp':Sp} (F:Fn P' w K mg base x k ps sp) (h:∀ vs H Q E,sp' vs H Q E→sp vs H Q E):Fn P' w K mg base x k ps sp':=by
 obtain ⟨f,fd,F,r⟩:=F
 exact ⟨f,fd,F.imp h,r⟩
end
section
variable {ι:Type} {Xs:ι→Cx}
theorem AOO {f:pF} {t:TA} {pa:pA} (h2:RefA t pa):RefE (AFY (spP f) [] E0 t) (pFn f pa):=fun W ρ σ H Q K ok hk q =>
 h2 W ρ σ H _ _ ok hk fun xs vs H1 h1 s1 r1=>by
  have ok1:=ok.step s1
  show spP f (vs ++ []) H1 Q E0
  rw [List.append_nil]
  refine ⟨W.b,W.a,_,_,s1.bag,(r1.any ok1),h1,fun x v H' k1 s2 r2=>q x .nw v H' k1 (s1.trans s2) ⟨r2.keep (fun p o hz e=>⟨fun z=>hz (ok1.dom z),e⟩) fun p vs e=>e,fun m=>?_⟩⟩
  have k2:∀ p,¬ H1 p≠none→H p=none:=fun p z=>s1.free (Classical.not_not.mp z)
  cases x with
  | lst xs=>obtain ⟨p,us,e,z,_⟩:=r2;exact ⟨p,e,k2 p z⟩
  | dT ks xs=>obtain ⟨p,us,e,z,_⟩:=r2;exact ⟨p,e,k2 p z⟩
  | dK ks xs=>obtain ⟨p,us,e,z,_⟩:=r2;exact ⟨p,e,k2 p z⟩
  | _=>simp [P.mut] at m
theorem AAN {x:Str} {k:Nat} {ps:List Str} {f:pF} {p pos:Pos} {e:Expr} {es:List Expr} {pa:pA} (G:∀ i,Fn (Xs i).prog (Xs i).w (Xs i).K (Xs i).mg (Xs i).base x k ps (spP f)) (hr:∀ i,Room k (Xs i).A)
  (ha:QA Xs (e :: es) pa) (hg:∀ i,Gl (Xs i) x:=by intro _;rfl) (hdb:(x == ("__debug__":Str))=false:=by decide +kernel) (he:∀ i,starEach (e :: es) (Xs i).env=(false,eval e (Xs i).env) :: starEach es (Xs i).env:=by intro _;rfl) (hpl:∀ i,(backTo pos (starEach es (Xs i).env)).any (·.1)=false:=by intro _;rfl) :
  QE Xs (.Call (.Name x p) (e :: es) [] pos) (pFn f pa):=by
 obtain ⟨t,h1,h2⟩:=ha
 exact ⟨_,fun i=>ADk (G i) (hr i) (hg i) (h1 i) hdb (he i) (hpl i),AOO h2⟩
end
open Classical in
noncomputable def frz (W:Wd) (ρ:List S) (σ:St) (H:Hp):Hp:=fun p=>if p=W.b∨Ow W ρ σ p then none else H p
noncomputable abbrev Wd.frz (W:Wd) (ρ:List S) (σ:St) (H:Hp):Wd:={ W with F:=L2.frz W ρ σ H }
noncomputable abbrev LatS (W:Wd) (ρ:List S) (σ:St) (H1:Hp):(Addr→Prop)→List S→St→Hp→Prop:=fun O' ρ' σ' H'=>O'=W.O∧Ok (W.frz ρ σ H1) ρ' σ' H'
noncomputable abbrev LatC (W:Wd) (ρ:List S) (σ:St) (H1:Hp):(Addr→Prop)→List S→St→Hp→Prop:=fun O' ρ' σ' H'=>(∀ p,O' p→W.O p∨H1 p=none)∧ρ'=ρ∧σ'=σ∧Ok W ρ σ H'∧Step W.b W.a H1 H'
def JOk (W:Wd) (Lt:(Addr→Prop)→List S→St→Hp→Prop) (J:It) (xs:List P) (f:Fl):Prop:=∀ O' ρ' σ' H',Lt O' ρ' σ' H'→∀ i,(i<xs.length→J.go i H')∧(xs.length≤i→J.stop i H') ∧
 ∀ v H'',J.yld i H' v H''→∀ x,xs[i]?=some x→Step W.b W.a H' H''∧RF { W with O:=O' } ρ' σ' H' f H'' x v
noncomputable abbrev pI:=List S→(List P→Fl→Bool→Prop)→Prop
def RefI (wi:TI) (p:pI):Prop:=∀ (W:Wd) (ρ:List S) (σ:St) (H:Hp) (R:It→Hp→Prop) (K:List P→Fl→Bool→Prop),Ok W ρ σ H→p ρ K →
 (∀ xs f st J H1,K xs f st→Step W.b W.a H H1→JOk W (LatC W ρ σ H1) J xs f→(st=true→JOk W (LatS W ρ σ H1) J xs f)→R J H1)→wi σ H R
def QI {ι:Type} (Xs:ι→Cx) (tg e:Expr) (p:pI):Prop:=∃ wi,(∀ i,PI (Xs i) tg e wi)∧RefI wi p
section
variable {W:Wd} {ρ ρ':List S} {σ σ':St} {H H' H1 Hs:Hp} {x:P} {v:V} {xs:List P} {vs:List V} {f:Fl} {p:Addr} {k:Nat}
theorem AC0 (hz:¬ (p=W.b∨Ow W ρ σ p)):frz W ρ σ H p=H p:=by unfold frz;rw [if_neg hz]
theorem ADl (hz:p=W.b∨Ow W ρ σ p):frz W ρ σ H p=none:=by unfold frz;rw [if_pos hz]
theorem AOP {o:HO} (h:frz W ρ σ H p=some o):H p=some o∧p≠W.b∧¬ Ow W ρ σ p:=by
 by_cases hz:p=W.b∨Ow W ρ σ p
 ·rw [ADl hz] at h;cases h
 ·rw [AC0 hz] at h;exact ⟨h,fun z=>hz (.inl z),fun z=>hz (.inr z)⟩
theorem Ok.frz (ok:Ok W ρ σ H):Ok (W.frz ρ σ H) ρ σ H where
 bag:=ok.bag
 fb:=ADl (.inl rfl)
 old:=ok.old
 frm:=fun p o e=>(AOP e).1
 oo:=fun p h=>let ⟨h1,h2,h3,h4,h5⟩:=ok.oo p h;⟨h1,ADl (.inr (.inl h)),h3,h4,h5⟩
 len:=ok.len
 slot:=fun i s e=>by
  obtain ⟨o,h1,h2⟩:=ok.slot i s e
  refine ⟨o,h1,?_⟩
  cases s with
  | emp=>trivial
  | sh x=>exact h2
  | fr x=>exact h2
  | own x =>
   obtain ⟨p,q1,q2,q3,q4,q5,q6⟩:=h2
   exact ⟨p,q1,q2,ADl (.inr (.inr ⟨i,x,e,by rw [h1,q1]⟩)),q4,q5,q6⟩
 uniq:=ok.uniq
theorem Ok.thaw (ok0:Ok W ρ σ H) (ok:Ok (W.frz ρ σ H) ρ' σ' H'):Ok W ρ' σ' H' where
 bag:=ok.bag
 fb:=ok0.fb
 old:=ok.old
 frm:=fun p o e=>by
  have hb:p≠W.b:=fun z=>by rw [z,ok0.fb] at e;cases e
  have ho:¬ Ow W ρ σ p:=fun z=>by rw [(ok0.ow z).2.1] at e;cases e
  exact ok.frm p o ((AC0 fun z=>z.elim hb ho).trans (ok0.frm p o e))
 oo:=fun p h=>let ⟨h1,h2,h3,h4,h5⟩:=ok.oo p h;⟨h1,(ok0.oo p h).2.1,h3,h4,h5⟩
 len:=ok.len
 slot:=fun i s e=>by
  obtain ⟨o,h1,h2⟩:=ok.slot i s e
  refine ⟨o,h1,?_⟩
  cases s with
  | emp=>trivial
  | sh x=>exact h2
  | fr x=>exact h2
  | own x =>
   obtain ⟨p,q1,q2,q3,q4,q5,q6⟩:=h2
   refine ⟨p,q1,q2,?_,q4,q5,q6⟩
   cases hF:W.F p with
   | none=>rfl
   | some u =>
    have hb:p≠W.b:=q4
    have ho:¬ Ow W ρ σ p:=fun z=>by rw [(ok0.ow z).2.1] at hF;cases hF
    have q3:L2.frz W ρ σ H p=none:=q3
    rw [AC0 (fun z=>z.elim hb ho),ok0.frm p u hF] at q3
    cases q3
 uniq:=ok.uniq
theorem ADm (ok:Ok W ρ σ H) (hl:Ok (W.frz ρ σ H) ρ' σ' H') (hf:f=.nw∨f=.fr∨f=.cl):(∀ p o,¬ Zof W ρ σ f p→H p=some o→¬ Zof W ρ' σ' f p∧H' p=some o)∧∀ p vs,H p=some (.tup vs)→H' p=some (.tup vs):=by
 have hl:Ok (W.frz ρ σ H) ρ' σ' H':=hl
 have kb:∀ p,¬ Zof W ρ σ f p→p≠W.b:=fun p z e=>z (e ▸ Zof.b)
 have ko:∀ p,¬ Zof W ρ σ f p→¬ Ow W ρ σ p:=fun p z e=>z (by rcases hf with rfl | rfl | rfl <;> simp [Zof,e])
 refine ⟨fun p o hz e=>?_,fun p vs e=>?_⟩
 ·have hfz:L2.frz W ρ σ H p=some o:=(AC0 fun z=>z.elim (kb p hz) (ko p hz)).trans e
  have hs:¬ OwS ρ' σ' p:=fun z=>by
   have:=(hl.ow (.inr z)).2.1
   have this:L2.frz W ρ σ H p=none:=this
   rw [hfz] at this;cases this
  refine ⟨fun z=>?_,hl.frm p o hfz⟩
  have hO:¬ W.O p:=fun z=>ko p hz (.inl z)
  rcases hf with rfl | rfl | rfl <;> simp only [Zof,not_or] at z hz
  ·rcases z with z | (z | z) | z
   ·exact hz.1 z
   ·exact hO z
   ·exact hs z
   ·exact hz.2.2 z
  ·rcases z with z | (z | z) | z
   ·exact hz.1 z
   ·exact hO z
   ·exact hs z
   ·exact hz.2.2 z
  ·rcases z with z | (z | z)
   ·exact hz.1 z
   ·exact hO z
   ·exact hs z
 ·refine hl.frm p _ ((AC0 fun z=>z.elim (ok.bag.neT e).1 fun z=>?_).trans e)
  obtain ⟨_,_,_,_,o,q1,q2⟩:=ok.ow z
  rw [e] at q1;cases q1
  exact q2 vs rfl
theorem AHJ {O':Addr→Prop} (st:Step W.b W.a H H') (hO:∀ p,O' p→W.O p∨H p=none) (p:Addr) (o:HO) (hz:¬ Zof W ρ σ f p) (e:H p=some o):¬ Zof { W with O:=O' } ρ σ f p∧H' p=some o:=by
 refine ⟨fun z=>hz ?_,st.same p o (fun z=>hz (z ▸ Zof.b)) e⟩
 have k:Ow { W with O:=O' } ρ σ p→Ow W ρ σ p:=fun z=>z.elim (fun z=>(hO p z).elim .inl fun z=>by rw [e] at z;cases z) .inr
 cases f <;> simp only [Zof] at z ⊢
 ·exact z.elim .inl fun z=>.inr (z.elim (fun z=>.inl (k z)) .inr)
 ·exact z.elim .inl fun z=>.inr (z.elim (fun z=>.inl (k z)) .inr)
 ·exact z.elim .inl fun z=>.inr (k z)
 ·exact z.elim .inl fun z=>.inr (z.elim (fun z=>.inl (k z)) .inr)
 ·exact z
 ·exact z
noncomputable def stF (f:Fl):Bool:=match f with | .nw=>true | .fr=>true | .cl=>true | _=>false
theorem AFl (h:stF f=true):f=.nw∨f=.fr∨f=.cl:=by cases f <;> simp_all [stF]
theorem AHK {K:PySem.W.Frag} (ok:Ok W ρ σ H) (r:RF W ρ σ Hs f H (.lst xs) (.ref p)) (hc:H p=some (.lst vs)) (rv:Rps W.b (Zof W ρ σ f) H xs vs) :
  JOk W (LatC W ρ σ H) (Itl K p) xs f.el∧(stF f=true→JOk W (LatS W ρ σ H) (Itl K p) xs f.el):=by
 have hpb:p≠W.b:=by
  obtain ⟨q,us,e1,e2,_⟩:=r.any ok
  cases e1
  exact e2
 have core:∀ O' ρ' σ' H',H' p=some (.lst vs)→Rps W.b (Zof { W with O:=O' } ρ' σ' f) H' xs vs→Bag H' W.b W.a→∀ i,(i<xs.length→(Itl K p).go i H')∧(xs.length≤i→(Itl K p).stop i H') ∧
   ∀ v H'',(Itl K p).yld i H' v H''→∀ x,xs[i]?=some x→Step W.b W.a H' H''∧RF { W with O:=O' } ρ' σ' H' f.el H'' x v:=fun O' ρ' σ' H' e rr hb i=>by
  have hl:=rr.length
  refine ⟨fun hi=>⟨vs,vs[i]'(by lia),.of e,by simp [←hl,hi]⟩,fun hi=>⟨vs,.of e,by lia⟩,fun v H'' y x hx=>?_⟩
  obtain ⟨e2,y⟩:=y
  subst e2
  obtain ⟨u,e3,e4⟩:=rr.get hx
  have e5:=y vs (.of e)
  rw [e3] at e5
  cases e5
  exact ⟨Step.refl hb,RF.ofEl (W:={ W with O:=O' }) e4⟩
 refine ⟨fun O' ρ' σ' H' hl i=>?_,fun hf O' ρ' σ' H' hl i=>?_⟩
 ·obtain ⟨hO,rfl,rfl,ok',st⟩:=hl
  exact core _ _ _ H' (st.same p _ hpb hc) (rv.keep (AHJ st hO) fun q us e=>st.same q _ (ok.bag.neT e).1 e) st.bag i
 ·obtain ⟨rfl,hl⟩:=hl
  have hk:=ADm ok hl (AFl hf)
  have nz:¬ Zof W ρ σ f p:=by
   cases f with
   | nw=>obtain ⟨q,us,e1,e2,_⟩:=r.1;cases e1;exact e2
   | fr=>obtain ⟨q,us,e1,e2,_⟩:=r;cases e1;exact e2
   | cl=>obtain ⟨q,us,e1,e2,_⟩:=r;cases e1;exact e2
   | _=>simp [stF] at hf
  exact core _ _ _ H' (hk.1 p _ nz hc).2 (rv.keep hk.1 hk.2) hl.bag i
theorem AM6 {K:PySem.W.Frag} (ok:Ok W ρ σ H) (hc:H p=some (.tup vs)) (rv:Rps W.b (Zof W ρ σ f) H xs vs) :
  JOk W (LatC W ρ σ H) (Itt K p) xs f.el∧(stF f=true→JOk W (LatS W ρ σ H) (Itt K p) xs f.el):=by
 have core:∀ O' ρ' σ' H',H' p=some (.tup vs)→Rps W.b (Zof { W with O:=O' } ρ' σ' f) H' xs vs→Bag H' W.b W.a→∀ i,(i<xs.length→(Itt K p).go i H')∧(xs.length≤i→(Itt K p).stop i H') ∧
   ∀ v H'',(Itt K p).yld i H' v H''→∀ x,xs[i]?=some x→Step W.b W.a H' H''∧RF { W with O:=O' } ρ' σ' H' f.el H'' x v:=fun O' ρ' σ' H' e rr hb i=>by
  have hl:=rr.length
  refine ⟨fun hi=>⟨vs,vs[i]'(by lia),.of e,by simp [←hl,hi]⟩,fun hi=>⟨vs,.of e,by lia⟩,fun v H'' y x hx=>?_⟩
  obtain ⟨e2,y⟩:=y
  subst e2
  obtain ⟨u,e3,e4⟩:=rr.get hx
  have e5:=y vs (.of e)
  rw [e3] at e5
  cases e5
  exact ⟨Step.refl hb,RF.ofEl (W:={ W with O:=O' }) e4⟩
 refine ⟨fun O' ρ' σ' H' hl i=>?_,fun hf O' ρ' σ' H' hl i=>?_⟩
 ·obtain ⟨hO,rfl,rfl,ok',st⟩:=hl
  exact core _ _ _ H' (st.same p _ (ok.bag.neT hc).1 hc) (rv.keep (AHJ st hO) fun q us e=>st.same q _ (ok.bag.neT e).1 e) st.bag i
 ·obtain ⟨rfl,hl⟩:=hl
  have hk:=ADm ok hl (AFl hf)
  exact core _ _ _ H' (hk.2 p _ hc) (rv.keep hk.1 hk.2) hl.bag i
end
def AIU (p:pE):pI:=fun ρ K=>p ρ fun x f=>∃ xs,x=.lst xs∧K xs f.el (stF f)
def AIV (p:pE):pI:=fun ρ K=>p ρ fun x f=>∃ xs,x=.tup xs∧K xs f.el (stF f)
noncomputable def AB3 (lo:Int) (n:Nat):List P:=(List.range n).map fun (k:Nat)=>P.int (lo + k)
def AGa (p:pA):pI:=fun ρ K=>p ρ fun xs=>∃ j f,xs=[(P.int j,f)]∧-(2 ^ 62)≤j∧j<2 ^ 62∧K (AB3 0 j.toNat) .fr true
def AOQ (p:pA):pI:=fun ρ K=>p ρ fun xs=>∃ i j f g,xs=[(P.int i,f),(P.int j,g)]∧(-(2 ^ 62)≤i∧i<2 ^ 62∧-(2 ^ 62)≤j∧j<2 ^ 62)∧K (AB3 i (j - i).toNat) .fr true
def APb (p:pE):pI:=fun ρ K=>p ρ fun x f=>∃ z,x=.str z∧K (z.cps.toList.map fun c=>P.str ⟨#[c]⟩) .fr true
theorem AAW (lo:Int) (n:Nat):(AB3 lo n).length=n:=by simp [AB3]
theorem ABz {lo:Int} {n i:Nat} {x:P} (h:(AB3 lo n)[i]?=some x):i<n∧x=.int (lo + i):=by
 unfold AB3 at h
 rw [List.getElem?_map] at h
 rcases Nat.lt_or_ge i n with q | q
 ·rw [List.getElem?_range q] at h
  exact ⟨q,(Option.some.inj h).symm⟩
 ·rw [List.getElem?_eq_none (by rw [List.length_range];exact q)] at h
  cases h
section
variable {ι:Type} {Xs:ι→Cx} {tg a:Expr} {pa:pE} {pos:Pos} {Kf:PySem.W.Frag}
theorem ABT (hK:∀ i,(Xs i).K=Kf) (h:QE Xs a pa):QI Xs tg a (AIU pa):=by
 obtain ⟨t,h1,h2⟩:=h
 refine ⟨ANk Kf t,fun i=>by have:=AJa (tg:=tg) (h1 i);rw [hK i] at this;exact this,fun W ρ σ H R K ok hk q=>h2 W ρ σ H _ _ ok hk fun x f v H1 ⟨xs,e,k1⟩ s1 r1=>?_⟩
 subst e
 have ok1:=ok.step s1
 obtain ⟨p,vs,e1,e2,e3⟩:=r1.items rfl
 subst e1
 have hc:H1 p=some (.lst vs):=by
  obtain ⟨q,us,z1,z2,z3,_⟩:=r1.any ok1
  cases z1
  rcases e2 with z | z
  ·exact z
  ·rw [z3] at z;cases z
 have j:=AHK (K:=Kf) ok1 r1 hc e3
 exact ⟨p,rfl,⟨vs,.of hc⟩,q xs _ _ _ H1 k1 s1 j.1 j.2⟩
theorem AFm (hK:∀ i,(Xs i).K=Kf) (h:QE Xs a pa):QI Xs tg a (AIV pa):=by
 obtain ⟨t,h1,h2⟩:=h
 refine ⟨iTup Kf t,fun i=>by have:=ALJ (tg:=tg) (h1 i);rw [hK i] at this;exact this,fun W ρ σ H R K ok hk q=>h2 W ρ σ H _ _ ok hk fun x f v H1 ⟨xs,e,k1⟩ s1 r1=>?_⟩
 subst e
 have ok1:=ok.step s1
 obtain ⟨p,vs,e1,e2,e3⟩:=r1.items rfl
 subst e1
 have hc:H1 p=some (.tup vs):=by
  obtain ⟨q,us,z1,z3,_⟩:=r1.any ok1
  cases z1
  rcases e2 with z | z
  ·rw [z3] at z;cases z
  ·exact z
 have j:=AM6 (K:=Kf) ok1 hc e3
 exact ⟨p,rfl,⟨vs,.of hc⟩,q xs _ _ _ H1 k1 s1 j.1 j.2⟩
theorem AIW {W:Wd} {Lt:(Addr→Prop)→List S→St→Hp→Prop} {xs:List P} {J:It} (hlt:∀ O' ρ' σ' H',Lt O' ρ' σ' H'→Bag H' W.b W.a) (hg:∀ i H',i<xs.length→J.go i H') (hs:∀ i H',xs.length≤i→J.stop i H')
  (hy:∀ i H' v H'' x,J.yld i H' v H''→xs[i]?=some x→H''=H'∧x.imm=true∧∀ (b:Addr) (Z:Addr→Prop),Rp b Z H' x v):JOk W Lt J xs .fr:=fun O' ρ' σ' H' hl i=>⟨hg i H',hs i H',fun v H'' y x hx=>by
 obtain ⟨e,hi,hr⟩:=hy i H' v H'' x y hx
 subst e
 exact ⟨Step.refl (hlt _ _ _ _ hl),hr _ _⟩⟩
theorem AHL {W:Wd} {ρ:List S} {σ:St} {H:Hp} {lo:Int} {n:Nat}:JOk W (LatC W ρ σ H) (Itr lo n) (AB3 lo n) .fr∧(true=true→JOk W (LatS W ρ σ H) (Itr lo n) (AB3 lo n) .fr):=by
 have hy:∀ i H' v H'' x,(Itr lo n).yld i H' v H''→(AB3 lo n)[i]?=some x→H''=H'∧x.imm=true∧∀ (b:Addr) (Z:Addr→Prop),Rp b Z H' x v:=fun i H' v H'' x y hx=>by
  obtain ⟨e1,e2⟩:=y
  obtain ⟨_,e3⟩:=ABz hx
  subst e3
  exact ⟨e1,rfl,fun _ _=>e2⟩
 exact ⟨AIW (fun _ _ _ _ hl=>hl.2.2.2.1.bag) (fun i H' h=>by rw [AAW] at h;exact h) (fun i H' h=>by rw [AAW] at h;exact h) hy,
  fun _=>AIW (fun _ _ _ _ hl=>hl.2.bag) (fun i H' h=>by rw [AAW] at h;exact h) (fun i H' h=>by rw [AAW] at h;exact h) hy⟩
theorem ABi {p:Pos} {pr:pA} (hm:∀ i,(Xs i).mg "range"=none) (ha:QA Xs [a] pr) (hg:∀ i,Gl (Xs i) "range":=by intro _;rfl) (hs:∀ i,starEach [a] (Xs i).env=[(false,eval a (Xs i).env)]:=by intro _;rfl):QI Xs tg (.Call (.Name "range" p) [a] [] pos) (AGa pr):=by
 obtain ⟨t,h1,h2⟩:=ha
 refine ⟨_,fun i=>ADA (hg i) (hm i) (h1 i) (hs i),fun W ρ σ H R K ok hk q=>h2 W ρ σ H _ _ ok hk fun xs vs H1 ⟨j,f,e,b1,b2,k1⟩ s1 r1=>?_⟩
 subst e
 obtain ⟨v,t,e1,e2,e3⟩:=r1
 subst e1
 cases (show t=[] from e3)
 cases ABC (ok.step s1) e2
 exact ⟨j,rfl,b1,b2,q _ _ _ _ H1 k1 s1 AHL.1 AHL.2⟩
end
def pFor (pi:pI) (pg:pG) (pb:pS):pS:=fun E ρ=>pi ρ fun xs f st=>st=true∧∃ I:Nat→List S→Prop,I 0 ρ∧(∀ i ρ' x,xs[i]?=some x→I i ρ'→pg x f ρ' fun ρ2=>pb { E with nx:=I (i + 1),ct:=I (i + 1),bk:=E.nx } ρ2)∧∀ ρ',I xs.length ρ'→E.nx ρ'
def AIX (c:pT) (pb:pS):pS:=fun E ρ=>∃ I:Nat→List S→Prop,(∃ m,I m ρ)∧∀ m ρ',I m ρ'→c ρ' fun b=>if b=true then ∃ N:List S→Prop,(∀ ρ2,N ρ2→∃ m',m'<m∧I m' ρ2)∧pb { E with nx:=N,ct:=N,bk:=E.nx } ρ' else E.nx ρ'
section
variable {ι:Type} {Xs:ι→Cx} {tg a c:Expr} {pi:pI} {pg:pG} {pb:pS} {pc:pT} {pos:Pos} {body:List Stmt}
theorem RelD.frz {W:Wd} {ρ:List S} {σ:St} {H:Hp} {E:PEnds} {D:Ends} (ok0:Ok W ρ σ H) (r:RelD W E D):RelD (W.frz ρ σ H) E D :=
 ⟨fun ρ' σ' H' e ok=>r.nx ρ' σ' H' e (ok0.thaw ok),r.rt,fun ρ' σ' H' e ok=>r.bk ρ' σ' H' e (ok0.thaw ok),fun ρ' σ' H' e ok=>r.ct ρ' σ' H' e (ok0.thaw ok),r.noO,r.ex⟩
theorem AB4 (hp:∀ i,PassesOwn (model (Xs i).prog (Xs i).w) (Xs i).A (Xs i).env (Xs i).xe) (hc:∀ i,(Xs i).calm=true) (hi:QI Xs tg a pi) (hg:QG Xs tg pg) (hb:QSs Xs body pb)
  (hs:∀ i,∀ x,foldedSetIterable a (Xs i).env x=pure x:=by intro _ _;rfl):QS Xs (.For tg a body [] pos) (pFor pi pg pb):=by
 obtain ⟨wi,i1,i2⟩:=hi
 obtain ⟨g,g1,g2⟩:=hg
 obtain ⟨tb,b1,b2⟩:=hb
 refine ⟨_,fun i=>AFU (hp i) (hc i) (i1 i) (g1 i) (b1 i) (hs i),fun W ρ σ H D E ok h r=>i2 W ρ σ H _ _ ok h fun xs f st J H1 ⟨hst,I,h0,hturn,hend⟩ s1 _ jS=>?_⟩
 have jS:=jS hst
 have ok1:=ok.step s1
 have r1:=r.frz ok1
 refine ⟨fun i m σ' H'=>m=xs.length - i∧i≤xs.length∧∃ ρ',I i ρ'∧Ok (W.frz ρ σ H1) ρ' σ' H',⟨xs.length,by simp,Nat.zero_le _,ρ,h0,ok1.frz⟩,?_⟩
 rintro i m σ' H' ⟨rfl,hi,ρ',hI,ok'⟩
 obtain ⟨q1,q2,q3⟩:=jS W.O ρ' σ' H' ⟨rfl,ok'⟩ i
 by_cases hlt:i<xs.length
 ·refine .inr ⟨q1 hlt,fun σ2 H2=>∃ ρ2,I (i + 1) ρ2∧Ok (W.frz ρ σ H1) ρ2 σ2 H2,fun σ2 H2 ⟨ρ2,e1,e2⟩=>⟨xs.length - (i + 1),by lia,rfl,hlt,ρ2,e1,e2⟩,fun v H2 y=>?_⟩
  have hx:xs[i]?=some xs[i]:=by simp [hlt]
  obtain ⟨y1,y2⟩:=q3 v H2 y _ hx
  refine g2 (W.frz ρ σ H1) ρ' σ' H' H2 _ f v _ _ ok' y1 y2 (hturn i ρ' _ hx hI) fun ρ2 σ2 e2 ok2=>?_
  exact b2 (W.frz ρ σ H1) ρ2 σ2 H2 _ _ ok2 e2 ⟨fun ρ3 σ3 H3 e ok3=>⟨ρ3,e,ok3⟩,r1.rt,fun ρ3 σ3 H3 e ok3=>r1.nx ρ3 σ3 H3 e ok3,fun ρ3 σ3 H3 e ok3=>⟨ρ3,e,ok3⟩,r.noO,r.ex⟩
 ·have e:i=xs.length:=by lia
  subst e
  exact .inl ⟨q2 (Nat.le_refl _),r1.nx ρ' σ' H' (hend ρ' hI) ok'⟩
theorem AM7 (hp:∀ i,PassesOwn (model (Xs i).prog (Xs i).w) (Xs i).A (Xs i).env (Xs i).xe) (hc:QT Xs c pc) (hb:QSs Xs body pb):QS Xs (.While c body [] pos) (AIX pc pb):=by
 obtain ⟨tc,c1,c2⟩:=hc
 obtain ⟨tb,b1,b2⟩:=hb
 refine ⟨_,fun i=>AMp (hp i) (c1 i) (b1 i),fun W ρ σ H D E ok h r=>?_⟩
 obtain ⟨I,⟨m0,h0⟩,turn⟩:=h
 refine ⟨fun m σ' H'=>∃ ρ',I m ρ'∧Ok W ρ' σ' H',⟨m0,ρ,h0,ok⟩,?_⟩
 rintro m σ' H' ⟨ρ',hI,ok'⟩
 refine c2 W ρ' σ' H' _ _ ok' (turn m ρ' hI) fun b H1 hb s1=>?_
 cases b with
 | false=>exact r.nx ρ' σ' H1 hb (ok'.step s1)
 | true =>
  obtain ⟨N,hN,hb⟩:=hb
  refine ⟨fun σ2 H2=>∃ ρ2,N ρ2∧Ok W ρ2 σ2 H2,fun σ2 H2 ⟨ρ2,e1,e2⟩=>let ⟨m',l,h⟩:=hN ρ2 e1;⟨m',l,ρ2,h,e2⟩,?_⟩
  exact b2 W ρ' σ' H1 _ _ (ok'.step s1) hb ⟨fun ρ3 σ3 H3 e ok3=>⟨ρ3,e,ok3⟩,r.rt,fun ρ3 σ3 H3 e ok3=>r.nx ρ3 σ3 H3 e ok3,fun ρ3 σ3 H3 e ok3=>⟨ρ3,e,ok3⟩,r.noO,r.ex⟩
end
noncomputable def AB8 (ρ:List S) (pick:List (Option Nat)):List S:=pick.map fun o=>match o with | none=>.emp | some j=>(ρ[j]?).getD .emp
abbrev AED (pick:List (Option Nat)):Prop:=pick.Pairwise fun a b=>a=none∨a≠b
def AAm (xs:List P) (step:P→(Option (P×Fl)→Prop)→Prop) (K:P→Fl→Prop):Prop:=∃ (g:Fl) (I:Nat→List P→Prop),(g=.nw∨g=.cl)∧I 0 [] ∧
 (∀ i x ys,xs[i]?=some x→I i ys→step x fun o=>match o with | some (y,h)=>(AAb y h).join g=g∧I (i + 1) (ys ++ [y]) | none=>I (i + 1) ys)∧∀ ys,I xs.length ys→K (.lst ys) g
def AFn (pi:pI) (pick:List (Option Nat)) (pg:pG) (pt:pT) (pe:pE):pE:=fun ρ K=>pi ρ fun xs f _=>f≠.bo∧xs.length≤16777216 ∧
 AAm xs (fun x M=>pg x f (AB8 ρ pick) fun ρ'=>pt ρ' fun c=>if c=true then pe ρ' fun y h=>M (some (y,h)) else M none) K
section
variable {W Wb:Wd} {ρ ρ' ρb:List S} {σ σ' σb:St} {H H' H1 H2 Hs:Hp} {x:P} {v:V} {xs:List P} {vs:List V} {f:Fl} {p D:Addr} {k:Nat} {pick:List (Option Nat)}
theorem ABX.mv {s:S} {o:Option V} (hb:Wb.b=W.b) (ha:Wb.a=W.a) (h0:Wb.H₀=W.H₀) (hF:Wb.F=W.F) (hk:∀ f p o,¬ Zof W ρ σ f p→H1 p=some o→¬ Zof Wb ρb σb f p∧H2 p=some o) (ht:∀ p vs,H1 p=some (.tup vs)→H2 p=some (.tup vs))
  (hs:∀ p o,p≠W.b→H1 p=some o→H2 p=some o) (h:ABX W ρ σ H1 s o):ABX Wb ρb σb H2 s o:=by
 cases s with
 | emp=>trivial
 | sh x=>obtain ⟨v,h1,h2⟩:=h;exact ⟨v,h1,by rw [hb];exact h2.keep (hk .cl) ht⟩
 | fr x=>obtain ⟨v,h1,h2⟩:=h;exact ⟨v,h1,by rw [hb];exact h2.keep (hk .fr) ht⟩
 | own x =>
  obtain ⟨p,h1,h2,h3,h4,h5,h6⟩:=h
  refine ⟨p,h1,by rw [h0];exact h2,by rw [hF];exact h3,by rw [hb];exact h4,by rw [ha];exact h5,?_⟩
  rw [hb]
  cases x with
  | lst xs=>obtain ⟨vs,q1,q2⟩:=h6;exact ⟨vs,hs p _ h4 q1,q2.keep (hk .fr) ht⟩
  | dT ks xs=>obtain ⟨vs,q1,q0,q2⟩:=h6;exact ⟨vs,hs p _ h4 q1,q0,q2.keep (hk .fr) ht⟩
  | dK ks xs=>obtain ⟨vs,q1,q0,q2⟩:=h6;exact ⟨vs,hs p _ h4 q1,q0,q2.keep (hk .fr) ht⟩
  | _=>exact h6.elim
theorem ADF {i:Nat} {s:S} (h:(AB8 ρ pick)[i]?=some s):∃ o,pick[i]?=some o∧s=(match o with | none=>.emp | some j=>(ρ[j]?).getD .emp):=by
 unfold AB8 at h
 rw [List.getElem?_map] at h
 cases e:pick[i]? with
 | none=>rw [e] at h;cases h
 | some o=>rw [e] at h;exact ⟨o,rfl,(Option.some.inj h).symm⟩
theorem AM8 (hp:AED pick) {i i' j:Nat} (h:pick[i]?=some (some j)) (h':pick[i']?=some (some j)):i=i':=by
 have hi:i<pick.length:=by
  rcases Nat.lt_or_ge i pick.length with q | q
  ·exact q
  ·rw [List.getElem?_eq_none q] at h;cases h
 have hi':i'<pick.length:=by
  rcases Nat.lt_or_ge i' pick.length with q | q
  ·exact q
  ·rw [List.getElem?_eq_none q] at h';cases h'
 rw [List.getElem?_eq_getElem hi] at h
 rw [List.getElem?_eq_getElem hi'] at h'
 have hw:=List.pairwise_iff_getElem.mp hp
 rcases Nat.lt_trichotomy i i' with q | q | q
 ·rcases hw i i' hi hi' q with z | z
  ·rw [Option.some.inj h] at z;cases z
  ·exact absurd ((Option.some.inj h).trans (Option.some.inj h').symm) z
 ·exact q
 ·rcases hw i' i hi' hi q with z | z
  ·rw [Option.some.inj h'] at z;cases z
  ·exact absurd ((Option.some.inj h').trans (Option.some.inj h).symm) z
theorem ADG {i j:Nat} (h:pick[i]?=some (some j)):(L2.picked σ pick)[i]?=some ((σ[j]?).join):=by
 unfold L2.picked
 rw [List.getElem?_map,h]
 rfl
theorem AIY (ok:Ok W ρ σ H) (h:OwS (AB8 ρ pick) (L2.picked σ pick) p):OwS ρ σ p:=by
 obtain ⟨i,x,h1,h2⟩:=h
 obtain ⟨o,e1,e2⟩:=ADF h1
 cases o with
 | none=>cases e2
 | some j =>
  rw [ADG e1] at h2
  dsimp only at e2
  cases e3:ρ[j]? with
  | none=>rw [e3] at e2;cases e2
  | some s =>
   rw [e3] at e2
   cases e2
   obtain ⟨o,q1,q2⟩:=ok.slot j _ e3
   rw [q1] at h2
   exact ⟨j,x,e3,by rw [q1];exact congrArg some (Option.some.inj h2)⟩
noncomputable abbrev Wd.blk (W:Wd) (ρ:List S) (σ:St) (D:Addr):Wd:={ W with O:=fun p=>W.O p∨OwS ρ σ p∨p=D }
theorem AOR (hs:OwS ρb σb p→OwS ρ σ p∨H1 p=none) (hD:H1 D=none) (h:Zof (W.blk ρ σ D) ρb σb f p):Zof W ρ σ f p∨H1 p=none:=by
 have k:Ow (W.blk ρ σ D) ρb σb p→Ow W ρ σ p∨H1 p=none:=fun z=>by
  rcases z with (z | z | z) | z
  ·exact .inl (.inl z)
  ·exact .inl (.inr z)
  ·subst z;exact .inr hD
  ·exact (hs z).elim (fun z=>.inl (.inr z)) .inr
 cases f <;> simp only [Zof] at h ⊢
 ·rcases h with h | h | h
  ·exact .inl (.inl h)
  ·exact (k h).elim (fun z=>.inl (.inr (.inl z))) .inr
  ·exact .inl (.inr (.inr h))
 ·rcases h with h | h | h
  ·exact .inl (.inl h)
  ·exact (k h).elim (fun z=>.inl (.inr (.inl z))) .inr
  ·exact .inl (.inr (.inr h))
 ·rcases h with h | h
  ·exact .inl (.inl h)
  ·exact (k h).elim (fun z=>.inl (.inr z)) .inr
 ·rcases h with h | h | h
  ·exact .inl (.inl h)
  ·exact (k h).elim (fun z=>.inl (.inr (.inl z))) .inr
  ·exact .inl (.inr (.inr h))
 ·exact .inl h
 ·exact .inl h
theorem APc {l:List V} (ok:Ok W ρ σ H1) (hp:AED pick) (hD:H1 D=none) (st:Step W.b W.a H1 H2) (e:H2 D=some (.lst l)):Ok (W.blk ρ σ D) (AB8 ρ pick) (L2.picked σ pick) H2 where
 bag:=st.bag
 fb:=ok.fb
 old:=fun p o hp e=>st.same p o hp (ok.old p o hp e)
 frm:=fun p o e=>st.same p o (fun z=>by rw [z,ok.fb] at e;cases e) (ok.frm p o e)
 oo:=fun p h=>by
  have k:Ow W ρ σ p→W.H₀ p=none∧W.F p=none∧p≠W.b∧p≠W.a∧∃ o,H2 p=some o∧∀ ys,o≠.tup ys:=fun z=>by
   obtain ⟨q1,q2,q3,q4,o,q5,q6⟩:=ok.ow z
   exact ⟨q1,q2,q3,q4,o,st.same p o q3 q5,q6⟩
  rcases h with h | h | h
  ·exact k (.inl h)
  ·exact k (.inr h)
  ·subst h
   have nb:=ok.bag.nb hD
   refine ⟨?_,?_,nb,ok.bag.na hD,_,e,fun _ z=>nomatch z⟩
   ·cases q:W.H₀ p with
    | none=>rfl
    | some o=>rw [ok.old p o nb q] at hD;cases hD
   ·cases q:W.F p with
    | none=>rfl
    | some o=>rw [ok.frm p o q] at hD;cases hD
 len:=by simp [L2.picked,AB8]
 slot:=fun i s h=>by
  obtain ⟨o,e1,e2⟩:=ADF h
  cases o with
  | none =>
   dsimp only at e2
   subst e2
   refine ⟨none,?_,trivial⟩
   unfold L2.picked
   rw [List.getElem?_map,e1]
   rfl
  | some j =>
   dsimp only at e2
   refine ⟨_,ADG e1,?_⟩
   cases e3:ρ[j]? with
   | none=>rw [e3] at e2;subst e2;trivial
   | some s' =>
    rw [e3] at e2
    have e2:s=s':=e2
    subst e2
    obtain ⟨o,q1,q2⟩:=ok.slot j _ e3
    rw [q1]
    show ABX _ _ _ _ s o
    refine ABX.mv (W:=W) (Wb:=W.blk ρ σ D) (ρ:=ρ) (σ:=σ) rfl rfl rfl rfl (fun f p u hz eu=>⟨fun z=>?_,st.same p u (fun z=>hz (z ▸ Zof.b)) eu⟩) (fun p us e=>st.same p _ (ok.bag.neT e).1 e) (fun p o hp e=>st.same p o hp e) q2
    rcases AOR (H1:=H1) (fun z=>.inl (AIY ok z)) hD z with z | z
    ·exact hz z
    ·rw [eu] at z;cases z
 uniq:=fun i i' x y h1 h2 h3=>by
  obtain ⟨o,e1,e2⟩:=ADF h1
  obtain ⟨o',e1',e2'⟩:=ADF h2
  cases o with
  | none=>cases e2
  | some j =>
   cases o' with
   | none=>cases e2'
   | some j' =>
    dsimp only at e2 e2'
    cases e3:ρ[j]? with
    | none=>rw [e3] at e2;cases e2
    | some s =>
     cases e3':ρ[j']? with
     | none=>rw [e3'] at e2';cases e2'
     | some s' =>
      rw [e3] at e2;rw [e3'] at e2'
      cases e2;cases e2'
      obtain ⟨o,q1,q2⟩:=ok.slot j _ e3
      obtain ⟨o',q1',q2'⟩:=ok.slot j' _ e3'
      rw [ADG e1,ADG e1',q1,q1'] at h3
      have h4:o=o':=Option.some.inj h3
      subst h4
      have:=ok.uniq j j' x y e3 e3' (by rw [q1,q1'])
      subst this
      exact AM8 hp e1 e1'
theorem AM9 {ρ':List S} {σ':St} {y:P} {h g:Fl} {Hq:Hp} (ok:Ok (W.blk ρ σ D) ρ' σ' H2) (hg:g=.nw∨g=.cl) (r:RF (W.blk ρ σ D) ρ' σ' Hq h H2 y v) (hj:(AAb y h).join g=g):Rp W.b (fun q=>Zof W ρ σ g q∨q=D) H2 y v:=by
 obtain ⟨n1,n2,r2⟩:=AFA ok r
 have hi:AAb y h=.nw∨AAb y h=.cl:=by
  rcases hg with rfl | rfl <;> cases e:AAb y h <;> simp_all [Fl.join]
 refine r2.keep (fun q o hz e=>⟨fun z=>hz ?_,e⟩) fun q us e=>e
 have ow:(Ow W ρ σ q∨q=D)→Ow (W.blk ρ σ D) ρ' σ' q:=fun z=>.inl (z.elim (fun z=>z.elim .inl fun z=>.inr (.inl z)) fun z=>.inr (.inr z))
 rcases hg with rfl | rfl
 ·have hi2:AAb y h=.nw:=by rcases hi with z | z <;> simp_all [Fl.join]
  rw [hi2]
  simp only [Zof] at z ⊢
  rcases z with (z | z | z) | z
  ·exact .inl z
  ·exact .inr (.inl (ow (.inl z)))
  ·exact .inr (.inr z)
  ·exact .inr (.inl (ow (.inr z)))
 ·rcases hi with z' | z' <;> rw [z'] <;> simp only [Zof] at z ⊢
  ·rcases z with (z | z) | z
   ·exact .inl z
   ·exact .inr (.inl (ow (.inl z)))
   ·exact .inr (.inl (ow (.inr z)))
  ·rcases z with (z | z) | z
   ·exact .inl z
   ·exact .inr (ow (.inl z))
   ·exact .inr (ow (.inr z))
theorem AHM {wi:TI} {g:TG} {tt:TT} {te:TE} {pi:pI} {pg:pG} {pt:pT} {pe:pE} (hp:AED pick) (hi:RefI wi pi) (hg:RefG g pg) (ht:RefT tt pt) (he:RefE te pe):RefE (AHu wi pick g tt te) (AFn pi pick pg pt pe):=by
 intro W ρ σ H Q K ok hk q
 refine hi W ρ σ H _ _ ok hk fun xs f _ J H1 ⟨hfb,hlen,gf,I,hgf,h0,hturn,hend⟩ s1 jC _=>?_
 have ok1:=ok.step s1
 have stD:∀ {D H2},H1 D=none→Step W.b W.a H1 H2→∀ {o},Step W.b W.a H1 (upd H2 D o):=fun {D H2} hD s {o}=>⟨s.bag.put (ok1.bag.nb hD) (ok1.bag.na hD),fun p u hp e=>by rw [AAE (AAJ e hD)];exact s.same p u hp e⟩
 intro D hD
 refine ⟨fun i m ys H2=>m=xs.length - i∧i≤xs.length∧∃ ps,I i ps∧H2 D=some (.lst ys)∧Rps W.b (fun q=>Zof W ρ σ gf q∨q=D) H2 ps ys∧Step W.b W.a H1 H2∧ps.length≤i,⟨xs.length,by simp,Nat.zero_le _,[],h0,AAG,rfl,stD hD (Step.refl ok1.bag),Nat.le_refl _⟩,?_⟩
 rintro i m ys H2 ⟨rfl,hi,ps,hI,eD,rps,s2,hpl⟩
 refine ⟨eD,?_⟩
 have ok2:=ok1.step s2
 have nDb:=ok1.bag.nb hD
 have nDa:=ok1.bag.na hD
 obtain ⟨j1,j2,j3⟩:=jC (fun p=>W.O p∨p=D) ρ σ H2 ⟨fun p z=>z.elim .inl fun z=>.inr (z ▸ hD),rfl,rfl,ok2,s2⟩ i
 by_cases hlt:i<xs.length
 ·refine .inr ⟨j1 hlt,fun zs H'=>∃ ps,I (i + 1) ps∧H' D=some (.lst zs)∧Rps W.b (fun q=>Zof W ρ σ gf q∨q=D) H' ps zs∧Step W.b W.a H1 H'∧ps.length≤i + 1,fun zs H' ⟨ps,z⟩=>⟨xs.length - (i + 1),by lia,rfl,hlt,ps,z⟩,fun v H3 y=>?_⟩
  have hx:xs[i]?=some xs[i]:=by simp [hlt]
  obtain ⟨y1,y2⟩:=j3 v H3 y _ hx
  have okb:=APc ok1 hp hD s2 eD
  -- the yielded value,within the block
  have y3:RF (W.blk ρ σ D) (AB8 ρ pick) (L2.picked σ pick) H2 f H3 xs[i] v:=by
   have sub:∀ {f:Fl} {q:Addr},Zof (W.blk ρ σ D) (AB8 ρ pick) (L2.picked σ pick) f q→Zof { W with O:=fun p=>W.O p∨p=D } ρ σ f q:=fun {f q} z=>by
    have k:Ow (W.blk ρ σ D) (AB8 ρ pick) (L2.picked σ pick) q→Ow { W with O:=fun p=>W.O p∨p=D } ρ σ q:=fun z=>by
     rcases z with (z | z | z) | z
     ·exact .inl (.inl z)
     ·exact .inr z
     ·exact .inl (.inr z)
     ·exact .inr (AIY ok1 z)
    cases f <;> simp only [Zof] at z ⊢
    ·exact z.elim .inl fun z=>.inr (z.elim (fun z=>.inl (k z)) .inr)
    ·exact z.elim .inl fun z=>.inr (z.elim (fun z=>.inl (k z)) .inr)
    ·exact z.elim .inl fun z=>.inr (k z)
    ·exact z.elim .inl fun z=>.inr (z.elim (fun z=>.inl (k z)) .inr)
    ·exact z
    ·exact z
   have kp:∀ {f:Fl},Rp W.b (Zof { W with O:=fun p=>W.O p∨p=D } ρ σ f) H3 xs[i] v→Rp W.b (Zof (W.blk ρ σ D) (AB8 ρ pick) (L2.picked σ pick) f) H3 xs[i] v:=fun {f} h=>h.keep (fun q o hz e=>⟨fun z=>hz (sub z),e⟩) fun q us e=>e
   cases f with
   | bo=>exact absurd rfl hfb
   | nw=>exact ⟨kp (f:=.fr) y2.1,y2.2⟩
   | fr=>exact kp (f:=.fr) y2
   | cl=>exact kp (f:=.cl) y2
   | rf=>exact kp (f:=.rf) y2
   | an=>exact kp (f:=.an) y2
  have keepD:∀ {Ha Hb:Hp},Step W.b W.a Ha Hb→Ha D=some (.lst ys)→Hb D=some (.lst ys):=fun s e=>s.same D _ nDb e
  have keepR:∀ {Ha Hb:Hp} {o:HO},Bag Ha W.b W.a→Ha D=some (.lst ys)→Step W.b W.a Ha Hb→Rps W.b (fun q=>Zof W ρ σ gf q∨q=D) Ha ps ys→Rps W.b (fun q=>Zof W ρ σ gf q∨q=D) (upd Hb D o) ps ys:=fun {Ha Hb o} hb eDa s h =>
   h.keep (fun q u hz e=>⟨hz,by rw [AAE (fun z=>hz (.inr z))];exact s.same q u (fun z=>hz (.inl (z ▸ Zof.b))) e⟩) fun q us e=>by
    rw [AAE (fun z=>by rw [z,eDa] at e;cases e)]
    exact s.same q _ (hb.neT e).1 e
  have keepR':∀ {Ha Hb:Hp},Bag Ha W.b W.a→Step W.b W.a Ha Hb→Rps W.b (fun q=>Zof W ρ σ gf q∨q=D) Ha ps ys→Rps W.b (fun q=>Zof W ρ σ gf q∨q=D) Hb ps ys:=fun {Ha Hb} hb s h =>
   h.keep (fun q u hz e=>⟨hz,s.same q u (fun z=>hz (.inl (z ▸ Zof.b))) e⟩) fun q us e=>s.same q _ (hb.neT e).1 e
  refine hg (W.blk ρ σ D) _ _ H2 H3 _ f v _ _ okb y1 y3 (hturn i _ ps hx hI) fun ρ4 σ4 k4 ok4=>?_
  refine ht (W.blk ρ σ D) ρ4 σ4 H3 _ _ ok4 k4 fun c H5 k5 s5=>?_
  have s25:=y1.trans s5
  cases c with
  | false=>exact ⟨ps,k5,keepD s25 eD,keepR' ok2.bag s25 rps,s2.trans s25,by lia⟩
  | true =>
   refine he (W.blk ρ σ D) ρ4 σ4 H5 _ _ (ok4.step s5) k5 fun y h u H6 ⟨k6,k7⟩ s6 r6=>?_
   have s26:=s25.trans s6
   refine ⟨keepD s26 eD,?_,ps ++ [y],k7,AAG,?_,stD hD (s2.trans s26),by rw [List.length_append];simp;lia⟩
   ·have:=rps.length
    have e16:sizeLine=16777216:=rfl
    lia
   ·refine (keepR ok2.bag eD s26 rps).snoc ?_
    have r7:=AM9 (D:=D) (ok4.step (s5.trans s6)) hgf r6 k6
    refine r7.keep (fun q u hz e=>⟨hz,by rw [AAE (fun z=>hz (.inr z))];exact e⟩) fun q us e=>by
     rw [AAE (fun z=>by rw [z,keepD s26 eD] at e;cases e)]
     exact e
 ·have e:i=xs.length:=by lia
  subst e
  refine .inl ⟨j2 (Nat.le_refl _),q _ gf _ H2 (hend ps hI) (s1.trans s2) ?_⟩
  have nz:∀ g,¬ Zof W ρ σ g D:=fun g z=>ok1.dom z hD
  have rps2:Rps W.b (Zof W ρ σ gf) H2 ps ys:=rps.keep (fun q o hz e=>⟨fun z=>hz (.inl z),e⟩) fun q us e=>e
  rcases hgf with rfl | rfl
  ·exact ⟨⟨D,ys,rfl,nz .fr,eD,rps2⟩,fun _=>⟨D,rfl,s1.free hD⟩⟩
  ·exact ⟨D,ys,rfl,nz .cl,eD,rps2⟩
end
section
variable {ι:Type} {Xs:ι→Cx} {N' N:List Str} {pick:List (Option Nat)} {elt tg iter:Expr} {ifs:List Expr} {scope sc:Scope} {pos:Pos} {pi:pI} {pg:pG} {pt:pT} {pe:pE}
noncomputable abbrev Blk (Xs:ι→Cx) (N':List Str) (scope:Scope):ι×CompP→Cx:=fun q=>(Xs q.1).comp N' scope q.2
def QGk (Xs:ι→Cx) (pick:List (Option Nat)) (tg:Expr) (p:pG):Prop:=∃ g,(∀ i,PG (Xs i) tg g)∧RefG g p∧ADS pick g
def QIfs (Xs:ι→Cx) (ifs:List Expr) (p:pT):Prop:=∃ t,(∀ i,PIfs (Xs i) ifs t)∧RefT t p
def AKU:pT:=fun _ K=>K true
theorem ABJ:QIfs Xs [] AKU:=⟨_,fun _=>AIH,fun W ρ σ H Q K ok h q=>q true H h (Step.refl ok.bag)⟩
theorem ADn {c:Expr} (h:QT Xs c pt):QIfs Xs [c] pt:=let ⟨t,h1,h2⟩:=h;⟨t,fun i=>AM0 (h1 i),h2⟩
theorem AA8 {k:Nat} {x:Str} (hp:pick[k]?=some none) (hN:∀ i,(Xs i).N.Nodup) (hi:∀ i,(Xs i).N[k]?=some x:=by intro _;rfl) (hx:∀ i,Loc (Xs i).env.scope x:=by intro _;trivial)
  (hf:∀ i,(Xs i).fn x=true∨(Xs i).env.scope.names.lookup x=some .local:=by intro _;trivial):QGk Xs pick (.Name x pos) (pSet k):=⟨_,fun i=>AAf (hN i) (hi i) (hx i) (hf i),AHH k,AEx hp⟩
theorem AGb {es:List Expr} {k1:Nat} {i j:Nat} {Kf:PySem.W.Frag} (hp:pick[i]?=some none) (hp':pick[j]?=some none) (hc:∀ i,(Xs i).calm=true) (hK:∀ i,(Xs i).K=Kf) (h:∀ q,PGs (Xs q) es (ACz [i,j]))
  (hn:∀ i,(assignEach es (Xs i).env).length=2:=by intro _;rfl) (hst:∀ i,(assignEach es (Xs i).env).findIdx? (·.1)=none:=by intro _;rfl):QGk Xs pick (.Tuple es k1 pos) (ADW [i,j]) :=
 ⟨gTup Kf 2 (ACz [i,j]),fun i=>by have:=ALH (k:=k1) (pos:=pos) (hc i) (h i) (hn i) (hst i);rw [hK i] at this;exact this,AIS rfl,AKM hp hp'⟩
theorem ABH (S:CompScope N sc N' pick scope) (hp:AED pick) (hc:∀ i,(Xs i).calm=true) (hi:QI Xs tg iter pi) (hg:QGk (Blk Xs N' scope) pick tg pg) (ht:QIfs (Blk Xs N' scope) ifs pt) (he:QE (Blk Xs N' scope) elt pe)
  (hN:∀ i,(Xs i).N=N:=by intro _;rfl) (hsc:∀ i,(Xs i).env.scope=sc:=by intro _;rfl) (hs:∀ i,∀ x,foldedSetIterable iter (Xs i).env x=pure x:=by intro _ _;rfl) :
  QE Xs (.ListComp elt [⟨tg,iter,ifs,0⟩] scope pos) (AFn pi pick pg pt pe):=by
 obtain ⟨wi,i1,i2⟩:=hi
 obtain ⟨g,g1,g2,g3⟩:=hg
 obtain ⟨tt,t1,t2⟩:=ht
 obtain ⟨te,e1,e2⟩:=he
 exact ⟨_,fun i=>AJg S (hc i) (i1 i) g3 (fun p=>g1 (i,p)) (fun p=>t1 (i,p)) (fun p=>e1 (i,p)) (hN i) (hsc i) (hs i),AHM hp i2 g2 t2 e2⟩
theorem AFo {k:Nat} {x:Str} {pos' spos:Pos} (hnd:∀ i,(Xs i).N.Nodup) (S:CompScope N sc N' pick scope) (hp:AED pick) (hc:∀ i,(Xs i).calm=true) (hi:QI Xs tg iter pi) (hg:QGk (Blk Xs N' scope) pick tg pg) (ht:QIfs (Blk Xs N' scope) ifs pt) (he:QE (Blk Xs N' scope) elt pe)
  (hix:∀ i,(Xs i).N[k]?=some x:=by intro _;rfl) (hx:∀ i,Loc (Xs i).env.scope x:=by intro _;trivial)
  (hN:∀ i,(Xs i).N=N:=by intro _;rfl) (hsc:∀ i,(Xs i).env.scope=sc:=by intro _;rfl)
  (hsw:∀ i,swapsWith (.ListComp elt [⟨tg,iter,ifs,0⟩] scope pos) (some (.Name x pos')) spos.line (Xs i).env=pure true:=by intro _;rfl) (hs:∀ i,∀ x,foldedSetIterable iter (Xs i).env x=pure x:=by intro _ _;rfl)
  (hf:∀ i,(Xs i).fn x=true∨(Xs i).env.scope.names.lookup x=some .local:=by intro _;trivial) :
  QS Xs (.Assign [.Name x pos'] (.ListComp elt [⟨tg,iter,ifs,0⟩] scope pos) spos) (pAsg (AFn pi pick pg pt pe) k):=by
 obtain ⟨wi,i1,i2⟩:=hi
 obtain ⟨g,g1,g2,g3⟩:=hg
 obtain ⟨tt,t1,t2⟩:=ht
 obtain ⟨te,e1,e2⟩:=he
 exact ⟨_,fun i=>AKN S (hnd i) (hix i) (hx i) (hc i) (i1 i) g3 (fun p=>g1 (i,p)) (fun p=>t1 (i,p)) (fun p=>e1 (i,p)) (hN i) (hsc i) (hsw i) (hs i) (hf i),AIR (AHM hp i2 g2 t2 e2)⟩
end
theorem AHN {y:P} {h:Fl} (hi:y.imm=true):AAb y h=.nw:=by cases h <;> simp [AAb,hi]
section
variable {α:Type} {as:List α} {enc:α→P} {step:P→(Option (P×Fl)→Prop)→Prop} {K:P→Fl→Prop}
theorem AIZ {i:Nat} {x:P} (h:(as.map enc)[i]?=some x):∃ a,as[i]?=some a∧a∈as∧x=enc a∧as.take (i + 1)=as.take i ++ [a]:=by
 rw [List.getElem?_map] at h
 cases ha:as[i]? with
 | none=>rw [ha] at h;cases h
 | some a =>
  rw [ha] at h
  exact ⟨a,rfl,List.mem_of_getElem? ha,(Option.some.inj h).symm,by rw [List.take_add_one,ha];rfl⟩
theorem AAm.filter (t:α→Bool) (g:α→P) (hi:∀ a∈as,t a=true→(g a).imm=true) (hs:∀ a∈as,∀ M:Option (P×Fl)→Prop,(∀ h,M (if t a=true then some (g a,h) else none))→step (enc a) M) (hK:K (.lst ((as.filter t).map g)) .nw):AAm (as.map enc) step K:=by
 refine ⟨.nw,fun i ys=>ys=((as.take i).filter t).map g,.inl rfl,rfl,fun i x ys hx hys=>?_,fun ys hys=>?_⟩
 ·obtain ⟨a,_,hm,rfl,ht⟩:=AIZ hx
  subst hys
  refine hs a hm _ fun h=>?_
  have key:((as.take (i + 1)).filter t).map g=((as.take i).filter t).map g ++ if t a=true then [g a] else []:=by
   rw [ht,List.filter_append,List.map_append]
   cases e:t a <;> simp [e]
  cases e:t a
  ·show ((as.take i).filter t).map g=((as.take (i + 1)).filter t).map g
   rw [key,e];simp
  ·refine ⟨by rw [AHN (hi a hm e)];rfl,?_⟩
   show ((as.take i).filter t).map g ++ [g a]=((as.take (i + 1)).filter t).map g
   rw [key,e];simp
 ·rw [List.length_map,List.take_length] at hys
  subst hys
  exact hK
theorem AAm.map (g:α→P) (hi:∀ a∈as,(g a).imm=true) (hs:∀ a∈as,∀ M:Option (P×Fl)→Prop,(∀ h,M (some (g a,h)))→step (enc a) M) (hK:K (.lst (as.map g)) .nw):AAm (as.map enc) step K :=
 AAm.filter (fun _=>true) g (fun a m _=>hi a m) (fun a m M h=>hs a m M h) (by rw [List.filter_eq_self.mpr fun _ _=>rfl];exact hK)
theorem AAm.new (g:α→P) (hs:∀ a∈as,∀ M:Option (P×Fl)→Prop,M (some (g a,.nw))→step (enc a) M) (hK:K (.lst (as.map g)) .nw):AAm (as.map enc) step K:=by
 refine ⟨.nw,fun i ys=>ys=(as.take i).map g,.inl rfl,rfl,fun i x ys hx hys=>?_,fun ys hys=>?_⟩
 ·obtain ⟨a,_,hm,rfl,ht⟩:=AIZ hx
  subst hys
  refine hs a hm _ ⟨rfl,?_⟩
  show (as.take i).map g ++ [g a]=(as.take (i + 1)).map g
  rw [ht,List.map_append];rfl
 ·rw [List.length_map,List.take_length] at hys
  subst hys
  exact hK
inductive Each {α β:Type} (R:α→β→Prop):List α→List β→Prop where
 | nil:Each R [] []
 | cons {a b as bs}:R a b→Each R as bs→Each R (a :: as) (b :: bs)
theorem Each.snoc {β:Type} {R:α→β→Prop} {a:α} {b:β} (h:R a b):∀ {as:List α} {bs:List β},Each R as bs→Each R (as ++ [a]) (bs ++ [b])
 | _,_,.nil=>.cons h .nil
 | _,_,.cons r t=>.cons r (Each.snoc h t)
theorem Each.length {β:Type} {R:α→β→Prop}:∀ {as:List α} {bs:List β},Each R as bs→as.length=bs.length
 | _,_,.nil=>rfl
 | _,_,.cons _ t=>by rw [List.length_cons,List.length_cons,Each.length t]
theorem Each.mem {β:Type} {R:α→β→Prop}:∀ {as:List α} {bs:List β},Each R as bs→∀ b∈bs,∃ a∈as,R a b
 | _,_,.nil,b,h=>by cases h
 | _,_,.cons r t,b,h=>by
  rcases List.mem_cons.mp h with rfl | h
  ·exact ⟨_,List.mem_cons_self,r⟩
  ·obtain ⟨a,h1,h2⟩:=Each.mem t b h
   exact ⟨a,List.mem_cons_of_mem _ h1,h2⟩
theorem AAm.rel {β:Type} (g:β→P) (R:α→β→Prop) (hs:∀ a∈as,∀ M:Option (P×Fl)→Prop,(∀ b h,R a b→M (some (g b,h)))→step (enc a) M) (hg:∀ b,(g b).imm=true) (hK:∀ bs,Each R as bs→K (.lst (bs.map g)) .nw):AAm (as.map enc) step K:=by
 refine ⟨.nw,fun i ys=>∃ bs,ys=bs.map g∧Each R (as.take i) bs,.inl rfl,⟨[],rfl,.nil⟩,fun i x ys hx hys=>?_,fun ys hys=>?_⟩
 ·obtain ⟨a,_,hm,rfl,ht⟩:=AIZ hx
  obtain ⟨bs,rfl,he⟩:=hys
  refine hs a hm _ fun b h hr=>⟨by rw [AHN (hg b)];rfl,bs ++ [b],by simp,?_⟩
  rw [ht]
  exact he.snoc hr
 ·obtain ⟨bs,rfl,he⟩:=hys
  rw [List.length_map,List.take_length] at he
  exact hK bs he
end
def pII (C:Int→Int→Prop) (g:Int→Int→P):p2:=fun x _ y _ K=>match x,y with
 | .int i,.int j=>C i j∧K (g i j) .fr
 | _,_=>False
noncomputable abbrev CT:Int→Int→Prop:=fun _ _=>True
noncomputable def AAT:P→Option V
 | .non=>some .non | .bl k=>some (.bl k) | .int i=>some (.int i) | .str x=>some (.str x) | _=>none
theorem AJs {W:Wd} {ρ:List S} {σ:St} {Hs H:Hp} {x:P} {v:V} (h:AAT x=some v):RF W ρ σ Hs .fr H x v:=by
 cases x <;> simp only [AAT] at h <;> first | (cases h;rfl) | cases h
section
variable {C:Int→Int→Prop} {g:Int→Int→V} {gp:Int→Int→P}
theorem AFp (hg:∀ i j,AAT (gp i j)=some (g i j)):Ref2 (rI C g) (pII C gp):=fun W ρ σ Hs H Q K x y f h v u ok st rx ry hp q=>by
 unfold pII at hp
 split at hp
 ·cases ABC ok rx
  cases ABC ok ry
  exact ⟨_,_,rfl,rfl,hp.1,q _ _ _ H hp.2 (Step.refl ok.bag) (AJs (hg _ _))⟩
 ·exact hp.elim
theorem AEh (hg:∀ i j,AAT (gp i j)=some (g i j)):Ref2 (rI0 g) (pII CT gp):=fun W ρ σ Hs H Q K x y f h v u ok st rx ry hp q=>by
 unfold pII at hp
 split at hp
 ·cases ABC ok rx
  cases ABC ok ry
  exact ⟨_,_,rfl,rfl,q _ _ _ H hp.2 (Step.refl ok.bag) (AJs (hg _ _))⟩
 ·exact hp.elim
end
abbrev AQR:p2:=pII CT fun i j=>.int (i + j)
abbrev AQS:p2:=pII CT fun i j=>.int (i - j)
abbrev AQT:p2:=pII CMul fun i j=>.int (i * j)
abbrev AQU:p2:=pII (fun _ j=>0<j) fun i j=>.int (i % j)
abbrev AQV:p2:=pII CPow fun i j=>.int (i ^ j.toNat)
abbrev AQW:p2:=pII (fun _ j=>0≤j) fun i j=>.int (i / 2 ^ j.toNat)
abbrev pLtI:p2:=pII CT fun i j=>.bl (decide (i<j))
abbrev pGtI:p2:=pII CT fun i j=>.bl (decide (j<i))
theorem ADo:Ref2 (rI0 fun i j=>.int (i + j)) AQR:=AEh fun _ _=>rfl
theorem ANu:Ref2 (rI0 fun i j=>.int (i - j)) AQS:=AEh fun _ _=>rfl
theorem AQX:Ref2 (rI CMul fun i j=>.int (i * j)) AQT:=AFp fun _ _=>rfl
theorem AQY:Ref2 (rI (fun _ j=>0<j) fun i j=>.int (i % j)) AQU:=AFp fun _ _=>rfl
theorem AQZ:Ref2 (rI CPow fun i j=>.int (i ^ j.toNat)) AQV:=AFp fun _ _=>rfl
theorem AQa:Ref2 (rI (fun _ j=>0≤j) fun i j=>.int (i / 2 ^ j.toNat)) AQW:=AFp fun _ _=>rfl
theorem r_lt:Ref2 (rI0 fun i j=>.bl (decide (i<j))) pLtI:=AEh fun _ _=>rfl
theorem r_gt:Ref2 (rI0 fun i j=>.bl (decide (j<i))) pGtI:=AEh fun _ _=>rfl
section
variable {ι:Type} {Xs:ι→Cx} {a b:Expr} {pa pb:pE} {pos:Pos}
def AQb (p:pE):pE:=fun ρ K=>p ρ fun x _=>match x with | .int i=>K (.int (-i)) .fr | _=>False
end
def pSS (C:Str→Str→Prop) (g:Str→Str→P):p2:=fun x _ y _ K=>match x,y with
 | .str i,.str j=>C i j∧K (g i j) .fr
 | _,_=>False
noncomputable abbrev ST:Str→Str→Prop:=fun _ _=>True
noncomputable def P.isNon:P→Bool
 | .non=>true | _=>false
def pIsN:p2:=fun x _ y _ K=>y=.non∧K (.bl x.isNon) .fr
def AQc:p2:=fun x _ y _ K=>y=.non∧K (.bl (!x.isNon)) .fr
def pIx:p2:=fun x f y _ K=>match x,y with
 | .lst xs,.int i=>∃ z,atI xs i=some z∧K z f.el
 | .tup xs,.int i=>∃ z,atI xs i=some z∧K z f.el
 | .str z,.int i=>z.length≤16777216∧∃ c,atI z.cps.toList i=some c∧K (.str ⟨#[c]⟩) .fr
 | _,_=>False
theorem Rps.atI {b:Addr} {Z:Addr→Prop} {H:Hp} {xs:List P} {vs:List V} {i:Int} {z:P} (h:Rps b Z H xs vs) (e:L2.atI xs i=some z):∃ v,L2.atI vs i=some v∧Rp b Z H z v:=by
 unfold L2.atI at e ⊢
 rw [h.length] at e
 cases hj:ixN vs.length i with
 | none=>rw [hj] at e;cases e
 | some j =>
  rw [hj] at e
  exact h.get (i:=j) e
noncomputable def rIxA:R2:=fun x y H Q=>(∃ p i xs,x=.ref p∧y=.int i∧(H p=some (.lst xs)∨H p=some (.tup xs))∧∃ v,atI xs i=some v∧Q v H)∨rIxS x y H Q
theorem ixA {X:Cx}:IxR X rIxA:=fun value slice pins s σ H x y v u Q I rx ry h hs=>by
 rcases h with ⟨p,i,xs,e1,e2,h,w,hw,q⟩ | h
 ·rcases h with h | h
  ·exact AJe value slice pins s σ H x y v u Q I rx ry ⟨p,xs,i,w,e1,e2,.of h,hw,q⟩ hs
  ·exact APM value slice pins s σ H x y v u Q I rx ry ⟨p,xs,i,w,e1,e2,.of h,hw,q⟩ hs
 ·exact AIC value slice pins s σ H x y v u Q I rx ry h hs
theorem r_ix:Ref2 rIxA pIx:=fun W ρ σ Hs H Q K x y f h v u ok st rx ry hp q=>by
 unfold pIx at hp
 split at hp
 ·obtain ⟨z,e,hk⟩:=hp
  cases ABC ok ry
  obtain ⟨p,vs,rfl,hc,r⟩:=rx.items rfl
  obtain ⟨w,e2,r2⟩:=r.atI e
  exact .inl ⟨p,_,vs,rfl,rfl,hc,w,e2,q _ _ _ H hk (Step.refl ok.bag) (RF.ofEl r2)⟩
 ·obtain ⟨z,e,hk⟩:=hp
  cases ABC ok ry
  obtain ⟨p,vs,rfl,hc,r⟩:=rx.items rfl
  obtain ⟨w,e2,r2⟩:=r.atI e
  exact .inl ⟨p,_,vs,rfl,rfl,hc,w,e2,q _ _ _ H hk (Step.refl ok.bag) (RF.ofEl r2)⟩
 ·obtain ⟨hz,c,e,hk⟩:=hp
  cases ABC ok ry
  cases ACy ok rx
  exact .inr ⟨_,_,c,rfl,rfl,hz,e,q _ _ _ H hk (Step.refl ok.bag) ALf⟩
 ·exact hp.elim
def pCat:p2:=fun x f y g K=>match x,y with
 | .lst xs,.lst ys=>xs.length + ys.length≤16777216∧K (.lst (xs ++ ys)) ((topF f xs).join (topF g ys))
 | .tup xs,.tup ys=>(P.imms xs=true∧P.imms ys=true)∧xs.length + ys.length≤16777216∧K (.tup (xs ++ ys)) .fr
 | _,_=>False
noncomputable def ANv:R2:=fun x y H Q=>(∃ p q xs ys,x=.ref p∧y=.ref q∧H p=some (.lst xs)∧H q=some (.lst ys)∧xs.length + ys.length≤sizeLine∧∀ l,H l=none→Q (.ref l) (upd H l (.lst (xs ++ ys)))) ∨
 (∃ p q xs ys,x=.ref p∧y=.ref q∧H p=some (.tup xs)∧H q=some (.tup ys)∧xs.length + ys.length≤sizeLine∧(xs=[]→Q (.ref q) H)∧(xs≠[]→ys=[]→Q (.ref p) H)∧(xs≠[]→ys≠[]→∀ l,H l=none→Q (.ref l) (upd H l (.tup (xs ++ ys)))))
theorem AGc {X:Cx}:OpR X (binaryOp .Add) ANv:=by
 intro pins s σ H x y v u Q I rx ry h
 rcases h with ⟨p,q,xs,ys,e1,e2,h1,h2,hz,k⟩ | ⟨p,q,xs,ys,e1,e2,h1,h2,hz,k0,k1,k2⟩
 ·exact APP pins s σ H x y v u Q I rx ry ⟨p,q,xs,ys,e1,e2,h1,h2,hz,k⟩
 ·by_cases hx:xs=[]
  ·subst e1;subst e2;subst hx
   cases rx;cases ry
   obtain ⟨its,r1,p1,_⟩:=I.tuple (.of h1)
   obtain ⟨its2,r2,p2,_⟩:=I.tuple (.of h2)
   cases r1
   obtain ⟨⟨cls,dd,data,sl⟩,ho,hc,n,hd⟩:=id p1
   obtain ⟨⟨cls2,dd2,data2,sl2⟩,ho2,hc2,n2,hd2⟩:=id p2
   simp only at hc hd hc2 hd2
   subst hc hd hc2 hd2
   exact concat_meets ⟨_,ho,rfl⟩ ⟨_,ho2,rfl⟩ noFill_tuple_add seq_tuple_add PySem.F.slot_tuple_add PySem.F.entry_tuple_add (PySem.F.args_tuple_add_2 _ _)
    (tuple_addW0 p q #[] its2.toArray n n2 dd dd2 sl sl2 rfl) ⟨ho,ho2,.ref q,H,I,rfl,k0 rfl⟩
  ·exact AOE pins s σ H x y v u Q I rx ry ⟨p,q,xs,ys,e1,e2,.of h1,.of h2,hx,hz,k1 hx,k2 hx⟩
theorem AJt {W:Wd} {ρ:List S} {σ:St} {H:Hp} {f:Fl} {xs:List P} {vs:List V} (h:Rps W.b (Zof W ρ σ f) H xs vs):topF f xs≠.bo∧topF f xs≠.fr∧Rps W.b (Zof W ρ σ (topF f xs)) H xs vs:=by
 unfold topF
 split
 ·exact ⟨by simp,by simp,h.imm ‹_›⟩
 ·cases f <;> exact ⟨by simp [Fl.top],by simp [Fl.top],h⟩
theorem AAz {W:Wd} {ρ:List S} {σ:St} {H Hs:Hp} {f:Fl} {xs:List P} {v:V} (ok:Ok W ρ σ H) (r:RF W ρ σ Hs f H (.lst xs) v):∃ p vs,v=.ref p∧H p=some (.lst vs)∧Rps W.b (Zof W ρ σ f) H xs vs:=by
 obtain ⟨p,vs,rfl,hc,r2⟩:=r.items rfl
 obtain ⟨q,us,e1,_,e3,_⟩:=r.any ok
 cases e1
 rcases hc with hc | hc
 ·exact ⟨p,vs,rfl,hc,r2⟩
 ·rw [e3] at hc;cases hc
theorem ABo {W:Wd} {ρ:List S} {σ:St} {H Hs:Hp} {f:Fl} {xs:List P} {v:V} (ok:Ok W ρ σ H) (r:RF W ρ σ Hs f H (.tup xs) v):∃ p vs,v=.ref p∧H p=some (.tup vs)∧Rps W.b (Zof W ρ σ f) H xs vs:=by
 obtain ⟨p,vs,rfl,hc,r2⟩:=r.items rfl
 obtain ⟨q,us,e1,e3,_⟩:=r.any ok
 cases e1
 rcases hc with hc | hc
 ·rw [e3] at hc;cases hc
 ·exact ⟨p,vs,rfl,hc,r2⟩
theorem ACq {W:Wd} {ρ:List S} {σ:St} {H Hs:Hp} {g:Fl} {xs:List P} {vs:List V} {p:Addr} (ok:Ok W ρ σ H) (st:Step W.b W.a Hs H) (hb:g≠.bo) (hf:g≠.fr) (hr:Rps W.b (Zof W ρ σ g) H xs vs) (hp:H p=none):RF W ρ σ Hs g (upd H p (.lst vs)) (.lst xs) (.ref p):=by
 have:=RF.newL ok st hr hp
 unfold topF at this
 split at this
 ·rename_i hi
  cases g with
  | bo=>exact absurd rfl hb
  | fr=>exact absurd rfl hf
  | nw=>exact this
  | cl=>exact this.1.keep (fun q o hz e=>⟨fun z=>hz (z.elim .inl fun z=>.inr (.inl z)),e⟩) fun q us e=>e
  | rf=>exact this.1.keep (fun q o hz e=>⟨fun z=>hz (z.elim .inl fun z=>.inr (.inr z)),e⟩) fun q us e=>e
  | an=>exact this.1.keep (fun q o hz e=>⟨fun z=>hz (.inl z),e⟩) fun q us e=>e
 ·rw [RF.topped hb hf] at this;exact this
theorem AKV:Ref2 ANv pCat:=fun W ρ σ Hs H Q K x y f h v u ok st rx ry hp q=>by
 unfold pCat at hp
 split at hp
 ·obtain ⟨hz,hk⟩:=hp
  obtain ⟨p,vs,rfl,c1,r1⟩:=AAz ok rx
  obtain ⟨p2,vs2,rfl,c2,r2⟩:=AAz ok ry
  obtain ⟨b1,b2,r1⟩:=AJt r1
  obtain ⟨b3,b4,r2⟩:=AJt r2
  have hj:=AIP (W:=W) (ρ:=ρ) (σ:=σ) b1 b2 b3 b4
  have hn:=AGZ b1 b2 b3 b4
  refine .inl ⟨p,p2,vs,vs2,rfl,rfl,c1,c2,by rw [←r1.length,←r2.length];exact hz,fun l hl=>q _ _ _ _ hk (Step.new ok.bag hl) ?_⟩
  exact ACq ok st hn.1 hn.2 ((r1.keep (fun q o hz e=>⟨fun z=>hz (hj q z).1,e⟩) fun q us e=>e).app (r2.keep (fun q o hz e=>⟨fun z=>hz (hj q z).2,e⟩) fun q us e=>e)) hl
 ·obtain ⟨⟨i1,i2⟩,hz,hk⟩:=hp
  obtain ⟨p,vs,rfl,c1,r1⟩:=ABo ok rx
  obtain ⟨p2,vs2,rfl,c2,r2⟩:=ABo ok ry
  have l1:=r1.length
  have l2:=r2.length
  have r1:Rps W.b (Zf W ρ σ) H _ vs:=r1.imm i1
  have r2:Rps W.b (Zf W ρ σ) H _ vs2:=r2.imm i2
  refine .inr ⟨p,p2,vs,vs2,rfl,rfl,c1,c2,by rw [←l1,←l2];exact hz,fun e=>?_,fun e e2=>?_,fun _ _ l hl=>?_⟩
  ·subst e
   refine q _ _ _ _ hk (Step.refl ok.bag) ?_
   rw [List.length_eq_zero_iff.mp l1,List.nil_append]
   exact ⟨p2,vs2,rfl,c2,r2⟩
  ·subst e2
   refine q _ _ _ _ hk (Step.refl ok.bag) ?_
   rw [List.length_eq_zero_iff.mp l2,List.append_nil]
   exact ⟨p,vs,rfl,c1,r1⟩
  ·refine q _ _ _ _ hk (Step.new ok.bag hl) ?_
   exact ⟨l,vs ++ vs2,rfl,AAG,(r1.app r2).step (f:=.fr) (Step.new ok.bag hl) ok.bag⟩
 ·exact hp.elim
section
variable {W:Wd} {ρ:List S} {σ:St} {H Hs:Hp}
theorem RFs.one {x:P} {f:Fl} {vs:List V} (h:RFs W ρ σ Hs H [(x,f)] vs):∃ v,vs=[v]∧RF W ρ σ Hs f H x v:=by
 obtain ⟨v,t,rfl,h2,h3⟩:=h
 cases (show t=[] from h3)
 exact ⟨v,rfl,h2⟩
theorem RFs.two {x y:P} {f g:Fl} {vs:List V} (h:RFs W ρ σ Hs H [(x,f),(y,g)] vs):∃ v u,vs=[v,u]∧RF W ρ σ Hs f H x v∧RF W ρ σ Hs g H y u:=by
 obtain ⟨v,t,rfl,h2,h3⟩:=h
 obtain ⟨u,rfl,h4⟩:=RFs.one h3
 exact ⟨v,u,rfl,h2,h4⟩
end
def p1 (g:P→Fl→(P→Fl→Prop)→Prop):pC:=fun xs K=>match xs with | [(x,f)]=>g x f K | _=>False
def pLen:pC:=p1 fun x _ K=>match x with
 | .lst xs=>K (.int xs.length) .fr
 | .tup xs=>K (.int xs.length) .fr
 | .str z=>z.length≤16777216∧K (.int z.length) .fr
 | _=>False
noncomputable def ANw:List V→Hp→VK→Prop:=fun xs H Q=>(∃ p ys,xs=[.ref p]∧(H p=some (.lst ys)∨H p=some (.tup ys))∧Q (.int ys.length) H)∨∃ z,xs=[.str z]∧z.length≤sizeLine∧Q (.int z.length) H
theorem AAh {X:Cx}:AAs X (.builtin "len") ANw:=by
 intro pins s σ H xs us Q I r h
 rcases h with ⟨p,ys,rfl,hp,q⟩ | h
 ·exact AD0 pins s σ H _ us Q I r ⟨p,ys,rfl,hp.elim (fun z=>.inl (.of z)) (fun z=>.inr (.of z)),q⟩
 ·exact AD1 pins s σ H _ us Q I r h
theorem ABp:RefC ANw pLen:=fun W ρ σ Hs H Q K xs vs ok st r hp q=>by
 unfold pLen p1 at hp
 split at hp
 ·obtain ⟨v,rfl,rv⟩:=r.one
  split at hp
  ·obtain ⟨p,us,rfl,c,r1⟩:=AAz ok rv
   exact .inl ⟨p,us,rfl,.inl c,by rw [←r1.length];exact q _ _ _ H hp (Step.refl ok.bag) ADV⟩
  ·obtain ⟨p,us,rfl,c,r1⟩:=ABo ok rv
   exact .inl ⟨p,us,rfl,.inr c,by rw [←r1.length];exact q _ _ _ H hp (Step.refl ok.bag) ADV⟩
  ·cases ACy ok rv
   exact .inr ⟨_,rfl,hp.1,q _ _ _ H hp.2 (Step.refl ok.bag) ADV⟩
  ·exact hp.elim
 ·exact hp.elim
def AFq:pC:=p1 fun x f K=>match x with
 | .lst xs=>K (.lst xs) (topF f xs)
 | .tup xs=>K (.lst xs) (topF f xs)
 | _=>False
theorem ACf:RefC (fun xs H Q=>∃ p ys,xs=[.ref p]∧(H p=some (.lst ys)∨H p=some (.tup ys))∧∀ l,H l=none→Q (.ref l) (upd H l (.lst ys))) AFq:=fun W ρ σ Hs H Q K xs vs ok st r hp q=>by
 unfold AFq p1 at hp
 split at hp
 ·obtain ⟨v,rfl,rv⟩:=r.one
  split at hp
  ·obtain ⟨p,us,rfl,c,r1⟩:=AAz ok rv
   exact ⟨p,us,rfl,.inl c,fun l hl=>q _ _ _ _ hp (Step.new ok.bag hl) (RF.newL ok st r1 hl)⟩
  ·obtain ⟨p,us,rfl,c,r1⟩:=ABo ok rv
   exact ⟨p,us,rfl,.inr c,fun l hl=>q _ _ _ _ hp (Step.new ok.bag hl) (RF.newL ok st r1 hl)⟩
  ·exact hp.elim
 ·exact hp.elim
def AHv:pC:=p1 fun x f K=>match x with
 | .lst xs=>K (.tup xs) (topF f xs)
 | _=>False
theorem ABt:RefC (fun xs H Q=>∃ p ys,xs=[.ref p]∧H p=some (.lst ys)∧∀ l,H l=none→Q (.ref l) (upd H l (.tup ys))) AHv:=fun W ρ σ Hs H Q K xs vs ok st r hp q=>by
 unfold AHv p1 at hp
 split at hp
 ·obtain ⟨v,rfl,rv⟩:=r.one
  split at hp
  ·obtain ⟨p,us,rfl,c,r1⟩:=AAz ok rv
   exact ⟨p,us,rfl,c,fun l hl=>q _ _ _ _ hp (Step.new ok.bag hl) (RF.newT ok r1 hl)⟩
  ·exact hp.elim
 ·exact hp.elim
def pAll:pC:=p1 fun x f K=>∃ bs:List Bool,x=.lst (bs.map P.bl)∧K (.bl (bs.all id)) .fr
theorem AKW {Kf:PySem.W.Frag}:RefC (fun xs H Q=>∃ (p:Addr) (bs:List Bool),xs=[.ref p]∧SqL Kf H p (bs.map V.bl)∧Q (.bl (bs.all id)) H) pAll:=fun W ρ σ Hs H Q K xs vs ok st r hp q=>by
 unfold pAll p1 at hp
 split at hp
 ·obtain ⟨v,rfl,rv⟩:=r.one
  obtain ⟨bs,rfl,hk⟩:=hp
  obtain ⟨p,us,rfl,c,r1⟩:=AAz ok rv
  rw [Rps.bls.mp r1] at c
  exact ⟨p,bs,rfl,.of c,q _ _ _ H hk (Step.refl ok.bag) AEg⟩
 ·exact hp.elim
def AFr:pC:=p1 fun x f K=>∃ ss:List Str,x=.lst (ss.map P.str)∧ss.length<64∧∀ ss':List Str,ss'.Perm ss→sortedS ss'=true→K (.lst (ss'.map P.str)) .nw
theorem AEi:RefC (fun xs H Q=>∃ (p:Addr) (ss:List Str),xs=[.ref p]∧H p=some (.lst (ss.map V.str))∧ss.length<64∧∀ (l:Addr) (ss':List Str),H l=none→ss'.Perm ss→sortedS ss'=true→Q (.ref l) (upd H l (.lst (ss'.map V.str)))) AFr:=fun W ρ σ Hs H Q K xs vs ok st r hp q=>by
 unfold AFr p1 at hp
 split at hp
 ·obtain ⟨v,rfl,rv⟩:=r.one
  obtain ⟨ss,rfl,h64,hk⟩:=hp
  obtain ⟨p,us,rfl,c,r1⟩:=AAz ok rv
  rw [Rps.strs.mp r1] at c
  exact ⟨p,ss,rfl,c,h64,fun l ss' hl h1 h2=>q _ _ _ _ (hk ss' h1 h2) (Step.new ok.bag hl) (ACq (g:=.nw) ok st (by simp) (by simp) (Rps.strs.mpr rfl) hl)⟩
 ·exact hp.elim
noncomputable def tyN:P→String
 | .non=>"NoneType" | .bl _=>"bool" | .int _=>"int" | .str _=>"str" | .tup _=>"tuple" | .lst _=>"list" | .dT _ _=>"dict" | .dK _ _=>"dict" | .bag=>"list"
noncomputable def isTy (n:String) (x:P):Bool:=decide (tyN x=n) || (decide (n="int") && decide (tyN x="bool"))
def AGd (n:String) (p:pE):pE:=fun ρ K=>p ρ fun x _=>K (.bl (isTy n x)) .fr
theorem APd (K:PySem.W.Frag) {n:String} (hn:n="bool"∨n="int"∨n="tuple"∨n="list"∨n="str") (x:P):PySem.W.kitOne K (.type (tyN x)) (.type n)=some (isTy n x):=by
 rcases hn with rfl | rfl | rfl | rfl | rfl <;> cases x <;> rfl
theorem AQd {K:PySem.W.Frag} {b a:Addr} {Z:Addr→Prop} {H:Hp} {x:P} {v:V} (hb:Bag H b a) (h:Rp b Z H x v):TyOf K H v (.type (tyN x)):=by
 cases x with
 | non=>rw [show v=_ from h];exact .non
 | bl k=>rw [show v=_ from h];exact .bl k
 | int k=>rw [show v=_ from h];exact .int k
 | str k=>rw [show v=_ from h];exact .str k
 | bag=>rw [show v=_ from h];obtain ⟨l,e⟩:=hb.atb;exact .lst e
 | tup xs=>obtain ⟨p,vs,e,e2,_⟩:=h;rw [e];exact .tup e2
 | lst xs=>obtain ⟨p,vs,e,_,e2,_⟩:=h;rw [e];exact .lst e2
 | dT ks xs=>obtain ⟨p,vs,e,_,e2,_⟩:=h;rw [e];exact .dT e2
 | dK ks xs=>obtain ⟨p,vs,e,_,e2,_⟩:=h;rw [e];exact .dK e2
section
variable {ι:Type} {Xs:ι→Cx} {a:Expr} {pa:pE} {pos:Pos} {Kf:PySem.W.Frag}
theorem ALi {n:String} {x:Str} {p1 p2:Pos} (hn:n="bool"∨n="int"∨n="tuple"∨n="list"∨n="str") (hK:∀ i,(Xs i).K=Kf) (hm:∀ i,(Xs i).mg "isinstance"=none) (hm2:∀ i,(Xs i).mg x=none) (hv2:bootBuiltins x=some (.type n)) (h:QE Xs a pa)
  (hg:∀ i,Gl (Xs i) "isinstance":=by intro _;rfl) (hg2:∀ i,Gl (Xs i) x:=by intro _;rfl) (hx:x≠"__name__":=by decide +kernel) (hdx:(x == ("__debug__":Str))=false:=by decide +kernel)
  (he:∀ i,starEach [a,.Name x p2] (Xs i).env=[(false,eval a (Xs i).env),(false,eval (.Name x p2) (Xs i).env)]:=by intro _;rfl) :
  QE Xs (.Call (.Name "isinstance" p1) [a,.Name x p2] [] pos) (AGd n pa):=by
 obtain ⟨t,h1,h2⟩:=h
 refine ⟨tCB (fun xs H Q=>∃ x t n b,xs=[x,.ty n]∧TyOf Kf H x t∧PySem.W.kitOne Kf t (.type n)=some b∧Q (.bl b) H) (ABy t (ABy (tC (.ty n)) tNil)),fun i=>?_,fun W ρ σ H Q K ok hk q=>h2 W ρ σ H _ _ ok hk fun x f v H1 k1 s1 r1=>?_⟩
 ·have hc:AAs (Xs i) (.builtin "isinstance") (fun xs H Q=>∃ x t n b,xs=[x,.ty n]∧TyOf Kf H x t∧PySem.W.kitOne Kf t (.type n)=some b∧Q (.bl b) H):=by
   rw [←hK i];exact AJS
  refine ACC hc (hg i) (hm i) (by decide +kernel) (AAL (h1 i) (AAL (AN7 (v:=.ty n) (hg2 i) (hm2 i) hv2 rfl hx hdx) AAY (by rfl)) ?_) (by decide +kernel) (by decide +kernel) ?_ ?_
  ·exact he i
  ·exact he i
  ·rfl
 ·exact ⟨v,.type (tyN x),n,_,rfl,AQd s1.bag (r1.any (ok.step s1)),APd Kf hn x,q _ _ _ H1 k1 s1 AEg⟩
end
end L2
namespace L2
open PySem PySem.Spec PyProof.Rows PySem.SeqAt
mutual
noncomputable def eqP:P→P→Bool
 | .non,.non=>true
 | .bl a,.bl b=>a == b
 | .int a,.int b=>a == b
 | .str a,.str b=>a == b
 | .bl a,.int b=>(if a then 1 else 0) == b
 | .int a,.bl b=>a == (if b then 1 else 0)
 | .tup xs,.tup ys=>eqPs xs ys
 | .lst xs,.lst ys=>eqPs xs ys
 | _,_=>false
noncomputable def eqPs:List P→List P→Bool
 | [],[]=>true
 | x :: xs,y :: ys=>eqP x y && eqPs xs ys
 | _,_=>false
end
noncomputable def P.pl:Nat→P→Bool
 | _,.non=>true | _,.bl _=>true | _,.int _=>true | _,.str _=>true
 | n + 1,.tup xs=>xs.all (P.pl n)
 | n + 1,.lst xs=>xs.all (P.pl n)
 | _,_=>false
theorem AFs:∀ {xs ys:List P} {e:Nat→Bool},(∀ j x y,xs[j]?=some x→ys[j]?=some y→e j=eqP x y)→((List.range (min xs.length ys.length)).all e && xs.length == ys.length)=eqPs xs ys
 | [],[],e,_=>rfl
 | [],_ :: _,e,_=>by simp [eqPs]
 | _ :: _,[],e,_=>by simp [eqPs]
 | x :: xs,y :: ys,e,h=>by
  have ih:=AFs (xs:=xs) (ys:=ys) (e:=fun j=>e (j + 1)) fun j a b h1 h2=>h (j + 1) a b (by simpa using h1) (by simpa using h2)
  have h0:=h 0 x y rfl rfl
  rw [eqPs,←ih,←h0]
  have e1:min (x :: xs).length (y :: ys).length=min xs.length ys.length + 1:=by simp
  rw [e1,List.range_succ_eq_map,List.all_cons,List.all_map]
  have e2:((x :: xs).length == (y :: ys).length)=(xs.length == ys.length):=by
   rw [Bool.eq_iff_iff];simp
  rw [e2,Bool.and_assoc]
  rfl
theorem ANx {A:Around} {s:Shared} {x y:P} {v u:V} {v' u':Value} (sx:AAT x=some v) (sy:AAT y=some u) (qv:RelV v v') (qu:RelV u u'):EqAt A s v' u' (eqP x y):=by
 cases x with
 | non =>
  cases (Option.some.inj (show some _=some v from sx))
  cases (show _=Value.none from qv)
  cases y with
  | non=>cases (Option.some.inj (show some _=some u from sy));cases (show _=Value.none from qu);simp only [eqP,Bool.not_false,Bool.not_true];exact EqAt.same _
  | bl _=>cases (Option.some.inj (show some _=some u from sy));cases (show _=Value.bool _ from qu);simp only [eqP,Bool.not_false,Bool.not_true];exact EqAt.none_bool _
  | int _=>cases (Option.some.inj (show some _=some u from sy));obtain ⟨_,e_qu⟩:=(show ∃ t,_=Value.int _ t from qu);subst e_qu;simp only [eqP,Bool.not_false,Bool.not_true];exact EqAt.none_int _ _
  | str _=>cases (Option.some.inj (show some _=some u from sy));obtain ⟨_,e_qu⟩:=(show ∃ t,_=Value.str _ t from qu);subst e_qu;simp only [eqP,Bool.not_false,Bool.not_true];exact EqAt.none_str _ _
  | _=>cases sy
 | bl _ =>
  cases (Option.some.inj (show some _=some v from sx))
  cases (show _=Value.bool _ from qv)
  cases y with
  | non=>cases (Option.some.inj (show some _=some u from sy));cases (show _=Value.none from qu);simp only [eqP,Bool.not_false,Bool.not_true];exact EqAt.bool_none _
  | bl _=>cases (Option.some.inj (show some _=some u from sy));cases (show _=Value.bool _ from qu);simp only [eqP,Bool.not_false,Bool.not_true];exact EqAt.bool_bool _ _
  | int _=>cases (Option.some.inj (show some _=some u from sy));obtain ⟨_,e_qu⟩:=(show ∃ t,_=Value.int _ t from qu);subst e_qu;simp only [eqP,Bool.not_false,Bool.not_true];exact EqAt.bool_int _ _ _
  | str _=>cases (Option.some.inj (show some _=some u from sy));obtain ⟨_,e_qu⟩:=(show ∃ t,_=Value.str _ t from qu);subst e_qu;simp only [eqP,Bool.not_false,Bool.not_true];exact EqAt.bool_str _ _ _
  | _=>cases sy
 | int _ =>
  cases (Option.some.inj (show some _=some v from sx))
  obtain ⟨_,e_qv⟩:=(show ∃ t,_=Value.int _ t from qv);subst e_qv
  cases y with
  | non=>cases (Option.some.inj (show some _=some u from sy));cases (show _=Value.none from qu);simp only [eqP,Bool.not_false,Bool.not_true];exact EqAt.int_none _ _
  | bl _=>cases (Option.some.inj (show some _=some u from sy));cases (show _=Value.bool _ from qu);simp only [eqP,Bool.not_false,Bool.not_true];exact EqAt.int_bool _ _ _
  | int _=>cases (Option.some.inj (show some _=some u from sy));obtain ⟨_,e_qu⟩:=(show ∃ t,_=Value.int _ t from qu);subst e_qu;simp only [eqP,Bool.not_false,Bool.not_true];exact EqAt.int_int _ _ _ _
  | str _=>cases (Option.some.inj (show some _=some u from sy));obtain ⟨_,e_qu⟩:=(show ∃ t,_=Value.str _ t from qu);subst e_qu;simp only [eqP,Bool.not_false,Bool.not_true];exact EqAt.int_str _ _ _ _
  | _=>cases sy
 | str _ =>
  cases (Option.some.inj (show some _=some v from sx))
  obtain ⟨_,e_qv⟩:=(show ∃ t,_=Value.str _ t from qv);subst e_qv
  cases y with
  | non=>cases (Option.some.inj (show some _=some u from sy));cases (show _=Value.none from qu);simp only [eqP,Bool.not_false,Bool.not_true];exact EqAt.str_none _ _
  | bl _=>cases (Option.some.inj (show some _=some u from sy));cases (show _=Value.bool _ from qu);simp only [eqP,Bool.not_false,Bool.not_true];exact EqAt.str_bool _ _ _
  | int _=>cases (Option.some.inj (show some _=some u from sy));obtain ⟨_,e_qu⟩:=(show ∃ t,_=Value.int _ t from qu);subst e_qu;simp only [eqP,Bool.not_false,Bool.not_true];exact EqAt.str_int _ _ _ _
  | str _=>cases (Option.some.inj (show some _=some u from sy));obtain ⟨_,e_qu⟩:=(show ∃ t,_=Value.str _ t from qu);subst e_qu;simp only [eqP,Bool.not_false,Bool.not_true];exact EqAt.str_str _ _ _ _
  | _=>cases sy
 | _=>cases sx
theorem AQe {A:Around} {s:Shared} {x y:P} {v u:V} {v' u':Value} (sx:AAT x=some v) (sy:AAT y=some u) (qv:RelV v v') (qu:RelV u u'):RcNeAt A s v' u' (!eqP x y):=by
 cases x with
 | non =>
  cases (Option.some.inj (show some _=some v from sx))
  cases (show _=Value.none from qv)
  cases y with
  | non=>cases (Option.some.inj (show some _=some u from sy));cases (show _=Value.none from qu);simp only [eqP,Bool.not_false,Bool.not_true];exact RcNeAt.none_none
  | bl _=>cases (Option.some.inj (show some _=some u from sy));cases (show _=Value.bool _ from qu);simp only [eqP,Bool.not_false,Bool.not_true];exact RcNeAt.none_bool _
  | int _=>cases (Option.some.inj (show some _=some u from sy));obtain ⟨_,e_qu⟩:=(show ∃ t,_=Value.int _ t from qu);subst e_qu;simp only [eqP,Bool.not_false,Bool.not_true];exact RcNeAt.none_int _ _
  | str _=>cases (Option.some.inj (show some _=some u from sy));obtain ⟨_,e_qu⟩:=(show ∃ t,_=Value.str _ t from qu);subst e_qu;simp only [eqP,Bool.not_false,Bool.not_true];exact RcNeAt.none_str _ _
  | _=>cases sy
 | bl _ =>
  cases (Option.some.inj (show some _=some v from sx))
  cases (show _=Value.bool _ from qv)
  cases y with
  | non=>cases (Option.some.inj (show some _=some u from sy));cases (show _=Value.none from qu);simp only [eqP,Bool.not_false,Bool.not_true];exact RcNeAt.bool_none _
  | bl _=>cases (Option.some.inj (show some _=some u from sy));cases (show _=Value.bool _ from qu);simp only [eqP,Bool.not_false,Bool.not_true];exact RcNeAt.bool_bool _ _
  | int _=>cases (Option.some.inj (show some _=some u from sy));obtain ⟨_,e_qu⟩:=(show ∃ t,_=Value.int _ t from qu);subst e_qu;simp only [eqP,Bool.not_false,Bool.not_true];exact RcNeAt.bool_int _ _ _
  | str _=>cases (Option.some.inj (show some _=some u from sy));obtain ⟨_,e_qu⟩:=(show ∃ t,_=Value.str _ t from qu);subst e_qu;simp only [eqP,Bool.not_false,Bool.not_true];exact RcNeAt.bool_str _ _ _
  | _=>cases sy
 | int _ =>
  cases (Option.some.inj (show some _=some v from sx))
  obtain ⟨_,e_qv⟩:=(show ∃ t,_=Value.int _ t from qv);subst e_qv
  cases y with
  | non=>cases (Option.some.inj (show some _=some u from sy));cases (show _=Value.none from qu);simp only [eqP,Bool.not_false,Bool.not_true];exact RcNeAt.int_none _ _
  | bl _=>cases (Option.some.inj (show some _=some u from sy));cases (show _=Value.bool _ from qu);simp only [eqP,Bool.not_false,Bool.not_true];exact RcNeAt.int_bool _ _ _
  | int _=>cases (Option.some.inj (show some _=some u from sy));obtain ⟨_,e_qu⟩:=(show ∃ t,_=Value.int _ t from qu);subst e_qu;simp only [eqP,Bool.not_false,Bool.not_true];exact RcNeAt.int_int _ _ _ _
  | str _=>cases (Option.some.inj (show some _=some u from sy));obtain ⟨_,e_qu⟩:=(show ∃ t,_=Value.str _ t from qu);subst e_qu;simp only [eqP,Bool.not_false,Bool.not_true];exact RcNeAt.int_str _ _ _ _
  | _=>cases sy
 | str _ =>
  cases (Option.some.inj (show some _=some v from sx))
  obtain ⟨_,e_qv⟩:=(show ∃ t,_=Value.str _ t from qv);subst e_qv
  cases y with
  | non=>cases (Option.some.inj (show some _=some u from sy));cases (show _=Value.none from qu);simp only [eqP,Bool.not_false,Bool.not_true];exact RcNeAt.str_none _ _
  | bl _=>cases (Option.some.inj (show some _=some u from sy));cases (show _=Value.bool _ from qu);simp only [eqP,Bool.not_false,Bool.not_true];exact RcNeAt.str_bool _ _ _
  | int _=>cases (Option.some.inj (show some _=some u from sy));obtain ⟨_,e_qu⟩:=(show ∃ t,_=Value.int _ t from qu);subst e_qu;simp only [eqP,Bool.not_false,Bool.not_true];exact RcNeAt.str_int _ _ _ _
  | str _=>cases (Option.some.inj (show some _=some u from sy));obtain ⟨_,e_qu⟩:=(show ∃ t,_=Value.str _ t from qu);subst e_qu;simp only [eqP,Bool.not_false,Bool.not_true];exact RcNeAt.str_str _ _ _ _
  | _=>cases sy
 | _=>cases sx
theorem AQf {A:Around} {s:Shared} {x y:P} {v u:V} {v' u':Value} (sx:AAT x=some v) (sy:AAT y=some u) (qv:RelV v v') (qu:RelV u u'):RcAt A s v' u' (eqP x y):=by
 cases x with
 | non =>
  cases (Option.some.inj (show some _=some v from sx))
  cases (show _=Value.none from qv)
  cases y with
  | non=>cases (Option.some.inj (show some _=some u from sy));cases (show _=Value.none from qu);simp only [eqP,Bool.not_false,Bool.not_true];exact RcAt.none_none
  | bl _=>cases (Option.some.inj (show some _=some u from sy));cases (show _=Value.bool _ from qu);simp only [eqP,Bool.not_false,Bool.not_true];exact RcAt.none_bool _
  | int _=>cases (Option.some.inj (show some _=some u from sy));obtain ⟨_,e_qu⟩:=(show ∃ t,_=Value.int _ t from qu);subst e_qu;simp only [eqP,Bool.not_false,Bool.not_true];exact RcAt.none_int _ _
  | str _=>cases (Option.some.inj (show some _=some u from sy));obtain ⟨_,e_qu⟩:=(show ∃ t,_=Value.str _ t from qu);subst e_qu;simp only [eqP,Bool.not_false,Bool.not_true];exact RcAt.none_str _ _
  | _=>cases sy
 | bl _ =>
  cases (Option.some.inj (show some _=some v from sx))
  cases (show _=Value.bool _ from qv)
  cases y with
  | non=>cases (Option.some.inj (show some _=some u from sy));cases (show _=Value.none from qu);simp only [eqP,Bool.not_false,Bool.not_true];exact RcAt.bool_none _
  | bl _=>cases (Option.some.inj (show some _=some u from sy));cases (show _=Value.bool _ from qu);simp only [eqP,Bool.not_false,Bool.not_true];exact RcAt.bool_bool _ _
  | int _=>cases (Option.some.inj (show some _=some u from sy));obtain ⟨_,e_qu⟩:=(show ∃ t,_=Value.int _ t from qu);subst e_qu;simp only [eqP,Bool.not_false,Bool.not_true];exact RcAt.bool_int _ _ _
  | str _=>cases (Option.some.inj (show some _=some u from sy));obtain ⟨_,e_qu⟩:=(show ∃ t,_=Value.str _ t from qu);subst e_qu;simp only [eqP,Bool.not_false,Bool.not_true];exact RcAt.bool_str _ _ _
  | _=>cases sy
 | int _ =>
  cases (Option.some.inj (show some _=some v from sx))
  obtain ⟨_,e_qv⟩:=(show ∃ t,_=Value.int _ t from qv);subst e_qv
  cases y with
  | non=>cases (Option.some.inj (show some _=some u from sy));cases (show _=Value.none from qu);simp only [eqP,Bool.not_false,Bool.not_true];exact RcAt.int_none _ _
  | bl _=>cases (Option.some.inj (show some _=some u from sy));cases (show _=Value.bool _ from qu);simp only [eqP,Bool.not_false,Bool.not_true];exact RcAt.int_bool _ _ _
  | int _=>cases (Option.some.inj (show some _=some u from sy));obtain ⟨_,e_qu⟩:=(show ∃ t,_=Value.int _ t from qu);subst e_qu;simp only [eqP,Bool.not_false,Bool.not_true];exact RcAt.int_int _ _ _ _
  | str _=>cases (Option.some.inj (show some _=some u from sy));obtain ⟨_,e_qu⟩:=(show ∃ t,_=Value.str _ t from qu);subst e_qu;simp only [eqP,Bool.not_false,Bool.not_true];exact RcAt.int_str _ _ _ _
  | _=>cases sy
 | str _ =>
  cases (Option.some.inj (show some _=some v from sx))
  obtain ⟨_,e_qv⟩:=(show ∃ t,_=Value.str _ t from qv);subst e_qv
  cases y with
  | non=>cases (Option.some.inj (show some _=some u from sy));cases (show _=Value.none from qu);simp only [eqP,Bool.not_false,Bool.not_true];exact RcAt.str_none _ _
  | bl _=>cases (Option.some.inj (show some _=some u from sy));cases (show _=Value.bool _ from qu);simp only [eqP,Bool.not_false,Bool.not_true];exact RcAt.str_bool _ _ _
  | int _=>cases (Option.some.inj (show some _=some u from sy));obtain ⟨_,e_qu⟩:=(show ∃ t,_=Value.int _ t from qu);subst e_qu;simp only [eqP,Bool.not_false,Bool.not_true];exact RcAt.str_int _ _ _ _
  | str _=>cases (Option.some.inj (show some _=some u from sy));obtain ⟨_,e_qu⟩:=(show ∃ t,_=Value.str _ t from qu);subst e_qu;simp only [eqP,Bool.not_false,Bool.not_true];exact RcAt.str_str _ _ _ _
  | _=>cases sy
 | _=>cases sx
theorem ALj {A:Around} {s:Shared} {y:P} {u:V} {u':Value} {l:Addr} {its:Array Value} (hl:s.heap.IsList l its) (hu:A.units<cLine) (sy:AAT y=some u) (qu:RelV u u'):EqAt A s (.ref l) u' false:=by
 cases y with
 | non=>cases (Option.some.inj (show some _=some u from sy));cases (show _=Value.none from qu);exact EqAt.list_none hl hu
 | bl _=>cases (Option.some.inj (show some _=some u from sy));cases (show _=Value.bool _ from qu);exact EqAt.list_bool _ hl hu
 | int _=>cases (Option.some.inj (show some _=some u from sy));obtain ⟨_,e_qu⟩:=(show ∃ t,_=Value.int _ t from qu);subst e_qu;exact EqAt.list_int _ _ hl hu
 | str _=>cases (Option.some.inj (show some _=some u from sy));obtain ⟨_,e_qu⟩:=(show ∃ t,_=Value.str _ t from qu);subst e_qu;exact EqAt.list_str _ _ hl hu
 | _=>cases sy
theorem ALk {A:Around} {s:Shared} {y:P} {u:V} {u':Value} {l:Addr} {its:Array Value} (hl:s.heap.IsList l its) (hu:A.units<cLine) (sy:AAT y=some u) (qu:RelV u u'):EqAt A s u' (.ref l) false:=by
 cases y with
 | non=>cases (Option.some.inj (show some _=some u from sy));cases (show _=Value.none from qu);exact EqAt.none_list hl hu
 | bl _=>cases (Option.some.inj (show some _=some u from sy));cases (show _=Value.bool _ from qu);exact EqAt.bool_list _ hl hu
 | int _=>cases (Option.some.inj (show some _=some u from sy));obtain ⟨_,e_qu⟩:=(show ∃ t,_=Value.int _ t from qu);subst e_qu;exact EqAt.int_list _ _ hl hu
 | str _=>cases (Option.some.inj (show some _=some u from sy));obtain ⟨_,e_qu⟩:=(show ∃ t,_=Value.str _ t from qu);subst e_qu;exact EqAt.str_list _ _ hl hu
 | _=>cases sy
theorem AKX {A:Around} {s:Shared} {y:P} {u:V} {u':Value} {l:Addr} {its:Array Value} (hl:s.heap.IsTuple l its) (hu:A.units<cLine) (sy:AAT y=some u) (qu:RelV u u'):EqAt A s (.ref l) u' false:=by
 cases y with
 | non=>cases (Option.some.inj (show some _=some u from sy));cases (show _=Value.none from qu);exact EqAt.tuple_none hl hu
 | bl _=>cases (Option.some.inj (show some _=some u from sy));cases (show _=Value.bool _ from qu);exact EqAt.tuple_bool _ hl hu
 | int _=>cases (Option.some.inj (show some _=some u from sy));obtain ⟨_,e_qu⟩:=(show ∃ t,_=Value.int _ t from qu);subst e_qu;exact EqAt.tuple_int _ _ hl hu
 | str _=>cases (Option.some.inj (show some _=some u from sy));obtain ⟨_,e_qu⟩:=(show ∃ t,_=Value.str _ t from qu);subst e_qu;exact EqAt.tuple_str _ _ hl hu
 | _=>cases sy
theorem AKY {A:Around} {s:Shared} {y:P} {u:V} {u':Value} {l:Addr} {its:Array Value} (hl:s.heap.IsTuple l its) (hu:A.units<cLine) (sy:AAT y=some u) (qu:RelV u u'):EqAt A s u' (.ref l) false:=by
 cases y with
 | non=>cases (Option.some.inj (show some _=some u from sy));cases (show _=Value.none from qu);exact EqAt.none_tuple hl hu
 | bl _=>cases (Option.some.inj (show some _=some u from sy));cases (show _=Value.bool _ from qu);exact EqAt.bool_tuple _ hl hu
 | int _=>cases (Option.some.inj (show some _=some u from sy));obtain ⟨_,e_qu⟩:=(show ∃ t,_=Value.int _ t from qu);subst e_qu;exact EqAt.int_tuple _ _ hl hu
 | str _=>cases (Option.some.inj (show some _=some u from sy));obtain ⟨_,e_qu⟩:=(show ∃ t,_=Value.str _ t from qu);subst e_qu;exact EqAt.str_tuple _ _ hl hu
 | _=>cases sy
theorem ALl {A:Around} {s:Shared} {y:P} {u:V} {u':Value} {l:Addr} {its:Array Value} (hl:s.heap.IsList l its) (hu:A.units<cLine) (sy:AAT y=some u) (qu:RelV u u'):RcNeAt A s (.ref l) u' true:=by
 cases y with
 | non=>cases (Option.some.inj (show some _=some u from sy));cases (show _=Value.none from qu);exact RcNeAt.list_none hl hu
 | bl _=>cases (Option.some.inj (show some _=some u from sy));cases (show _=Value.bool _ from qu);exact RcNeAt.list_bool _ hl hu
 | int _=>cases (Option.some.inj (show some _=some u from sy));obtain ⟨_,e_qu⟩:=(show ∃ t,_=Value.int _ t from qu);subst e_qu;exact RcNeAt.list_int _ _ hl hu
 | str _=>cases (Option.some.inj (show some _=some u from sy));obtain ⟨_,e_qu⟩:=(show ∃ t,_=Value.str _ t from qu);subst e_qu;exact RcNeAt.list_str _ _ hl hu
 | _=>cases sy
theorem ALm {A:Around} {s:Shared} {y:P} {u:V} {u':Value} {l:Addr} {its:Array Value} (hl:s.heap.IsList l its) (hu:A.units<cLine) (sy:AAT y=some u) (qu:RelV u u'):RcNeAt A s u' (.ref l) true:=by
 cases y with
 | non=>cases (Option.some.inj (show some _=some u from sy));cases (show _=Value.none from qu);exact RcNeAt.none_list hl hu
 | bl _=>cases (Option.some.inj (show some _=some u from sy));cases (show _=Value.bool _ from qu);exact RcNeAt.bool_list _ hl hu
 | int _=>cases (Option.some.inj (show some _=some u from sy));obtain ⟨_,e_qu⟩:=(show ∃ t,_=Value.int _ t from qu);subst e_qu;exact RcNeAt.int_list _ _ hl hu
 | str _=>cases (Option.some.inj (show some _=some u from sy));obtain ⟨_,e_qu⟩:=(show ∃ t,_=Value.str _ t from qu);subst e_qu;exact RcNeAt.str_list _ _ hl hu
 | _=>cases sy
theorem AKZ {A:Around} {s:Shared} {y:P} {u:V} {u':Value} {l:Addr} {its:Array Value} (hl:s.heap.IsTuple l its) (hu:A.units<cLine) (sy:AAT y=some u) (qu:RelV u u'):RcNeAt A s (.ref l) u' true:=by
 cases y with
 | non=>cases (Option.some.inj (show some _=some u from sy));cases (show _=Value.none from qu);exact RcNeAt.tuple_none hl hu
 | bl _=>cases (Option.some.inj (show some _=some u from sy));cases (show _=Value.bool _ from qu);exact RcNeAt.tuple_bool _ hl hu
 | int _=>cases (Option.some.inj (show some _=some u from sy));obtain ⟨_,e_qu⟩:=(show ∃ t,_=Value.int _ t from qu);subst e_qu;exact RcNeAt.tuple_int _ _ hl hu
 | str _=>cases (Option.some.inj (show some _=some u from sy));obtain ⟨_,e_qu⟩:=(show ∃ t,_=Value.str _ t from qu);subst e_qu;exact RcNeAt.tuple_str _ _ hl hu
 | _=>cases sy
theorem AKa {A:Around} {s:Shared} {y:P} {u:V} {u':Value} {l:Addr} {its:Array Value} (hl:s.heap.IsTuple l its) (hu:A.units<cLine) (sy:AAT y=some u) (qu:RelV u u'):RcNeAt A s u' (.ref l) true:=by
 cases y with
 | non=>cases (Option.some.inj (show some _=some u from sy));cases (show _=Value.none from qu);exact RcNeAt.none_tuple hl hu
 | bl _=>cases (Option.some.inj (show some _=some u from sy));cases (show _=Value.bool _ from qu);exact RcNeAt.bool_tuple _ hl hu
 | int _=>cases (Option.some.inj (show some _=some u from sy));obtain ⟨_,e_qu⟩:=(show ∃ t,_=Value.int _ t from qu);subst e_qu;exact RcNeAt.int_tuple _ _ hl hu
 | str _=>cases (Option.some.inj (show some _=some u from sy));obtain ⟨_,e_qu⟩:=(show ∃ t,_=Value.str _ t from qu);subst e_qu;exact RcNeAt.str_tuple _ _ hl hu
 | _=>cases sy
theorem ALn {A:Around} {s:Shared} {y:P} {u:V} {u':Value} {l:Addr} {its:Array Value} (hl:s.heap.IsList l its) (hu:A.units<cLine) (sy:AAT y=some u) (qu:RelV u u'):RcAt A s (.ref l) u' false:=by
 cases y with
 | non=>cases (Option.some.inj (show some _=some u from sy));cases (show _=Value.none from qu);exact RcAt.list_none hl hu
 | bl _=>cases (Option.some.inj (show some _=some u from sy));cases (show _=Value.bool _ from qu);exact RcAt.list_bool _ hl hu
 | int _=>cases (Option.some.inj (show some _=some u from sy));obtain ⟨_,e_qu⟩:=(show ∃ t,_=Value.int _ t from qu);subst e_qu;exact RcAt.list_int _ _ hl hu
 | str _=>cases (Option.some.inj (show some _=some u from sy));obtain ⟨_,e_qu⟩:=(show ∃ t,_=Value.str _ t from qu);subst e_qu;exact RcAt.list_str _ _ hl hu
 | _=>cases sy
theorem ALo {A:Around} {s:Shared} {y:P} {u:V} {u':Value} {l:Addr} {its:Array Value} (hl:s.heap.IsList l its) (hu:A.units<cLine) (sy:AAT y=some u) (qu:RelV u u'):RcAt A s u' (.ref l) false:=by
 cases y with
 | non=>cases (Option.some.inj (show some _=some u from sy));cases (show _=Value.none from qu);exact RcAt.none_list hl hu
 | bl _=>cases (Option.some.inj (show some _=some u from sy));cases (show _=Value.bool _ from qu);exact RcAt.bool_list _ hl hu
 | int _=>cases (Option.some.inj (show some _=some u from sy));obtain ⟨_,e_qu⟩:=(show ∃ t,_=Value.int _ t from qu);subst e_qu;exact RcAt.int_list _ _ hl hu
 | str _=>cases (Option.some.inj (show some _=some u from sy));obtain ⟨_,e_qu⟩:=(show ∃ t,_=Value.str _ t from qu);subst e_qu;exact RcAt.str_list _ _ hl hu
 | _=>cases sy
theorem AKb {A:Around} {s:Shared} {y:P} {u:V} {u':Value} {l:Addr} {its:Array Value} (hl:s.heap.IsTuple l its) (hu:A.units<cLine) (sy:AAT y=some u) (qu:RelV u u'):RcAt A s (.ref l) u' false:=by
 cases y with
 | non=>cases (Option.some.inj (show some _=some u from sy));cases (show _=Value.none from qu);exact RcAt.tuple_none hl hu
 | bl _=>cases (Option.some.inj (show some _=some u from sy));cases (show _=Value.bool _ from qu);exact RcAt.tuple_bool _ hl hu
 | int _=>cases (Option.some.inj (show some _=some u from sy));obtain ⟨_,e_qu⟩:=(show ∃ t,_=Value.int _ t from qu);subst e_qu;exact RcAt.tuple_int _ _ hl hu
 | str _=>cases (Option.some.inj (show some _=some u from sy));obtain ⟨_,e_qu⟩:=(show ∃ t,_=Value.str _ t from qu);subst e_qu;exact RcAt.tuple_str _ _ hl hu
 | _=>cases sy
theorem AKc {A:Around} {s:Shared} {y:P} {u:V} {u':Value} {l:Addr} {its:Array Value} (hl:s.heap.IsTuple l its) (hu:A.units<cLine) (sy:AAT y=some u) (qu:RelV u u'):RcAt A s u' (.ref l) false:=by
 cases y with
 | non=>cases (Option.some.inj (show some _=some u from sy));cases (show _=Value.none from qu);exact RcAt.none_tuple hl hu
 | bl _=>cases (Option.some.inj (show some _=some u from sy));cases (show _=Value.bool _ from qu);exact RcAt.bool_tuple _ hl hu
 | int _=>cases (Option.some.inj (show some _=some u from sy));obtain ⟨_,e_qu⟩:=(show ∃ t,_=Value.int _ t from qu);subst e_qu;exact RcAt.int_tuple _ _ hl hu
 | str _=>cases (Option.some.inj (show some _=some u from sy));obtain ⟨_,e_qu⟩:=(show ∃ t,_=Value.str _ t from qu);subst e_qu;exact RcAt.str_tuple _ _ hl hu
 | _=>cases sy
theorem AA5 {b:Addr} {Z:Addr→Prop} {H:Hp} {n:Nat} {x:P} {v:V} (hp:x.pl n=true) (r:Rp b Z H x v):AAT x=some v∨(∃ m xs,n=m + 1∧x=.tup xs∧xs.all (P.pl m)=true)∨∃ m xs,n=m + 1∧x=.lst xs∧xs.all (P.pl m)=true:=by
 cases x with
 | non=>exact .inl (by rw [show v=_ from r];rfl)
 | bl k=>exact .inl (by rw [show v=_ from r];rfl)
 | int k=>exact .inl (by rw [show v=_ from r];rfl)
 | str k=>exact .inl (by rw [show v=_ from r];rfl)
 | tup xs=>cases n with
  | zero=>simp [P.pl] at hp
  | succ m=>exact .inr (.inl ⟨m,xs,rfl,rfl,by simpa [P.pl] using hp⟩)
 | lst xs=>cases n with
  | zero=>simp [P.pl] at hp
  | succ m=>exact .inr (.inr ⟨m,xs,rfl,rfl,by simpa [P.pl] using hp⟩)
 | _=>cases n <;> simp [P.pl] at hp
theorem ANA:∀ (n:Nat) {x:P},x.pl n=true→eqP x x=true:=by
 intro n
 induction n with
 | zero=>intro x hx;cases x <;> simp [P.pl] at hx <;> simp [eqP]
 | succ n ih =>
  have hs:∀ {xs:List P},xs.all (P.pl n)=true→eqPs xs xs=true:=by
   intro xs
   induction xs with
   | nil=>intro _;rfl
   | cons x r ihr =>
    intro h
    rw [List.all_cons,Bool.and_eq_true] at h
    rw [eqPs,ih h.1,ihr h.2];rfl
  intro x hx
  cases x <;> simp only [P.pl] at hx <;> simp only [eqP,beq_self_eq_true]
  ·cases hx
  ·exact hs hx
  ·exact hs hx
  ·cases hx
  ·cases hx
theorem AHO (n:Nat) (xs:List P) (h:xs.all (P.pl n)=true):eqPs xs xs=true:=by
 induction xs with
 | nil=>rfl
 | cons x r ihr =>
  rw [List.all_cons,Bool.and_eq_true] at h
  rw [eqPs,ANA n h.1,ihr h.2];rfl
theorem ALp {b:Addr} {Z:Addr→Prop} {H:Hp}:∀ (n:Nat) {x y:P} {v:V},x.pl n=true→y.pl n=true→Rp b Z H x v→Rp b Z H y v→x=y:=by
 intro n
 induction n with
 | zero =>
  intro x y v hx hy rx ry
  cases x <;> simp [P.pl] at hx <;> cases y <;> simp [P.pl] at hy <;> (rw [show v=_ from rx] at ry) <;> first | rfl | (cases ry;rfl) | cases ry
 | succ n ih =>
  have hs:∀ {xs ys:List P} {vs:List V},xs.all (P.pl n)=true→ys.all (P.pl n)=true→Rps b Z H xs vs→Rps b Z H ys vs→xs=ys:=by
   intro xs
   induction xs with
   | nil =>
    intro ys vs _ _ r1 r2
    rw [show vs=[] from r1] at r2
    cases ys with
    | nil=>rfl
    | cons y r=>obtain ⟨_,_,e,_⟩:=r2;cases e
   | cons x r ihr =>
    intro ys vs h1 h2 r1 r2
    obtain ⟨v,t,rfl,q1,q2⟩:=r1
    cases ys with
    | nil=>cases (show v :: t=[] from r2)
    | cons y ys =>
     obtain ⟨_,_,e,q3,q4⟩:=r2
     cases e
     rw [List.all_cons,Bool.and_eq_true] at h1 h2
     rw [ih h1.1 h2.1 q1 q3,ihr h1.2 h2.2 q2 q4]
  intro x y v hx hy rx ry
  rcases AA5 hx rx with sx | ⟨m,xs,e,rfl,px⟩ | ⟨m,xs,e,rfl,px⟩
  ·rcases AA5 hy ry with sy | ⟨m,ys,e,rfl,py⟩ | ⟨m,ys,e,rfl,py⟩
   ·cases x <;> simp only [AAT] at sx <;> cases sx <;> cases y <;> simp only [AAT] at sy <;> cases sy <;> rfl
   ·obtain ⟨p,us,rfl,_⟩:=ry
    cases x <;> simp [AAT] at sx
   ·obtain ⟨p,us,rfl,_⟩:=ry
    cases x <;> simp [AAT] at sx
  ·cases e
   obtain ⟨p,vs,rfl,e1,r1⟩:=rx
   rcases AA5 hy ry with sy | ⟨m,ys,e,rfl,py⟩ | ⟨m,ys,e,rfl,py⟩
   ·cases y <;> simp [AAT] at sy
   ·cases e
    obtain ⟨p2,us,e3,e2,r2⟩:=ry
    cases e3
    rw [e1] at e2;cases e2
    rw [hs px py r1 r2]
   ·obtain ⟨p2,us,e3,_,e2,r2⟩:=ry
    cases e3
    rw [e1] at e2;cases e2
  ·cases e
   obtain ⟨p,vs,rfl,_,e1,r1⟩:=rx
   rcases AA5 hy ry with sy | ⟨m,ys,e,rfl,py⟩ | ⟨m,ys,e,rfl,py⟩
   ·cases y <;> simp [AAT] at sy
   ·obtain ⟨p2,us,e3,e2,r2⟩:=ry
    cases e3
    rw [e1] at e2;cases e2
   ·cases e
    obtain ⟨p2,us,e3,_,e2,r2⟩:=ry
    cases e3
    rw [e1] at e2;cases e2
    rw [hs px py r1 r2]
theorem AGe {b:Addr} {Z:Addr→Prop} {H:Hp} {n:Nat}:∀ {xs ys:List P} {vs:List V},xs.all (P.pl n)=true→ys.all (P.pl n)=true→Rps b Z H xs vs→Rps b Z H ys vs→xs=ys
 | [],ys,vs,_,_,r1,r2=>by
  rw [show vs=[] from r1] at r2
  cases ys with
  | nil=>rfl
  | cons y r=>obtain ⟨_,_,e,_⟩:=r2;cases e
 | x :: xs,ys,vs,h1,h2,r1,r2=>by
  obtain ⟨v,t,rfl,q1,q2⟩:=r1
  cases ys with
  | nil=>cases (show v :: t=[] from r2)
  | cons y ys =>
   obtain ⟨_,_,e,q3,q4⟩:=r2
   cases e
   rw [List.all_cons,Bool.and_eq_true] at h1 h2
   rw [ALp n h1.1 h2.1 q1 q3,AGe h1.2 h2.2 q2 q4]
section
variable {X:Cx} {pins:List (Addr×Obj)} {σ:St} {H:Hp} {s:Shared}
theorem ACJ (I:Inv X pins σ H s) {p:Addr} {vs:List V} (e:H p=some (.tup vs)):∃ its:List Value,Vals vs its∧s.heap.IsTuple p its.toArray:=by
 obtain ⟨its,r,t,_⟩:=I.tuple (.of e)
 exact ⟨its,r,t⟩
theorem ACK (I:Inv X pins σ H s) {p:Addr} {vs:List V} (e:H p=some (.lst vs)):∃ its:List Value,Vals vs its∧s.heap.IsList p its.toArray:=by
 obtain ⟨its,r,t,_⟩:=I.list (.of e)
 exact ⟨its,r,t.isList⟩
theorem ACg (A:Around):A.in1.units=A.units + 1:=rfl
noncomputable def pcs (xs ys:List P) (j:Nat):Bool:=match xs[j]?,ys[j]? with | some x,some y=>eqP x y | _,_=>true
theorem ACr {xs ys:List P}:((List.range (min xs.length ys.length)).all (pcs xs ys) && xs.length == ys.length)=eqPs xs ys:=AFs fun j x y h1 h2=>by unfold pcs;rw [h1,h2]
theorem AEj {xs:List P} {m i:Nat} {x:P} (h:xs.all (P.pl m)=true) (e:xs[i]?=some x):x.pl m=true:=List.all_eq_true.mp h x (List.mem_of_getElem? e)
theorem ALq (I:Inv X pins σ H s) {b:Addr} {Z:Addr→Prop}:∀ (n:Nat) {A:Around} {x y:P} {v u:V} {v' u':Value},A.units + n<cLine→x.pl n=true→y.pl n=true→Rp b Z H x v→Rp b Z H y u→RelV v v'→RelV u u'→EqAt A s v' u' (eqP x y):=by
 intro n
 induction n with
 | zero =>
  intro A x y v u v' u' hu hx hy rx ry qv qu
  rcases AA5 hx rx with sx | ⟨m,xs,e,_⟩ | ⟨m,xs,e,_⟩
  ·rcases AA5 hy ry with sy | ⟨m,ys,e,_⟩ | ⟨m,ys,e,_⟩
   ·exact ANx sx sy qv qu
   ·cases e
   ·cases e
  ·cases e
  ·cases e
 | succ n ih =>
  intro A x y v u v' u' hu hx hy rx ry qv qu
  have hu0:A.units<cLine:=by lia
  have hu1:A.in1.units + n<cLine:=by rw [ACg];lia
  -- the AIa
  have pc:∀ {xs ys:List P} {vs us:List V} {its its2:List Value},xs.all (P.pl n)=true→ys.all (P.pl n)=true→Rps b Z H xs vs→Rps b Z H ys us→Vals vs its→Vals us its2→∀ j (h1:j<its.toArray.size) (h2:j<its2.toArray.size),EqAt A.in1 s its.toArray[j] its2.toArray[j] (pcs xs ys j):=by
   intro xs ys vs us its its2 px py r1 r2 w1 w2 j h1 h2
   have l1:=r1.length
   have l2:=r2.length
   have l3:=w1.length
   have l4:=w2.length
   rw [List.size_toArray] at h1 h2
   obtain ⟨v1,e1,q1⟩:=r1.get (i:=j) (x:=xs[j]'(by lia)) (by simp [l1,l3,h1])
   obtain ⟨v2,e2,q2⟩:=r2.get (i:=j) (x:=ys[j]'(by lia)) (by simp [l2,l4,h2])
   obtain ⟨u1,g1,k1⟩:=w1.get e1
   obtain ⟨u2,g2,k2⟩:=w2.get e2
   have ex:xs[j]?=some (xs[j]'(by lia)):=by simp [l1,l3,h1]
   have ey:ys[j]?=some (ys[j]'(by lia)):=by simp [l2,l4,h2]
   have z1:its.toArray[j]=u1:=by
    have:its[j]?=some its[j]:=by simp [h1]
    rw [this] at g1
    simpa using Option.some.inj g1
   have z2:its2.toArray[j]=u2:=by
    have:its2[j]?=some its2[j]:=by simp [h2]
    rw [this] at g2
    simpa using Option.some.inj g2
   rw [z1,z2]
   have:pcs xs ys j=eqP (xs[j]'(by lia)) (ys[j]'(by lia)):=by unfold pcs;rw [ex,ey]
   rw [this]
   exact ih hu1 (AEj px ex) (AEj py ey) q1 q2 k1 k2
  rcases AA5 hx rx with sx | ⟨m,xs,e,rfl,px⟩ | ⟨m,xs,e,rfl,px⟩
  ·rcases AA5 hy ry with sy | ⟨m,ys,e,rfl,py⟩ | ⟨m,ys,e,rfl,py⟩
   ·exact ANx sx sy qv qu
   ·obtain ⟨p,us,rfl,e2,r2⟩:=ry
    cases (show u'=Value.ref p from qu)
    obtain ⟨its,_,hl⟩:=ACJ I e2
    have:eqP x (.tup ys)=false:=by cases x <;> simp [AAT] at sx <;> simp only [eqP]
    rw [this]
    exact AKY hl hu0 sx qv
   ·obtain ⟨p,us,rfl,_,e2,r2⟩:=ry
    cases (show u'=Value.ref p from qu)
    obtain ⟨its,_,hl⟩:=ACK I e2
    have:eqP x (.lst ys)=false:=by cases x <;> simp [AAT] at sx <;> simp only [eqP]
    rw [this]
    exact ALk hl hu0 sx qv
  ·cases e
   obtain ⟨p,vs,rfl,e1,r1⟩:=id rx
   cases (show v'=Value.ref p from qv)
   obtain ⟨its,w1,hl⟩:=ACJ I e1
   rcases AA5 hy ry with sy | ⟨m,ys,e,rfl,py⟩ | ⟨m,ys,e,rfl,py⟩
   ·have:eqP (.tup xs) y=false:=by cases y <;> simp [AAT] at sy <;> simp only [eqP]
    rw [this]
    exact AKX hl hu0 sy qu
   ·cases e
    obtain ⟨p2,us,rfl,e2,r2⟩:=id ry
    cases (show u'=Value.ref p2 from qu)
    obtain ⟨its2,w2,hl2⟩:=ACJ I e2
    have key:=RcAt.tuples (A:=A) hl hl2 hu0 (pc px py r1 r2 w1 w2)
    rw [List.size_toArray,List.size_toArray,←w1.length,←w2.length,←r1.length,←r2.length,ACr] at key
    rw [show eqP (.tup xs) (.tup ys)=eqPs xs ys by simp only [eqP]]
    by_cases hpp:p=p2
    ·subst hpp
     rw [e1] at e2
     cases e2
     have:eqPs xs ys=true:=by
      have h0:∀ zs:List P,zs.all (P.pl n)=true→eqPs zs zs=true:=AHO n
      rw [AGe (b:=b) (H:=H) (n:=n) px py r1 r2]
      exact h0 ys py
     rw [this]
     exact EqAt.same _
    ·exact EqAt.of_refs hpp key
   ·obtain ⟨p2,us,rfl,_,e2,r2⟩:=ry
    cases (show u'=Value.ref p2 from qu)
    obtain ⟨its2,_,hl2⟩:=ACK I e2
    rw [show eqP (.tup xs) (.lst ys)=false by simp only [eqP]]
    exact EqAt.tuple_list hl hl2 hu0
  ·cases e
   obtain ⟨p,vs,rfl,_,e1,r1⟩:=id rx
   cases (show v'=Value.ref p from qv)
   obtain ⟨its,w1,hl⟩:=ACK I e1
   rcases AA5 hy ry with sy | ⟨m,ys,e,rfl,py⟩ | ⟨m,ys,e,rfl,py⟩
   ·have:eqP (.lst xs) y=false:=by cases y <;> simp [AAT] at sy <;> simp only [eqP]
    rw [this]
    exact ALj hl hu0 sy qu
   ·obtain ⟨p2,us,rfl,e2,r2⟩:=ry
    cases (show u'=Value.ref p2 from qu)
    obtain ⟨its2,_,hl2⟩:=ACJ I e2
    rw [show eqP (.lst xs) (.tup ys)=false by simp only [eqP]]
    exact EqAt.list_tuple hl hl2 hu0
   ·cases e
    obtain ⟨p2,us,rfl,_,e2,r2⟩:=id ry
    cases (show u'=Value.ref p2 from qu)
    obtain ⟨its2,w2,hl2⟩:=ACK I e2
    rw [show eqP (.lst xs) (.lst ys)=eqPs xs ys by simp only [eqP]]
    by_cases hpp:p=p2
    ·subst hpp
     rw [e1] at e2
     cases e2
     have:eqPs xs ys=true:=by
      have h0:∀ zs:List P,zs.all (P.pl n)=true→eqPs zs zs=true:=AHO n
      rw [AGe (b:=b) (H:=H) (n:=n) px py r1 r2]
      exact h0 ys py
     rw [this]
     exact EqAt.same _
    ·by_cases hz:its.length=its2.length
     ·have key:=RcAt.lists (A:=A) hl hl2 (by simpa using hz) hu0 (pc px py r1 r2 w1 w2)
      rw [←ACr]
      have l1:=r1.length
      have l2:=r2.length
      have l3:=w1.length
      have l4:=w2.length
      have e5:min xs.length ys.length=its.toArray.size:=by rw [List.size_toArray];lia
      have e6:(xs.length == ys.length)=true:=by rw [beq_iff_eq];lia
      rw [e5,e6,Bool.and_true]
      exact EqAt.of_refs hpp key
     ·have l1:=r1.length
      have l2:=r2.length
      have l3:=w1.length
      have l4:=w2.length
      have e6:(xs.length == ys.length)=false:=by rw [beq_eq_false_iff_ne];lia
      rw [←ACr,e6,Bool.and_false]
      exact EqAt.of_refs hpp (RcAt.lists_lengths hl hl2 (by simpa using hz) hu0)
end
section
variable {X:Cx} {pins:List (Addr×Obj)} {σ:St} {H:Hp} {s:Shared}
theorem AIa (I:Inv X pins σ H s) {b:Addr} {Z:Addr→Prop} {n:Nat} {A:Around} (hu1:A.in1.units + n<cLine) {xs ys:List P} {vs us:List V} {its its2:List Value} (px:xs.all (P.pl n)=true) (py:ys.all (P.pl n)=true)
  (r1:Rps b Z H xs vs) (r2:Rps b Z H ys us) (w1:Vals vs its) (w2:Vals us its2):∀ j (h1:j<its.toArray.size) (h2:j<its2.toArray.size),EqAt A.in1 s its.toArray[j] its2.toArray[j] (pcs xs ys j):=by
 intro j h1 h2
 have l1:=r1.length
 have l2:=r2.length
 have l3:=w1.length
 have l4:=w2.length
 rw [List.size_toArray] at h1 h2
 obtain ⟨v1,e1,q1⟩:=r1.get (i:=j) (x:=xs[j]'(by lia)) (by simp [l1,l3,h1])
 obtain ⟨v2,e2,q2⟩:=r2.get (i:=j) (x:=ys[j]'(by lia)) (by simp [l2,l4,h2])
 obtain ⟨u1,g1,k1⟩:=w1.get e1
 obtain ⟨u2,g2,k2⟩:=w2.get e2
 have ex:xs[j]?=some (xs[j]'(by lia)):=by simp [l1,l3,h1]
 have ey:ys[j]?=some (ys[j]'(by lia)):=by simp [l2,l4,h2]
 have z1:its.toArray[j]=u1:=by
  have:its[j]?=some its[j]:=by simp [h1]
  rw [this] at g1
  simpa using Option.some.inj g1
 have z2:its2.toArray[j]=u2:=by
  have:its2[j]?=some its2[j]:=by simp [h2]
  rw [this] at g2
  simpa using Option.some.inj g2
 rw [z1,z2]
 have:pcs xs ys j=eqP (xs[j]'(by lia)) (ys[j]'(by lia)):=by unfold pcs;rw [ex,ey]
 rw [this]
 exact ALq I n hu1 (AEj px ex) (AEj py ey) q1 q2 k1 k2
theorem rc_P (I:Inv X pins σ H s) {b:Addr} {Z:Addr→Prop} {n:Nat} {A:Around} {x y:P} {v u:V} {v' u':Value} (hu:A.units + n + 1<cLine) (hx:x.pl n=true) (hy:y.pl n=true) (rx:Rp b Z H x v) (ry:Rp b Z H y u) (qv:RelV v v') (qu:RelV u u') :
  RcAt A s v' u' (eqP x y)∧RcNeAt A s v' u' (!eqP x y):=by
 have hu0:A.units<cLine:=by lia
 rcases AA5 hx rx with sx | ⟨m,xs,e,rfl,px⟩ | ⟨m,xs,e,rfl,px⟩
 ·rcases AA5 hy ry with sy | ⟨m,ys,e,rfl,py⟩ | ⟨m,ys,e,rfl,py⟩
  ·exact ⟨AQf sx sy qv qu,AQe sx sy qv qu⟩
  ·obtain ⟨p,us,rfl,e2,r2⟩:=ry
   cases (show u'=Value.ref p from qu)
   obtain ⟨its,_,hl⟩:=ACJ I e2
   have:eqP x (.tup ys)=false:=by cases x <;> simp [AAT] at sx <;> simp only [eqP]
   rw [this]
   exact ⟨AKc hl hu0 sx qv,AKa hl hu0 sx qv⟩
  ·obtain ⟨p,us,rfl,_,e2,r2⟩:=ry
   cases (show u'=Value.ref p from qu)
   obtain ⟨its,_,hl⟩:=ACK I e2
   have:eqP x (.lst ys)=false:=by cases x <;> simp [AAT] at sx <;> simp only [eqP]
   rw [this]
   exact ⟨ALo hl hu0 sx qv,ALm hl hu0 sx qv⟩
 ·subst e
  obtain ⟨p,vs,rfl,e1,r1⟩:=id rx
  cases (show v'=Value.ref p from qv)
  obtain ⟨its,w1,hl⟩:=ACJ I e1
  rcases AA5 hy ry with sy | ⟨m',ys,e,rfl,py⟩ | ⟨m',ys,e,rfl,py⟩
  ·have:eqP (.tup xs) y=false:=by cases y <;> simp [AAT] at sy <;> simp only [eqP]
   rw [this]
   exact ⟨AKb hl hu0 sy qu,AKZ hl hu0 sy qu⟩
  ·cases e
   obtain ⟨p2,us,rfl,e2,r2⟩:=id ry
   cases (show u'=Value.ref p2 from qu)
   obtain ⟨its2,w2,hl2⟩:=ACJ I e2
   have hp:=AIa I (A:=A) (n:=m) (by rw [ACg];lia) px py r1 r2 w1 w2
   have key:=RcAt.tuples (A:=A) hl hl2 hu0 hp
   have key2:=RcNeAt.tuples (A:=A) hl hl2 hu0 hp
   rw [List.size_toArray,List.size_toArray,←w1.length,←w2.length,←r1.length,←r2.length,ACr] at key key2
   rw [show eqP (.tup xs) (.tup ys)=eqPs xs ys by simp only [eqP]]
   exact ⟨key,key2⟩
  ·obtain ⟨p2,us,rfl,_,e2,r2⟩:=ry
   cases (show u'=Value.ref p2 from qu)
   obtain ⟨its2,_,hl2⟩:=ACK I e2
   rw [show eqP (.tup xs) (.lst ys)=false by simp only [eqP]]
   exact ⟨RcAt.tuple_list hl hl2 hu0,RcNeAt.tuple_list hl hl2 hu0⟩
 ·subst e
  obtain ⟨p,vs,rfl,_,e1,r1⟩:=id rx
  cases (show v'=Value.ref p from qv)
  obtain ⟨its,w1,hl⟩:=ACK I e1
  rcases AA5 hy ry with sy | ⟨m',ys,e,rfl,py⟩ | ⟨m',ys,e,rfl,py⟩
  ·have:eqP (.lst xs) y=false:=by cases y <;> simp [AAT] at sy <;> simp only [eqP]
   rw [this]
   exact ⟨ALn hl hu0 sy qu,ALl hl hu0 sy qu⟩
  ·obtain ⟨p2,us,rfl,e2,r2⟩:=ry
   cases (show u'=Value.ref p2 from qu)
   obtain ⟨its2,_,hl2⟩:=ACJ I e2
   rw [show eqP (.lst xs) (.tup ys)=false by simp only [eqP]]
   exact ⟨RcAt.list_tuple hl hl2 hu0,RcNeAt.list_tuple hl hl2 hu0⟩
  ·cases e
   obtain ⟨p2,us,rfl,_,e2,r2⟩:=id ry
   cases (show u'=Value.ref p2 from qu)
   obtain ⟨its2,w2,hl2⟩:=ACK I e2
   rw [show eqP (.lst xs) (.lst ys)=eqPs xs ys by simp only [eqP]]
   have l1:=r1.length
   have l2:=r2.length
   have l3:=w1.length
   have l4:=w2.length
   by_cases hz:its.length=its2.length
   ·have hp:=AIa I (A:=A) (n:=m) (by rw [ACg];lia) px py r1 r2 w1 w2
    have key:=RcAt.lists (A:=A) hl hl2 (by simpa using hz) hu0 hp
    have key2:=RcNeAt.lists (A:=A) hl hl2 (by simpa using hz) hu0 hp
    rw [←ACr]
    have e5:min xs.length ys.length=its.toArray.size:=by rw [List.size_toArray];lia
    have e6:(xs.length == ys.length)=true:=by rw [beq_iff_eq];lia
    rw [e5,e6,Bool.and_true]
    exact ⟨key,key2⟩
   ·have e6:(xs.length == ys.length)=false:=by rw [beq_eq_false_iff_ne];lia
    rw [←ACr,e6,Bool.and_false]
    exact ⟨RcAt.lists_lengths hl hl2 (by simpa using hz) hu0,RcNeAt.lists_lengths hl hl2 (by simpa using hz) hu0⟩
end
noncomputable def rEqP:R2:=fun v u H Q=>∃ (b:Addr) (Z:Addr→Prop) (x y:P),x.pl 9=true∧y.pl 9=true∧Rp b Z H x v∧Rp b Z H y u∧Q (.bl (eqP x y)) H
noncomputable def rNeP:R2:=fun v u H Q=>∃ (b:Addr) (Z:Addr→Prop) (x y:P),x.pl 9=true∧y.pl 9=true∧Rp b Z H x v∧Rp b Z H y u∧Q (.bl (!eqP x y)) H
theorem ABu {X:Cx} {k:Nat} (hr:Room k X.A):OpR X (compareOp .Eq) rEqP:=by
 intro pins s σ H x y v u Q I rx ry h
 obtain ⟨b,Z,px,py,h1,h2,r1,r2,q⟩:=h
 exact (rc_P I (A:=X.A) (by have:=hr.units;lia) h1 h2 r1 r2 rx ry).1 _ _ _ _ ⟨.bl _,H,I,rfl,q⟩
theorem AC1 {X:Cx} {k:Nat} (hr:Room k X.A):OpR X (compareOp .NotEq) rNeP:=by
 intro pins s σ H x y v u Q I rx ry h
 obtain ⟨b,Z,px,py,h1,h2,r1,r2,q⟩:=h
 exact (rc_P I (A:=X.A) (by have:=hr.units;lia) h1 h2 r1 r2 rx ry).2 _ _ _ _ ⟨.bl _,H,I,rfl,q⟩
def pEq:p2:=fun x _ y _ K=>(x.pl 9=true∧y.pl 9=true)∧K (.bl (eqP x y)) .fr
def pNe:p2:=fun x _ y _ K=>(x.pl 9=true∧y.pl 9=true)∧K (.bl (!eqP x y)) .fr
theorem r_eq:Ref2 rEqP pEq:=fun W ρ σ Hs H Q K x y f h v u ok st rx ry hp q =>
 ⟨W.b,_,x,y,hp.1.1,hp.1.2,rx.any ok,ry.any ok,q _ _ _ H hp.2 (Step.refl ok.bag) AEg⟩
theorem r_ne:Ref2 rNeP pNe:=fun W ρ σ Hs H Q K x y f h v u ok st rx ry hp q =>
 ⟨W.b,_,x,y,hp.1.1,hp.1.2,rx.any ok,ry.any ok,q _ _ _ H hp.2 (Step.refl ok.bag) AEg⟩
@[simp] theorem AIb (n:Nat) (i:Int):(P.int i).pl n=true:=by cases n <;> rfl
@[simp] theorem AIc (n:Nat) (i:Str):(P.str i).pl n=true:=by cases n <;> rfl
@[simp] theorem ANy (n:Nat) (i:Bool):(P.bl i).pl n=true:=by cases n <;> rfl
@[simp] theorem ALr (n:Nat):P.non.pl n=true:=by cases n <;> rfl
@[simp] theorem ALs (n:Nat) (xs:List P):(P.tup xs).pl (n + 1)=xs.all (P.pl n):=rfl
@[simp] theorem ALt (n:Nat) (xs:List P):(P.lst xs).pl (n + 1)=xs.all (P.pl n):=rfl
theorem AEE {α:Type} {f:α→P} {n:Nat} (h:∀ a,(f a).pl n=true) (xs:List α):(xs.map f).all (P.pl n)=true:=by
 rw [List.all_map,List.all_eq_true];intro a _;exact h a
@[simp] theorem AJu (n:Nat) (xs:List Int):(xs.map P.int).all (P.pl n)=true:=AEE (fun a=>AIb n a) xs
@[simp] theorem AJv (n:Nat) (xs:List Str):(xs.map P.str).all (P.pl n)=true:=AEE (fun a=>AIc n a) xs
mutual
noncomputable def P.nb:P→Bool
 | .non=>true | .int _=>true | .str _=>true | .tup xs=>P.nbs xs | .lst xs=>P.nbs xs | _=>false
noncomputable def P.nbs:List P→Bool
 | []=>true
 | x :: r=>x.nb && P.nbs r
end
mutual
theorem ACT:∀ {x y:P},x.nb=true→y.nb=true→(eqP x y=true ↔ x=y)
 | .non,y,_,hy=>by cases y <;> simp_all [eqP,P.nb]
 | .bl _,y,hx,_=>by simp [P.nb] at hx
 | .int _,y,_,hy=>by cases y <;> simp_all [eqP,P.nb]
 | .str _,y,_,hy=>by cases y <;> simp_all [eqP,P.nb]
 | .bag,y,hx,_=>by simp [P.nb] at hx
 | .tup xs,y,hx,hy=>by
  cases y with
  | tup ys =>
   rw [P.nb] at hx hy
   rw [show eqP (.tup xs) (.tup ys)=eqPs xs ys by simp only [eqP],AFB hx hy]
   simp
  | _=>simp [eqP]
 | .lst xs,y,hx,hy=>by
  cases y with
  | lst ys =>
   rw [P.nb] at hx hy
   rw [show eqP (.lst xs) (.lst ys)=eqPs xs ys by simp only [eqP],AFB hx hy]
   simp
  | _=>simp [eqP]
 | .dT _ _,y,hx,_=>by simp [P.nb] at hx
 | .dK _ _,y,hx,_=>by simp [P.nb] at hx
theorem AFB:∀ {xs ys:List P},P.nbs xs=true→P.nbs ys=true→(eqPs xs ys=true ↔ xs=ys)
 | [],[],_,_=>by simp [eqPs]
 | [],_ :: _,_,_=>by simp [eqPs]
 | _ :: _,[],_,_=>by simp [eqPs]
 | x :: xs,y :: ys,hx,hy=>by
  rw [P.nbs,Bool.and_eq_true] at hx hy
  rw [eqPs,Bool.and_eq_true,ACT hx.1 hy.1,AFB hx.2 hy.2]
  simp
end
theorem ACG {α:Type} {f:α→P} (h:∀ a,(f a).nb=true):∀ xs:List α,P.nbs (xs.map f)=true
 | []=>by simp [P.nbs]
 | x :: r=>by rw [List.map_cons,P.nbs,h x,ACG h r];rfl
noncomputable def rInP (neg:Bool):R2:=fun v u H Q=>∃ (b p:Addr) (Z:Addr→Prop) (x:P) (ys:List P) (us:List V),u=.ref p∧(H p=some (.lst us)∨H p=some (.tup us))∧x.pl 8=true∧ys.all (P.pl 8)=true∧Rp b Z H x v∧Rps b Z H ys us∧Q (.bl (if neg=true then !(ys.any fun y=>eqP y x) else ys.any fun y=>eqP y x)) H
section
variable {X:Cx} {k:Nat}
open Classical in
theorem AEz (hr:Room k X.A) {pins:List (Addr×Obj)} {s:Shared} {σ:St} {H:Hp} {b:Addr} {Z:Addr→Prop} {x:P} {ys:List P} {us:List V} {v:V} {v':Value} {its:List Value} (I:Inv X pins σ H s) (rx:RelV v v') (w:Vals us its)
  (h1:x.pl 8=true) (h2:ys.all (P.pl 8)=true) (r1:Rp b Z H x v) (r2:Rps b Z H ys us) :
  ∃ e:Value→Bool,(∀ y,y∈its.toArray→EqAt X.A.in1 s y v' (e y))∧its.toArray.any e=ys.any fun y=>eqP y x:=by
 have at_:∀ j y,its[j]?=some y→∃ z u,ys[j]?=some z∧z∈ys∧Rp b Z H z u∧RelV u y:=fun j y hj=>by
  have l1:=r2.length
  have l2:=w.length
  have hlt:j<its.length:=by
   rcases Nat.lt_or_ge j its.length with q | q
   ·exact q
   ·rw [List.getElem?_eq_none q] at hj;cases hj
  have ey:ys[j]?=some (ys[j]'(by lia)):=by simp [l1,l2,hlt]
  obtain ⟨u,e1,e2⟩:=r2.get ey
  obtain ⟨y',e3,e4⟩:=w.get e1
  rw [hj] at e3
  cases e3
  exact ⟨_,u,ey,List.mem_of_getElem? ey,e2,e4⟩
 refine ⟨fun y=>decide (∃ z u,z∈ys∧Rp b Z H z u∧RelV u y∧eqP z x=true),fun y hy=>?_,?_⟩
 ·have hy:y∈its:=by simpa using hy
  obtain ⟨j,hj,e⟩:=List.getElem_of_mem hy
  obtain ⟨z,u,ez,mz,rz,qz⟩:=at_ j y (by rw [←e];simp [hj])
  have eqa:=ALq I 8 (A:=X.A.in1) (by rw [ACg];have:=hr.units;lia) (List.all_eq_true.mp h2 z mz) h1 rz r1 qz rx
  have:decide (∃ z u,z∈ys∧Rp b Z H z u∧RelV u y∧eqP z x=true)=eqP z x:=by
   rw [Bool.eq_iff_iff,decide_eq_true_iff]
   constructor
   ·rintro ⟨z',u',m',rz',qz',hh⟩
    cases qz.inj qz'
    rw [ALp 8 (List.all_eq_true.mp h2 z mz) (List.all_eq_true.mp h2 z' m') rz rz']
    exact hh
   ·exact fun hh=>⟨z,u,mz,rz,qz,hh⟩
  show EqAt X.A.in1 s y v' (decide _)
  rw [this]
  exact eqa
 ·rw [Bool.eq_iff_iff,List.any_toArray,List.any_eq_true,List.any_eq_true]
  constructor
  ·rintro ⟨y,_,hh⟩
   obtain ⟨z,u,m,_,_,hh⟩:=of_decide_eq_true hh
   exact ⟨z,m,hh⟩
  ·rintro ⟨z,m,hh⟩
   obtain ⟨j,hj,e⟩:=List.getElem_of_mem m
   obtain ⟨u,e1,e2⟩:=r2.get (i:=j) (x:=z) (by rw [←e];simp [hj])
   obtain ⟨y,e3,e4⟩:=w.get e1
   exact ⟨y,List.mem_of_getElem? e3,decide_eq_true ⟨z,u,m,e2,e4,hh⟩⟩
theorem APe (hr:Room k X.A):OpR X (compareOp .In) (rInP false):=by
 intro pins s σ H x y v u Q I rx ry h
 obtain ⟨b,p,Z,px,ys,us,rfl,hp,h1,h2,r1,r2,q⟩:=h
 cases ry
 rcases hp with hp | hp
 ·obtain ⟨its,w,hl⟩:=ACK I hp
  obtain ⟨e,he,ha⟩:=AEz hr I rx w h1 h2 r1 r2
  exact in_listAt e hl he (by rw [ha];exact ⟨.bl _,H,I,rfl,q⟩)
 ·obtain ⟨its,w,hl⟩:=ACJ I hp
  obtain ⟨e,he,ha⟩:=AEz hr I rx w h1 h2 r1 r2
  exact in_tupleAt e hl he (by rw [ha];exact ⟨.bl _,H,I,rfl,q⟩)
end
def pInG (neg:Bool):p2:=fun x _ y _ K=>∃ ys,y.items=some ys∧(x.pl 8=true∧ys.all (P.pl 8)=true)∧K (.bl (if neg=true then !(ys.any fun y=>eqP y x) else ys.any fun y=>eqP y x)) .fr
abbrev pIn:p2:=pInG false
theorem AQg (neg:Bool):Ref2 (rInP neg) (pInG neg):=fun W ρ σ Hs H Q K x y f h v u ok st rx ry hp q=>by
 obtain ⟨ys,e,⟨h1,h2⟩,hk⟩:=hp
 have ra:=RF.items (f:=.an) (W:=W) (ρ:=ρ) (σ:=σ) (Hs:=Hs) (ry.any ok) e
 obtain ⟨p,vs,rfl,hc,r2⟩:=ra
 exact ⟨W.b,p,_,x,ys,vs,rfl,hc,h1,h2,rx.any ok,r2,q _ _ _ H hk (Step.refl ok.bag) AEg⟩
theorem r_in:Ref2 (rInP false) pIn:=AQg false
theorem ANB (z:Str) (xs:List Str):((xs.map P.str).any fun y=>eqP y (.str z))=decide (z∈xs):=by
 induction xs with
 | nil=>rfl
 | cons x r ih =>
  rw [List.map_cons,List.any_cons,ih,show eqP (.str x) (.str z)=(x == z) by simp only [eqP]]
  by_cases e:x=z
  ·subst e;simp
  ·have e':¬ z=x:=fun h=>e h.symm
   simp [e,e']
end L2
namespace L2
open PySem PySem.Spec PyProof.Rows
noncomputable def cut {α:Type} (xs:List α) (lo hi:Option Int):List α:=(xs.drop (HT.sIx xs.length 0 lo)).take (HT.sIx xs.length xs.length hi - HT.sIx xs.length 0 lo)
noncomputable abbrev pO:=List S→(Option Int→Prop)→Prop
def RefO (t:TO) (p:pO):Prop:=∀ (W:Wd) (ρ:List S) (σ:St) (H:Hp) (Q:Option Int→Hp→Prop) (K:Option Int→Prop),Ok W ρ σ H→p ρ K→(∀ o H',K o→Step W.b W.a H H'→Q o H')→t σ H Q
def QO {ι:Type} (Xs:ι→Cx) (e:Option Expr) (p:pO):Prop:=∃ t,(∀ i,PO (Xs i) e t)∧RefO t p
noncomputable def AGf:pO:=fun _ K=>K none
noncomputable def AKd (p:pE):pO:=fun ρ K=>p ρ fun x _=>match x with | .int i=>K (some i) | _=>False
def AId (pe:pE) (pl ph:pO):pE:=fun ρ K=>pe ρ fun x f=>pl ρ fun lo=>ph ρ fun hi=>match x with
 | .lst xs=>K (.lst (cut xs lo hi)) (topF f (cut xs lo hi))
 | .tup xs=>K (.tup (cut xs lo hi)) f.el
 | .str z=>z.length≤16777216∧K (.str (Txt.slice z lo hi)) .fr
 | _=>False
section
variable {ι:Type} {Xs:ι→Cx} {e:Expr} {lo hi:Option Expr} {pe:pE} {pl ph:pO} {pos p2:Pos}
theorem AJw:QO Xs none AGf:=⟨_,fun _=>ADQ,fun W ρ σ H Q K ok h q=>q none H h (Step.refl ok.bag)⟩
theorem AJx (h:QE Xs e pe):QO Xs (some e) (AKd pe):=by
 obtain ⟨t,h1,h2⟩:=h
 refine ⟨_,fun i=>ADR (h1 i),fun W ρ σ H Q K ok hk q=>h2 W ρ σ H _ _ ok hk fun x f v H1 k1 s1 r1=>?_⟩
 split at k1
 ·exact ⟨_,ABC (ok.step s1) r1,q _ H1 k1 s1⟩
 ·exact k1.elim
noncomputable def rSlA (K:PySem.W.Frag):V→Option Int→Option Int→Hp→VK→Prop:=fun x lo hi H Q=>(rSlL K x lo hi H Q∨ANr x lo hi H Q)∨rSlS x lo hi H Q
theorem sl_A {X:Cx}:SlR X (rSlA X.K):=SlR.or (SlR.or AEc AOM) ALW
theorem Rps.cut {b:Addr} {Z:Addr→Prop} {H:Hp} {xs:List P} {vs:List V} {lo hi:Option Int} (h:Rps b Z H xs vs):Rps b Z H (L2.cut xs lo hi) (cutV vs lo hi):=by
 unfold L2.cut cutV
 rw [h.length]
 exact (h.drop _).take _
theorem AIe {Kf:PySem.W.Frag} (hK:∀ i,(Xs i).K=Kf) (he:QE Xs e pe) (hl:QO Xs lo pl) (hh:QO Xs hi ph):QE Xs (.Subscript e (.Slice lo hi none p2) pos) (AId pe pl ph):=by
 obtain ⟨te,e1,e2⟩:=he
 obtain ⟨tl,l1,l2⟩:=hl
 obtain ⟨th,h1,h2⟩:=hh
 refine ⟨tSl (rSlA Kf) te tl th,fun i=>ACx (by rw [←hK i];exact sl_A) (e1 i) (l1 i) (h1 i),fun W ρ σ H Q K ok hk q=>e2 W ρ σ H _ _ ok hk fun x f v H1 k1 s1 r1=>l2 W ρ σ H1 _ _ (ok.step s1) k1 fun o H2 k2 s2=>h2 W ρ σ H2 _ _ ((ok.step s1).step s2) k2 fun o' H3 k3 s3=>?_⟩
 have s13:=(s1.trans s2).trans s3
 have ok3:=ok.step s13
 have r3:=r1.step (ok.step s1) (s2.trans s3)
 split at k3
 ·obtain ⟨p,us,rfl,c,rv⟩:=AAz ok3 r3
  exact .inl (.inl ⟨p,us,rfl,.of c,fun l hl=>q _ _ _ _ k3 (s13.trans (Step.new s13.bag hl)) (RF.newL ok3 s13 rv.cut hl)⟩)
 ·obtain ⟨p,us,rfl,c,rv⟩:=ABo ok3 r3
  refine .inl (.inr ⟨p,us,rfl,c,fun hw=>q _ _ _ _ k3 s13 ?_,fun hw l hl=>q _ _ _ _ k3 (s13.trans (Step.new s13.bag hl)) ?_⟩)
  ·rename_i xs0
   have e:L2.cut xs0 o o'=xs0:=by
    unfold L2.cut
    rw [rv.length,hw.1,hw.2,List.drop_zero,Nat.sub_zero,←rv.length,List.take_length]
   rw [e]
   exact RF.ofEl (f:=f) ⟨p,us,rfl,c,rv⟩
  ·exact RF.ofEl (f:=f) ⟨l,_,rfl,AAG,(rv.cut).step (Step.new s13.bag hl) s13.bag⟩
 ·cases ACy ok3 r3
  exact .inr ⟨_,rfl,k3.1,q _ _ _ _ k3.2 s13 ALf⟩
 ·exact k3.elim
end
section
variable {W:Wd} {ρ:List S} {σ:St} {H:Hp} {x x':P} {k:Nat} {p:Addr} {o:HO}
theorem ABv (ok:Ok W ρ σ H) (h:OwS ρ σ p) {f:Fl} (hf:f=.cl∨f=.fr):(∀ q u,¬ Zof W ρ σ f q→H q=some u→¬ Zof W ρ σ f q∧upd H p o q=some u)∧∀ q us,H q=some (.tup us)→upd H p o q=some (.tup us):=by
 obtain ⟨_,_,_,_,o',q1,q2⟩:=ok.ow (.inr h)
 refine ⟨fun q u hz e=>⟨hz,?_⟩,fun q us e=>?_⟩
 ·rw [AAE (fun z=>hz (by subst z;rcases hf with rfl | rfl <;> simp [Zof,Ow,h]))]
  exact e
 ·rw [AAE (fun z=>by subst z;rw [e] at q1;cases q1;exact q2 us rfl)]
  exact e
theorem Ok.mut (ok:Ok W ρ σ H) (hk:ρ[k]?=some (.own x)) (hs:σ[k]?=some (some (.ref p))) (no:∀ ys,o≠.tup ys) (hrc:Rc W.b (Zf W ρ σ) (upd H p o) x' p):Ok W (ρ.set k (.own x')) σ (upd H p o):=by
 have how:OwS ρ σ p:=⟨k,x,hk,hs⟩
 obtain ⟨g0,gF,gb,ga,o',q1,q2⟩:=ok.ow (.inr how)
 have kl:k<ρ.length:=by
  rcases Nat.lt_or_ge k ρ.length with q | q
  ·exact q
  ·rw [List.getElem?_eq_none q] at hk;cases hk
 have get:∀ (i:Nat) (y:P),(ρ.set k (S.own x'))[i]?=some (S.own y)→∃ z,ρ[i]?=some (S.own z):=fun i y e=>by
  by_cases hi:k=i
  ·subst hi;exact ⟨x,hk⟩
  ·rw [List.getElem?_set_ne hi] at e;exact ⟨y,e⟩
 have ows:∀ q,OwS (ρ.set k (.own x')) σ q ↔ OwS ρ σ q:=fun q=>by
  constructor
  ·rintro ⟨i,y,h1,h2⟩
   obtain ⟨z,e⟩:=get i y h1
   exact ⟨i,z,e,h2⟩
  ·rintro ⟨i,y,h1,h2⟩
   by_cases hi:k=i
   ·subst hi;exact ⟨k,x',List.getElem?_set_self kl,h2⟩
   ·exact ⟨i,y,by rw [List.getElem?_set_ne hi];exact h1,h2⟩
 have zz:∀ f q,Zof W (ρ.set k (.own x')) σ f q ↔ Zof W ρ σ f q:=fun f q=>by
  have:Ow W (ρ.set k (.own x')) σ q ↔ Ow W ρ σ q:=or_congr Iff.rfl (ows q)
  cases f <;> simp only [Zof,this]
 have zf:∀ f,Zof W (ρ.set k (.own x')) σ f=Zof W ρ σ f:=fun f=>funext fun q=>propext (zz f q)
 refine ⟨ok.bag.put gb ga,ok.fb,fun q u hq e=>?_,fun q u e=>?_,fun q hq=>?_,by rw [List.length_set];exact ok.len,fun i s e=>?_,fun i j y z h1 h2 h3=>?_⟩
 ·rw [AAE (fun z=>by subst z;rw [g0] at e;cases e)]
  exact ok.old q u hq e
 ·rw [AAE (fun z=>by subst z;rw [gF] at e;cases e)]
  exact ok.frm q u e
 ·obtain ⟨h1,h2,h3,h4,u,h5,h6⟩:=ok.oo q hq
  refine ⟨h1,h2,h3,h4,?_⟩
  by_cases hqp:q=p
  ·subst hqp;exact ⟨o,AAG,no⟩
  ·exact ⟨u,by rw [AAE hqp];exact h5,h6⟩
 ·by_cases hi:k=i
  ·subst hi
   rw [List.getElem?_set_self kl] at e
   cases e
   exact ⟨_,hs,p,rfl,g0,gF,gb,ga,by rw [show Zf W (ρ.set k (.own x')) σ=Zf W ρ σ from zf .fr];exact hrc⟩
  ·rw [List.getElem?_set_ne hi] at e
   obtain ⟨u,h1,h2⟩:=ok.slot i s e
   refine ⟨u,h1,?_⟩
   cases s with
   | emp=>trivial
   | sh y =>
    obtain ⟨v,e1,e2⟩:=h2
    have kk:=ABv (o:=o) ok how (.inl rfl)
    exact ⟨v,e1,by rw [show Zc W (ρ.set k (.own x')) σ=Zc W ρ σ from zf .cl];exact e2.keep kk.1 kk.2⟩
   | fr y =>
    obtain ⟨v,e1,e2⟩:=h2
    have kk:=ABv (o:=o) ok how (.inr rfl)
    exact ⟨v,e1,by rw [show Zf W (ρ.set k (.own x')) σ=Zf W ρ σ from zf .fr];exact e2.keep kk.1 kk.2⟩
   | own y =>
    obtain ⟨r,e1,e2,e3,e4,e5,e6⟩:=h2
    have kk:=ABv (o:=o) ok how (f:=.fr) (.inr rfl)
    have nrp:r≠p:=fun z=>by
     subst z
     exact hi (ok.uniq k i x y hk e (by rw [hs,h1,e1]))
    refine ⟨r,e1,e2,e3,e4,e5,?_⟩
    rw [show Zf W (ρ.set k (.own x')) σ=Zf W ρ σ from zf .fr]
    cases y with
    | lst xs=>obtain ⟨vs,z1,z2⟩:=e6;exact ⟨vs,by rw [AAE nrp];exact z1,z2.keep kk.1 kk.2⟩
    | dT ks xs=>obtain ⟨vs,z1,z0,z2⟩:=e6;exact ⟨vs,by rw [AAE nrp];exact z1,z0,z2.keep kk.1 kk.2⟩
    | dK ks xs=>obtain ⟨vs,z1,z0,z2⟩:=e6;exact ⟨vs,by rw [AAE nrp];exact z1,z0,z2.keep kk.1 kk.2⟩
    | _=>exact e6.elim
 ·obtain ⟨y',e1⟩:=get i y h1
  obtain ⟨z',e2⟩:=get j z h2
  exact ok.uniq i j y' z' e1 e2 h3
theorem Ok.ownL {xs:List P} (ok:Ok W ρ σ H) (hk:ρ[k]?=some (.own (.lst xs))):∃ p vs,σ[k]?=some (some (.ref p))∧H p=some (.lst vs)∧Rps W.b (Zf W ρ σ) H xs vs∧OwS ρ σ p:=by
 obtain ⟨o,h1,p,h2,_,_,_,_,vs,h3,h4⟩:=ok.slot k _ hk
 subst h2
 exact ⟨p,vs,h1,h3,h4,k,_,hk,h1⟩
theorem Ok.mutL {xs ys:List P} {vs us:List V} (ok:Ok W ρ σ H) (hk:ρ[k]?=some (.own (.lst xs))) (hs:σ[k]?=some (some (.ref p))) (hr:Rps W.b (Zf W ρ σ) H ys us):Ok W (ρ.set k (.own (.lst ys))) σ (upd H p (.lst us)):=by
 have kk:=ABv (o:=HO.lst us) ok ⟨k,_,hk,hs⟩ (f:=.fr) (.inr rfl)
 exact ok.mut hk hs (fun _ z=>nomatch z) ⟨us,AAG,hr.keep kk.1 kk.2⟩
end
def ADX (k:Nat) (pe:pE):pS:=fun E ρ=>match ρ[k]? with
 | some (.own (.lst xs))=>pe ρ fun y f=>AAb y f=.nw∧xs.length<16777216∧E.nx (ρ.set k (.own (.lst (xs ++ [y]))))
 | _=>False
def AOS (k:Nat) (pi pe:pE):pS:=fun E ρ=>match ρ[k]? with
 | some (.own (.lst xs))=>pi ρ fun i _=>pe ρ fun y f=>∃ n,i=.int n∧0≤n∧n≤xs.length∧AAb y f=.nw∧xs.length<16777216∧E.nx (ρ.set k (.own (.lst (xs.take n.toNat ++ y :: xs.drop n.toNat))))
 | _=>False
def AEF (k:Nat) (pi pe:pE):pS:=fun E ρ=>match ρ[k]? with
 | some (.own (.lst xs))=>pe ρ fun y f=>pi ρ fun i _=>∃ n j,i=.int n∧ixN xs.length n=some j∧AAb y f=.nw∧E.nx (ρ.set k (.own (.lst (xs.set j y))))
 | _=>False
def APf (g:Int→Int→Int) (k:Nat) (pi pe:pE):pS:=fun E ρ=>match ρ[k]? with
 | some (.own (.lst xs))=>pi ρ fun i _=>∃ n j o,i=.int n∧ixN xs.length n=some j∧xs[j]?=some (.int o)∧pe ρ fun y _=>∃ d,y=.int d∧E.nx (ρ.set k (.own (.lst (xs.set j (.int (g o d))))))
 | _=>False
def AQh (j:Nat) (pi:pE):pS:=fun E ρ=>match ρ[j]? with
 | some (.own (.lst ys))=>pi ρ fun i _=>∃ m:Nat,i=.int (m:Int)∧m<2 ^ 62∧m<ys.length∧E.nx (ρ.set j (.own (.lst (ys.eraseIdx m))))
 | _=>False
def ADY (k j:Nat) (pi:pE):pS:=fun E ρ=>match ρ[k]?,ρ[j]? with
 | some (.own (.lst xs)),some (.own (.lst ys))=>pi ρ fun i _=>∃ (m:Nat) (z:P),i=.int (m:Int)∧m<2 ^ 62∧ys[m]?=some z∧xs.length<16777216∧k≠j∧E.nx ((ρ.set j (.own (.lst (ys.eraseIdx m)))).set k (.own (.lst (xs ++ [z]))))
 | _,_=>False
noncomputable def frzS (k:Nat) (ρ:List S):List S:=match ρ[k]? with
 | some (.own x)=>ρ.set k (.fr x)
 | _=>ρ
def pFrz (k:Nat) (p:pS):pS:=fun E ρ=>p E (frzS k ρ)
theorem ADp {W:Wd} {ρ:List S} {σ:St} {H Hs:Hp} {y:P} {f:Fl} {v:V} (ok:Ok W ρ σ H) (r:RF W ρ σ Hs f H y v) (h:AAb y f=.nw):Rp W.b (Zf W ρ σ) H y v:=by
 have:=(AFA ok r).2.2
 rw [h] at this
 exact this
section
variable {ι:Type} {Xs:ι→Cx} {a b:Expr} {pa pb:pE} {pos apos cpos p1:Pos} {x:Str} {k j:Nat} {Kf:PySem.W.Frag} {t u:TE}
theorem Ok.stepL {W:Wd} {ρ:List S} {σ:St} {H H':Hp} {k:Nat} {xs:List P} {p:Addr} {vs:List V} (ok:Ok W ρ σ H) (st:Step W.b W.a H H') (hs:σ[k]?=some (some (.ref p))) (hc:H p=some (.lst vs)) (hr:Rps W.b (Zf W ρ σ) H xs vs) (ho:OwS ρ σ p):H' p=some (.lst vs)∧Rps W.b (Zf W ρ σ) H' xs vs :=
 ⟨st.same p _ (ok.ow (.inr ho)).2.2.1 hc,hr.step (f:=.fr) st ok.bag⟩
theorem AJT (h2:RefE t pa):RefS (AKA (tBM Kf "list" AGV (tVar k) (ABy t tNil))) (ADX k pa):=fun W ρ σ H D E ok hk r=>by
 unfold ADX at hk
 split at hk
 ·rename_i xs e
  obtain ⟨p,vs,hs,hc,hr,ho⟩:=ok.ownL e
  refine ⟨.ref p,hs,.inl ⟨rfl,vs,.of hc⟩,h2 W ρ σ H _ _ ok hk fun y f v H1 ⟨k1,k2,k3⟩ s1 r1=>?_⟩
  have ok1:=ok.step s1
  obtain ⟨hc1,hr1⟩:=ok.stepL s1 hs hc hr ho
  refine ⟨p,vs,v,rfl,rfl,hc1,by rw [←hr.length];exact k2,r.nx _ _ _ k3 (ok1.mutL (vs:=vs) e hs (hr1.snoc (ADp ok1 r1 k1)))⟩
 ·exact hk.elim
theorem ADH (hK:∀ i,(Xs i).K=Kf) (ha:QE Xs a pa) (hN:∀ i,(Xs i).N[k]?=some x:=by intro _;rfl) (hv:∀ i,Vis (Xs i).env.scope x:=by intro _;trivial) (hd:(x == ("__debug__":Str))=false:=by decide) (hcd:(x == ("__classdict__":Str))=false:=by decide)
  (hl:(apos.endLine == cpos.line)=true:=by rfl) (hs:∀ i,swapsWith (.Call (.Attribute (.Name x p1) "append" apos) [a] [] cpos) none pos.line (Xs i).env=pure false:=by intro _;rfl)
  (hb:∀ i,attributeBase (.Name x p1) "append" (Xs i).env (eval (.Name x p1) (Xs i).env)=eval (.Name x p1) (Xs i).env:=by intro _;rfl)
  (hst:∀ i,starEach [a] (Xs i).env=[(false,eval a (Xs i).env)]:=by intro _;rfl):QS Xs (.Expr (.Call (.Attribute (.Name x p1) "append" apos) [a] [] cpos) pos) (ADX k pa):=by
 obtain ⟨t,h1,h2⟩:=ha
 refine ⟨_,fun i=>?_,AJT (Kf:=Kf) h2⟩
 rw [←hK i]
 exact AGR (AFa PySem.F.plainAttrs_list PySem.F.slot_list_append PySem.F.type_list_append ACd (AB2 (hN i) (hv i) hd hcd) (AAL (h1 i) AAY (hst i)) (hb i) (by rw [hst i];rfl) hl (hst i) rfl) (hs i)
theorem AKe (h1:RefE t pa) (h2:RefE u pb):RefS (tAsg u (gSub (tVar k) t AKL)) (AEF k pa pb):=fun W ρ σ H D E ok hk r=>by
 unfold AEF at hk
 split at hk
 ·rename_i xs e
  obtain ⟨p,vs,hs,hc,hr,ho⟩:=ok.ownL e
  refine h2 W ρ σ H _ _ ok hk fun y f v H1 ky s1 ry=>⟨.ref p,hs,h1 W ρ σ H1 _ _ (ok.step s1) ky fun iy fi vi H2 ⟨n,j,k0,k1,k2,k3⟩ s2 ri=>?_⟩
  have s12:=s1.trans s2
  have ok2:=ok.step s12
  obtain ⟨hc1,hr1⟩:=ok.stepL s12 hs hc hr ho
  subst k0
  cases ABC ok2 ri
  exact ⟨p,vs,n,j,rfl,rfl,hc1,by rw [←hr.length];exact k1,r.nx _ _ _ k3 (ok2.mutL (vs:=vs) e hs (hr1.set (ADp ok2 (ry.step (ok.step s1) s2) k2) j))⟩
 ·exact hk.elim
theorem ANC {p3:Pos} (ha:QE Xs a pa) (hb':QE Xs b pb) (hN:∀ i,(Xs i).N[k]?=some x:=by intro _;rfl) (hv:∀ i,Vis (Xs i).env.scope x:=by intro _;trivial) (hd:(x == ("__debug__":Str))=false:=by decide) (hcd:(x == ("__classdict__":Str))=false:=by decide)
  (hg:∀ i,∀ v,assign (.Subscript (.Name x p1) a p3) (Xs i).env v=(do
   let ov ←holding [v] (eval (.Name x p1) (Xs i).env)
   let iv ←holding [v,ov] (eval a (Xs i).env)
   standAt p3
   holding [v,ov,iv] (setItem ov iv v)
   release [v,ov,iv] []):=by intro _ _;rfl)
  (hs:∀ i,swapsWithSole [.Subscript (.Name x p1) a p3] b pos.line (Xs i).env=pure false:=by intro _;rfl) (hw:∀ i,swappedStores [.Subscript (.Name x p1) a p3] b (Xs i).env=pure none:=by intro _;rfl)
  (h1:∀ i,(assignEach [.Subscript (.Name x p1) a p3] (Xs i).env).map (·.2)=[assign (.Subscript (.Name x p1) a p3) (Xs i).env]:=by intro _;rfl):QS Xs (.Assign [.Subscript (.Name x p1) a p3] b pos) (AEF k pa pb):=by
 obtain ⟨t,e1,e2⟩:=ha
 obtain ⟨u,g1,g2⟩:=hb'
 exact ⟨_,fun i=>AFT (g1 i) (AH9 (AB2 (hN i) (hv i) hd hcd) (e1 i) ADh (hg i)) (hs i) (hw i) (h1 i),AKe e2 g2⟩
theorem Ok.frzS {W:Wd} {ρ:List S} {σ:St} {H:Hp} (hO:∀ p,¬ W.O p) (ok:Ok W ρ σ H):Ok W (frzS k ρ) σ H:=by
 unfold L2.frzS
 split
 ·rename_i x e
  obtain ⟨o,h1,p,h2,g0,gF,gb,ga,rc⟩:=ok.slot k _ e
  subst h2
  have kl:k<ρ.length:=by
   rcases Nat.lt_or_ge k ρ.length with q | q
   ·exact q
   ·rw [List.getElem?_eq_none q] at e;cases e
  have hks:k<σ.length:=by rw [ok.len];exact kl
  have eσ:σ.set k (some (.ref p))=σ:=by
   apply List.ext_getElem?
   intro i
   by_cases hi:k=i
   ·subst hi;rw [List.getElem?_set_self hks,h1]
   ·rw [List.getElem?_set_ne hi]
  have hn:=ADU (ρ:=ρ) (σ:=σ) (k:=k) (v:=.ref p) (s:=.fr x) (fun _ z=>nomatch z)
  have key:=ok.put (v:=.ref p) (s:=.fr x) (Step.refl ok.bag) kl (fun q z=>.inl (hn q z)) ?_ (fun y z=>nomatch z)
  ·rw [eσ] at key;exact key
  ·refine ⟨.ref p,rfl,?_⟩
   rw [eσ] at hn ⊢
   have kk:∀ q o,¬ Zf W ρ σ q→H q=some o→¬ Zf W (ρ.set k (.fr x)) σ q∧H q=some o:=mv1 (f:=.fr) (Step.refl ok.bag) (fun q z=>.inl (hn q z))
   have np:¬ Zf W (ρ.set k (.fr x)) σ p:=by
    intro z
    simp only [Zof] at z
    rcases z with z | (z | z) | z
    ·exact gb z
    ·-- owned around: the same cell
     exact hO p z
    ·obtain ⟨i,y,q1,q2⟩:=z
     by_cases hi:k=i
     ·subst hi;rw [List.getElem?_set_self kl] at q1;cases q1
     ·rw [List.getElem?_set_ne hi] at q1
      exact hi (ok.uniq k i x y e q1 (by rw [h1,q2]))
    ·exact z g0
   cases x with
   | lst xs=>obtain ⟨vs,z1,z2⟩:=rc;exact ⟨p,vs,rfl,np,z1,z2.keep kk fun q us e=>e⟩
   | dT ks xs=>obtain ⟨vs,z1,z0,z2⟩:=rc;exact ⟨p,vs,rfl,np,z1,z0,z2.keep kk fun q us e=>e⟩
   | dK ks xs=>obtain ⟨vs,z1,z0,z2⟩:=rc;exact ⟨p,vs,rfl,np,z1,z0,z2.keep kk fun q us e=>e⟩
   | _=>exact rc.elim
 ·exact ok
theorem AEG {st:Stmt} {p:pS} (k:Nat) (h:QS Xs st p):QS Xs st (pFrz k p):=by
 obtain ⟨t,h1,h2⟩:=h
 exact ⟨t,h1,fun W ρ σ H D E ok hk r=>h2 W _ σ H D E (ok.frzS r.noO) hk r⟩
def pAug (g:Int→Int→Int) (k:Nat) (pe:pE):pS:=fun E ρ=>match ρ[k]? with
 | some (.sh (.int o))=>pe ρ fun y _=>∃ d,y=.int d∧E.nx (ρ.set k (.sh (.int (g o d))))
 | _=>False
theorem AQi {m n:Nat} (h:m<n):seqIndex? (m:Int) n=some m:=by
 rw [seqIndex_of (by lia) (by lia)];simp
theorem AJU (h1:RefE t pa):RefS (AKA (tBM Kf "list" AGV (tVar k) (ABy (tBM Kf "list" ALT (tVar j) (ABy t tNil)) tNil))) (ADY k j pa):=fun W ρ σ H D E ok hk r=>by
 unfold ADY at hk
 split at hk
 ·rename_i xs ys e e'
  obtain ⟨p,vs,hs,hc,hr,ho⟩:=ok.ownL e
  obtain ⟨q,us,hs',hc',hr',ho'⟩:=ok.ownL e'
  refine ⟨.ref p,hs,.inl ⟨rfl,vs,.of hc⟩,.ref q,hs',.inl ⟨rfl,us,.of hc'⟩,h1 W ρ σ H _ _ ok hk fun y f v H1 ⟨m,z,k0,k1,k2,k3,k4,k5⟩ s1 r1=>?_⟩
  subst k0
  have ok1:=ok.step s1
  cases ABC ok1 r1
  obtain ⟨hc1,hr1⟩:=ok.stepL s1 hs hc hr ho
  obtain ⟨hc2,hr2⟩:=ok.stepL s1 hs' hc' hr' ho'
  have l:=hr.length
  have l':=hr'.length
  obtain ⟨w,e3,e4⟩:=hr2.get k2
  have hm:m<us.length:=by
   rcases Nat.lt_or_ge m us.length with qq | qq
   ·exact qq
   ·rw [List.getElem?_eq_none qq] at e3;cases e3
  have npq:p≠q:=fun zz=>by
   subst zz
   exact k4 (ok.uniq k j _ _ e e' (by rw [hs,hs']))
  refine ⟨q,us,m,m,w,rfl,rfl,hc2,by lia,by lia,AQi hm,e3,?_⟩
  have okA:=ok1.mutL (vs:=us) e' hs' (hr2.erase m)
  have eA:(ρ.set j (.own (.lst (ys.eraseIdx m))))[k]?=some (.own (.lst xs)):=by rw [List.getElem?_set_ne (Ne.symm k4)];exact e
  obtain ⟨p',vs',hsA,hcA,hrA,hoA⟩:=okA.ownL eA
  rw [hs] at hsA
  cases hsA
  rw [AAE npq,hc1] at hcA
  cases hcA
  refine ⟨p,vs,w,rfl,rfl,by rw [AAE npq];exact hc1,by rw [←l];exact k3,r.nx _ _ _ k5 ?_⟩
  refine okA.mutL (vs:=vs) eA hs (hrA.snoc ?_)
  have kk:=ABv (o:=HO.lst (us.eraseIdx m)) ok1 ho' (f:=.fr) (.inr rfl)
  have owe:∀ q',OwS (ρ.set j (.own (.lst (ys.eraseIdx m)))) σ q'→OwS ρ σ q':=fun q' ⟨i,y,a1,a2⟩=>by
   by_cases hi:j=i
   ·subst hi;exact ⟨j,_,e',a2⟩
   ·rw [List.getElem?_set_ne hi] at a1;exact ⟨i,y,a1,a2⟩
  have z5:=e4.keep kk.1 kk.2
  exact z5.keep (mv1 (f:=.fr) (Step.refl okA.bag) (fun q' z=>.inl (owe q' z))) fun _ _ e=>e
 ·exact hk.elim
theorem AHP {x':Str} {p2 ap2 cp2:Pos} (hK:∀ i,(Xs i).K=Kf) (ha:QE Xs a pa) (hN:∀ i,(Xs i).N[k]?=some x:=by intro _;rfl) (hv:∀ i,Vis (Xs i).env.scope x:=by intro _;trivial) (hd:(x == ("__debug__":Str))=false:=by decide) (hcd:(x == ("__classdict__":Str))=false:=by decide)
  (hN':∀ i,(Xs i).N[j]?=some x':=by intro _;rfl) (hv':∀ i,Vis (Xs i).env.scope x':=by intro _;trivial) (hd':(x' == ("__debug__":Str))=false:=by decide) (hcd':(x' == ("__classdict__":Str))=false:=by decide)
  (hl:(apos.endLine == cpos.line)=true:=by rfl) (hl':(ap2.endLine == cp2.line)=true:=by rfl) (hs:∀ i,swapsWith (.Call (.Attribute (.Name x p1) "append" apos) [.Call (.Attribute (.Name x' p2) "pop" ap2) [a] [] cp2] [] cpos) none pos.line (Xs i).env=pure false:=by intro _;rfl)
  (hb:∀ i,attributeBase (.Name x p1) "append" (Xs i).env (eval (.Name x p1) (Xs i).env)=eval (.Name x p1) (Xs i).env:=by intro _;rfl) (hb':∀ i,attributeBase (.Name x' p2) "pop" (Xs i).env (eval (.Name x' p2) (Xs i).env)=eval (.Name x' p2) (Xs i).env:=by intro _;rfl)
  (hst:∀ i,starEach [a] (Xs i).env=[(false,eval a (Xs i).env)]:=by intro _;rfl)
  (hst':∀ i,starEach [.Call (.Attribute (.Name x' p2) "pop" ap2) [a] [] cp2] (Xs i).env=[(false,eval (.Call (.Attribute (.Name x' p2) "pop" ap2) [a] [] cp2) (Xs i).env)]:=by intro _;rfl) :
  QS Xs (.Expr (.Call (.Attribute (.Name x p1) "append" apos) [.Call (.Attribute (.Name x' p2) "pop" ap2) [a] [] cp2] [] cpos) pos) (ADY k j pa):=by
 obtain ⟨t,h1,h2⟩:=ha
 refine ⟨_,fun i=>?_,AJU (Kf:=Kf) h2⟩
 rw [←hK i]
 exact AGR (AFa PySem.F.plainAttrs_list PySem.F.slot_list_append PySem.F.type_list_append ACd (AB2 (hN i) (hv i) hd hcd) (AAL (AFa PySem.F.plainAttrs_list PySem.F.slot_list_pop PySem.F.type_list_pop AMw (AB2 (hN' i) (hv' i) hd' hcd') (AAL (h1 i) AAY (hst i)) (hb' i) (by rw [hst i];rfl) hl' (hst i) rfl) AAY (hst' i)) (hb i) (by rw [hst' i];rfl) hl (hst' i) rfl) (hs i)
end
end L2
namespace L2
open PySem PySem.Spec PyProof.Rows PySem.W
section
variable {X:Cx} {pins:List (Addr×Obj)} {σ:St} {H:Hp} {s:Shared}
theorem Inv.laidF {h':Heap} {t':Nat} {D:Addr} {o:HO} {m:Str→Option Value} (I:Inv X pins σ H s) (hm:s.heap.Ns X.env.locals m) (hm':h'.Ns X.env.locals m) (k:∀ b u,b≠X.env.locals→s.heap.get? b=some u→h'.get? b=some u) (hD:H D=none) (nD:∀ u,s.heap.get? D≠some u)
  (new:AAe X.prog X.w (upd H D o) h' D o):Inv X pins σ (upd H D o) { s with heap:=h',toks:=t' }:=by
 refine I.step (g':=s.gens) (d':=s.drawn) (ch:=[]) (fun b hb=>nomatch hb) (fun b u n1 _ _ e _=>k b u n1 e) (fun b u n1 _ _ e _=>⟨u.slots,k b u n1 e⟩) (fun b u _ e n=>?_) (fun b u _ e=>?_) (fun b xs e=>?_) (fun b u v e=>?_) (fun b ps e=>⟨#[],?_⟩) (fun m2 h2=>?_) ?_ I.bare
 ·rw [AAE (fun z=>by subst z;exact nD u e)];exact n
 ·by_cases hb:b=X.env.locals
  ·subst hb;obtain ⟨o',_,_,e',_⟩:=hm';exact ⟨o',e'⟩
  ·exact ⟨u,k b u hb e⟩
 ·rw [AAE (AAJ e hD)];exact e
 ·rw [AAE (AAJ e hD)];exact e
 ·rw [AAE (AAJ e hD)];simpa using e
 ·rw [h2.eq_nsMap,←hm.eq_nsMap];exact hm'
 ·intro b u e
  by_cases hb:b=D
  ·subst hb;rw [AAG] at e;cases e;exact new
  ·rw [AAE hb] at e
   have nl:∀ c v,H c=some v→c≠X.env.locals:=fun c v q z=>by subst z;rw [I.free] at q;cases q
   refine (I.hok b u e).stay (fun c v hc q=>k c v ?_ q) (fun c q=>?_) fun c xs q=>?_
   ·rcases hc with z | z
    ·rw [z];exact nl b u e
    ·exact nl c _ z
   ·rw [AAE (AAJ q hD)];exact q
   ·rw [AAE (AAJ q hD)];exact q
end
section
variable {prog:Program} {w:World} {A:Around} {E:Value→Shared→Prop} {s:Shared}
theorem AFt {a:Addr} {us:List Value} {n:Nat} {F:PySem.Fin→Shared→Prop} (ho:s.heap.get? a=some (seqObj "list" us.toArray n)) (h2:us.length<2) (h:F (.done (.ret .none)) { s with heap:=sortedHeap s.heap a us us.toArray }) :
  wpAny (model prog w) A (Builtin.«list.sort» ⟨[.ref a],[]⟩) F E s:=by
 have ha:=Heap.lt_size ho
 rw [list_sort_plain]
 refine wB (listItems_at ho rfl (wB (listUpdate_at ho rfl ?_)))
 have ho1:=get?_update_seq ho (fun _=>#[])
 refine wB (seqEpoch_at ho1 rfl (wB (wpAny_newTuple (wB (wpAny_newList (wpAny_holding ?_))))))
 have ho6:(((s.heap.update a (Obj.mapSeq fun _=>#[])).push (seqObj "tuple" us.toArray 0)).push (seqObj "list" #[] 0)).get? a=_ :=
  (Heap.get?_push_ne _ a _ (by rw [size_push',Heap.size_update];exact Nat.ne_of_lt (Nat.lt_succ_of_lt ha))).trans ((Heap.get?_push_ne _ a _ (by rw [Heap.size_update];exact Nat.ne_of_lt ha)).trans ho1)
 have hz:us.toArray.size<2:=by rw [List.size_toArray];exact h2
 dsimp only
 rw [if_pos hz,if_pos hz]
 refine wB (wP ?_)
 rw [StateT.run_pure]
 refine wB (wP (wB (seqEpoch_at ho6 rfl (wB (listUpdate_at ho6 rfl ?_ (hsz2:=?_))))))
 ·simp only [bne_self_eq_false,Bool.false_eq_true,if_false]
  have e:(arrOf (SortSt.mk' general' (us.toArray.zip us.toArray) #[] 7 none)).map (·.2)=us.toArray:=by
   show ((us.toArray.zip us.toArray).map (·.2))=us.toArray
   apply Array.ext'
   simp [List.map_snd_zip]
  rw [←e] at h
  exact wP h
 ·rw [Array.size_map]
  show (us.toArray.zip us.toArray).size≤_
  rw [Array.size_zip,sizeLine_eq]
  lia
theorem AIf {l:Addr} {us:List Value} {Q:Value→Shared→Prop} (hl:s.heap.IsList l us.toArray) (h2:us.length<2) (q:Q (.ref (s.heap.objs.size + 1)) { s with heap:=sortedAll s.heap us us.toArray }) :
  wpAny (model prog w) A (call (.builtin "sorted") [.ref l]) Q E s:=by
 refine Calls.call_function_entry kind_sorted plain_sorted entry_sorted (args_sorted1 _) ?_
 unfold Builtin.«sorted»
 refine wB (m:=checkCount "sorted" 1 1 _) (wP (wB (collect_list hl (wB (wpAny_newList ?_ (by rw [sizeLine_eq];lia))) (by rw [sizeLine_eq];lia))))
 have hsz:((s.heap.push (seqObj "list" #[] 0)).update s.heap.objs.size (Obj.mapSeq (· ++ us.toArray))).objs.size=s.heap.objs.size + 1:=by
  rw [Heap.size_update,size_push']
 have hoL:=Heap.get?_push_size ((s.heap.push (seqObj "list" #[] 0)).update s.heap.objs.size (Obj.mapSeq (· ++ us.toArray))) (o:=seqObj "list" us.toArray 0) rfl
 rw [hsz] at hoL
 show wpAny _ _ _ _ _ { s with heap:=((s.heap.push (seqObj "list" #[] 0)).update s.heap.objs.size (Obj.mapSeq (· ++ us.toArray))).push (seqObj "list" us.toArray 0) }
 rw [hsz]
 exact wB (wpAny_holding (wpAny_call_entry slot_list_sort ⟨_,hoL,rfl⟩ entry_list_sort (AFt hoL h2 ⟨_,rfl,wP ⟨_,rfl,q⟩⟩) (args_list_sort _)))
end
noncomputable abbrev refs (ps:List (Addr×List Int)):List V:=ps.map fun q=>V.ref q.1
def SrtR (rs:List (List Int)):Prop:=rs.Pairwise fun a b=>HT.lexLt b a=false
section
variable {X:Cx} {pins:List (Addr×Obj)} {σ:St} {H:Hp} {s:Shared}
theorem AHQ:∀ {ps:List (Addr×List Int)} {us:List Value},Vals (refs ps) us→us=ps.map fun q=>Value.ref q.1
 | [],_,.nil=>rfl
 | q :: r,_,.cons e t=>by rw [AHQ t,show _=Value.ref q.1 from e];rfl
theorem AEH:∀ (ps:List (Addr×List Int)),Vals (refs ps) (ps.map fun q=>Value.ref q.1)
 | []=>.nil
 | q :: r=>.cons rfl (AEH r)
theorem ALu (M:Model) (h:Heap) (i:Int) (t:Tok):Looks M h (typeOf (.int i t)) (.type "int"):=fun A Q E s _ q=>wP q
theorem AAe.there {P':Program} {w:World} {h:Heap} {a:Addr} {o:HO} (x:AAe P' w H h a o):∃ u,h.get? a=some u:=by
 cases o with
 | lst xs=>obtain ⟨_,_,_,_,e⟩:=x;exact ⟨_,e⟩
 | tup xs=>obtain ⟨_,_,_,u,e,_⟩:=x;exact ⟨u,e⟩
 | dK kvs=>obtain ⟨_,_,_,_,u,_,_,e,_⟩:=x;exact ⟨u,e⟩
 | dT kvs=>obtain ⟨_,_,_,_,u,_,_,e,_⟩:=x;exact ⟨u,e⟩
 | set S n=>obtain ⟨u,_,_,_,e,_⟩:=x;exact ⟨u,e⟩
 | ins C dx fs=>obtain ⟨_,_,_,e,_⟩:=x;exact ⟨_,e⟩
 | own y=>exact x
 | xd fs=>obtain ⟨_,⟨u,_,_,e,_⟩,_⟩:=x;exact ⟨u,e⟩
 | met f y=>exact ⟨_,x⟩
 | rng lo hi=>obtain ⟨_,_,_,e⟩:=x;exact ⟨_,e⟩
 | frz u v=>exact ⟨_,x.1⟩
 | tbl ps=>exact ⟨_,x⟩
 | ext φ=>exact x.2.1
theorem AFu {h:Heap}:∀ {ps:List (Addr×List Int)},(∀ q∈ps,∃ us,IntsAre us q.2∧∃ o n,h.get? q.1=some o∧o.cls=.type "tuple"∧o.data=.seq us.toArray n)→(∀ q∈ps,0<q.2.length) →
  ∃ fs,KatTups h (ps.map fun q=>Value.ref q.1) fs∧fs.length=ps.length∧∀ v∈fs,∃ i t,v=Value.int i t
 | [],_,_=>⟨[],.nil,rfl,fun v hv=>nomatch hv⟩
 | q :: r,h1,h2=>by
  obtain ⟨fs,a,b,c⟩:=AFu (ps:=r) (fun q hq=>h1 q (List.mem_cons_of_mem _ hq)) fun q hq=>h2 q (List.mem_cons_of_mem _ hq)
  obtain ⟨us,i1,o,n,e1,e2,e3⟩:=h1 q List.mem_cons_self
  have h0:=h2 q List.mem_cons_self
  generalize q.2=qs at i1 h0
  have hl:=i1.length
  match us,i1,e3 with
  | v :: us,i1,e3 =>
   obtain ⟨i,t,ev⟩:∃ i t,v=Value.int i t:=by cases i1 with | cons i t _=>exact ⟨i,t,rfl⟩
   refine ⟨v :: fs,.cons e1 e2 e3 (by simp) a,by simp [b],fun x hx=>?_⟩
   rcases List.mem_cons.mp hx with rfl | hx
   ·exact ⟨i,t,ev⟩
   ·exact c x hx
  | [],i1,e3=>exfalso;simp at hl;lia
end
end L2
namespace L2
open PySem PySem.Spec PyProof.Rows
section
variable {κ κ':Type} [DecidableEq κ] [DecidableEq κ']
noncomputable def AA6:List κ→List P→κ→Option P
 | k0 :: ks,v :: vs,k=>if k0=k then some v else AA6 ks vs k
 | _,_,_=>none
noncomputable def AB0 (ks:List κ) (k:κ):List κ:=if k∈ks then ks else ks ++ [k]
noncomputable def ACj (ks:List κ) (vs:List P) (k:κ) (x:P):List P:=if k∈ks then List.zipWith (fun k0 v=>if k0=k then x else v) ks vs else vs ++ [x]
theorem ACs {b:Addr} {Z:Addr→Prop} {H:Hp} {g:κ→κ'} (hg:∀ a c,g a=g c→a=c):∀ {ks:List κ} {xs:List P} {vs:List V} {k:κ},Rps b Z H xs vs→ks.length=xs.length →
  (∀ z,AA6 ks xs k=some z→∃ v,valV ((ks.map g).zip vs) (g k)=some v∧Rp b Z H z v)∧(AA6 ks xs k=none→valV ((ks.map g).zip vs) (g k)=none)
 | [],[],vs,k,_,_=>⟨(fun z h=>(nomatch h)),(fun _=>rfl)⟩
 | k0 :: ks,x :: xs,vs,k,r,hl=>by
  obtain ⟨v,t,rfl,r1,r2⟩:=r
  have ih:=ACs (k:=k) hg r2 (by simpa using hl)
  simp only [AA6,List.map_cons,List.zip_cons_cons]
  by_cases e:k0=k
  ·subst e
   rw [if_pos rfl,ADi rfl]
   exact ⟨(fun z h=>⟨v,rfl,by cases h;exact r1⟩),(fun h=>(nomatch h))⟩
  ·rw [if_neg e]
   have ne:¬ g k0=g k:=fun z=>e (hg _ _ z)
   have:valV ((g k0,v) :: (ks.map g).zip t) (g k)=valV ((ks.map g).zip t) (g k):=by unfold valV;rw [List.find?_cons];simp [ne]
   rw [this]
   exact ih
theorem AFv {g:κ→κ'} (hg:∀ a c,g a=g c→a=c) {k:κ} {v:V}:∀ (ks:List κ) (vs:List V),((ks.map g).zip vs).map (fun kv=>if kv.1=g k then (kv.1,v) else kv)=(ks.map g).zip (List.zipWith (fun k0 u=>if k0=k then v else u) ks vs)
 | [],_=>by simp
 | _ :: _,[]=>by simp
 | k0 :: ks,u :: vs=>by
  simp only [List.map_cons,List.zip_cons_cons,List.zipWith_cons_cons,AFv hg ks vs]
  by_cases e:k0=k
  ·subst e;simp
  ·have ne:¬ g k0=g k:=fun z=>e (hg _ _ z)
   simp [e,ne]
theorem AFC {g:κ→κ'} (hg:∀ a c,g a=g c→a=c) {k:κ}:∀ {ks:List κ} {vs:List V},ks.length=vs.length→((((ks.map g).zip vs).any fun kv=>decide (kv.1=g k))=true ↔ k∈ks)
 | [],_,_=>by simp
 | k0 :: ks,[],h=>by simp at h
 | k0 :: ks,u :: vs,h=>by
  simp only [List.map_cons,List.zip_cons_cons,List.any_cons,Bool.or_eq_true,decide_eq_true_iff,AFC (k:=k) hg (show ks.length=vs.length by simpa using h),List.mem_cons]
  constructor
  ·rintro (z | z)
   ·exact .inl (hg _ _ z).symm
   ·exact .inr z
  ·rintro (z | z)
   ·exact .inl (by rw [z])
   ·exact .inr z
theorem AOT {g:κ→κ'} (hg:∀ a c,g a=g c→a=c) {ks:List κ} {vs:List V} {k:κ} {v:V} (hl:ks.length=vs.length):putK ((ks.map g).zip vs) (g k) v=((AB0 ks k).map g).zip (if k∈ks then List.zipWith (fun k0 u=>if k0=k then v else u) ks vs else vs ++ [v]):=by
 unfold putK AB0
 by_cases hk:k∈ks
 ·rw [if_pos ((AFC hg hl).mpr hk),if_pos hk,if_pos hk,AFv hg]
 ·rw [if_neg (fun z=>hk ((AFC hg hl).mp z)),if_neg hk,if_neg hk,List.map_append,List.zip_append (by simpa using hl)]
  rfl
theorem AIg {b:Addr} {Z:Addr→Prop} {H:Hp} {x:P} {v:V} (rx:Rp b Z H x v) {k:κ}:∀ {ks:List κ} {xs:List P} {vs:List V},Rps b Z H xs vs→ks.length=xs.length →
  Rps b Z H (List.zipWith (fun k0 y=>if k0=k then x else y) ks xs) (List.zipWith (fun k0 u=>if k0=k then v else u) ks vs)
 | [],[],vs,r,_=>by simp [Rps]
 | k0 :: ks,y :: xs,vs,r,hl=>by
  obtain ⟨u,t,rfl,r1,r2⟩:=r
  refine ⟨_,_,rfl,?_,AIg rx r2 (by simpa using hl)⟩
  by_cases e:k0=k
  ·dsimp only;rw [if_pos e,if_pos e];exact rx
  ·dsimp only;rw [if_neg e,if_neg e];exact r1
theorem AGg {b:Addr} {Z:Addr→Prop} {H:Hp} {g:κ→κ'} (hg:∀ a c,g a=g c→a=c) {ks:List κ} {xs:List P} {vs:List V} {k:κ} {x:P} {v:V} (r:Rps b Z H xs vs) (hl:ks.length=xs.length) (rx:Rp b Z H x v) :
  ∃ vs',putK ((ks.map g).zip vs) (g k) v=((AB0 ks k).map g).zip vs'∧Rps b Z H (ACj ks xs k x) vs':=by
 refine ⟨_,AOT hg (hl.trans r.length),?_⟩
 unfold ACj
 split
 ·exact AIg rx r hl
 ·exact r.snoc rx
theorem AC2 {ks:List κ} {xs:List P} {k:κ} {x:P} (hl:ks.length=xs.length):(AB0 ks k).length=(ACj ks xs k x).length:=by
 unfold AB0 ACj
 split
 ·rw [List.length_zipWith];lia
 ·simp [hl]
end
theorem ACD (a c:List Int) (h:keyI a=keyI c):a=c:=by rw [←AEC a,h,AEC]
theorem AFD (a c:Str) (h:keyS a=keyS c):a=c:=Sum.inr.inj h
noncomputable def keyT:P→Option (List Int)
 | .tup xs=>xs.mapM fun x=>match x with | .int i=>some i | _=>none
 | _=>none
@[simp] theorem AHR (r:List Int):keyT (.tup (r.map P.int))=some r:=by
 simp only [keyT]
 induction r with
 | nil=>rfl
 | cons x r ih=>rw [List.map_cons,List.mapM_cons,ih];rfl
theorem AOU {x:P} {r:List Int} (h:keyT x=some r):x=.tup (r.map P.int):=by
 cases x with
 | tup xs =>
  simp only [keyT] at h
  congr 1
  induction xs generalizing r with
  | nil=>cases h;rfl
  | cons y xs ih =>
   rw [List.mapM_cons] at h
   cases y with
   | int i =>
    cases e:(xs.mapM fun x=>match x with | .int i=>some i | _=>none) with
    | none=>rw [e] at h;cases h
    | some r'=>rw [e] at h;cases h;rw [ih e];rfl
   | _=>cases h
 | _=>cases h
def AKf (pd pk:pE):pE:=fun ρ K=>pd ρ fun x f=>pk ρ fun y _=>match x with
 | .dT ks vs=>∃ r z,keyT y=some r∧AA6 ks vs r=some z∧K z f.el
 | .dK ks vs=>match y with | .str k=>∃ z,AA6 ks vs k=some z∧K z f.el | _=>False
 | _=>False
def AGh (pd pk px:pE):pE:=fun ρ K=>pd ρ fun x f=>(x.mut=true∧∀ xs,x≠.lst xs)∧pk ρ fun y _=>px ρ fun z _=>match x with
 | .dT ks vs=>∃ r,keyT y=some r∧P.imms vs=true∧z.imm=true∧K ((AA6 ks vs r).getD z) .fr
 | .dK ks vs=>match y with | .str k=>P.imms vs=true∧z.imm=true∧K ((AA6 ks vs k).getD z) .fr | _=>False
 | _=>False
section
variable {W:Wd} {ρ:List S} {σ:St} {Hs H:Hp} {f:Fl} {v:V} {xs:List P}
theorem ADZ {ks:List (List Int)} (ok:Ok W ρ σ H) (r:RF W ρ σ Hs f H (.dT ks xs) v):∃ p vs,v=.ref p∧p≠W.b∧H p=some (.dT ((ks.map keyI).zip vs))∧ks.length=xs.length∧Rps W.b (Zof W ρ σ f) H xs vs:=by
 cases f with
 | bo=>obtain ⟨p,e,o,us,h1,h2,h3⟩:=r;exact ⟨p,us,e,(ok.ow (.inr o)).2.2.1,h1,h2,h3⟩
 | nw=>obtain ⟨p,us,e,z,h1,h2,h3⟩:=r.1;exact ⟨p,us,e,fun q=>z (q ▸ Zof.b),h1,h2,h3⟩
 | fr=>obtain ⟨p,us,e,z,h1,h2,h3⟩:=r;exact ⟨p,us,e,fun q=>z (q ▸ Zof.b (f:=.fr)),h1,h2,h3⟩
 | cl=>obtain ⟨p,us,e,z,h1,h2,h3⟩:=r;exact ⟨p,us,e,fun q=>z (q ▸ Zof.b (f:=.cl)),h1,h2,h3⟩
 | rf=>obtain ⟨p,us,e,z,h1,h2,h3⟩:=r;exact ⟨p,us,e,fun q=>z (q ▸ Zof.b (f:=.rf)),h1,h2,h3⟩
 | an=>obtain ⟨p,us,e,z,h1,h2,h3⟩:=r;exact ⟨p,us,e,fun q=>z (q ▸ Zof.b (f:=.an)),h1,h2,h3⟩
theorem AGi {ks:List Str} (ok:Ok W ρ σ H) (r:RF W ρ σ Hs f H (.dK ks xs) v):∃ p vs,v=.ref p∧p≠W.b∧H p=some (.dK ((ks.map keyS).zip vs))∧ks.length=xs.length∧Rps W.b (Zof W ρ σ f) H xs vs:=by
 cases f with
 | bo=>obtain ⟨p,e,o,us,h1,h2,h3⟩:=r;exact ⟨p,us,e,(ok.ow (.inr o)).2.2.1,h1,h2,h3⟩
 | nw=>obtain ⟨p,us,e,z,h1,h2,h3⟩:=r.1;exact ⟨p,us,e,fun q=>z (q ▸ Zof.b),h1,h2,h3⟩
 | fr=>obtain ⟨p,us,e,z,h1,h2,h3⟩:=r;exact ⟨p,us,e,fun q=>z (q ▸ Zof.b (f:=.fr)),h1,h2,h3⟩
 | cl=>obtain ⟨p,us,e,z,h1,h2,h3⟩:=r;exact ⟨p,us,e,fun q=>z (q ▸ Zof.b (f:=.cl)),h1,h2,h3⟩
 | rf=>obtain ⟨p,us,e,z,h1,h2,h3⟩:=r;exact ⟨p,us,e,fun q=>z (q ▸ Zof.b (f:=.rf)),h1,h2,h3⟩
 | an=>obtain ⟨p,us,e,z,h1,h2,h3⟩:=r;exact ⟨p,us,e,fun q=>z (q ▸ Zof.b (f:=.an)),h1,h2,h3⟩
theorem AC3 {x:P} {r:List Int} (ok:Ok W ρ σ H) (hk:keyT x=some r) (rx:RF W ρ σ Hs f H x v):∃ q,v=.ref q∧H q=some (.tup ((keyI r).map kV)):=by
 rw [AOU hk] at rx
 obtain ⟨q,us,e,c,r1⟩:=ABo ok rx
 rw [Rps.ints.mp r1] at c
 exact ⟨q,e,by rw [c];simp [keyI,List.map_map,Function.comp_def,kV]⟩
end
section
variable {ι:Type} {Xs:ι→Cx} {o i e c:Expr} {pd pk px:pE} {pos apos cpos:Pos}
theorem AEk (hu:∀ j,(Xs j).A.units + 1<cLine) (ho:QE Xs o pd) (hi:QE Xs i pk) (hs:NoSl i):QE Xs (.Subscript o i pos) (AKf pd pk):=by
 obtain ⟨td,d1,d2⟩:=ho
 obtain ⟨tk,k1,k2⟩:=hi
 refine ⟨_,fun j=>AOH (hu j) (d1 j) (k1 j) hs,fun W ρ σ H Q K ok hk q=>d2 W ρ σ H _ _ ok hk fun x f v H1 h1 s1 r1=>k2 W ρ σ H1 _ _ (ok.step s1) h1 fun y g u H2 h2 s2 r2=>?_⟩
 have s12:=s1.trans s2
 have ok2:=ok.step s12
 have r1':=r1.step (ok.step s1) s2
 split at h2
 ·obtain ⟨r,z,e1,e2,e3⟩:=h2
  obtain ⟨p,us,rfl,_,c1,c2,c3⟩:=ADZ ok2 r1'
  obtain ⟨q2,rfl,c4⟩:=AC3 ok2 e1 r2
  obtain ⟨w,a1,a2⟩:=(ACs ACD (k:=r) c3 c2).1 z e2
  exact ⟨p,w,rfl,by rw [←a1];exact DGet.t c1 c4,q z _ w H2 e3 s12 (RF.ofEl a2)⟩
 ·split at h2
  ·obtain ⟨z,e2,e3⟩:=h2
   rename_i ks vs _ k
   obtain ⟨p,us,rfl,_,c1,c2,c3⟩:=AGi ok2 r1'
   cases ACy ok2 r2
   obtain ⟨w,a1,a2⟩:=(ACs AFD (k:=k) c3 c2).1 z e2
   exact ⟨p,w,rfl,by rw [←a1];exact DGet.k (k:=Sum.inr k) c1,q z _ w H2 e3 s12 (RF.ofEl a2)⟩
  ·exact h2.elim
 ·exact h2.elim
theorem AIh {κ κ':Type} [DecidableEq κ] [DecidableEq κ'] {b:Addr} {Z:Addr→Prop} {H:Hp} {g:κ→κ'} (hg:∀ a c,g a=g c→a=c) {ks:List κ} {xs:List P} {vs:List V} {k:κ} {z:P} {u:V} (r:Rps b Z H xs vs) (hl:ks.length=xs.length) (hi:P.imms xs=true) (hz:z.imm=true) (rz:Rp b Z H z u) :
  Rp b Z H ((AA6 ks xs k).getD z) ((valV ((ks.map g).zip vs) (g k)).getD u)∧((AA6 ks xs k).getD z).imm=true:=by
 cases e:AA6 ks xs k with
 | none=>rw [(ACs hg (k:=k) r hl).2 e];exact ⟨rz,hz⟩
 | some w =>
  obtain ⟨v,a1,a2⟩:=(ACs hg (k:=k) r hl).1 w e
  rw [a1]
  refine ⟨a2,?_⟩
  have:∀ {ks:List κ} {xs:List P},P.imms xs=true→AA6 ks xs k=some w→w.imm=true:=by
   intro ks
   induction ks with
   | nil=>intro xs _ h;cases h
   | cons k0 ks ih =>
    intro xs hx h
    cases xs with
    | nil=>cases h
    | cons x xs =>
     rw [ADD,Bool.and_eq_true] at hx
     simp only [AA6] at h
     split at h
     ·cases h;exact hx.1
     ·exact ih hx.2 h
  exact this hi e
theorem AEI (hu:∀ j,(Xs j).A.units + 1<cLine) (ho:QE Xs o pd) (hi:QE Xs e pk) (hx:QE Xs c px)
  (m:∀ j,M2 (Xs j) o "get" apos e c cpos:=by intro _;exact ⟨rfl,rfl,rfl,rfl⟩):QE Xs (.Call (.Attribute o "get" apos) [e,c] [] cpos) (AGh pd pk px):=by
 obtain ⟨td,d1,d2⟩:=ho
 obtain ⟨tk,k1,k2⟩:=hi
 obtain ⟨tx,x1,x2⟩:=hx
 refine ⟨_,fun j=>AMy (hu j) (d1 j) (k1 j) (x1 j) (m j),fun W ρ σ H Q K ok hk q=>d2 W ρ σ H _ _ ok hk fun x f v H1 ⟨⟨hmu,hnl⟩,h1⟩ s1 r1=>?_⟩
 have ok1:=ok.step s1
 obtain ⟨p,rfl,hd⟩:∃ p,v=.ref p∧IsD H1 p:=by
  cases x with
  | dT ks xs=>obtain ⟨p,us,e,_,c1,_⟩:=ADZ ok1 r1;exact ⟨p,e,.inr ⟨_,.of c1⟩⟩
  | dK ks xs=>obtain ⟨p,us,e,_,c1,_⟩:=AGi ok1 r1;exact ⟨p,e,.inl ⟨_,.of c1⟩⟩
  | lst xs=>exact absurd rfl (hnl xs)
  | _=>simp [P.mut] at hmu
 refine ⟨p,rfl,hd,k2 W ρ σ H1 _ _ ok1 h1 fun y g u H2 h2 s2 r2=>x2 W ρ σ H2 _ _ (ok1.step s2) h2 fun z gz uz H3 h3 s3 r3=>?_⟩
 have s13:=(s1.trans s2).trans s3
 have ok3:=ok.step s13
 have r1':=r1.step ok1 (s2.trans s3)
 have r2':=r2.step (ok1.step s2) s3
 split at h3
 ·obtain ⟨r,e1,e2,e3,e4⟩:=h3
  obtain ⟨p',us,e,_,c1,c2,c3⟩:=ADZ ok3 r1'
  cases e
  obtain ⟨q2,rfl,c4⟩:=AC3 ok3 e1 r2'
  have c3:Rps W.b (Zf W ρ σ) H3 _ us:=c3.imm e2
  have rz:Rp W.b (Zf W ρ σ) H3 z uz:=(r3.any ok3).imm e3
  exact ⟨_,DGet.t c1 c4,q _ _ _ H3 e4 s13 (AIh ACD (k:=r) c3 c2 e2 e3 rz).1⟩
 ·split at h3
  ·obtain ⟨e2,e3,e4⟩:=h3
   rename_i ks vs _ k
   obtain ⟨p',us,e,_,c1,c2,c3⟩:=AGi ok3 r1'
   cases e
   cases ACy ok3 r2'
   have c3:Rps W.b (Zf W ρ σ) H3 _ us:=c3.imm e2
   have rz:Rp W.b (Zf W ρ σ) H3 z uz:=(r3.any ok3).imm e3
   exact ⟨_,DGet.k (k:=Sum.inr k) c1,q _ _ _ H3 e4 s13 (AIh AFD (k:=k) c3 c2 e2 e3 rz).1⟩
  ·exact h3.elim
 ·exact h3.elim
def AIi:pE:=fun _ K=>K (.dT [] []) .nw
def APg:pE:=fun _ K=>K (.dK [] []) .nw
theorem AFE:QE Xs (.Dict [] [] pos) AIi:=⟨_,fun _=>AMx,fun W ρ σ H Q K ok hk q=>fun p hp=>q _ _ _ _ hk (Step.new ok.bag hp) ⟨⟨p,[],rfl,fun z=>ok.dom (f:=.fr) z hp,AAG,rfl,rfl⟩,fun _=>⟨p,rfl,hp⟩⟩⟩
end
def AFw (k:Nat) (pk pe:pE):pS:=fun E ρ=>match ρ[k]? with
 | some (.own (.dT ks vs))=>pe ρ fun y f=>pk ρ fun z _=>∃ r,keyT z=some r∧AAb y f=.nw∧ks.length<16777216∧E.nx (ρ.set k (.own (.dT (AB0 ks r) (ACj ks vs r y))))
 | some (.own (.dK ks vs))=>pe ρ fun y f=>pk ρ fun z _=>∃ r,z=.str r∧AAb y f=.nw∧ks.length<16777216∧E.nx (ρ.set k (.own (.dK (AB0 ks r) (ACj ks vs r y))))
 | _=>False
section
variable {ι:Type} {Xs:ι→Cx} {a b:Expr} {pa pb:pE} {pos pos' p1:Pos} {x:Str} {k:Nat} {t u:TE}
theorem ALv (h1:RefE t pa) (h2:RefE u pb):RefS (ANp (tVar k) t u) (AFw k pa pb):=fun W ρ σ H D E ok hk r=>by
 unfold AFw at hk
 split at hk
 ·rename_i ks xs e
  obtain ⟨w,hs,p,e2,_,_,gb,_,vs,c1,c2,c3⟩:=ok.slot k _ e
  subst e2
  have ho:OwS ρ σ p:=⟨k,_,e,hs⟩
  refine h2 W ρ σ H _ _ ok hk fun y f v H1 ky s1 ry=>⟨.ref p,hs,h1 W ρ σ H1 _ _ (ok.step s1) ky fun z fz vz H2 ⟨rr,k0,k1,k2,k3⟩ s2 rz=>?_⟩
  have s12:=s1.trans s2
  have ok2:=ok.step s12
  obtain ⟨q,rfl,c4⟩:=AC3 ok2 k0 rz
  have c1':=s12.same p _ gb c1
  have c3':Rps W.b (Zf W ρ σ) H2 xs vs:=c3.step (f:=.fr) s12 ok.bag
  have ry':=ADp ok2 (ry.step (ok.step s1) s2) k1
  refine ⟨p,_,rfl,DPut.t c1' c4 (by rw [List.length_zip,List.length_map];exact Nat.lt_of_le_of_lt (Nat.min_le_left _ _) k2),r.nx _ _ _ k3 ?_⟩
  obtain ⟨vs',f1,f2⟩:=AGg ACD (k:=rr) c3' c2 ry'
  rw [f1]
  have kk:=ABv (o:=HO.dT (((AB0 ks rr).map keyI).zip vs')) ok2 ho (f:=.fr) (.inr rfl)
  exact ok2.mut e hs (fun _ z=>nomatch z) ⟨vs',AAG,AC2 c2,f2.keep kk.1 kk.2⟩
 ·rename_i ks xs e
  obtain ⟨w,hs,p,e2,_,_,gb,_,vs,c1,c2,c3⟩:=ok.slot k _ e
  subst e2
  have ho:OwS ρ σ p:=⟨k,_,e,hs⟩
  refine h2 W ρ σ H _ _ ok hk fun y f v H1 ky s1 ry=>⟨.ref p,hs,h1 W ρ σ H1 _ _ (ok.step s1) ky fun z fz vz H2 ⟨rr,k0,k1,k2,k3⟩ s2 rz=>?_⟩
  have s12:=s1.trans s2
  have ok2:=ok.step s12
  subst k0
  cases ACy ok2 rz
  have c1':=s12.same p _ gb c1
  have c3':Rps W.b (Zf W ρ σ) H2 xs vs:=c3.step (f:=.fr) s12 ok.bag
  have ry':=ADp ok2 (ry.step (ok.step s1) s2) k1
  refine ⟨p,_,rfl,DPut.k (k:=Sum.inr rr) c1' (by rw [List.length_zip,List.length_map];exact Nat.lt_of_le_of_lt (Nat.min_le_left _ _) k2),r.nx _ _ _ k3 ?_⟩
  obtain ⟨vs',f1,f2⟩:=AGg AFD (k:=rr) c3' c2 ry'
  rw [show (Sum.inr rr:Key)=keyS rr from rfl,f1]
  have kk:=ABv (o:=HO.dK (((AB0 ks rr).map keyS).zip vs')) ok2 ho (f:=.fr) (.inr rfl)
  exact ok2.mut e hs (fun _ z=>nomatch z) ⟨vs',AAG,AC2 c2,f2.keep kk.1 kk.2⟩
 ·exact hk.elim
theorem AEl (hu:∀ i,(Xs i).A.units + 1<cLine) (ha:QE Xs a pa) (hb:QE Xs b pb) (hN:∀ i,(Xs i).N[k]?=some x:=by intro _;rfl) (hv:∀ i,Vis (Xs i).env.scope x:=by intro _;trivial) (hd:(x == ("__debug__":Str))=false:=by decide) (hcd:(x == ("__classdict__":Str))=false:=by decide)
  (hs:∀ i,swapsWith b (some (.Subscript (.Name x p1) a pos')) pos.line (Xs i).env=pure false:=by intro _;rfl):QS Xs (.Assign [.Subscript (.Name x p1) a pos'] b pos) (AFw k pa pb):=by
 obtain ⟨t,e1,e2⟩:=ha
 obtain ⟨u,g1,g2⟩:=hb
 exact ⟨_,fun i=>AOI (hu i) (AB2 (hN i) (hv i) hd hcd) (e1 i) (g1 i) (hs i),ALv e2 g2⟩
end
end L2
namespace L2
open PySem PySem.Spec PyProof.Rows PySem.W
def RawD (h:Heap) (d:Addr) (es:Array DictEntry) (ep:Nat):Prop:=∃ o,h.get? d=some o∧o.ExactDict∧o.data=.dict es ep
theorem RawD.typeIs {s:Shared} {d:Addr} {es:Array DictEntry} {ep:Nat} (x:RawD s.heap d es ep):s.TypeIs (.ref d) "dict":=let ⟨o,e,c,_⟩:=x;⟨o,e,c.1⟩
theorem RawD.keep {h h':Heap} {d:Addr} {es:Array DictEntry} {ep:Nat} (x:RawD h d es ep) (k:∀ o,h.get? d=some o→h'.get? d=some o):RawD h' d es ep:=let ⟨o,e,r⟩:=x;⟨o,k o e,r⟩
theorem RawD.lt {h:Heap} {d:Addr} {es:Array DictEntry} {ep:Nat} (x:RawD h d es ep):d<h.objs.size:=let ⟨_,e,_⟩:=x;Heap.lt_size e
section
variable {prog:Program} {w:World} {A:Around} {E:Value→Shared→Prop} {s:Shared} {d it:Addr} {es:Array DictEntry} {ep i:Nat}
theorem AND {Q:Value→Shared→Prop} (hd:(d == sysModules)=false) (hm:RawD s.heap d es ep)
  (hQ:Q (.ref s.heap.objs.size) { s with heap:=s.heap.push { cls:=.type "dict_keyiterator",data:=.fields #[.ref d,.int 0 0,.int es.size 0,.int ep 0] } }):wpAny (model prog w) A (pyIter (.ref d)) Q E s:=by
 obtain ⟨o,ho,hc,hdat⟩:=id hm
 refine wpAny_pyIter_slot hm.typeIs F.slot_dict_iter (wpAny_call_entry F.slot_dict_iter hm.typeIs F.entry_dict_iter ?body (F.args_dict_iter_1 _))
 unfold Builtin.«dict.__iter__» Builtin.Dict.dictSlotNone
 refine wB (wB (wpAny_notOrdered_dict hm.typeIs ?_))
 show wpAny _ _ (pure (Value.ref d)) _ _ s
 refine wP ?_
 show wpAny _ _ (Builtin.Dict.showsAll d >>= _) _ _ s
 unfold Builtin.Dict.showsAll
 rw [if_neg (show ¬ _ by rw [hd];simp)]
 refine wB (wP (wB (wpAny_dictEntries ho hdat (wB (wpAny_dictEpoch ho hdat (wB (wpAny_newObj_type (wP ⟨_,rfl,"dict_keyiterator",_,⟨_,Heap.get?_push_size _ rfl,rfl⟩,F.slot_dict_keyiterator_next.lookup,?_⟩))))))))
 simpa [rawInt] using hQ
theorem ANE {Q:Option Value→Shared→Prop} (hit:s.heap.IsKeyIter it d i es.size ep) (hm:RawD s.heap d es ep) (hi:i<es.size)
  (hQ:∀ h',h'.IsKeyIter it d (i + 1) es.size ep→Heap.SameBut it s.heap h'→Q (some es[i].key) { s with heap:=h' }):wpAny (model prog w) A (pyNext (.ref it)) Q E s:=by
 obtain ⟨o,ho,hc,hd⟩:=id hit
 obtain ⟨od,hod,hcd,hdd⟩:=id hm
 have hown:Builtin.Dict_items.ownsTuple "dict_keyiterator"=false:=by decide
 unfold pyNext
 refine wB (wpAny_attempt (wpAny_callSpecial?_slot (name:=Str.ofString "__next__") hit.typeIs F.slot_dict_keyiterator_next (wpAny_call_entry F.slot_dict_keyiterator_next hit.typeIs F.entry_dict_keyiterator_next ?body (F.args_dict_keyiterator_next_1 _))))
 refine wB (wP (wB (wB ?_)))
 first
  | refine wB (wpAny_typeNameOfWhole_keyiter hit.typeIs (wP (wB (wpAny_fieldsOf ho hd ?_))))
  | refine wB (wpAny_typeNameOf_keyiter hit.typeIs (wP (wB (wpAny_fieldsOf ho hd ?_))))
 simp only [hown,Bool.false_eq_true,if_false]
 show wpAny _ _ (if (Value.ref d == Value.none)=true then _ else _) _ _ s
 rw [if_neg (show ¬ (Value.ref d == Value.none)=true from Bool.false_ne_true)]
 refine wB (wP (wB (wpAny_dictEntries hod hdd ?_)))
 rw [if_neg (by simp)]
 refine wB (wP (wB (wpAny_dictEpoch hod hdd ?_)))
 rw [if_neg (by simp)]
 refine wP ?_
 simp only [show ¬ ((i:Int)<0) by lia,if_false,Int.toNat_natCast,Array.getElem?_eq_getElem hi]
 refine wB ?_
 first
  | refine wB (wpAny_typeNameOfWhole_keyiter hit.typeIs (wP (wB (wpAny_isOneOf_keyiter hit.typeIs ?_))))
  | refine wB (wpAny_typeNameOf_keyiter hit.typeIs (wP (wB (wpAny_isOneOf_keyiter hit.typeIs ?_))))
 show wpAny _ _ (setField (.ref it) 1 (rawInt ((i:Int) + 1)) >>= _) _ _ s
 refine wB (wpAny_setField ho hd (by simp) ?_)
 have hit':(s.heap.update it (Obj.mapFields (·.setIfInBounds 1 (rawInt ((i:Int) + 1))))).IsKeyIter it d (i + 1) es.size ep :=
  ⟨_,Heap.get?_update_self _ ho (Obj.isFreed_of_fields (Obj.data_mapFields hd _)),(Obj.cls_mapFields ..).trans hc,by rw [Obj.data_mapFields hd] <;> simp [rawInt]⟩
 refine wB (wpAny_holding (wB (wpAny_isOneOf_keyiter (s:={ s with heap:=s.heap.update it (Obj.mapFields (·.setIfInBounds 1 (rawInt ((i:Int) + 1)))) }) hit'.typeIs ?_)))
 show wpAny _ _ (pure es[i].key) _ _ _
 exact wP (wP ⟨_,rfl,wP (hQ _ hit' (Heap.SameBut.update ..))⟩)
theorem AOV {Q:Option Value→Shared→Prop} (hh:A.handled=none) (hit:s.heap.IsKeyIter it d es.size es.size ep) (hm:RawD s.heap d es ep) (hQ:∀ h',Heap.ExtBut it s.heap h'→Q none { s with heap:=h' }):wpAny (model prog w) A (pyNext (.ref it)) Q E s:=by
 obtain ⟨o,ho,hc,hd⟩:=id hit
 obtain ⟨od,hod,hcd,hdd⟩:=id hm
 have hown:Builtin.Dict_items.ownsTuple "dict_keyiterator"=false:=by decide
 unfold pyNext
 refine wB (wpAny_attempt (wpAny_callSpecial?_slot (name:=Str.ofString "__next__") hit.typeIs F.slot_dict_keyiterator_next (wpAny_call_entry F.slot_dict_keyiterator_next hit.typeIs F.entry_dict_keyiterator_next ?body (F.args_dict_keyiterator_next_1 _))))
 refine wB (wP (wB (wB ?_)))
 first
  | refine wB (wpAny_typeNameOfWhole_keyiter hit.typeIs (wP (wB (wpAny_fieldsOf ho hd ?_))))
  | refine wB (wpAny_typeNameOf_keyiter hit.typeIs (wP (wB (wpAny_fieldsOf ho hd ?_))))
 simp only [hown,Bool.false_eq_true,if_false]
 show wpAny _ _ (if (Value.ref d == Value.none)=true then _ else _) _ _ s
 rw [if_neg (show ¬ (Value.ref d == Value.none)=true from Bool.false_ne_true)]
 refine wB (wP (wB (wpAny_dictEntries hod hdd ?_)))
 rw [if_neg (by simp)]
 refine wB (wP (wB (wpAny_dictEpoch hod hdd ?_)))
 rw [if_neg (by simp)]
 refine wP ?_
 simp only [show ¬ ((es.size:Int)<0) by lia,if_false,Int.toNat_natCast,Array.getElem?_eq_none (Nat.le_refl es.size)]
 refine wB ?_
 first
  | refine wB (wpAny_typeNameOfWhole_keyiter hit.typeIs (wP ?_))
  | refine wB (wpAny_typeNameOf_keyiter hit.typeIs (wP ?_))
 show wpAny _ _ (setField (.ref it) 0 .none >>= _) _ _ s
 refine wB (wpAny_setField ho hd (by simp) ?_)
 show wpAny _ _ (newExc (.type "StopIteration") [] >>= _) _ _ _
 refine wB ?_
 simp only [newExc,newTuple]
 refine wB (wpAny_newObj_type ?nx (by size_fits))
 refine wB (m:=firstArgMember _ _) (wpAny_of_eq (a:=Value.none) (by first | rfl | (simp only [firstArgMember];rfl)) (wpAny_newObj_type ?ny (by size_fits)))
 simp only [raiseNew]
 refine wB (wpAny_handled ?_)
 rw [show A.in1.handled=none from hh]
 refine wB (wP (wpAny_throw ?_))
 refine wB (wpAny_isInstance (T:="StopIteration") (b:=true) ⟨_,Heap.get?_push_size _ rfl,rfl⟩ isSubtype_stop ?fin)
 exact wP (hQ _ (((Heap.SameBut.update ..).extBut.push _).push _))
theorem ALw (hh:A.handled=none) (I d:Addr) (hne:d≠I) (es:Array DictEntry) (ep:Nat) :
  Walks prog w A I [I,d] [I] es.size (fun i v=>∃ h:i<es.size,v=es[i].key) (fun i h=>h.IsKeyIter I d i es.size ep∧RawD h d es ep) where
 sub:=fun b hb=>by simp at hb;simp [hb]
 frame:=fun _ _ _ st hk=>⟨st.1.at fun o e=>hk I (by simp) o e,st.2.keep fun o e=>hk d (by simp) o e⟩
 item:=fun i s Q E hi st hQ=>ANE st.1 st.2 hi fun h' hit' hs' =>
  hQ _ h' s.toks ⟨hi,rfl⟩ ⟨hit',st.2.keep fun o e=>hs'.extBut d o hne e⟩ fun b o hb e=>hs'.extBut b o (fun h=>hb (by simp [h])) e
 done:=fun s Q E st hQ=>AOV hh st.1 st.2 fun h' he'=>hQ h' s.toks fun b o hb e=>he' b o (fun h=>hb (by simp [h])) e
 self:=fun _ _ _ _ st hQ=>wpAny_pyIter_keyiter st.1 hQ
theorem AJy (lo:(d == sysModules)=false):KdlSrc prog w "dict" d d es.size (fun i v=>∃ h:i<es.size,v=es[i].key) (fun h=>RawD h d es ep) where
 type:=fun _ hm=>hm.typeIs
 there:=fun _ hm=>⟨hm.lt,hm.lt⟩
 keep:=fun _ _ hm hk=>hm.keep fun o e=>hk d (.inl rfl) o e
 notList:=by decide
 notTuple:=by decide
 hint:=fun _ _ _ _ hm hq=>kdl_hint_dict hm.typeIs hq
 iter:=fun _ _ hh hm=>⟨_,_,(fun _ _ hq=>AND lo hm hq),ALw hh _ d (Nat.ne_of_lt hm.lt) es ep,⟨⟨_,Heap.get?_push_size _ rfl,rfl,rfl⟩,hm.keep fun o e=>Heap.get?_push_of_some _ e⟩⟩
end
noncomputable abbrev rowP (r:List Int):P:=.tup (r.map P.int)
noncomputable def ALx:List V→Hp→VK→Prop:=fun xs H Q=>∃ (p:Addr) (kvs:List (List Key×V)),xs=[.ref p]∧H p=some (.dT kvs) ∧
 ∀ (l:Addr) (ps:List (Addr×List Key)),H l=none→ps.map (·.2)=kvs.map (·.1)→(∀ q∈ps,H q.1=some (.tup (q.2.map kV)))→Q (.ref l) (upd H l (.lst (ps.map fun q=>V.ref q.1)))
section
variable {X:Cx} {pins:List (Addr×Obj)} {σ:St} {H:Hp} {s:Shared}
theorem AFF:∀ {kvs:List (List Key×V)} {xs:List (List Key×Addr×Value)},Paired (fun (p:List Key×V) (q:List Key×Addr×Value)=>p.1=q.1∧H q.2.1=some (.tup (p.1.map kV))∧RelV p.2 q.2.2) kvs xs →
  (xs.map fun x=>(x.2.1,x.1)).map (·.2)=kvs.map (·.1)∧∀ q∈(xs.map fun x=>(x.2.1,x.1)),H q.1=some (.tup (q.2.map kV))
 | _,_,.nil=>⟨rfl,fun q hq=>nomatch hq⟩
 | _,_,.cons r t=>by
  obtain ⟨a,b⟩:=AFF t
  refine ⟨by simp only [List.map_cons];rw [a,r.1],fun q hq=>?_⟩
  rw [List.map_cons] at hq
  rcases List.mem_cons.mp hq with rfl | hq
  ·have:=r.2.1;rw [r.1] at this;exact this
  ·exact b q hq
theorem ALy {P':Program} {w:World} {h:Heap} {p:Addr} {kvs:List (List Key×V)} (hok:HOk P' w H h) (e:H p=some (.dT kvs)) :
  ∃ (es:Array DictEntry) (ep:Nat) (ps:List (Addr×List Key)),RawD h p es ep∧(p == sysModules)=false∧kvs.length≤sizeLine∧ps.map (·.2)=kvs.map (·.1)∧(∀ q∈ps,H q.1=some (.tup (q.2.map kV)))∧es.toList.map (·.key)=ps.map fun q=>Value.ref q.1:=by
 obtain ⟨z,hd,xs,rel,o,es,ep,h1,h2,h3,h4,_⟩:=hok p _ e
 exact ⟨es,ep,xs.map fun x=>(x.2.1,x.1),⟨o,h1,h2,h3⟩,hd,z,(AFF rel).1,(AFF rel).2,by rw [h4,List.map_map,List.map_map];rfl⟩
theorem AKg {n:Nat} {es:Array DictEntry} {acc:Array Value} (h:ItemsOf (fun i v=>∃ h:i<es.size,v=es[i].key) acc n) (hn:n=es.size):acc.toList=es.toList.map (·.key):=by
 apply List.ext_getElem?
 intro i
 have hl:acc.size=es.size:=by rw [←hn];exact h.1
 by_cases hi:i<acc.size
 ·obtain ⟨h',e⟩:=h.2 i acc[i] (by simp [hi])
  rw [List.getElem?_map]
  simp [hi,h',e]
 ·rw [List.getElem?_eq_none (by simpa using hi),List.getElem?_eq_none (by simp;lia)]
theorem ALz (ps:List (Addr×List Key)):Vals (ps.map fun q=>V.ref q.1) (ps.map fun q=>Value.ref q.1):=by
 induction ps with
 | nil=>exact .nil
 | cons q r ih=>exact .cons rfl ih
theorem AKh (hc:X.calm=true):AAs X (.type "list") ALx:=by
 intro pins s σ H xs us Q I r h
 obtain ⟨p,kvs,rfl,hp,k⟩:=h
 obtain ⟨u,rfl,ru⟩:=r.one
 cases ru
 obtain ⟨es,ep,ps,rd,hd,hz,e1,e2,e3⟩:=ALy I.hok hp
 have b:=congrArg List.length e1
 simp at b
 have hl:es.size=kvs.length:=by
  have a:=congrArg List.length e3
  simp at a
  lia
 refine kdl_call (AJy hd) (I.ok.hd hc) rd (by lia) fun h' tk acc c' hk hS hacc=>?_
 have ei:=AKg hacc rfl
 refine ⟨.ref s.heap.objs.size,_,I.laid (t':=tk) (o:=.lst (ps.map fun q=>V.ref q.1)) hk (Nat.le_refl _) ⟨?_,acc.toList,c',?_,?_⟩,rfl,k _ ps (I.hok.fresh (Nat.le_refl _)) e1 e2⟩
 ·rw [List.length_map];lia
 ·rw [ei,e3];exact ALz ps
 ·simpa using hS
end
def AEm:pC:=p1 fun x f K=>match x with
 | .dT ks vs=>K (.lst (ks.map rowP)) .nw
 | _=>False
theorem ADq {b:Addr} {Z:Addr→Prop} {H:Hp}:∀ {ps:List (Addr×List Int)},(∀ q∈ps,H q.1=some (.tup (q.2.map V.int)))→Rps b Z H (ps.map fun q=>rowP q.2) (ps.map fun q=>V.ref q.1)
 | [],_=>rfl
 | q :: r,h=>⟨_,_,rfl,⟨q.1,_,rfl,h q List.mem_cons_self,Rps.ints.mpr rfl⟩,ADq fun p hp=>h p (List.mem_cons_of_mem _ hp)⟩
theorem AGj (r:List Int):(keyI r).map kV=r.map V.int:=by simp [keyI,List.map_map,Function.comp_def,kV]
theorem AHS {ps:List (Addr×List Key)} {ks:List (List Int)} (h:ps.map (·.2)=ks.map keyI):∃ ps':List (Addr×List Int),ps'.map (·.1)=ps.map (·.1)∧ps'.map (·.2)=ks∧∀ q'∈ps',(q'.1,keyI q'.2)∈ps:=by
 induction ps generalizing ks with
 | nil =>
  cases ks with
  | nil=>exact ⟨[],rfl,rfl,fun _ h=>nomatch h⟩
  | cons k ks=>simp at h
 | cons q r ih =>
  cases ks with
  | nil=>simp at h
  | cons k ks =>
   simp only [List.map_cons,List.cons.injEq] at h
   obtain ⟨ps',a,b,c⟩:=ih h.2
   refine ⟨(q.1,k) :: ps',by simp [a],by simp [b],fun q' hq=>?_⟩
   rcases List.mem_cons.mp hq with rfl | hq
   ·simp [←h.1]
   ·exact List.mem_cons_of_mem _ (c q' hq)
theorem AOW:RefC ALx AEm:=fun W ρ σ Hs H Q K xs vs ok st r hp q=>by
 unfold AEm p1 at hp
 split at hp
 ·obtain ⟨v,rfl,rv⟩:=r.one
  split at hp
  ·rename_i ks vs2
   obtain ⟨p,us,rfl,_,c1,c2,c3⟩:=ADZ ok rv
   refine ⟨p,_,rfl,c1,fun l ps hl e1 e2=>q _ _ _ _ hp (Step.new ok.bag hl) ?_⟩
   rw [List.map_fst_zip (by rw [List.length_map,c2,c3.length];exact Nat.le_refl _)] at e1
   obtain ⟨ps',a,b,c⟩:=AHS e1
   have hr:Rps W.b (Zof W ρ σ .nw) H (ks.map rowP) (ps.map fun q=>V.ref q.1):=by
    have:=ADq (b:=W.b) (Z:=Zof W ρ σ .nw) (H:=H) (ps:=ps') fun q' hq=>by
     have:=e2 _ (c q' hq)
     rw [AGj] at this
     exact this
    have e3:(ps'.map fun q=>V.ref q.1)=ps.map fun q=>V.ref q.1:=by
     have:=congrArg (List.map V.ref) a
     simpa [List.map_map,Function.comp_def] using this
    have e4:(ps'.map fun q=>rowP q.2)=ks.map rowP:=by
     rw [←b,List.map_map];rfl
    rw [e3,e4] at this
    exact this
   exact ACq ok st (by simp) (by simp) hr hl
  ·exact hp.elim
 ·exact hp.elim
def APh:pC:=p1 fun x f K=>∃ rs:List (List Int),x=.lst (rs.map rowP)∧rs.length<64∧(rs.length<2∨∃ n,0<n∧∀ r∈rs,r.length=n)∧∀ rs':List (List Int),rs'.Perm rs→SrtR rs'→K (.lst (rs'.map rowP)) .nw
theorem AHT {b:Addr} {Z:Addr→Prop} {H:Hp}:∀ {rs:List (List Int)} {vs:List V},Rps b Z H (rs.map rowP) vs→∃ ps:List (Addr×List Int),vs=refs ps∧ps.map (·.2)=rs∧∀ q∈ps,H q.1=some (.tup (q.2.map V.int))
 | [],vs,h=>⟨[],h,rfl,fun _ h=>nomatch h⟩
 | r :: rs,vs,h=>by
  obtain ⟨v,t,rfl,⟨p,us,rfl,e,e2⟩,h2⟩:=h
  obtain ⟨ps,a,b,c⟩:=AHT h2
  rw [Rps.ints.mp e2] at e
  refine ⟨(p,r) :: ps,by rw [a];rfl,by rw [List.map_cons,b],fun q hq=>?_⟩
  rcases List.mem_cons.mp hq with rfl | hq
  ·exact e
  ·exact c q hq
end L2
namespace HT
open PySem PyProof.Rows
section
open PySem.SeqAt
open PySem.AutoSeq1 (wpAny_loadPart')
open PySem.MeetsSeq PySem.MeetsSeq2 PySem.MeetsSeq3
end
section
variable {prog:Program} {w:World} {A:Around} {E:Value→Shared→Prop} {s:Shared}
end
end HT
namespace L2
open PySem PySem.Spec PyProof.Rows
noncomputable def ItzL (K : PySem.W.Frag) (l1 l2 : Addr) : It :=
  ⟨fun i H => ∃ xs ys, SqL K H l1 xs ∧ SqL K H l2 ys ∧ i < xs.length ∧ i < ys.length,
   fun i H v H' => ∃ T x y, H T = none ∧ v = .ref T ∧ H' = upd H T (.tup [x, y]) ∧ ∀ xs ys, SqL K H l1 xs → SqL K H l2 ys → xs[i]? = some x ∧ ys[i]? = some y,
   fun i H => ∃ xs ys, SqL K H l1 xs ∧ SqL K H l2 ys ∧ (xs.length ≤ i ∨ ys.length ≤ i)⟩
theorem AL0 {P:Program} {w:World} {K:PySem.W.Frag} {elts:List Expr} {x1} {pos:Pos} {z TI TO i1 i2 l1 l2:Addr} (D:ZipApart z TI TO i1 i2 l1 l2) :
  Turn P w K (.Tuple elts x1 pos) (ItzL K l1 l2) [z,TI,TO,i1,i2] z (fun i h=>IsZip h z TI TO .none∧IsPair h TI (.ref i1) (.ref i2)∧(∃ a b,IsPair h TO a b)∧h.IsListIter i1 l1 i∧h.IsListIter i2 l2 i) where
 mem:=by simp
 obj:=fun i h st b hb=>by
  obtain ⟨hz,hTI,⟨a,c,hTO⟩,⟨o1,e1,_,d1⟩,⟨o2,e2,_,d2⟩⟩:=st
  simp only [List.mem_cons,List.not_mem_nil,or_false] at hb
  rcases hb with rfl | rfl | rfl | rfl | rfl
  ·exact ⟨_,hz,fun v q=>nomatch q⟩
  ·exact ⟨_,hTI,fun v q=>nomatch q⟩
  ·exact ⟨_,hTO,fun v q=>nomatch q⟩
  ·exact ⟨_,e1,fun v q=>by rw [d1] at q;cases q⟩
  ·exact ⟨_,e2,fun v q=>by rw [d2] at q;cases q⟩
 keep:=fun i h h' st k=>by
  obtain ⟨hz,hTI,⟨a,c,hTO⟩,⟨o1,e1,r1⟩,⟨o2,e2,r2⟩⟩:=st
  exact ⟨k z (by simp) _ hz,k TI (by simp) _ hTI,⟨a,c,k TO (by simp) _ hTO⟩,⟨o1,k i1 (by simp) _ e1,r1⟩,⟨o2,k i2 (by simp) _ e2,r2⟩⟩
 item:=by
  intro X hP hw hK hc i pins s σ H E I hf st hg
  subst hP hw hK
  obtain ⟨hz,hTI,⟨a,c,hTO⟩,h1,h2⟩:=st
  obtain ⟨xs,ys,q1,q2,g1,g2⟩:=hg
  obtain ⟨its,rv,pq,hzl⟩:=I.list q1
  have p:=pq.isList
  obtain ⟨its2,rv2,pq2,hzl2⟩:=I.list q2
  have p2:=pq2.isList
  have hx:xs[i]?=some xs[i]:=by simp [g1]
  have hy:ys[i]?=some ys[i]:=by simp [g2]
  obtain ⟨u,hu,ru⟩:=rv.get hx
  obtain ⟨u2,hu2,ru2⟩:=rv2.get hy
  refine wpAny_pyNext_zip_item D hz hTI hTO h1 h2 p p2 (x:=u) (y:=u2) (by simpa using hu) (by simpa using hu2) fun h' a1 a2 a3 a4 a5 a6 hk=>⟨_,rfl,wpAny_letOwnedTupleGo_zip a1 fun h'' hz'' hs''=>?_⟩
  have hfr:H s.heap.objs.size=none:=I.fresh
  have J:Inv X pins σ (upd H s.heap.objs.size (.tup [xs[i],ys[i]])) { s with heap:=s.heap.push { cls:=.type "tuple",data:=.seq #[u,u2] } } :=
   I.laid (t':=s.toks) (fun b o q=>Heap.get?_push_of_some _ q) (Nat.le_refl _) ⟨by show 2≤sizeLine;decide,[u,u2],.cons ru (.cons ru2 .nil),TupO.new _ _⟩
  have hlt:∀ b∈[z,TI,TO,i1,i2],b≠s.heap.objs.size:=fun b hb e=>by
   have o:∃ o,s.heap.get? b=some o:=by
    simp only [List.mem_cons,List.not_mem_nil,or_false] at hb
    obtain ⟨o1,e1,_⟩:=h1
    obtain ⟨o2,e2,_⟩:=h2
    rcases hb with rfl | rfl | rfl | rfl | rfl
    ·exact ⟨_,hz⟩
    ·exact ⟨_,hTI⟩
    ·exact ⟨_,hTO⟩
    ·exact ⟨_,e1⟩
    ·exact ⟨_,e2⟩
   obtain ⟨o,q⟩:=o
   exact absurd (Heap.lt_size q) (by rw [e];exact Nat.lt_irrefl _)
  have hn:∀ b∈[z,TI,TO,i1,i2],upd H s.heap.objs.size (.tup [xs[i],ys[i]]) b=none:=fun b hb=>by rw [AAE (hlt b hb)];exact (hf b hb).1
  have nz:s.heap.objs.size≠z:=(hlt z (by simp)).symm
  have J2:Inv X pins σ (upd H s.heap.objs.size (.tup [xs[i],ys[i]])) { s with heap:=h'' }:=by
   refine Inv.turnedL (s:={ s with heap:=s.heap.push { cls:=.type "tuple",data:=.seq #[u,u2] } }) (h':=h'') (t':=s.toks) (ch:=[z,TO,i1,i2]) J (fun b o hb q=>?_) (fun b hb=>⟨hn b ?_,(hf b ?_).2⟩)
   ·simp only [List.mem_cons,List.not_mem_nil,or_false,not_or] at hb
    by_cases e:b=s.heap.objs.size
    ·subst e
     have q':=q
     rw [show (s.heap.push { cls:=.type "tuple",data:=.seq #[u,u2] }).get? s.heap.objs.size=some _ from Heap.get?_push_size _ rfl] at q'
     cases q'
     exact hs''.extBut _ _ nz a5
    ·have q0:s.heap.get? b=some o:=by rw [←Heap.get?_push_ne _ _ _ e];exact q
     exact hs''.extBut _ _ hb.1 (hk b o hb.1 hb.2.1 hb.2.2.1 hb.2.2.2 q0)
   ·simp only [List.mem_cons,List.not_mem_nil,or_false] at hb ⊢;rcases hb with h | h | h | h <;> simp [h]
   ·simp only [List.mem_cons,List.not_mem_nil,or_false] at hb ⊢;rcases hb with h | h | h | h <;> simp [h]
  refine ⟨.ref s.heap.objs.size,_,J2,rfl,⟨_,_,_,hfr,rfl,rfl,fun xs' ys' z1 z2=>?_⟩,?_,hn⟩
  ·rw [I.list_inj z1 q1,I.list_inj z2 q2];exact ⟨hx,hy⟩
  ·obtain ⟨o1,e1,r1⟩:=a3
   obtain ⟨o2,e2,r2⟩:=a4
   exact ⟨hz'',hs''.extBut _ _ D.TIz (hk _ _ D.TIz D.TITO D.TIi1 D.TIi2 hTI),⟨_,_,hs''.extBut _ _ D.TOz a2⟩,⟨o1,hs''.extBut _ _ D.i1z e1,r1⟩,⟨o2,hs''.extBut _ _ D.i2z e2,r2⟩⟩
 done:=by
  intro X hP hw hK hc i pins s σ H E I hf st hg
  subst hP hw hK
  obtain ⟨hz,hTI,⟨a,c,hTO⟩,h1,h2⟩:=st
  obtain ⟨xs,ys,q1,q2,g⟩:=hg
  obtain ⟨its,rv,pq,hzl⟩:=I.list q1
  have p:=pq.isList
  obtain ⟨its2,rv2,pq2,hzl2⟩:=I.list q2
  have p2:=pq2.isList
  have l1:=rv.length
  have l2:=rv2.length
  refine wpAny_pyNext_zip_end (I.ok.hd hc) D hz hTI hTO h1 h2 p p2 (by simp;lia) fun h' hk=>⟨rfl,I.turnedL (t':=s.toks) (ch:=[z,TO,i1,i2]) (fun b o hb q=>?_) fun b hb=>hf b ?_⟩
  ·simp only [List.mem_cons,List.not_mem_nil,or_false,not_or] at hb
   exact hk b o hb.1 hb.2.1 hb.2.2.1 hb.2.2.2 q
  ·simp only [List.mem_cons,List.not_mem_nil,or_false] at hb ⊢;rcases hb with h | h | h | h <;> simp [h]
 self:=fun _ _ _ _ _ st h=>wpAny_pyIter_zip st.1 h
def ANz (K:PySem.W.Frag) (ta:TA):TI:=fun σ H R=>ta σ H fun vs H1=>∃ l1 l2 xs ys,vs=[.ref l1,.ref l2]∧SqL K H1 l1 xs∧SqL K H1 l2 ys∧R (ItzL K l1 l2) H1
theorem AOX {X:Cx} {a b:Expr} {ta:TA} {p pos:Pos} {elts:List Expr} {x1} {tp:Pos} (hg:Gl X "zip") (hm:X.mg "zip"=none) (ha:PA X [a,b] ta) (hs:starEach [a,b] X.env=[(false,eval a X.env),(false,eval b X.env)]:=by rfl) (hs2:starEach [b] X.env=[(false,eval b X.env)]:=by rfl) :
  PI X (.Tuple elts x1 tp) (.Call (.Name "zip" p) [a,b] [] pos) (ANz X.K ta):=by
 intro pins s σ H R I h
 refine Call_ (ADy I hg hm AM2 (PyProof.Rows.callWith_type1 (thn (ha pos pins s σ H _ I h) fun us s1 ⟨vs,H1,I1,r1,q1⟩=>?_) (by rw [hs,hs2]) (by rw [hs2];rfl)))
 obtain ⟨l1,l2,xs,ys,rfl,q2,q3,q⟩:=q1
 obtain ⟨u,v,rfl,ru,rv⟩:=r1.two
 cases (show u=Value.ref l1 from ru)
 cases (show v=Value.ref l2 from rv)
 obtain ⟨its,r1,pq1,_⟩:=I1.list q2
 have p1:=pq1.isList
 obtain ⟨its2,r2,pq2,_⟩:=I1.list q3
 have p2:=pq2.isList
 refine call_zip_2 p1 p2 fun h' hz hTI hTO i1 i2 _ hk=>?_
 have I2:Inv X pins σ H1 { s1 with heap:=h' }:=I1.kept (t':=s1.toks) hk
 have lt1:l1<s1.heap.objs.size:=by obtain ⟨_,e,_⟩:=p1;exact Heap.lt_size e
 have lt2:l2<s1.heap.objs.size:=by obtain ⟨_,e,_⟩:=p2;exact Heap.lt_size e
 refine wpAny_pyIter_zip hz ⟨_,[s1.heap.objs.size + 4,s1.heap.objs.size + 2,s1.heap.objs.size + 3,s1.heap.objs.size,s1.heap.objs.size + 1],_,_,H1,rfl,I2,AL0 (zipApart_new lt1 lt2),⟨hz,hTI,⟨_,_,hTO⟩,i1,i2⟩,fun b hb=>?_,q⟩
 have hb':s1.heap.objs.size≤b:=by
  simp only [List.mem_cons,List.not_mem_nil,or_false] at hb
  rcases hb with h | h | h | h | h <;> rw [h] <;> first | exact Nat.le_add_right _ _ | exact Nat.le_refl _
 exact I1.fpOk hb' (I1.hok.fresh hb')
def pTT (g:List Int→List Int→Bool):p2:=fun x _ y _ K=>∃ ns ms,keyT x=some ns∧keyT y=some ms∧K (.bl (g ns ms)) .fr
noncomputable def ADI (x y:P):P:=.tup [x,y]
def AQj (pa pb:pE):pI:=fun ρ K=>pa ρ fun x f=>pb ρ fun y g=>∃ xs ys,x=.lst xs∧y=.lst ys∧(P.imms xs=true∧P.imms ys=true)∧K (List.zipWith ADI xs ys) .fr (stF f && stF g)
section
variable {ι:Type} {Xs:ι→Cx} {a b:Expr} {pa pb:pE} {pos p1 tp:Pos} {elts:List Expr} {x1:Nat} {Kf:PySem.W.Frag}
end
end L2
namespace L2
open PySem
noncomputable abbrev nmP (ns:List Str):P:=.tup (ns.map P.str)
noncomputable abbrev prP (q:List Int×Int):P:=.tup [rowP q.1,.int q.2]
noncomputable abbrev tlP (t:List (List Int×Int)):P:=.lst (t.map prP)
noncomputable abbrev dcP (t:List (List Int×Int)):P:=.dT (t.map (·.1)) (t.map fun q=>.int q.2)
@[simp] theorem AGk (r:List Int):(rowP r).imm=true:=by simp
@[simp] theorem AFx (q:List Int×Int):(prP q).imm=true:=by simp
@[simp] theorem AIj (t:List (List Int×Int)):P.imms (t.map prP)=true:=ACR AFx t
@[simp] theorem AFy (t:List (List Int)):P.imms (t.map rowP)=true:=ACR AGk t
@[simp] theorem AL1 (n:Nat) (r:List Int):(rowP r).pl (n + 1)=true:=by simp
@[simp] theorem AKi (n:Nat) (q:List Int×Int):(prP q).pl (n + 2)=true:=by simp
@[simp] theorem AL2 (n:Nat) (t:List (List Int×Int)):(t.map prP).all (P.pl (n + 2))=true:=AEE (AKi n) t
theorem AL3 (a b:Int):eqP (.int a) (.int b)=decide (a=b):=by simp only [eqP];rw [Bool.eq_iff_iff];simp
theorem AL4 (a b:Str):eqP (.str a) (.str b)=decide (a=b):=by simp only [eqP];rw [Bool.eq_iff_iff];simp
theorem AL5 (a b:Bool):eqP (.bl a) (.bl b)=decide (a=b):=by simp only [eqP];rw [Bool.eq_iff_iff];simp
theorem AIk (r:List Int):(rowP r).nb=true:=by rw [P.nb];exact ACG (fun _=>rfl) r
theorem AQk (q:List Int×Int):(prP q).nb=true:=by rw [P.nb,P.nbs,P.nbs,P.nbs,AIk];rfl
theorem AHw (t:List (List Int×Int)):(tlP t).nb=true:=by rw [P.nb];exact ACG AQk t
theorem AHx (r:List Str):(nmP r).nb=true:=by rw [P.nb];exact ACG (fun _=>rfl) r
theorem AIl {a b:List Int} (h:a.map P.int=b.map P.int):a=b:=by
 have:=congrArg (List.map fun p=>match p with | P.int i=>i | _=>0) h
 simpa [List.map_map,Function.comp_def] using this
theorem AIm {a b:List Str} (h:a.map P.str=b.map P.str):a=b:=by
 have:=congrArg (List.map fun p=>match p with | P.str i=>i | _=>⟨#[]⟩) h
 simpa [List.map_map,Function.comp_def] using this
theorem AGl {a b:List Int} (h:rowP a=rowP b):a=b:=AIl (P.tup.inj h)
theorem AL6 {a b:List Int×Int} (h:prP a=prP b):a=b:=by
 have h:=P.tup.inj h
 simp only [List.cons.injEq] at h
 exact Prod.ext (AGl h.1) (P.int.inj h.2.1)
theorem AEn {α:Type} {f:α→P} (hf:∀ a b,f a=f b→a=b):∀ {a b:List α},a.map f=b.map f→a=b
 | [],[],_=>rfl
 | [],_ :: _,h=>by simp at h
 | _ :: _,[],h=>by simp at h
 | x :: a,y :: b,h=>by
  simp only [List.map_cons,List.cons.injEq] at h
  rw [hf x y h.1,AEn hf h.2]
theorem APi {a b:List (List Int×Int)} (h:tlP a=tlP b):a=b:=AEn (fun _ _=>AL6) (P.lst.inj h)
theorem AL7 (a b:List Int):eqP (rowP a) (rowP b)=decide (a=b):=by
 rw [Bool.eq_iff_iff,ACT (AIk a) (AIk b),decide_eq_true_iff];exact ⟨AGl,fun h=>by rw [h]⟩
theorem AIn (a b:List (List Int×Int)):eqP (tlP a) (tlP b)=decide (a=b):=by
 rw [Bool.eq_iff_iff,ACT (AHw a) (AHw b),decide_eq_true_iff];exact ⟨APi,fun h=>by rw [h]⟩
theorem AL8 (a b:List Str):eqP (nmP a) (nmP b)=decide (a=b):=by
 rw [Bool.eq_iff_iff,ACT (AHx a) (AHx b),decide_eq_true_iff];exact ⟨fun h=>AIm (P.tup.inj h),fun h=>by rw [h]⟩
noncomputable def putT (t:List (List Int×Int)) (r:List Int) (c:Int):List (List Int×Int):=if r∈t.map (·.1) then t.map (fun q=>if q.1=r then (q.1,c) else q) else t ++ [(r,c)]
noncomputable def getT (t:List (List Int×Int)) (r:List Int):Option Int:=(t.find? fun q=>decide (q.1=r)).map (·.2)
theorem AEJ (r:List Int):∀ t:List (List Int×Int),AA6 (t.map (·.1)) (t.map fun q=>P.int q.2) r=(getT t r).map P.int
 | []=>rfl
 | q :: t=>by
  simp only [List.map_cons,AA6]
  unfold getT
  rw [List.find?_cons]
  by_cases e:q.1=r
  ·rw [if_pos e];simp [e]
  ·rw [if_neg e,AEJ r t];simp [e,getT]
theorem AL9 (r:List Int) (c:Int):∀ t:List (List Int×Int),List.zipWith (fun k0 v=>if k0=r then P.int c else v) (t.map (·.1)) (t.map fun q=>P.int q.2)=(t.map (fun q=>if q.1=r then (q.1,c) else q)).map fun q=>P.int q.2
 | []=>rfl
 | q :: t=>by
  simp only [List.map_cons,List.zipWith_cons_cons,AL9 r c t]
  by_cases e:q.1=r <;> simp [e]
theorem AHy (t:List (List Int×Int)) (r:List Int) (c:Int):P.dT (AB0 (t.map (·.1)) r) (ACj (t.map (·.1)) (t.map fun q=>P.int q.2) r (.int c))=dcP (putT t r c):=by
 unfold AB0 ACj putT dcP
 by_cases h:r∈t.map (·.1)
 ·rw [if_pos h,if_pos h,if_pos h,AL9]
  congr 1
  rw [List.map_map]
  refine List.map_congr_left fun q _=>?_
  by_cases e:q.1=r <;> simp [e]
 ·rw [if_neg h,if_neg h,if_neg h];simp
theorem AC4 (t:List (List Int×Int)) (r:List Int) (c:Int):(putT t r c).length≤t.length + 1:=by
 unfold putT;split <;> simp
theorem ACh {t:List (List Int×Int)} {r:List Int} {c:Int} {n:Nat} (h:∀ q∈t,q.1.length=n) (hr:r.length=n):∀ q∈putT t r c,q.1.length=n:=by
 unfold putT
 split
 ·intro q hq
  obtain ⟨p,hp,rfl⟩:=List.mem_map.mp hq
  split
  ·exact h p hp
  ·exact h p hp
 ·intro q hq
  rcases List.mem_append.mp hq with z | z
  ·exact h q z
  ·rw [List.mem_singleton.mp z];exact hr
theorem AHU (t:List (List Int×Int)) (r:List Int) (c:Int):(putT t r c).map (·.1)=if r∈t.map (·.1) then t.map (·.1) else t.map (·.1) ++ [r]:=by
 unfold putT
 split
 ·rw [List.map_map]
  refine List.map_congr_left fun q _=>?_
  by_cases e:q.1=r <;> simp [e]
 ·simp
theorem ACk {t:List (List Int×Int)} {r:List Int} {c:Int} (h:(t.map (·.1)).Nodup):((putT t r c).map (·.1)).Nodup:=by
 rw [AHU]
 split
 ·exact h
 ·rename_i hn
  rw [List.nodup_append]
  exact ⟨h,by simp,fun a ha b hb=>by rw [List.mem_singleton.mp hb];exact fun e=>hn (e ▸ ha)⟩
theorem AFz:∀ {a b:List (List Int)},a.Perm b→SrtR a→SrtR b→a=b
 | [],b,h,_,_=>(List.nil_perm.mp h).symm
 | x :: xs,[],h,_,_=>absurd h.length_eq (by simp)
 | x :: xs,y :: ys,h,h1,h2=>by
  have e:x=y:=by
   have hx:x∈y :: ys:=h.mem_iff.mp List.mem_cons_self
   have hy:y∈x :: xs:=h.mem_iff.mpr List.mem_cons_self
   rcases List.mem_cons.mp hx with e | hx
   ·exact e
   ·rcases List.mem_cons.mp hy with e | hy
    ·exact e.symm
    ·exact ADC x y ((List.pairwise_cons.mp h2).1 x hx) ((List.pairwise_cons.mp h1).1 y hy)
  subst e
  rw [AFz ((List.perm_cons x).mp h) (List.pairwise_cons.mp h1).2 (List.pairwise_cons.mp h2).2]
noncomputable def insR (x:List Int):List (List Int)→List (List Int)
 | []=>[x]
 | y :: r=>if HT.lexLt y x=true then y :: insR x r else x :: y :: r
noncomputable def ACl:List (List Int)→List (List Int)
 | []=>[]
 | x :: r=>insR x (ACl r)
theorem AEK (x:List Int):∀ r,(insR x r).Perm (x :: r)
 | []=>List.Perm.refl _
 | y :: r=>by
  unfold insR
  split
  ·exact ((AEK x r).cons y).trans (List.Perm.swap x y r)
  ·exact List.Perm.refl _
theorem ACL:∀ r,(ACl r).Perm r
 | []=>List.Perm.refl _
 | x :: r=>(AEK x (ACl r)).trans ((ACL r).cons x)
theorem AIo (x:List Int):∀ {r},SrtR r→SrtR (insR x r)
 | [],_=>List.pairwise_singleton _ _
 | y :: r,h=>by
  unfold insR
  have h1:=List.pairwise_cons.mp h
  split
  ·rename_i hl
   refine List.pairwise_cons.mpr ⟨fun z hz=>?_,AIo x h1.2⟩
   rcases List.mem_cons.mp ((AEK x r).mem_iff.mp hz) with e | hz
   ·rw [e]
    cases e2:HT.lexLt x y
    ·rfl
    ·have:=ADB _ _ _ hl e2;rw [AGY] at this;cases this
   ·exact h1.1 z hz
  ·rename_i hl
   have hl:HT.lexLt y x=false:=by simpa using hl
   refine List.pairwise_cons.mpr ⟨fun z hz=>?_,h⟩
   rcases List.mem_cons.mp hz with e | hz
   ·rw [e];exact hl
   ·cases e2:HT.lexLt z x
    ·rfl
    ·rcases AJi z y x e2 with q | q
     ·rw [h1.1 z hz] at q;cases q
     ·rw [hl] at q;cases q
theorem AHV:∀ r,SrtR (ACl r)
 | []=>List.Pairwise.nil
 | x :: r=>AIo x (AHV r)
theorem AIp {rs rs':List (List Int)} (h:rs'.Perm rs) (hs:SrtR rs'):rs'=ACl rs:=AFz (h.trans (ACL rs).symm) hs (AHV rs)
noncomputable def AAZ (t:List (List Int×Int)):List (List Int×Int):=((ACl (t.map (·.1))).filter fun r=>decide ((getT t r).getD 0≠0)).map fun r=>(r,(getT t r).getD 0)
theorem AHW {t:List (List Int×Int)} {r:List Int} (h:r∈t.map (·.1)):∃ c,getT t r=some c:=by
 obtain ⟨q,hq,e⟩:=List.mem_map.mp h
 unfold getT
 cases hf:t.find? fun q=>decide (q.1=r) with
 | some p=>exact ⟨p.2,rfl⟩
 | none=>exact absurd (decide_eq_true e) (by simpa using List.find?_eq_none.mp hf q hq)
def AC5:pF:=fun xs K=>∃ n b:Int,xs=[.bag,.int n,.int b]∧0≤n∧n≤100∧0<b∧b<2 ^ 64∧∀ r:List Int,(r.length:Int)=n→(∀ x∈r,0≤x∧x<b)→K (rowP r)
def AN0:pF:=fun xs K=>xs=[.bag]∧∀ c:Int,1≤c→c≤1000000000000→K (.int c)
def Rows (t:List (List Int×Int)):Prop:=t.length<2∨∃ n,0<n∧∀ q∈t,q.1.length=n
theorem QS.weak {ι:Type} {Xs:ι→Cx} {st:Stmt} {p m:pS} (h:QS Xs st p) (hw:∀ E ρ,m E ρ→p E ρ):QS Xs st m:=let ⟨t,h1,h2⟩:=h;⟨t,h1,fun W ρ σ H D E ok h r=>h2 W ρ σ H D E ok (hw E ρ h) r⟩
structure Drawn (n:Nat) (t:List (List Int×Int)):Prop where
 len:t.length≤40
 rows:∀ q∈t,q.1.length=n
 nd:(t.map (·.1)).Nodup
 row:∀ q∈t,∀ x∈q.1,0≤x∧x≤9
 cnt:∀ q∈t,1≤q.2∧q.2≤1000000000000
theorem AIq {t:List (List Int×Int)} {r:List Int} {c:Int} {q:List Int×Int} (h:q∈putT t r c):q∈t∨q=(r,c):=by
 unfold putT at h
 split at h
 ·obtain ⟨p,hp,e⟩:=List.mem_map.mp h
  by_cases z:p.1=r
  ·rw [if_pos z,z] at e;exact .inr e.symm
  ·rw [if_neg z] at e;exact .inl (e ▸ hp)
 ·rcases List.mem_append.mp h with z | z
  ·exact .inl z
  ·exact .inr (List.mem_singleton.mp z)
structure DrawnI (n i:Nat) (t:List (List Int×Int)):Prop where
 len:t.length≤i
 rows:∀ q∈t,q.1.length=n
 nd:(t.map (·.1)).Nodup
 row:∀ q∈t,∀ x∈q.1,0≤x∧x≤9
 cnt:∀ q∈t,1≤q.2∧q.2≤1000000000000
theorem DrawnI.nil {n:Nat}:DrawnI n 0 []:=⟨by simp,by simp,by simp,by simp,by simp⟩
theorem DrawnI.put {n i:Nat} {t:List (List Int×Int)} (h:DrawnI n i t) {r:List Int} {c:Int} (hr:r.length=n) (hx:∀ x∈r,0≤x∧x≤9) (h1:1≤c) (h2:c≤1000000000000):DrawnI n (i + 1) (putT t r c) where
 len:=Nat.le_trans (AC4 t r c) (Nat.add_le_add_right h.len 1)
 rows:=ACh h.rows hr
 nd:=ACk h.nd
 row:=fun q hq=>(AIq hq).elim (h.row q) fun e=>by rw [e];exact hx
 cnt:=fun q hq=>(AIq hq).elim (h.cnt q) fun e=>by rw [e];exact ⟨h1,h2⟩
theorem DrawnI.out {n i:Nat} {t:List (List Int×Int)} (h:DrawnI n i t) (hi:i≤40):Drawn n t:=⟨Nat.le_trans h.len hi,h.rows,h.nd,h.row,h.cnt⟩
def AF0:pF:=fun xs K=>∃ room,xs=[.bag,nmP room]∧room.length≤9∧∀ t,Drawn room.length t→K (tlP (AAZ t))
def fTruth:pF:=fun xs K=>∃ a b,xs=[.bl a,.bl b]∧K (.bl (a == b))
end L2
namespace L2
open PySem PySem.Spec PyProof.Rows
def ANF (k:Nat) (pi:pE):pS:=fun E ρ=>match ρ[k]? with
 | some (.own (.lst ys))=>pi ρ fun i _=>∃ (m:Nat) (z:P),i=.int (m:Int)∧m<2 ^ 62∧ys[m]?=some z∧ys.length<16777216∧E.nx (ρ.set k (.own (.lst (ys.eraseIdx m ++ [z]))))
 | _=>False
section
variable {ι:Type} {Xs:ι→Cx} {a b:Expr} {pa pb:pE} {pos apos cpos p1:Pos} {x:Str} {k j:Nat} {Kf:PySem.W.Frag} {t u:TE}
end
theorem AIr {a b:List Str}:(a.map P.str=b.map P.str)=(a=b):=propext ⟨AIm,fun h=>by rw [h]⟩
theorem AIs {a b:List Int}:(a.map P.int=b.map P.int)=(a=b):=propext ⟨AIl,fun h=>by rw [h]⟩
theorem AJz {a b:List (List Int×Int)}:(a.map prP=b.map prP)=(a=b):=propext ⟨fun h=>AEn (fun _ _=>AL6) h,fun h=>by rw [h]⟩
theorem AIt {a b:List (List Int)}:(a.map rowP=b.map rowP)=(a=b):=propext ⟨fun h=>AEn (fun _ _=>AGl) h,fun h=>by rw [h]⟩
theorem ACM (t:List (List Int×Int)):(AAZ t).length≤t.length:=by
 unfold AAZ
 rw [List.length_map]
 refine Nat.le_trans (List.length_filter_le _ _) ?_
 rw [(ACL _).length_eq,List.length_map];exact Nat.le_refl _
theorem AKj {t:List (List Int×Int)} {q:List Int×Int} (h:q∈AAZ t):q.1∈t.map (·.1):=by
 unfold AAZ at h
 obtain ⟨r,hr,rfl⟩:=List.mem_map.mp h
 exact (ACL _).mem_iff.mp (List.mem_filter.mp hr).1
end L2
namespace L2
open PySem PySem.Spec PyProof.Rows PySem.W PySem.SeqAt
theorem AF1 {M:Model} {A:Around} {E:Value→Shared→Prop} {s:Shared} {β:Type} (f:Nat→β→Sem (ForInStep β)) (I:List Nat→β→Shared→Prop) (Q:β→Shared→Prop)
  (turn:∀ y l c u,I (y :: l) c u→wpAny M A (f y c) (fun z u'=>match z with | .yield c'=>I l c' u' | .done c'=>Q c' u') E u)
  (fin:∀ b s,I [] b s→Q b s) (m:Nat) (b:β) (h:I (List.range' 0 m) b s):wpAny M A (forIn [0:m] b f) Q E s:=by
 rw [Std.Legacy.Range.forIn_eq_forIn_range']
 simp only [Std.Legacy.Range.size,Nat.sub_zero,Nat.add_sub_cancel,Nat.div_one]
 exact wpAny_forIn_list f I Q turn fin _ b h
theorem AHk (l:Addr) (items:Array Value) (n:Nat) (dd:Option Addr) (sl:Array (Option Value)) (x:Value) (e:Value→Bool) (j:Nat) (hj:j<items.size)
  (hit:e items[j]=true) (hno:∀ m (hm:m<items.size),m<j→e items[m]=false):Meets (Builtin.«tuple.index» ⟨[.ref l,x],[]⟩)
   (fun A R s=>s.heap.get? l=some { cls:=.type "tuple",dict:=dd,data:=.seq items n,slots:=sl }∧(∀ y,y∈items→EqAt A.in1 s y x (e y))∧R (.ok (.ret (.int j s.toks))) { s with toks:=s.toks + 1 }) :=
 .of_wp fun prog w A R s h=>by
  obtain ⟨hp,g,d,tk,os⟩:=s;obtain ⟨hl,he,h⟩:=h
  wp_walk using wpAny_loadPart' hl,AF1 _ (fun rest b s'=>b.1=none∧s'=⟨hp,g,d,tk,os⟩∧∃ i,i≤j∧rest=List.range' i (items.size - i)) _
  case turn =>
   rintro i rest b s' ⟨hb,rfl,i',hi,hr⟩
   obtain ⟨rfl,hrest⟩:i=i'∧rest=List.range' (i' + 1) (items.size - (i' + 1)):=by
    have e:items.size - i'=(items.size - (i' + 1)) + 1:=by lia
    rw [e,List.range'_succ] at hr
    injection hr with h1 h2
    exact ⟨h1,h2⟩
   have hlt:i<items.size:=by lia
   rw [Array.getElem?_eq_getElem hlt]
   refine wB (he _ (Array.getElem_mem hlt) prog w _ _ ?_)
   by_cases z:i=j
   ·subst z
    rw [hit]
    wp_walk
    exact ⟨_,rfl,h⟩
   ·rw [hno i hlt (by lia)]
    wp_walk
    exact ⟨rfl,rfl,i + 1,by lia,hrest⟩
  case fin =>
   rintro ⟨b1,b2⟩ s' ⟨hb,rfl,i,hi,hr⟩
   exfalso
   have:=congrArg List.length hr
   simp at this
   lia
  case h =>
   exact ⟨rfl,rfl,0,Nat.zero_le _,by simp⟩
noncomputable def AJ0:V→List V→Hp→VK→Prop:=fun x vs H Q=>∃ (p:Addr) (ss:List Str) (z:Str) (j:Nat),x=.ref p∧vs=[.str z]∧H p=some (.tup (ss.map V.str))∧ss[j]?=some z∧(∀ m,m<j→ss[m]?≠some z)∧Q (.int j) H
def tTM (r:V→List V→Hp→VK→Prop) (to:TE) (t:TA):TE:=fun σ H Q=>to σ H fun x H1=>(∃ p vs,x=.ref p∧H1 p=some (.tup vs))∧t σ H1 fun xs H2=>r x xs H2 Q
section
variable {X:Cx} {o e:Expr} {es:List Expr} {to:TE} {t:TA} {name:Str} {apos cpos:Pos} {id:String} {r:V→List V→Hp→VK→Prop}
theorem AQl (slot:Slot "tuple" name id) (hty:typeOf (.builtin id)=pure (.type "method_descriptor")) (hm:MtR X id r) (ho:PE X o to) (ha:PA X (e :: es) t)
  (hbase:attributeBase o name X.env (eval o X.env)=eval o X.env:=by rfl)
  (hfew:((backTo cpos (starEach (e :: es) X.env)).all (fun x=>!x.1) && (backToKw cpos (keywordEach [] X.env)).all (fun x=>x.1.isSome)
   && decide ((e :: es).length + ([]:List Keyword).length + (if ([]:List Keyword).isEmpty then 0 else 1)<30))=true:=by rfl)
  (hline:(apos.endLine == cpos.line)=true:=by rfl) (hs:starEach (e :: es) X.env=(false,eval e X.env) :: starEach es X.env:=by rfl) (hplain:(backTo cpos (starEach es X.env)).any (·.1)=false:=by rfl) :
  PE X (.Call (.Attribute o name apos) (e :: es) [] cpos) (tTM r to t):=by
 intro pins s σ H Q I h
 refine wpAny_Call_method_late hbase hfew hline rfl (thn (ho pins s σ H _ I h) fun v s1 ⟨x,H1,I1,r1,⟨p,ws,ex,hp⟩,q1⟩=>?_)
 subst ex
 cases r1
 obtain ⟨_,its,_,ht⟩:=I1.hok p _ hp
 have h12:s1.TypeIs (.ref p) "tuple"∧∀ a,Value.ref p=.ref a→∃ ob,s1.heap.get? a=some ob∧ob.dict=none:=by
  obtain ⟨o',e1,e2,_,e3⟩:=ht
  exact ⟨⟨_,e1,e2⟩,fun a e=>by cases e;exact ⟨_,e1,e3⟩⟩
 obtain ⟨h1,h2⟩:=h12
 refine ⟨"tuple",id,PySem.F.plainAttrs_tuple,slot,hty,h1,h2,?_⟩
 have hA:=ha cpos pins s1 σ H1 _ I1 q1
 rw [hs] at hA ⊢
 refine Calls.callWith_builtin (by show (false || (backTo cpos (starEach es X.env)).any (·.1))=false;rw [hplain] <;> rfl) (Calls.evalArgs_plain ?_)
 exact thn hA fun us s2 ⟨vs,H2,I2,r2,q2⟩=>hm pins s2 σ H2 (.ref p) vs (.ref p) us Q I2 rfl r2 q2
theorem AMA:MtR X "tuple.index" AJ0:=by
 intro pins s σ H x vs v us Q I rx rv h
 obtain ⟨p,ss,z,j,rfl,rfl,hp,hj,hno,q⟩:=h
 cases rx
 obtain ⟨u,rfl,ru⟩:=rv.one
 obtain ⟨t,rfl⟩:=ru
 obtain ⟨_,its,w,ht⟩:=I.hok p _ hp
 have hl:=w.length
 rw [List.length_map] at hl
 have at_:∀ (m:Nat) (hm:m<its.toArray.size),∃ x t',ss[m]?=some x∧its.toArray[m]=.str x t':=fun m hm=>by
  have hm':m<ss.length:=by simpa [hl] using hm
  obtain ⟨y,e1,t',e2⟩:=w.get (i:=m) (x:=V.str ss[m]) (by simp [hm'])
  refine ⟨ss[m],t',by simp [hm'],?_⟩
  have e3:its[m]?=some (its.toArray[m]):=by simp [show m<its.length by simpa using hm]
  rw [e1] at e3
  exact (Option.some.inj e3).symm.trans e2
 have hjs:j<ss.length:=(List.getElem?_eq_some_iff.mp hj).1
 have hjz:j<its.toArray.size:=by simpa [←hl] using hjs
 obtain ⟨n,sl,e0⟩:∃ (n:Nat) (sl:Array (Option Value)),s.heap.get? p=some { cls:=.type "tuple",dict:=none,data:=.seq its.toArray n,slots:=sl }:=by
  obtain ⟨⟨c,dd,da,sl⟩,e1,e2,⟨n,e3⟩,e4⟩:=ht
  simp only at e2 e3 e4
  subst e2 e3 e4
  exact ⟨n,sl,e1⟩
 refine call_meets PySem.F.slot_tuple_index ⟨_,e0,rfl⟩ PySem.F.entry_tuple_index (PySem.F.args_tuple_index_2 _ _)
  (AHk p its.toArray _ none _ (.str z t) (fun y=>match y with | .str a _=>a == z | _=>false) j hjz ?_ ?_) ⟨e0,fun y hy=>?_,⟨.int j,H,I.tok _,⟨_,rfl⟩,q⟩⟩
 ·obtain ⟨x,t',e1,e2⟩:=at_ j hjz
  rw [hj] at e1
  cases e1
  rw [e2];simp
 ·intro m hm hlt
  obtain ⟨x,t',e1,e2⟩:=at_ m hm
  rw [e2]
  have:x≠z:=fun e=>hno m hlt (by rw [e1,e])
  simp [this]
 ·obtain ⟨m,hm,rfl⟩:=Array.getElem_of_mem hy
  obtain ⟨x,t',e1,e2⟩:=at_ m hm
  rw [e2]
  exact EqAt.str_str x t' z t
end
end L2
namespace L2
open PySem PySem.Spec PyProof.Rows PySem.W
def AIu (po pe:pE):pE:=fun ρ K=>po ρ fun x _=>(∃ xs,x=.tup xs)∧pe ρ fun y _=>∃ (ss:List Str) (z:Str) (j:Nat),x=nmP ss∧y=.str z∧ss[j]?=some z∧(∀ m,m<j→ss[m]?≠some z)∧K (.int j) .fr
section
variable {ι:Type} {Xs:ι→Cx} {o e:Expr} {pe po:pE} {pos apos cpos:Pos}
theorem AIv (ho:QE Xs o po) (he:QE Xs e pe) (hb:∀ i,attributeBase o "index" (Xs i).env (eval o (Xs i).env)=eval o (Xs i).env:=by intro _;rfl)
  (hl:(apos.endLine == cpos.line)=true:=by rfl) (hst:∀ i,starEach [e] (Xs i).env=[(false,eval e (Xs i).env)]:=by intro _;rfl):QE Xs (.Call (.Attribute o "index" apos) [e] [] cpos) (AIu po pe):=by
 obtain ⟨to,o1,o2⟩:=ho
 obtain ⟨te,e1,e2⟩:=he
 refine ⟨tTM AJ0 to (ABy te tNil),fun i=>AQl PySem.F.slot_tuple_index PySem.F.type_tuple_index AMA (o1 i) (AAL (e1 i) AAY (hst i)) (hb i) (by rw [hst i];rfl) hl (hst i) rfl,fun W ρ σ H Q K ok hk q=>o2 W ρ σ H _ _ ok hk fun x f v H1 ⟨⟨xs,ex⟩,h1⟩ s1 r1=>?_⟩
 have ok1:=ok.step s1
 subst ex
 obtain ⟨p,us,rfl,c,rv⟩:=ABo ok1 r1
 refine ⟨⟨p,us,rfl,c⟩,e2 W ρ σ H1 _ _ ok1 h1 fun y g u H2 ⟨ss,z,j,e3,e4,e5,e6,k2⟩ s2 r2=>?_⟩
 have ok2:=ok1.step s2
 obtain ⟨p',us',e7,c',rv'⟩:=ABo ok2 (r1.step ok1 s2)
 cases e7
 cases e3
 subst e4
 cases ACy ok2 r2
 rw [Rps.strs.mp rv'] at c'
 exact ⟨p,ss,z,j,rfl,rfl,c',e5,e6,q _ _ _ _ k2 (s1.trans s2) ADV⟩
end
def AHz:pC:=fun xs K=>match xs with
 | [(.int i,_),(.int j,_)]=>K (.int (if j<i then j else i)) .fr
 | _=>False
def AH0:pC:=fun xs K=>match xs with
 | [(.int i,_),(.int j,_)]=>K (.int (if j > i then j else i)) .fr
 | _=>False
theorem APj:RefC (fun xs H Q=>∃ i j,xs=[.int i,.int j]∧Q (.int (if j<i then j else i)) H) AHz:=fun W ρ σ Hs H Q K xs vs ok st r hp q=>by
 unfold AHz at hp
 split at hp
 ·obtain ⟨v,u,rfl,r1,r2⟩:=r.two
  cases ABC ok r1
  cases ABC ok r2
  exact ⟨_,_,rfl,q _ _ _ H hp (Step.refl ok.bag) ADV⟩
 ·exact hp.elim
theorem APk:RefC (fun xs H Q=>∃ i j,xs=[.int i,.int j]∧Q (.int (if j > i then j else i)) H) AH0:=fun W ρ σ Hs H Q K xs vs ok st r hp q=>by
 unfold AH0 at hp
 split at hp
 ·obtain ⟨v,u,rfl,r1,r2⟩:=r.two
  cases ABC ok r1
  cases ABC ok r2
  exact ⟨_,_,rfl,q _ _ _ H hp (Step.refl ok.bag) ADV⟩
 ·exact hp.elim
noncomputable def rdI (g:Int→Int→Int):V→V→Hp→VK→Prop:=fun x y H Q=>∃ i j,x=.int i∧y=.int j∧Q (.int (g i j)) H
theorem ANG {X:Cx}:InOp X .Sub (rdI (· - ·)):=APH
def AF2 (g:Int→Int→Int) (k:Nat) (pk pe:pE):pS:=fun E ρ=>match ρ[k]? with
 | some (.own (.dT ks vs))=>pk ρ fun z _=>∃ r o,keyT z=some r∧AA6 ks vs r=some (.int o)∧pe ρ fun y _=>∃ d,y=.int d∧ks.length<16777216∧E.nx (ρ.set k (.own (.dT (AB0 ks r) (ACj ks vs r (.int (g o d))))))
 | _=>False
section
variable {ι:Type} {Xs:ι→Cx} {a b:Expr} {pa pb:pE} {pos pos' p1:Pos} {x:Str} {k:Nat} {t u:TE} {g:Int→Int→Int}
theorem AMB (h1:RefE t pa) (h2:RefE u pb):RefS (ANq (tVar k) t u (rdI g)) (AF2 g k pa pb):=fun W ρ σ H D E ok hk r=>by
 unfold AF2 at hk
 split at hk
 ·rename_i ks xs e
  obtain ⟨w,hs,p,e2,_,_,gb,_,vs,c1,c2,c3⟩:=ok.slot k _ e
  subst e2
  have ho:OwS ρ σ p:=⟨k,_,e,hs⟩
  refine ⟨.ref p,hs,h1 W ρ σ H _ _ ok hk fun z fz vz H1 ⟨rr,o,k0,k1,k2⟩ s1 rz=>?_⟩
  have ok1:=ok.step s1
  obtain ⟨q,rfl,c4⟩:=AC3 ok1 k0 rz
  have c1':=s1.same p _ gb c1
  have c3':Rps W.b (Zf W ρ σ) H1 xs vs:=c3.step (f:=.fr) s1 ok.bag
  obtain ⟨v0,a1,a2⟩:=(ACs ACD (k:=rr) c3' c2).1 _ k1
  cases (show v0=.int o from a2)
  refine ⟨p,.int o,rfl,by rw [←a1];exact DGet.t c1' c4,h2 W ρ σ H1 _ _ ok1 k2 fun y f v H2 ⟨d,k3,k4,k5⟩ s2 r2=>?_⟩
  subst k3
  have s12:=s1.trans s2
  have ok2:=ok.step s12
  cases ABC ok2 r2
  have c1'':=s12.same p _ gb c1
  have c3'':Rps W.b (Zf W ρ σ) H2 xs vs:=c3.step (f:=.fr) s12 ok.bag
  have c4':=(AC3 ok2 k0 (rz.step ok1 s2))
  obtain ⟨q',eq',c5⟩:=c4'
  cases eq'
  refine ⟨o,d,rfl,rfl,_,DPut.t c1'' c5 (by rw [List.length_zip,List.length_map];exact Nat.lt_of_le_of_lt (Nat.min_le_left _ _) k4),r.nx _ _ _ k5 ?_⟩
  obtain ⟨vs',f1,f2⟩:=AGg ACD (k:=rr) c3'' c2 (show Rp W.b (Zf W ρ σ) H2 (.int (g o d)) (.int (g o d)) from rfl)
  rw [f1]
  have kk:=ABv (o:=HO.dT (((AB0 ks rr).map keyI).zip vs')) ok2 ho (f:=.fr) (.inr rfl)
  exact ok2.mut e hs (fun _ z=>nomatch z) ⟨vs',AAG,AC2 c2,f2.keep kk.1 kk.2⟩
 ·exact hk.elim
theorem AOY {op:Operator} (hu:∀ i,(Xs i).A.units + 1<cLine) (hop:∀ i,InOp (Xs i) op (rdI g)) (ha:QE Xs a pa) (hb:QE Xs b pb) (hN:∀ i,(Xs i).N[k]?=some x:=by intro _;rfl) (hv:∀ i,Vis (Xs i).env.scope x:=by intro _;trivial) (hd:(x == ("__debug__":Str))=false:=by decide) (hcd:(x == ("__classdict__":Str))=false:=by decide)
  (hst:∀ ov iv new,augStore a ov iv new=(do holding [new,ov,iv] (setItem ov iv new);release [new,ov,iv] [];pure .next):=by intros;rfl):QS Xs (.AugAssign (.Subscript (.Name x p1) a pos') op b pos) (AF2 g k pa pb):=by
 obtain ⟨t,e1,e2⟩:=ha
 obtain ⟨u,g1,g2⟩:=hb
 exact ⟨_,fun i=>AOJ (hu i) (AB2 (hN i) (hv i) hd hcd) (e1 i) (g1 i) (hop i) hst,AMB e2 g2⟩
end
section
variable {X:Cx} {pins:List (Addr×Obj)} {σ:St} {H:Hp} {s:Shared}
end
section
variable {X:Cx} {pins:List (Addr×Obj)} {σ:St} {H:Hp} {s:Shared}
end
def APl:pC:=p1 fun x f K=>∃ (ks:List (List Int)) (xs:List P),x=.dT ks xs∧ks.length<64∧(ks.length<2∨∃ n,0<n∧∀ r∈ks,r.length=n)∧∀ rs':List (List Int),rs'.Perm ks→SrtR rs'→K (.lst (rs'.map rowP)) .nw
end L2
namespace PySem
open Sem (wp)
theorem AGm:typeLookup (.type "list") (Str.ofString "keys")=pure none:=am_miss_of_fast (by decide +kernel)
theorem AGn {prog:Program} {w:World} {A:Around} {E:Value→Shared→Prop} {s:Shared} {a:Addr} {o:Obj} {xs:Array Value} {k:Nat} {Q:Option Value→Shared→Prop}
  (hx:s.heap.get? a=some o) (hc:o.cls=.type "list") (hdat:o.data=.seq xs k) (hd:o.dict=none) (hA:A.handled=none)
  (h:∀ h' tk e,Heap.NewExcOf s.heap h' e "AttributeError"→Q none { s with heap:=h',toks:=tk }) :
  wpAny (model prog w) A (getAttr? (.ref a) (Str.ofString "keys")) Q E s:=by
 obtain ⟨c,dct,dat,sl⟩:=o
 simp only at hc hdat hd
 subst hc hdat hd
 obtain ⟨hp,g,d,tk,os⟩:=s
 have hT:∀ tk',(⟨hp,g,d,tk',os⟩:Shared).TypeIs (.ref a) "list":=fun _=>⟨_,hx,rfl⟩
 have f1:=sub_AttributeError
 have f3:=F.slot_list_getattribute.lookup
 have f4:=F.slot_list_getattribute.bind (.ref a)
 have f5:=am_list_getattr_none
 have hmiss:=AGm
 unfold getAttr? getAttrBy? getAttrBy
 repeat (any_goals (first | assumption | exact hT _ | ((with_reducible show wpAny _ _ (call (Value.builtin "list.__getattribute__") _ _) _ _ _);refine call_meets F.slot_list_getattribute (hT _) am_entry_list_getattribute (F.args_list_getattribute_2 _ _) (meets_getattribute_miss_list a xs k sl (Str.ofString "keys") _ hmiss (by decide +kernel)) ⟨hx,by assumption,fun h' tk' e hx'=>?_⟩) | wp_step))
 obtain ⟨t',u',he⟩:=hx'.there
 show wpAny _ _ (getattributeRaised _ _ _ _ _ _ _) _ _ _
 unfold getattributeRaised
 repeat (any_goals (first | assumption | wp_step))
 all_goals first | exact h _ _ _ hx'.of | trace_state
end PySem
namespace L2
open PySem PySem.Spec PyProof.Rows PySem.W
theorem ADJ:plainId "dict.update.loop"=true:=by decide +kernel
theorem AHX:entryFor table "dict.update.loop"=some Builtin.«dict.update.loop»:=entryFor_of_fast (by kernel_rfl)
theorem ANH {H:Hp} {a:Addr} {o:HO} (e:H a=some o):upd H a o=H:=by
 funext b
 by_cases hb:b=a
 ·subst hb;rw [AAG,e]
 ·rw [AAE hb]
section
variable {X:Cx} {pins:List (Addr×Obj)} {σ:St} {H:Hp} {s:Shared} {E:Value→Shared→Prop}
theorem AMC {kvs:List (List Key×V)} {k:List Key} {a b:Addr} {v:V} {r:Value} {B:Around} {Q:Unit→Shared→Prop} (hr:(tupleKind (AAo X.prog X.w)).room B) (I:Inv X pins σ H s) (e:H a=some (.dT kvs)) (eb:H b=some (.tup (k.map kV))) (l:kvs.length<sizeLine) (rv:RelV v r)
  (h:∀ s',Inv X pins σ (upd H a (.dT (putK kvs k v))) s'→Heap.SameBut a s.heap s'.heap→Q () s'):wpAny (model X.prog X.w) B (dictSet a (.ref b) r) Q E s:=by
 obtain ⟨z,hd,xs,rel,dd⟩:=ANo I.hok e
 have hz:xs.length≤sizeLine:=by rw [←Paired.length rel];exact z
 have hl:(putK kvs k v).length≤sizeLine:=by have:=ACY kvs k v;lia
 refine wpAny_dictSet_heap (hsz:=hz) hr (AD2 I.hok eb) dd fun h' dd' hs=>h _ ?_ hs
 obtain ⟨q,es,ep,hq,h2,h3,h4,_,h5⟩:=dd'
 refine AGW I (by rw [e];exact True.intro) hs ⟨q,hq⟩ ⟨hl,hd,_,(rel.put k eb rv).keeps fun c ys ec=>?_,q,es,ep,hq,h2,h3,h4,h5⟩
 rw [AAE (AEY ec e (fun z=>nomatch z))]
 exact ec
noncomputable def ADa (kvs:List (List Key×V)):List (Addr×List Key×Addr×V)→List (List Key×V)
 | []=>kvs
 | p :: r=>ADa (putK kvs p.2.1 p.2.2.2) r
theorem ANI {A:Around} (hh:A.handled=none) (hr:(tupleKind (AAo X.prog X.w)).room A.in1) {R:Result→Shared→Prop} {l d it:Addr} {ps:List (Addr×List Key×Addr×V)}:∀ (n i:Nat) (s:Shared) (H:Hp) (kvs:List (List Key×V)),ps.length - i=n→i≤ps.length→Inv X pins σ H s→H d=some (.dT kvs) →
  H l=some (.lst (ps.map fun p=>V.ref p.1))→(∀ p∈ps,H p.1=some (.tup [.ref p.2.2.1,p.2.2.2])∧H p.2.2.1=some (.tup (p.2.1.map kV)))→s.heap.IsListIter it l i→FpOk X pins H it→kvs.length + n<sizeLine →
  (∀ s',Inv X pins σ (upd H d (.dT (ADa kvs (ps.drop i)))) s'→R (.ok (.ret .none)) s') →
  wpAny (model X.prog X.w) A.in1 (Builtin.«dict.update.loop» ⟨[.ref d,.ref it,rawInt i,.none],[]⟩) (fun fin s'=>match fin with | .done f=>R (.ok f) s' | .again c'=>c'.quiet=true∧codeAny (model X.prog X.w) A c' R s') (fun e s'=>R (.error e) s') s:=by
 intro n
 induction n with
 | zero =>
  intro i s H kvs hn hi I ed el hps st hf hsz k
  have hi':i=ps.length:=by lia
  obtain ⟨its,rv,pl,hz⟩:=I.list (.of el)
  have hl:=rv.length
  rw [List.length_map] at hl
  obtain ⟨f0,f1,f2,f3,f4,f5⟩:=hf
  unfold Builtin.«dict.update.loop»
  refine wB (wpAny_pyNext_list_end (A:=A.in1) hh st pl.isList (by simp;lia) fun h' eb=>?_)
  have I1:Inv X pins σ H { s with heap:=h' }:=I.turned (t':=s.toks) (fun b o hb e=>eb b o hb e) f0 f1 f3 f4 f5
  have:=k _ (by rw [hi',List.drop_length];unfold ADa;rw [ANH ed];exact I1)
  show wpAny _ _ (Builtin.Dict.addKeywords d [] >>= _) _ _ _
  exact wB (wP (wP this))
 | succ n ih =>
  intro i s H kvs hn hi I ed el hps st hf hsz k
  have hlt:i<ps.length:=by lia
  obtain ⟨its,rv,pl,hz⟩:=I.list (.of el)
  obtain ⟨h1,h2⟩:=hps ps[i] (List.getElem_mem hlt)
  obtain ⟨u,hu,ru⟩:=rv.get (i:=i) (x:=V.ref ps[i].1) (by simp [hlt])
  cases ru
  obtain ⟨f0,f1,f2,f3,f4,f5⟩:=id hf
  unfold Builtin.«dict.update.loop»
  refine wB (wpAny_pyNext_list_item st pl.isList (x:=.ref ps[i].1) (by simpa using hu) fun h' st' sb=>?_)
  have I1:Inv X pins σ H { s with heap:=h' }:=I.turned (t':=s.toks) (fun b o hb e=>(sb.2 b hb).trans e) f0 f1 f3 f4 f5
  obtain ⟨_,ts,w1,o1,g1,g2,⟨n1,g3⟩,_⟩:=I1.hok _ _ h1
  obtain ⟨u1,u2,rfl,r1,r2⟩:=AKG w1
  cases r1
  have hT:(⟨h',s.gens,s.drawn,s.toks,s.os⟩:Shared).TypeIs (.ref ps[i].1) "tuple":=⟨o1,g1,g2⟩
  have hid:it≠d:=fun z=>by rw [z,ed] at f0;cases f0
  dsimp only
  refine wB (wpAny_holding ?_)
  refine wB (wpAny_tryCatch ?_)
  unfold Builtin.Dict.pairItems
  refine wB (wpAny_typeOf hT ?_)
  rw [if_pos (by decide)]
  refine wB (wpAny_seqItems g1 g3 ?_)
  refine wP ?_
  show wpAny _ _ (holding [Value.ref ps[i].2.2.1,u2] (dictSet d (.ref ps[i].2.2.1) u2)) _ _ _
  refine wpAny_holding (AMC hr I1 ed h2 (by lia) r2 fun s2 I2 sb2=>?_)
  refine wP ⟨plainId_quiet ADJ _,codeAny_builtin AHX ?_⟩
  rw [Around.under_plainId ADJ _]
  have hc:((i:Int) + 1)=((i + 1:Nat):Int):=by push_cast;rfl
  rw [hc]
  have nt:∀ b ys,H b=some (HO.tup ys)→b≠d:=fun b ys e=>AEY e ed (fun z=>nomatch z)
  have hlk:=ACY kvs ps[i].2.1 ps[i].2.2.2
  refine ih (i + 1) s2 _ _ (by lia) hlt I2 AAG (by rw [AAE (AEY el ed (fun z=>nomatch z))];exact el) (fun p hp=>?_) ?_ ⟨by rw [AAE hid];exact f0,f1,f2,f3,f4,f5⟩ (by lia) fun s' I'=>k s' ?_
  ·obtain ⟨a1,a2⟩:=hps p hp
   exact ⟨by rw [AAE (nt _ _ a1)];exact a1,by rw [AAE (nt _ _ a2)];exact a2⟩
  ·obtain ⟨o,e,r⟩:=st'
   exact ⟨o,(sb2.2 it hid).trans e,r⟩
  ·rw [AGP] at I'
   rw [List.drop_eq_getElem_cons hlt]
   exact I'
end
noncomputable def AMD:List V→Hp→VK→Prop:=fun xs H Q=>∃ (l:Addr) (ps:List (Addr×List Key×Addr×V)),xs=[.ref l]∧H l=some (.lst (ps.map fun p=>V.ref p.1))∧(∀ p∈ps,H p.1=some (.tup [.ref p.2.2.1,p.2.2.2])∧H p.2.2.1=some (.tup (p.2.1.map kV)))∧ps.length<16777216 ∧
 ∀ d,H d=none→Q (.ref d) (upd H d (.dT (ADa [] ps)))
section
variable {X:Cx} {pins:List (Addr×Obj)} {σ:St} {H:Hp} {s:Shared}
theorem AKk {k:Nat} (hc:X.calm=true) (hr:Room k X.A):AAs X (.type "dict") AMD:=by
 intro pins s σ H xs us Q I r h
 obtain ⟨l,ps,rfl,hl,hps,hz,q⟩:=h
 obtain ⟨u,rfl,ru⟩:=r.one
 cases ru
 have hd0:H s.heap.objs.size=none:=I.hok.fresh (Nat.le_refl _)
 have I0:Inv X pins σ (upd H s.heap.objs.size (.dT [])) { s with heap:=s.heap.push { cls:=.type "dict",data:=.dict #[] } } :=
  I.laid (t':=s.toks) (fun b o e=>Heap.get?_push_of_some _ e) (Nat.le_refl _) (AIG s.heap (modules_low I.nolimit))
 refine callType_codes (Q₁:=fun obj s₁=>obj=.ref s.heap.objs.size∧s₁={ s with heap:=s.heap.push { cls:=.type "dict",data:=.dict #[] } }) F.kt_called_dict (F.kt_typeCall_dict_1 _) F.entry_dict_init (kt_code_dict_new _ ⟨rfl,rfl⟩) ?_
 rintro obj s₁ ⟨rfl,rfl⟩
 have hT:(⟨s.heap.push { cls:=.type "dict",data:=.dict #[] },s.gens,s.drawn,s.toks,s.os⟩:Shared).TypeIs (.ref s.heap.objs.size) "dict":=⟨_,Heap.get?_push_size _ rfl,rfl⟩
 have el:(upd H s.heap.objs.size (.dT [])) l=some (.lst (ps.map fun p=>V.ref p.1)):=by rw [AAE (AAJ hl hd0)];exact hl
 refine ⟨hT,F.args_dict_init_2 _ _,?_⟩
 unfold Builtin.«dict.__init__»
 refine wB ?_
 unfold Builtin.Dict.selfAndRest
 refine wB (wpAny_notOrdered_dict hT ?_)
 show wpAny _ _ (pure (s.heap.objs.size,[Value.ref l])) _ _ _
 refine wP ?_
 show wpAny _ _ (Builtin.Dict.updateFrom "dict.__init__" s.heap.objs.size (.ref l) [] .none) _ _ _
 unfold Builtin.Dict.updateFrom
 obtain ⟨its,rv,pl,hzl⟩:=I0.list (.of el)
 obtain ⟨ol,nl,e1,e2,e3,e4⟩:=id pl
 refine wB (wpAny_typeOf pl.isList.typeIs ?_)
 rw [if_pos (by decide)]
 refine wB (AGn e1 e2 e4 e3 (I.ok.hd hc) fun h' tk e hx=>?_)
 have I1:=I0.kept (t':=tk) (h':=h') hx.keeps
 simp only [Option.isNone_none,if_true]
 refine wB (wpAny_rule ?_)
 obtain ⟨its1,rv1,pl1,_⟩:=I1.list (.of el)
 refine wB (wpAny_pyIter_list pl1.isList ?_)
 have I2:=I1.kept (t':=tk) (h':=h'.push { cls:=.type "list_iterator",data:=.fields #[.ref l,.int 0 0] }) fun b o e=>Heap.get?_push_of_some _ e
 refine wP ⟨plainId_quiet ADJ _,codeAny_builtin AHX ?_⟩
 rw [Around.under_plainId ADJ _]
 refine ANI (A:=X.A.in1) (l:=l) (ps:=ps) (I.ok.hd hc) (tupleKind_room_in1 (by rw [ACg];have:=hr.un;lia)) _ 0 _ _ [] rfl (Nat.zero_le _) I2 AAG el (fun p hp=>?_) ⟨_,Heap.get?_push_size _ rfl,rfl,rfl⟩ (I1.fpOk (Nat.le_refl _) (I1.hok.fresh (Nat.le_refl _))) ?_ fun s' I'=>⟨rfl,.ref s.heap.objs.size,_,?_,rfl,q _ hd0⟩
 ·obtain ⟨a1,a2⟩:=hps p hp
  exact ⟨by rw [AAE (AAJ a1 hd0)];exact a1,by rw [AAE (AAJ a2 hd0)];exact a2⟩
 ·show 0 + (ps.length - 0)<16777216
  lia
 ·rw [AGP,List.drop_zero] at I'
  exact I'
end
noncomputable def AH1 (t:List (List Int×Int)):List (List Int×Int):=t.foldl (fun a q=>putT a q.1 q.2) []
def AF3:pC:=p1 fun x _ K=>∃ t,x=tlP t∧t.length<16777216∧K (dcP (AH1 t)) .nw
theorem AF4 {b:Addr} {Z:Addr→Prop} {H:Hp}:∀ {t:List (List Int×Int)} {us:List V},Rps b Z H (t.map prP) us→∃ ps:List (Addr×List Key×Addr×V),us=(ps.map fun p=>V.ref p.1)∧ps.map (fun p=>(p.2.1,p.2.2.2))=t.map (fun q=>(keyI q.1,V.int q.2)) ∧
  ∀ p∈ps,H p.1=some (.tup [.ref p.2.2.1,p.2.2.2])∧H p.2.2.1=some (.tup (p.2.1.map kV))
 | [],us,h=>⟨[],h,rfl,fun _ h=>nomatch h⟩
 | q :: t,us,h=>by
  obtain ⟨v,r,rfl,⟨a,ws,rfl,c,w1,r1,rfl,⟨ka,ks,rfl,c2,k2⟩,w2,r2,rfl,e2,e3⟩,h2⟩:=h
  obtain ⟨ps,e4,e5,e6⟩:=AF4 h2
  cases (show w2=.int q.2 from e2)
  cases (show r2=[] from e3)
  rw [Rps.ints.mp k2] at c2
  refine ⟨(a,keyI q.1,ka,.int q.2) :: ps,by rw [e4];rfl,by rw [List.map_cons,List.map_cons,e5],fun p hp=>?_⟩
  rcases List.mem_cons.mp hp with rfl | hp
  ·exact ⟨c,by rw [AGj];exact c2⟩
  ·exact e6 p hp
theorem APm (a:List (List Int×Int)) (r:List Int) (c:Int):putK (a.map fun q=>(keyI q.1,V.int q.2)) (keyI r) (.int c)=(putT a r c).map fun q=>(keyI q.1,V.int q.2):=by
 unfold putK putT
 have e:(a.map fun q=>(keyI q.1,V.int q.2)).any (fun kv=>decide (kv.1=keyI r))=decide (r∈a.map (·.1)):=by
  rw [Bool.eq_iff_iff,List.any_eq_true,decide_eq_true_iff]
  constructor
  ·rintro ⟨x,hx,he⟩
   obtain ⟨q,hq,rfl⟩:=List.mem_map.mp hx
   have:=ACD _ _ (of_decide_eq_true he)
   exact List.mem_map.mpr ⟨q,hq,this⟩
  ·intro h
   obtain ⟨q,hq,rfl⟩:=List.mem_map.mp h
   exact ⟨_,List.mem_map_of_mem hq,decide_eq_true rfl⟩
 rw [e]
 by_cases h:r∈a.map (·.1)
 ·rw [if_pos (decide_eq_true h),if_pos h,List.map_map,List.map_map]
  refine List.map_congr_left fun q _=>?_
  by_cases z:q.1=r
  ·simp [z]
  ·have z':¬ keyI q.1=keyI r:=fun h=>z (ACD _ _ h)
   simp [z,z']
 ·rw [if_neg (by simpa using h),if_neg h]
  simp
theorem AIw:∀ (ps:List (Addr×List Key×Addr×V)) (t a:List (List Int×Int)),ps.map (fun p=>(p.2.1,p.2.2.2))=t.map (fun q=>(keyI q.1,V.int q.2))→ADa (a.map fun q=>(keyI q.1,V.int q.2)) ps=(t.foldl (fun a q=>putT a q.1 q.2) a).map fun q=>(keyI q.1,V.int q.2)
 | [],[],a,_=>rfl
 | [],_ :: _,_,h=>by simp at h
 | _ :: _,[],_,h=>by simp at h
 | p :: ps,q :: t,a,h=>by
  simp only [List.map_cons,List.cons.injEq,Prod.mk.injEq] at h
  unfold ADa
  rw [h.1.1,h.1.2,APm,List.foldl_cons]
  exact AIw ps t _ h.2
theorem AQm (t:List (List Int×Int)):((t.map (·.1)).map keyI).zip (t.map fun q=>V.int q.2)=t.map fun q=>(keyI q.1,V.int q.2):=by
 induction t with
 | nil=>rfl
 | cons q t ih=>simp only [List.map_cons,List.zip_cons_cons,ih]
theorem AQn {b:Addr} {Z:Addr→Prop} {H:Hp} (t:List (List Int×Int)):Rps b Z H (t.map fun q=>P.int q.2) (t.map fun q=>V.int q.2):=by
 have:=(Rps.ints (b:=b) (Z:=Z) (H:=H) (ns:=t.map (·.2)) (vs:=(t.map (·.2)).map V.int)).mpr rfl
 simpa [List.map_map,Function.comp_def] using this
theorem AOZ:RefC AMD AF3:=fun W ρ σ Hs H Q K xs vs ok st r hp q=>by
 unfold AF3 p1 at hp
 split at hp
 ·obtain ⟨v,rfl,rv⟩:=r.one
  obtain ⟨t,rfl,hl,hk⟩:=hp
  obtain ⟨p,us,rfl,c,r1⟩:=AAz ok rv
  obtain ⟨ps,e1,e2,e3⟩:=AF4 r1
  have hlen:ps.length=t.length:=by have:=congrArg List.length e2;simpa using this
  refine ⟨p,ps,rfl,by rw [c,e1],e3,by lia,fun d hd=>q _ _ _ _ hk (Step.new ok.bag hd) ?_⟩
  have hput:=AIw ps t [] e2
  rw [List.map_nil] at hput
  rw [hput,show t.foldl (fun a q=>putT a q.1 q.2) []=AH1 t from rfl,←AQm]
  refine ⟨⟨d,_,rfl,fun z=>ok.dom (f:=.fr) z hd,AAG,by simp,AQn _⟩,fun _=>⟨d,rfl,st.free hd⟩⟩
 ·exact hp.elim
section
variable {X:Cx}
end
def pSum:pC:=p1 fun x f K=>∃ ns:List Int,x=.lst (ns.map P.int)∧K (.int ns.sum) .fr
section
variable {X:Cx} {pins:List (Addr×Obj)} {σ:St}
end
section
variable {X:Cx} {pins:List (Addr×Obj)} {σ:St}
end
def AQo (pe pd:pE):pE:=fun ρ K=>pe ρ fun x f=>pd ρ fun y g=>∃ rs:List (List Int),x=.lst (rs.map rowP)∧y.imm=true∧(rs=[]→K y .fr)∧∀ b r,rs=b :: r→K (rowP (r.foldl (fun m x=>if HT.lexLt x m=true then x else m) b)) .fr
section
variable {ι:Type} {Xs:ι→Cx} {e d:Expr} {pe pd:pE} {p pos kpos:Pos}
end
end L2
namespace L2
open PySem PySem.Spec PyProof.Rows
noncomputable def AKl:Bool→Keyed→Array Keyed→Nat→Nat→Nat→StateT SortSt Sem (Option Nat):=sortPriv% PySem.Builtin.gallop
noncomputable def tsLo:Array Keyed→Array Keyed→StateT SortSt Sem (Array Keyed):=sortPriv% PySem.Builtin.mergeLo
noncomputable def tsHi:Array Keyed→Array Keyed→StateT SortSt Sem (Array Keyed):=sortPriv% PySem.Builtin.mergeHi
structure Cmp (M:Model) (A:Around) (E:Value→Shared→Prop) (s:Shared) (κ:SortKind) (O:KeyOrd) (ky:Keyed→O.α) (mem:Keyed→Prop):Prop where
 ask:∀ x y,mem x→mem y→∀ (R:Option Bool→SortSt→Prop) (st:SortSt),kindOf st=κ→R (some (O.blt (ky x) (ky y))) st→wpS M A E s (lt' x y) R st
section
variable {M:Model} {A:Around} {E:Value→Shared→Prop} {s:Shared} {κ:SortKind} {O:KeyOrd} {ky:Keyed→O.α} {mem:Keyed→Prop}
theorem AAa {arr:Array Keyed} {i:Nat} {x:Keyed} {R:Keyed→SortSt→Prop} {st:SortSt} (e:arr[i]?=some x) (h:R x st):wpS M A E s (elem' arr i) R st:=by
 rw [elem'_eq,e]
 exact wpS_pure h
noncomputable def galP (ky:Keyed→O.α) (left:Bool) (key x:Keyed):Bool:=if left=true then O.blt (ky x) (ky key) else !O.blt (ky key) (ky x)
theorem AME (C:Cmp M A E s κ O ky mem) {left:Bool} {key:Keyed} {arr:Array Keyed} {base n hint:Nat} {R:Option Nat→SortSt→Prop} {st:SortSt} (hk:kindOf st=κ) (hkey:mem key) (p:Nat→Bool)
  (harr:∀ i,i<n→∃ x,arr[base + i]?=some x∧mem x∧p i=galP ky left key x) (hh:hint<n) (mono:∀ i j,i≤j→j<n→p j=true→p i=true)
  (h:∀ k,k≤n→(∀ i,i<k→p i=true)→(∀ i,k≤i→i<n→p i=false)→R (some k) st):wpS M A E s (AKl left key arr base n hint) R st:=by
 have hb:∀ i,i<n→∀ {R:Option Bool→SortSt→Prop},R (some (p i)) st→wpS M A E s (do let x ←elem' arr (base + i);if left=true then lt' x key else do let z ←lt' key x;pure (z.map fun q=>!q)) R st:=by
  intro i hi R hR
  obtain ⟨x,e,hm,hp⟩:=harr i hi
  refine wpS_bind (AAa e ?_)
  cases left with
  | true =>
   rw [if_pos rfl]
   refine C.ask _ _ hm hkey _ _ hk ?_
   rw [hp] at hR;exact hR
  | false =>
   rw [if_neg (by simp)]
   refine wpS_bind (C.ask _ _ hkey hm _ _ hk (wpS_pure ?_))
   rw [hp] at hR;exact hR
 have mono':∀ i j,i≤j→j<n→p i=false→p j=false:=fun i j hij hj hi=>by
  cases e:p j with
  | false=>rfl
  | true=>rw [mono i j hij hj e] at hi;cases hi
 -- the last part: halving
 have half:∀ lo hi,lo≤hi→hi≤n→(∀ i,i<lo→p i=true)→(∀ i,hi≤i→i<n→p i=false)→∀ (F:Nat→Option (Option Nat)×Nat×Nat→StateT SortSt Sem (ForInStep (Option (Option Nat)×Nat×Nat))),
   (∀ x lo hi,¬ lo ≥ hi→lo + (hi - lo) / 2<n→∀ (R':ForInStep (Option (Option Nat)×Nat×Nat)→SortSt→Prop),R' (.yield (if p (lo + (hi - lo) / 2)=true then (none,lo + (hi - lo) / 2 + 1,hi) else (none,lo,lo + (hi - lo) / 2))) st→wpS M A E s (F x (none,lo,hi)) R' st) →
   (∀ x lo hi,lo ≥ hi→∀ (R':ForInStep (Option (Option Nat)×Nat×Nat)→SortSt→Prop),R' (.done (none,lo,hi)) st→wpS M A E s (F x (none,lo,hi)) R' st) →
   ∀ (R':Option (Option Nat)×Nat×Nat→SortSt→Prop),(∀ k,k≤n→(∀ i,i<k→p i=true)→(∀ i,k≤i→i<n→p i=false)→R' (none,k,k) st)→wpS M A E s (forIn [0:n] (none,lo,hi) F) R' st:=by
  intro lo hi h1 h2 h3 h4 F hF hF0 R' hR
  refine wpS_forRange (I:=fun x c st'=>st'=st∧∃ lo hi,c=(none,lo,hi)∧lo≤hi∧hi≤n∧(∀ i,i<lo→p i=true)∧(∀ i,hi≤i→i<n→p i=false)∧hi - lo≤n - x) ?_ ?_ ⟨rfl,lo,hi,rfl,h1,h2,h3,h4,by lia⟩
  ·rintro x c st' _ hx ⟨rfl,lo,hi,rfl,h1,h2,h3,h4,h5⟩
   by_cases hg:lo ≥ hi
   ·refine hF0 x lo hi hg _ ?_
    have e:lo=hi:=by lia
    subst e
    exact hR lo h2 h3 h4
   ·refine hF x lo hi hg (by lia) _ ?_
    cases e:p (lo + (hi - lo) / 2) with
    | true =>
     rw [if_pos rfl]
     exact ⟨rfl,_,_,rfl,by lia,h2,fun i hi'=>mono i _ (by lia) (by lia) e,h4,by lia⟩
    | false =>
     rw [if_neg (by simp)]
     exact ⟨rfl,_,_,rfl,by lia,by lia,h3,fun i h6 h7=>mono' _ i h6 h7 e,by lia⟩
  ·rintro c st' ⟨rfl,lo,hi,rfl,h1,h2,h3,h4,h5⟩
   have e:lo=hi:=by lia
   subst e
   exact hR lo h2 h3 h4
 refine wpS_bind (hb hint hh ?_)
 cases e0:p hint with
 | true =>
  dsimp only
  rw [if_pos rfl]
  refine wpS_bind (wpS_mono (wpS_forRange (I:=fun x c st'=>st'=st∧∃ la o,c=(none,la,o)∧la<o∧x + 1≤o∧hint + la<n∧p (hint + la)=true)
   (Q:=fun c st'=>st'=st∧∃ la o,c=(none,la,o)∧la<o∧hint + la<n∧p (hint + la)=true∧(n - hint≤o∨(hint + o<n∧p (hint + o)=false))) ?s1 ?f1 ⟨rfl,0,1,rfl,by lia,by lia,by lia,e0⟩) ?g1)
  case s1 =>
   rintro x c st' _ hx ⟨rfl,la,o,rfl,h1,h2,h3,h4⟩
   dsimp only
   by_cases hg:o ≥ n - hint
   ·rw [if_pos hg]
    exact wpS_pure ⟨rfl,la,o,rfl,h1,h3,h4,.inl hg⟩
   ·rw [if_neg hg]
    refine wpS_bind (hb (hint + o) (by lia) ?_)
    cases e1:p (hint + o) with
    | true=>exact wpS_pure ⟨rfl,o,2 * o + 1,rfl,by lia,by lia,by lia,e1⟩
    | false=>exact wpS_pure ⟨rfl,la,o,rfl,h1,h3,h4,.inr ⟨by lia,e1⟩⟩
  case f1 =>
   rintro c st' ⟨rfl,la,o,rfl,h1,h2,h3,h4⟩
   exact ⟨rfl,la,o,rfl,h1,h3,h4,.inl (by lia)⟩
  case g1 =>
   rintro c st' ⟨rfl,la,o,rfl,h1,h3,h4,h5⟩
   dsimp only
   refine wpS_bind (half (hint + la + 1) (hint + min o (n - hint)) (by lia) (by lia) (fun i hi=>mono i (hint + la) (by lia) h3 h4) (fun i hi hn=>?_) _ ?_ ?_ _ fun k k1 k2 k3=>wpS_pure (h k k1 k2 k3))
   ·rcases h5 with h5 | ⟨h5,h6⟩
    ·lia
    ·exact mono' (hint + o) i (by lia) hn h6
   ·intro x lo hi hg hm R' hR
    dsimp only
    rw [if_neg hg]
    refine wpS_bind (hb _ hm ?_)
    cases e1:p (lo + (hi - lo) / 2) with
    | true=>rw [e1,if_pos rfl] at hR;exact wpS_pure hR
    | false=>rw [e1,if_neg (by simp)] at hR;exact wpS_pure hR
   ·intro x lo hi hg R' hR
    dsimp only
    rw [if_pos hg]
    exact wpS_pure hR
 | false =>
  dsimp only
  rw [if_neg (by simp)]
  refine wpS_bind (wpS_mono (wpS_forRange (I:=fun x c st'=>st'=st∧∃ la o,c=(none,la,o)∧la<o∧x + 1≤o∧la≤hint∧p (hint - la)=false)
   (Q:=fun c st'=>st'=st∧∃ la o,c=(none,la,o)∧la<o∧la≤hint∧p (hint - la)=false∧(hint + 1≤o∨(o≤hint∧p (hint - o)=true))) ?s1 ?f1 ⟨rfl,0,1,rfl,by lia,by lia,by lia,e0⟩) ?g1)
  case s1 =>
   rintro x c st' _ hx ⟨rfl,la,o,rfl,h1,h2,h3,h4⟩
   dsimp only
   by_cases hg:o ≥ hint + 1
   ·rw [if_pos hg]
    exact wpS_pure ⟨rfl,la,o,rfl,h1,h3,h4,.inl hg⟩
   ·rw [if_neg hg]
    refine wpS_bind (hb (hint - o) (by lia) ?_)
    cases e1:p (hint - o) with
    | true=>exact wpS_pure ⟨rfl,la,o,rfl,h1,h3,h4,.inr ⟨by lia,e1⟩⟩
    | false=>exact wpS_pure ⟨rfl,o,2 * o + 1,rfl,by lia,by lia,by lia,e1⟩
  case f1 =>
   rintro c st' ⟨rfl,la,o,rfl,h1,h2,h3,h4⟩
   exact ⟨rfl,la,o,rfl,h1,h3,h4,.inl (by lia)⟩
  case g1 =>
   rintro c st' ⟨rfl,la,o,rfl,h1,h3,h4,h5⟩
   dsimp only
   refine wpS_bind (half (hint + 1 - min o (hint + 1)) (hint - la) (by lia) (by lia) (fun i hi=>?_) (fun i hi hn=>mono' (hint - la) i hi hn h4) _ ?_ ?_ _ fun k k1 k2 k3=>wpS_pure (h k k1 k2 k3))
   ·rcases h5 with h5 | ⟨h5,h6⟩
    ·lia
    ·exact mono i (hint - o) (by lia) (by lia) h6
   ·intro x lo hi hg hm R' hR
    dsimp only
    rw [if_neg hg]
    refine wpS_bind (hb _ hm ?_)
    cases e1:p (lo + (hi - lo) / 2) with
    | true=>rw [e1,if_pos rfl] at hR;exact wpS_pure hR
    | false=>rw [e1,if_neg (by simp)] at hR;exact wpS_pure hR
   ·intro x lo hi hg R' hR
    dsimp only
    rw [if_pos hg]
    exact wpS_pure hR
end
section
variable {O:KeyOrd} {ky:Keyed→O.α}
abbrev KLe (ky:Keyed→O.α) (x y:Keyed):Prop:=O.kle (ky x) (ky y)
abbrev SrtL (ky:Keyed→O.α) (l:List Keyed):Prop:=l.Pairwise (KLe ky)
structure Mi (ky:Keyed→O.α) (a b out:List Keyed) (ia ib:Nat):Prop where
 perm:(out ++ (a.drop ia ++ b.drop ib)).Perm (a ++ b)
 srt:SrtL ky out
 le:∀ x∈out,∀ y,y∈a.drop ia∨y∈b.drop ib→KLe ky x y
variable {a b out:List Keyed} {ia ib k:Nat}
theorem AHY {l:List Keyed} {k:Nat} {x:Keyed} (h:x∈l.take k∨x∈l.drop k):x∈l:=by
 rw [←List.take_append_drop k l];exact List.mem_append.mpr h
theorem AAR {l:List Keyed} (h:SrtL ky l) (k:Nat):SrtL ky (l.take k)∧SrtL ky (l.drop k)∧∀ x∈l.take k,∀ y∈l.drop k,KLe ky x y:=by
 have h':SrtL ky (l.take k ++ l.drop k):=by rw [List.take_append_drop];exact h
 obtain ⟨h1,h2,h3⟩:=List.pairwise_append.mp h'
 exact ⟨h1,h2,h3⟩
theorem Mi.manyA (m:Mi ky a b out ia ib) (sa:SrtL ky a) (k:Nat) (hb:∀ x∈(a.drop ia).take k,∀ y∈b.drop ib,KLe ky x y):Mi ky a b (out ++ (a.drop ia).take k) (ia + k) ib where
 perm:=by
  have e:a.drop ia=(a.drop ia).take k ++ a.drop (ia + k):=by rw [←List.drop_drop];exact (List.take_append_drop _ _).symm
  have:=m.perm
  rw [e] at this
  simpa [List.append_assoc] using this
 srt:=by
  refine List.pairwise_append.mpr ⟨m.srt,(AAR (AAR sa ia).2.1 k).1,fun x hx y hy=>m.le x hx y (.inl (AHY (.inl hy)))⟩
 le:=fun x hx y hy=>by
  rcases List.mem_append.mp hx with hx | hx
  ·refine m.le x hx y ?_
   rcases hy with hy | hy
   ·rw [←List.drop_drop] at hy;exact .inl (AHY (.inr hy))
   ·exact .inr hy
  ·rcases hy with hy | hy
   ·rw [←List.drop_drop] at hy
    exact (AAR (AAR sa ia).2.1 k).2.2 x hx y hy
   ·exact hb x hx y hy
theorem Mi.swap (m:Mi ky a b out ia ib):Mi ky b a out ib ia where
 perm:=((List.perm_append_comm).append_left out).trans (m.perm.trans List.perm_append_comm)
 srt:=m.srt
 le:=fun x hx y hy=>m.le x hx y hy.symm
theorem Mi.manyB (m:Mi ky a b out ia ib) (sb:SrtL ky b) (k:Nat) (ha:∀ x∈(b.drop ib).take k,∀ y∈a.drop ia,KLe ky x y):Mi ky a b (out ++ (b.drop ib).take k) ia (ib + k):=(m.swap.manyA sb k ha).swap
theorem AN1 {l:List Keyed} {i:Nat} {x:Keyed} (e:l[i]?=some x):(l.drop i).take 1=[x]:=by
 have hi:i<l.length:=by
  rcases Nat.lt_or_ge i l.length with q | q
  ·exact q
  ·rw [List.getElem?_eq_none q] at e;cases e
 rw [List.getElem?_eq_getElem hi] at e
 rw [List.drop_eq_getElem_cons hi]
 simp [Option.some.inj e]
theorem Mi.oneA (m:Mi ky a b out ia ib) (sa:SrtL ky a) {x:Keyed} (e:a[ia]?=some x) (hb:∀ y∈b.drop ib,KLe ky x y):Mi ky a b (out ++ [x]) (ia + 1) ib:=by
 have:=m.manyA sa 1 (by rw [AN1 e];intro z hz;rw [List.mem_singleton.mp hz];exact hb)
 rw [AN1 e] at this;exact this
theorem Mi.oneB (m:Mi ky a b out ia ib) (sb:SrtL ky b) {x:Keyed} (e:b[ib]?=some x) (ha:∀ y∈a.drop ia,KLe ky x y):Mi ky a b (out ++ [x]) ia (ib + 1):=(m.swap.oneA sb e ha).swap
theorem ACt {l:List Keyed} (h:SrtL ky l) {i:Nat} {x:Keyed} (e:l[i]?=some x):∀ y∈l.drop i,KLe ky x y:=by
 have hi:i<l.length:=by
  rcases Nat.lt_or_ge i l.length with q | q
  ·exact q
  ·rw [List.getElem?_eq_none q] at e;cases e
 rw [List.getElem?_eq_getElem hi] at e
 have h2:=(AAR h i).2.1
 rw [List.drop_eq_getElem_cons hi,Option.some.inj e] at h2 ⊢
 intro y hy
 rcases List.mem_cons.mp hy with rfl | hy
 ·exact KeyOrd.kle_refl _
 ·exact (List.pairwise_cons.mp h2).1 y hy
structure MDone (ky:Keyed→O.α) (a b m:List Keyed):Prop where
 perm:m.Perm (a ++ b)
 srt:SrtL ky m
theorem Mi.done (m:Mi ky a b out ia ib) (sa:SrtL ky a) (sb:SrtL ky b) (h:a.length≤ia∨b.length≤ib):MDone ky a b (out ++ a.drop ia ++ b.drop ib) where
 perm:=by rw [List.append_assoc];exact m.perm
 srt:=by
  rw [List.append_assoc]
  refine List.pairwise_append.mpr ⟨m.srt,?_,fun x hx y hy=>m.le x hx y (List.mem_append.mp hy)⟩
  rcases h with h | h
  ·rw [List.drop_eq_nil_of_le h];exact (AAR sb ib).2.1
  ·rw [List.drop_eq_nil_of_le h,List.append_nil];exact (AAR sa ia).2.1
theorem Mi.lastA (m:Mi ky a b out ia ib) (sa:SrtL ky a) (sb:SrtL ky b) (h:∀ x∈b.drop ib,∀ y∈a.drop ia,KLe ky x y):MDone ky a b (out ++ b.drop ib ++ a.drop ia) where
 perm:=by rw [List.append_assoc];exact ((List.perm_append_comm).append_left out).trans m.perm
 srt:=by
  rw [List.append_assoc]
  exact List.pairwise_append.mpr ⟨m.srt,List.pairwise_append.mpr ⟨(AAR sb ib).2.1,(AAR sa ia).2.1,h⟩,fun x hx y hy=>m.le x hx y (List.mem_append.mp hy).symm⟩
end
theorem AEo (a:Array Keyed) (i:Nat):(a.extract i a.size).toList=a.toList.drop i:=by
 rw [Array.toList_extract,List.extract_eq_take_drop]
 rw [List.take_of_length_le (by rw [List.length_drop,Array.length_toList];lia)]
theorem AFG (a:Array Keyed) (i k:Nat):(a.extract i (i + k)).toList=(a.toList.drop i).take k:=by
 rw [Array.toList_extract,List.extract_eq_take_drop,Nat.add_sub_cancel_left]
section
variable {M:Model} {A:Around} {E:Value→Shared→Prop} {s:Shared} {κ:SortKind} {O:KeyOrd} {ky:Keyed→O.α} {mem:Keyed→Prop}
noncomputable abbrev setG (st:SortSt) (g:Nat):SortSt:=SortSt.mk' (kindOf st) (arrOf st) (pendingOf st) g (failedOf st)
noncomputable def APn:Nat→StateT SortSt Sem Unit:=sortPriv% PySem.Builtin.setMinGallop
theorem AEp {g:Nat} {R:Unit→SortSt→Prop} {st:SortSt} (h:R () (setG st g)):wpS M A E s (APn g) R st:=wpS_modify (f:=fun st=>setG st g) h
theorem AAk {a:Array Keyed} {i:Nat} {x:Keyed} (e:a.toList[i]?=some x):a[i]?=some x:=by rw [←Array.getElem?_toList];exact e
theorem ADb {l:List Keyed} {i:Nat} (h:i<l.length):∃ x,l[i]?=some x∧x∈l:=⟨l[i],List.getElem?_eq_getElem h,List.getElem_mem h⟩
theorem ADc {l:List Keyed} {i:Nat} {y:Keyed} (h:y∈l.drop i):∃ j,i≤j∧l[j]?=some y:=by
 obtain ⟨n,hn⟩:=List.getElem?_of_mem h
 exact ⟨i + n,Nat.le_add_right _ _,by rw [←List.getElem?_drop];exact hn⟩
theorem AEq {l:List Keyed} {i k:Nat} {y:Keyed} (h:y∈(l.drop i).take k):∃ j,j<k∧l[i + j]?=some y:=by
 obtain ⟨n,hn⟩:=List.getElem?_of_mem h
 rw [List.getElem?_take] at hn
 split at hn
 ·exact ⟨n,‹_›,by rw [←List.getElem?_drop];exact hn⟩
 ·cases hn
theorem AKm (C:Cmp M A E s κ O ky mem) {key:Keyed} {arr:Array Keyed} {base n hint:Nat} {R:Option Nat→SortSt→Prop} {st:SortSt} (hk:kindOf st=κ) (hkey:mem key) (hm:∀ x∈arr.toList,mem x)
  (hs:∀ i j x y,base≤i→i≤j→j<base + n→arr.toList[i]?=some x→arr.toList[j]?=some y→KLe ky x y) (hn:base + n≤arr.size) (hh:hint<n)
  (h:∀ k,k≤n→(∀ i x,i<k→arr.toList[base + i]?=some x→KLe ky x key)→(∀ i x,k≤i→i<n→arr.toList[base + i]?=some x→O.klt (ky key) (ky x))→R (some k) st):wpS M A E s (AKl false key arr base n hint) R st:=by
 have hat:∀ i,i<n→∃ x,arr.toList[base + i]?=some x∧x∈arr.toList:=fun i hi=>ADb (by rw [Array.length_toList];lia)
 refine AME C hk hkey (fun i=>match arr.toList[base + i]? with | some x=>galP ky false key x | none=>false) (fun i hi=>?_) hh (fun i j hij hj hp=>?_) (fun k k1 k2 k3=>h k k1 (fun i x hi e=>?_) (fun i x hi hin e=>?_))
 ·obtain ⟨x,e,hx⟩:=hat i hi
  exact ⟨x,AAk e,hm x hx,by rw [e]⟩
 ·obtain ⟨x,e,hx⟩:=hat i (by lia)
  obtain ⟨y,e2,hy⟩:=hat j hj
  simp only [e2,galP,Bool.false_eq_true,if_false,Bool.not_eq_true'] at hp
  simp only [e,galP,Bool.false_eq_true,if_false,Bool.not_eq_true']
  exact KeyOrd.kle_trans (hs _ _ x y (by lia) (by lia) (by lia) e e2) hp
 ·have:=k2 i hi
  simp only [e,galP,Bool.false_eq_true,if_false,Bool.not_eq_true'] at this
  exact this
 ·have:=k3 i hi hin
  simp only [e,galP,Bool.false_eq_true,if_false,Bool.not_eq_false'] at this
  exact this
theorem AKn (C:Cmp M A E s κ O ky mem) {key:Keyed} {arr:Array Keyed} {base n hint:Nat} {R:Option Nat→SortSt→Prop} {st:SortSt} (hk:kindOf st=κ) (hkey:mem key) (hm:∀ x∈arr.toList,mem x)
  (hs:∀ i j x y,base≤i→i≤j→j<base + n→arr.toList[i]?=some x→arr.toList[j]?=some y→KLe ky x y) (hn:base + n≤arr.size) (hh:hint<n)
  (h:∀ k,k≤n→(∀ i x,i<k→arr.toList[base + i]?=some x→O.klt (ky x) (ky key))→(∀ i x,k≤i→i<n→arr.toList[base + i]?=some x→KLe ky key x)→R (some k) st):wpS M A E s (AKl true key arr base n hint) R st:=by
 have hat:∀ i,i<n→∃ x,arr.toList[base + i]?=some x∧x∈arr.toList:=fun i hi=>ADb (by rw [Array.length_toList];lia)
 refine AME C hk hkey (fun i=>match arr.toList[base + i]? with | some x=>galP ky true key x | none=>false) (fun i hi=>?_) hh (fun i j hij hj hp=>?_) (fun k k1 k2 k3=>h k k1 (fun i x hi e=>?_) (fun i x hi hin e=>?_))
 ·obtain ⟨x,e,hx⟩:=hat i hi
  exact ⟨x,AAk e,hm x hx,by rw [e]⟩
 ·obtain ⟨x,e,hx⟩:=hat i (by lia)
  obtain ⟨y,e2,hy⟩:=hat j hj
  simp only [e2,galP,if_true] at hp
  simp only [e,galP,if_true]
  exact KeyOrd.klt_of_kle_of_klt (hs _ _ x y (by lia) (by lia) (by lia) e e2) hp
 ·have:=k2 i hi
  simp only [e,galP,if_true] at this
  exact this
 ·have:=k3 i hi hin
  simp only [e,galP,if_true] at this
  exact this
theorem AC6 {l:List Keyed} (h:SrtL ky l) {i j:Nat} {x y:Keyed} (hij:i≤j) (e:l[i]?=some x) (e2:l[j]?=some y):KLe ky x y:=by
 refine ACt h e y ?_
 have:(l.drop i)[j - i]?=some y:=by rw [List.getElem?_drop,show i + (j - i)=j by lia];exact e2
 exact List.mem_of_getElem? this
end
section
variable {M:Model} {A:Around} {E:Value→Shared→Prop} {s:Shared} {κ:SortKind} {O:KeyOrd} {ky:Keyed→O.α} {mem:Keyed→Prop}
theorem AAI {α:Type} {c:Prop} [Decidable c] {x y:StateT SortSt Sem α} {R:α→SortSt→Prop} {st:SortSt} (h1:c→wpS M A E s x R st) (h2:¬ c→wpS M A E s y R st):wpS M A E s (if c then x else y) R st:=by
 split
 ·exact h1 ‹_›
 ·exact h2 ‹_›
structure MLo (ky:Keyed→O.α) (a b out:Array Keyed) (ia ib:Nat):Prop where
 mi:Mi ky a.toList b.toList out.toList ia ib
 ha:ia + 1<a.size
 hb:ib<b.size
theorem AF5 {α β γ:Type} {F:β→γ→StateT SortSt Sem α} {I:β→γ→Prop} {c:Prop} [Decidable c] {t:StateT SortSt Sem α} {x:β} {y:γ} {R:α→SortSt→Prop} {st:SortSt} (k:∀ b g,I b g→wpS M A E s (F b g) R st)
  (h1:(∀ b g,I b g→wpS M A E s (F b g) R st)→c→wpS M A E s t R st) (h2:¬ c→I x y):wpS M A E s (if c then t else F x y) R st:=AAI (h1 k) (fun h=>k _ _ (h2 h))
theorem AIx {α β:Type} {F:β→StateT SortSt Sem α} {c:Prop} [Decidable c] {x y:β} {R:α→SortSt→Prop} {st:SortSt} (k:∀ z,wpS M A E s (F z) R st):wpS M A E s (if c then F x else F y) R st:=AAI (fun _=>k _) (fun _=>k _)
theorem AQp (C:Cmp M A E s κ O ky mem) {a b:Array Keyed} {R:Array Keyed→SortSt→Prop} {st:SortSt} (hk:kindOf st=κ) (ma:∀ x∈a.toList,mem x) (mb:∀ x∈b.toList,mem x) (sa:SrtL ky a.toList) (sb:SrtL ky b.toList)
  (ha:0<a.size) (hb:0<b.size) (h1:∀ x y,b.toList[0]?=some x→y∈a.toList→KLe ky x y) (h2:∀ x∈b.toList,∀ y,a.toList[a.size - 1]?=some y→KLe ky x y)
  (h:∀ m g,MDone ky a.toList b.toList m.toList→R m (setG st g)):wpS M A E s (tsLo a b) R st:=by
 have la:a.toList.length=a.size:=Array.length_toList
 have lb:b.toList.length=b.size:=Array.length_toList
 have ata:∀ i,i<a.size→∃ x,a.toList[i]?=some x∧mem x:=fun i hi=>let ⟨x,e,hx⟩:=ADb (l:=a.toList) (i:=i) (by lia);⟨x,e,ma x hx⟩
 have atb:∀ i,i<b.size→∃ x,b.toList[i]?=some x∧mem x:=fun i hi=>let ⟨x,e,hx⟩:=ADb (l:=b.toList) (i:=i) (by lia);⟨x,e,mb x hx⟩
 -- the ends
 have fin:∀ (out:Array Keyed) ia ib g,Mi ky a.toList b.toList out.toList ia ib→(a.size≤ia∨b.size≤ib)→R (out ++ a.extract ia a.size ++ b.extract ib b.size) (setG st g):=fun out ia ib g m hz=>by
  refine h _ g ?_
  rw [Array.toList_append,Array.toList_append,AEo,AEo]
  exact m.done sa sb (by rw [la,lb];exact hz)
 have finA:∀ (out:Array Keyed) ia ib g,Mi ky a.toList b.toList out.toList ia ib→ia + 1=a.size→R (out ++ b.extract ib b.size ++ a.extract ia a.size) (setG st g):=fun out ia ib g m hz=>by
  refine h _ g ?_
  rw [Array.toList_append,Array.toList_append,AEo,AEo]
  refine m.lastA sa sb fun x hx y hy=>?_
  obtain ⟨j,hj,e⟩:=ADc hy
  have hj2:j<a.toList.length:=by
   rcases Nat.lt_or_ge j a.toList.length with q | q
   ·exact q
   ·rw [List.getElem?_eq_none q] at e;cases e
  have ej:j=a.size - 1:=by lia
  rw [ej] at e
  exact h2 x (List.mem_of_mem_drop hx) y e
 refine wpS_bind (wpS_lift (wpAny_rule ⟨rfl,?_⟩))
 obtain ⟨b0,eb0,mb0⟩:=atb 0 hb
 refine wpS_bind (AAa (AAk eb0) ?_)
 have m0:Mi ky a.toList b.toList (#[b0]:Array Keyed).toList 0 1:=by
  have:Mi ky a.toList b.toList [] 0 0:=⟨by simp,List.Pairwise.nil,fun x hx=>by cases hx⟩
  exact this.oneB sb eb0 (fun y hy=>h1 b0 y eb0 (by simpa using hy))
 dsimp -zeta only
 by_cases hb1:1=b.size
 ·rw [if_pos (by simpa using hb1)]
  exact wpS_pure (fin _ 0 1 (gallopOf st) m0 (.inr (by lia)))
 rw [if_neg (by simpa using hb1)]
 by_cases ha1:0 + 1=a.size
 ·rw [if_pos (by simpa using ha1)]
  exact wpS_pure (finA _ 0 1 (gallopOf st) m0 ha1)
 rw [if_neg (by simpa using ha1)]
 refine wpS_bind (wpS_get ?_)
 refine wpS_bind (wpS_mono (wpS_forRange (I:=fun x c st'=>(∃ g,st'=setG st g)∧∃ out ia ib mg,c=(none,out,ia,ib,mg)∧MLo ky a b out ia ib∧x + 1≤ia + ib)
  (Q:=fun c st'=>∃ m r,c=(some m,r)∧R m st') ?step ?fin ⟨⟨gallopOf st,rfl⟩,_,_,_,_,rfl,⟨m0,by lia,by lia⟩,by lia⟩) ?post)
 case post =>
  rintro c st' ⟨m,r,rfl,hr⟩
  exact wpS_pure hr
 case fin =>
  rintro c st' ⟨_,out,ia,ib,mg,rfl,m,hx⟩
  have:=m.ha
  have:=m.hb
  lia
 case step =>
  rintro x c st' _ hx ⟨⟨g,rfl⟩,out,ia,ib,mg,rfl,m,hx1⟩
  dsimp -zeta only
  refine wpS_bind (wpS_mono (wpS_forRange (I:=fun y c st'=>st'=setG st g∧∃ out ia ib ac bc,c=(none,out,ia,ib,ac,bc)∧MLo ky a b out ia ib∧x + 1 + y≤ia + ib)
   (Q:=fun c st'=>(∃ m r,c=(some m,r)∧R m st')∨(st'=setG st g∧∃ out ia ib ac bc,c=(none,out,ia,ib,ac,bc)∧MLo ky a b out ia ib∧x + 1≤ia + ib)) ?step1 ?fin1 ⟨rfl,_,_,_,_,_,rfl,m,by lia⟩) ?post1)
  case fin1 =>
   rintro c st' ⟨_,out,ia,ib,ac,bc,rfl,m,hx⟩
   have:=m.ha
   have:=m.hb
   lia
  case step1 =>
   rintro y c st' _ hy ⟨rfl,out,ia,ib,ac,bc,rfl,m,hx2⟩
   have hia:=m.ha
   have hib:=m.hb
   obtain ⟨xa,ea,mxa⟩:=ata ia (by lia)
   obtain ⟨xb,eb,mxb⟩:=atb ib hib
   dsimp -zeta only
   refine wpS_bind (AAa (AAk eb) (wpS_bind (AAa (AAk ea) (wpS_bind (C.ask _ _ mxb mxa _ _ hk ?_)))))
   cases hlt:O.blt (ky xb) (ky xa) with
   | true =>
    dsimp -zeta only
    rw [if_pos rfl]
    have m':=m.mi.oneB sb eb fun z hz=>KeyOrd.kle_trans (KeyOrd.kle_of_klt hlt) (ACt sa ea z hz)
    rw [←Array.toList_push] at m'
    refine wpS_bind (AAa (AAk eb) ?_)
    by_cases hz:ib + 1=b.size
    ·rw [if_pos (by simpa using hz)]
     exact wpS_pure (.inl ⟨_,_,rfl,fin _ _ _ g m' (.inr (by lia))⟩)
    ·rw [if_neg (by simpa using hz)]
     split
     ·exact wpS_pure (.inr ⟨rfl,_,_,_,_,_,rfl,⟨m',hia,by lia⟩,by lia⟩)
     ·exact wpS_pure ⟨rfl,_,_,_,_,_,rfl,⟨m',hia,by lia⟩,by lia⟩
   | false =>
    dsimp -zeta only
    rw [if_neg (by simp)]
    have m':=m.mi.oneA sa ea fun z hz=>KeyOrd.kle_trans hlt (ACt sb eb z hz)
    rw [←Array.toList_push] at m'
    refine wpS_bind (AAa (AAk ea) ?_)
    by_cases hz:ia + 1 + 1=a.size
    ·rw [if_pos (by simpa using hz)]
     exact wpS_pure (.inl ⟨_,_,rfl,finA _ _ _ g m' hz⟩)
    ·rw [if_neg (by simpa using hz)]
     split
     ·exact wpS_pure (.inr ⟨rfl,_,_,_,_,_,rfl,⟨m',by lia,hib⟩,by lia⟩)
     ·exact wpS_pure ⟨rfl,_,_,_,_,_,rfl,⟨m',by lia,hib⟩,by lia⟩
  case post1 =>
   rintro c st' (⟨m',r,rfl,hr⟩ | ⟨rfl,out,ia,ib,ac,bc,rfl,m,hx1⟩)
   ·exact wpS_pure ⟨m',_,rfl,hr⟩
   dsimp -zeta only
   refine wpS_bind (wpS_lift (wpAny_rule ⟨rfl,?_⟩))
   refine wpS_bind (wpS_mono (wpS_forRange (I:=fun y c st'=>(∃ g,st'=setG st g)∧∃ out ia ib mg ac bc,c=(none,out,ia,ib,mg,ac,bc)∧MLo ky a b out ia ib∧x + 1 + 2 * y≤ia + ib)
    (Q:=fun c st'=>(∃ m r,c=(some m,r)∧R m st')∨((∃ g,st'=setG st g)∧∃ out ia ib mg ac bc,c=(none,out,ia,ib,mg,ac,bc)∧MLo ky a b out ia ib∧x + 2≤ia + ib)) ?step2 ?fin2 ⟨⟨g,rfl⟩,_,_,_,_,_,_,rfl,m,by lia⟩) ?post2)
   case fin2 =>
    rintro c st' ⟨_,out,ia,ib,mg,ac,bc,rfl,m,hx⟩
    have:=m.ha
    have:=m.hb
    lia
   case post2 =>
    rintro c st' (⟨m',r,rfl,hr⟩ | ⟨⟨g,rfl⟩,out,ia,ib,mg,ac,bc,rfl,m,hx1⟩)
    ·exact wpS_pure ⟨m',_,rfl,hr⟩
    ·dsimp -zeta only
     exact wpS_bind (AEp (wpS_pure ⟨⟨_,rfl⟩,_,_,_,_,rfl,m,by lia⟩))
   case step2 =>
    rintro y c st' _ hy ⟨⟨g,rfl⟩,out,ia,ib,mg,ac,bc,rfl,m,hx2⟩
    have hia:=m.ha
    have hib:=m.hb
    obtain ⟨xb,eb,mxb⟩:=atb ib hib
    extract_lets -merge c1 c2 c3 c4 c5 c6 c7 c8 c9 c10 c11 c12 jp c13
    refine AIx (F:=fun z=>jp () z) fun z=>?_
    subst c13 jp c12 c11 c10 c9 c8 c7 c6 c5 c4 c3 c2 c1
    dsimp -zeta only
    refine wpS_bind (AEp ?_)
    refine wpS_bind (AAa (AAk eb) (wpS_bind (AKm (base:=ia) (n:=a.size - ia) (hint:=0) C hk mxb ma (fun i j x y _ hij _ e1 e2=>AC6 sa hij e1 e2) (by lia) (by lia) fun k k1 k2 k3=>?_)))
    have m1:=m.mi.manyA sa k fun x hx z hz=>by
     obtain ⟨j,hj,e⟩:=AEq hx
     exact KeyOrd.kle_trans (k2 j x hj e) (ACt sb eb z hz)
    have up:∀ z∈a.toList.drop (ia + k),KLe ky xb z:=fun z hz=>by
     obtain ⟨j,hj,e⟩:=ADc hz
     have hj2:j<a.toList.length:=by
      rcases Nat.lt_or_ge j a.toList.length with q | q
      ·exact q
      ·rw [List.getElem?_eq_none q] at e;cases e
     exact KeyOrd.kle_of_klt (k3 (j - ia) z (by lia) (by lia) (by rw [show ia + (j - ia)=j by lia];exact e))
    dsimp -zeta only
    extract_lets -merge d1 jp d2 d3
    refine AF5 (F:=fun o n=>jp () o n) (I:=fun o nk=>¬ nk + 1=a.size∧nk<a.size∧ia≤nk∧Mi ky a.toList b.toList o.toList nk ib∧∀ z∈a.toList.drop nk,KLe ky xb z) (fun o nk h=>?_) (fun key hk0=>?_) (fun hk0=>?_)
    ·clear m1 up k2 k3
     obtain ⟨hz,hz2,hz3,m1,up⟩:=h
     subst d3 d2 jp d1
     dsimp -zeta only
     refine wpS_bind (AAa (AAk eb) ?_)
     have m2:=m1.oneB sb eb up
     rw [←Array.toList_push] at m2
     refine AAI (fun hy=>wpS_pure (.inl ⟨_,_,rfl,fin _ _ _ _ m2 (.inr (by have:=eq_of_beq hy;lia))⟩)) (fun hy=>?_)
     have hy:¬ ib + 1=b.size:=by simpa using hy
     obtain ⟨xa,ea,mxa⟩:=ata nk (by lia)
     refine wpS_bind (AAa (AAk ea) (wpS_bind (AKn (base:=ib + 1) (n:=b.size - (ib + 1)) (hint:=0) C hk mxa mb (fun i j x y _ hij _ e1 e2=>AC6 sb hij e1 e2) (by lia) (by lia) fun l l1 l2 l3=>?_)))
     have m3:=m2.manyB sb l fun x hx z hz=>by
      obtain ⟨j,hj,e⟩:=AEq hx
      exact KeyOrd.kle_trans (KeyOrd.kle_of_klt (l2 j x hj e)) (ACt sa ea z hz)
     have up2:∀ z∈b.toList.drop (ib + 1 + l),KLe ky xa z:=fun z hz=>by
      obtain ⟨j,hj,e⟩:=ADc hz
      have hj2:j<b.toList.length:=by
       rcases Nat.lt_or_ge j b.toList.length with q | q
       ·exact q
       ·rw [List.getElem?_eq_none q] at e;cases e
      exact l3 (j - (ib + 1)) z (by lia) (by lia) (by rw [show ib + 1 + (j - (ib + 1))=j by lia];exact e)
     dsimp -zeta only
     extract_lets -merge e1 e2 jq e3 e4
     refine AF5 (F:=fun o n=>jq () o n) (I:=fun o nl=>nl<b.size∧ib + 1≤nl∧Mi ky a.toList b.toList o.toList nk nl∧∀ z∈b.toList.drop nl,KLe ky xa z) (fun o nl h=>?_) (fun key hl0=>?_) (fun hl0=>?_)
     ·clear m3 up2 l2 l3
      obtain ⟨hw,hw2,m3,up2⟩:=h
      subst e4 e3 jq e2 e1
      dsimp -zeta only
      refine wpS_bind (AAa (AAk ea) ?_)
      have m4:=m3.oneA sa ea up2
      rw [←Array.toList_push] at m4
      refine AAI (fun hv=>wpS_pure (.inl ⟨_,_,rfl,finA _ _ _ _ m4 (by simpa using hv)⟩)) (fun hv=>?_)
      have hv:¬ nk + 1 + 1=a.size:=by simpa using hv
      exact AAI (fun _=>wpS_pure (.inr ⟨⟨_,rfl⟩,_,nk + 1,nl,_,_,_,rfl,⟨m4,by lia,by lia⟩,by lia⟩)) (fun _=>wpS_pure ⟨⟨_,rfl⟩,_,nk + 1,nl,_,_,_,rfl,⟨m4,by lia,by lia⟩,by lia⟩)
     ·rw [←AFG,←Array.toList_append] at m3
      exact AAI (fun hw=>wpS_pure (.inl ⟨_,_,rfl,fin _ _ _ _ m3 (.inr (Nat.le_of_eq (eq_of_beq hw).symm))⟩)) (fun hw=>key _ _ ⟨Nat.lt_of_le_of_ne (by lia) fun q=>hw (beq_iff_eq.mpr q),Nat.le_add_right _ _,m3,up2⟩)
     ·have hl1:l=0:=by lia
      clear_value jq
      subst hl1
      rw [List.take_zero,List.append_nil] at m3
      exact ⟨by lia,Nat.le_refl _,m3,up2⟩
    ·rw [←AFG,←Array.toList_append] at m1
     exact AAI (fun hz=>wpS_pure (.inl ⟨_,_,rfl,finA _ _ _ _ m1 (eq_of_beq hz)⟩)) (fun hz=>AAI (fun hz2=>wpS_pure (.inl ⟨_,_,rfl,fin _ _ _ _ m1 (.inl (Nat.le_of_eq (eq_of_beq hz2).symm))⟩)) (fun hz2=>key _ _ ⟨fun q=>hz (beq_iff_eq.mpr q),Nat.lt_of_le_of_ne (by lia) fun q=>hz2 (beq_iff_eq.mpr q),Nat.le_add_right _ _,m1,up⟩))
    ·have hk1:k=0:=by lia
     clear_value jp
     subst hk1
     rw [List.take_zero,List.append_nil] at m1
     exact ⟨by lia,by lia,Nat.le_refl _,m1,up⟩
end
section
variable {O:KeyOrd} {ky:Keyed→O.α}
structure Mh (ky:Keyed→O.α) (a b out:List Keyed) (na nb:Nat):Prop where
 perm:((a.take na ++ b.take nb) ++ out.reverse).Perm (a ++ b)
 srt:SrtL ky out.reverse
 le:∀ y∈out,∀ x,x∈a.take na∨x∈b.take nb→KLe ky x y
variable {a b out:List Keyed} {na nb j:Nat}
theorem Mh.swap (m:Mh ky a b out na nb):Mh ky b a out nb na where
 perm:=((List.perm_append_comm).append_right _).trans (m.perm.trans List.perm_append_comm)
 srt:=m.srt
 le:=fun y hy x hx=>m.le y hy x hx.symm
theorem AF6 {l:List Keyed} {i n:Nat} (h:i≤n):l.take n=l.take i ++ (l.take n).drop i:=by
 have:=(List.take_append_drop i (l.take n)).symm
 rw [List.take_take,Nat.min_eq_left h] at this
 exact this
theorem Mh.manyA (m:Mh ky a b out na nb) (sa:SrtL ky a) (hj:j≤na) (hb:∀ x∈(a.take na).drop j,∀ y∈b.take nb,KLe ky y x):Mh ky a b (out ++ ((a.take na).drop j).reverse) j nb where
 perm:=by
  have:=m.perm
  rw [AF6 hj] at this
  rw [List.reverse_append,List.reverse_reverse]
  generalize (a.take na).drop j=g at this ⊢
  refine List.Perm.trans ?_ this
  rw [List.append_assoc,List.append_assoc,List.append_assoc]
  refine List.Perm.append_left _ ?_
  rw [←List.append_assoc,←List.append_assoc]
  exact List.Perm.append_right _ List.perm_append_comm
 srt:=by
  rw [List.reverse_append,List.reverse_reverse]
  refine List.pairwise_append.mpr ⟨(AAR (AAR sa na).1 j).2.1,m.srt,fun x hx y hy=>m.le y (List.mem_reverse.mp hy) x (.inl ?_)⟩
  exact List.mem_of_mem_drop hx
 le:=fun y hy x hx=>by
  rcases List.mem_append.mp hy with hy | hy
  ·refine m.le y hy x ?_
   rcases hx with hx | hx
   ·exact .inl (by rw [AF6 hj];exact List.mem_append_left _ hx)
   ·exact .inr hx
  ·have hy:=List.mem_reverse.mp hy
   rcases hx with hx | hx
   ·have s2:=(AAR sa na).1
    have e:(a.take na).take j=a.take j:=by rw [List.take_take,Nat.min_eq_left hj]
    exact (AAR s2 j).2.2 x (by rw [e];exact hx) y hy
   ·exact hb y hy x hx
theorem Mh.manyB (m:Mh ky a b out na nb) (sb:SrtL ky b) (hj:j≤nb) (ha:∀ x∈(b.take nb).drop j,∀ y∈a.take na,KLe ky y x):Mh ky a b (out ++ ((b.take nb).drop j).reverse) na j:=(m.swap.manyA sb hj ha).swap
theorem top1 {l:List Keyed} {n:Nat} {x:Keyed} (h:0<n) (e:l[n - 1]?=some x):(l.take n).drop (n - 1)=[x]:=by
 have hi:n - 1<l.length:=by
  rcases Nat.lt_or_ge (n - 1) l.length with q | q
  ·exact q
  ·rw [List.getElem?_eq_none q] at e;cases e
 rw [List.getElem?_eq_getElem hi] at e
 have e1:=Option.some.inj e
 rw [List.drop_take,show n - (n - 1)=1 by lia,List.drop_eq_getElem_cons hi,e1]
 rfl
theorem Mh.oneA (m:Mh ky a b out na nb) (sa:SrtL ky a) (h0:0<na) {x:Keyed} (e:a[na - 1]?=some x) (hb:∀ y∈b.take nb,KLe ky y x):Mh ky a b (out ++ [x]) (na - 1) nb:=by
 have:=m.manyA sa (Nat.sub_le na 1) (by rw [top1 h0 e];intro z hz;rw [List.mem_singleton.mp hz];exact hb)
 rw [top1 h0 e] at this;exact this
theorem Mh.oneB (m:Mh ky a b out na nb) (sb:SrtL ky b) (h0:0<nb) {x:Keyed} (e:b[nb - 1]?=some x) (ha:∀ y∈a.take na,KLe ky y x):Mh ky a b (out ++ [x]) na (nb - 1):=(m.swap.oneA sb h0 e ha).swap
theorem ADd {l:List Keyed} (h:SrtL ky l) {n:Nat} {x:Keyed} (h0:0<n) (e:l[n - 1]?=some x):∀ y∈l.take n,KLe ky y x:=fun y hy=>by
 obtain ⟨i,hi⟩:=List.getElem?_of_mem hy
 rw [List.getElem?_take] at hi
 split at hi
 ·exact AC6 h (by lia) hi e
 ·cases hi
theorem Mh.done (m:Mh ky a b out na nb) (sa:SrtL ky a) (sb:SrtL ky b) (h:na=0∨nb=0):MDone ky a b (a.take na ++ b.take nb ++ out.reverse) where
 perm:=m.perm
 srt:=by
  refine List.pairwise_append.mpr ⟨?_,m.srt,fun x hx y hy=>m.le y (List.mem_reverse.mp hy) x (List.mem_append.mp hx)⟩
  rcases h with h | h
  ·rw [h,List.take_zero,List.nil_append];exact (AAR sb nb).1
  ·rw [h,List.take_zero,List.append_nil];exact (AAR sa na).1
theorem Mh.firstB (m:Mh ky a b out na nb) (sa:SrtL ky a) (sb:SrtL ky b) (h:∀ x∈b.take nb,∀ y∈a.take na,KLe ky x y):MDone ky a b (b.take nb ++ a.take na ++ out.reverse) where
 perm:=((List.perm_append_comm).append_right _).trans m.perm
 srt:=List.pairwise_append.mpr ⟨List.pairwise_append.mpr ⟨(AAR sb nb).1,(AAR sa na).1,h⟩,m.srt,fun x hx y hy=>m.le y (List.mem_reverse.mp hy) x (List.mem_append.mp hx).symm⟩
end
theorem AEr (a:Array Keyed) (n:Nat):(a.extract 0 n).toList=a.toList.take n:=by
 rw [Array.toList_extract,List.extract_eq_take_drop]
 simp
theorem AGo (a:Array Keyed) (i n:Nat):(a.extract i n).toList=(a.toList.take n).drop i:=by
 rw [Array.toList_extract,List.extract_eq_take_drop,List.drop_take]
section
variable {M:Model} {A:Around} {E:Value→Shared→Prop} {s:Shared} {κ:SortKind} {O:KeyOrd} {ky:Keyed→O.α} {mem:Keyed→Prop}
structure MHi (ky:Keyed→O.α) (a b out:Array Keyed) (na nb:Nat):Prop where
 mi:Mh ky a.toList b.toList out.toList na nb
 ha:0<na
 hb:1<nb
 la:na≤a.size
 lb:nb≤b.size
theorem AQq (C:Cmp M A E s κ O ky mem) {a b:Array Keyed} {R:Array Keyed→SortSt→Prop} {st:SortSt} (hk:kindOf st=κ) (ma:∀ x∈a.toList,mem x) (mb:∀ x∈b.toList,mem x) (sa:SrtL ky a.toList) (sb:SrtL ky b.toList)
  (ha:0<a.size) (hb:0<b.size) (h1:∀ x y,b.toList[0]?=some x→y∈a.toList→KLe ky x y) (h2:∀ x∈b.toList,∀ y,a.toList[a.size - 1]?=some y→KLe ky x y)
  (h:∀ m g,MDone ky a.toList b.toList m.toList→R m (setG st g)):wpS M A E s (tsHi a b) R st:=by
 have la:a.toList.length=a.size:=Array.length_toList
 have lb:b.toList.length=b.size:=Array.length_toList
 have ata:∀ i,i<a.size→∃ x,a.toList[i]?=some x∧mem x:=fun i hi=>let ⟨x,e,hx⟩:=ADb (l:=a.toList) (i:=i) (by lia);⟨x,e,ma x hx⟩
 have atb:∀ i,i<b.size→∃ x,b.toList[i]?=some x∧mem x:=fun i hi=>let ⟨x,e,hx⟩:=ADb (l:=b.toList) (i:=i) (by lia);⟨x,e,mb x hx⟩
 have fin:∀ (out:Array Keyed) na nb g,Mh ky a.toList b.toList out.toList na nb→(na=0∨nb=0)→R (a.extract 0 na ++ b.extract 0 nb ++ out.reverse) (setG st g):=fun out na nb g m hz=>by
  refine h _ g ?_
  rw [Array.toList_append,Array.toList_append,AEr,AEr,Array.toList_reverse]
  exact m.done sa sb hz
 have finB:∀ (out:Array Keyed) na nb g,Mh ky a.toList b.toList out.toList na nb→nb=1→R (b.extract 0 nb ++ a.extract 0 na ++ out.reverse) (setG st g):=fun out na nb g m hz=>by
  refine h _ g ?_
  rw [Array.toList_append,Array.toList_append,AEr,AEr,Array.toList_reverse]
  refine m.firstB sa sb fun x hx y hy=>?_
  obtain ⟨i,hi⟩:=List.getElem?_of_mem hx
  rw [List.getElem?_take] at hi
  split at hi
  ·have:i=0:=by lia
   rw [this] at hi
   exact h1 x y hi (List.mem_of_mem_take hy)
  ·cases hi
 refine wpS_bind (wpS_lift (wpAny_rule ⟨rfl,?_⟩))
 obtain ⟨a0,ea0,ma0⟩:=ata (a.size - 1) (by lia)
 refine wpS_bind (AAa (AAk ea0) ?_)
 have m0:Mh ky a.toList b.toList (#[a0]:Array Keyed).toList (a.size - 1) b.size:=by
  have e1:a.toList.take a.size=a.toList:=List.take_of_length_le (by lia)
  have e2:b.toList.take b.size=b.toList:=List.take_of_length_le (by lia)
  have:Mh ky a.toList b.toList [] a.size b.size:=⟨by rw [e1,e2];simp,List.Pairwise.nil,fun x hx=>by cases hx⟩
  exact this.oneA sa ha ea0 (fun y hy=>h2 y (by rw [e2] at hy;exact hy) a0 ea0)
 refine AAI (fun hz=>wpS_pure (fin _ _ _ (gallopOf st) m0 (.inl (eq_of_beq hz)))) (fun hz=>?_)
 have hz:¬ a.size - 1=0:=by simpa using hz
 refine AAI (fun hw=>wpS_pure (finB _ _ _ (gallopOf st) m0 (eq_of_beq hw))) (fun hw=>?_)
 have hw:¬ b.size=1:=by simpa using hw
 refine wpS_bind (wpS_get ?_)
 refine wpS_bind (wpS_mono (wpS_forRange (I:=fun x c st'=>(∃ g,st'=setG st g)∧∃ na nb out mg,c=(none,na,nb,out,mg)∧MHi ky a b out na nb∧na + nb + x + 1≤a.size + b.size)
  (Q:=fun c st'=>∃ m r,c=(some m,r)∧R m st') ?step ?fin ⟨⟨gallopOf st,rfl⟩,_,_,_,_,rfl,⟨m0,by lia,by lia,by lia,by lia⟩,by lia⟩) ?post)
 case post =>
  rintro c st' ⟨m,r,rfl,hr⟩
  exact wpS_pure hr
 case fin =>
  rintro c st' ⟨_,na,nb,out,mg,rfl,m,hx⟩
  have:=m.ha
  have:=m.hb
  lia
 case step =>
  rintro x c st' _ hx ⟨⟨g,rfl⟩,na,nb,out,mg,rfl,m,hx1⟩
  refine wpS_bind (wpS_mono (wpS_forRange (I:=fun y c st'=>st'=setG st g∧∃ na nb out ac bc,c=(none,na,nb,out,ac,bc)∧MHi ky a b out na nb∧na + nb + x + 1 + y≤a.size + b.size)
   (Q:=fun c st'=>(∃ m r,c=(some m,r)∧R m st')∨(st'=setG st g∧∃ na nb out ac bc,c=(none,na,nb,out,ac,bc)∧MHi ky a b out na nb∧na + nb + x + 1≤a.size + b.size)) ?step1 ?fin1 ⟨rfl,_,_,_,_,_,rfl,m,by lia⟩) ?post1)
  case fin1 =>
   rintro c st' ⟨_,na,nb,out,ac,bc,rfl,m,hx⟩
   have:=m.ha
   have:=m.hb
   lia
  case step1 =>
   rintro y c st' _ hy ⟨rfl,na,nb,out,ac,bc,rfl,m,hx2⟩
   have hia:=m.ha
   have hib:=m.hb
   have hla:=m.la
   have hlb:=m.lb
   obtain ⟨xa,ea,mxa⟩:=ata (na - 1) (by lia)
   obtain ⟨xb,eb,mxb⟩:=atb (nb - 1) (by lia)
   refine wpS_bind (AAa (AAk eb) (wpS_bind (AAa (AAk ea) (wpS_bind (C.ask _ _ mxb mxa _ _ hk ?_)))))
   cases hlt:O.blt (ky xb) (ky xa) with
   | true =>
    refine AAI (fun _=>?_) (fun hn=>absurd rfl hn)
    have m':=m.mi.oneA sa hia ea fun z hz=>KeyOrd.kle_trans (ADd sb (by lia) eb z hz) (KeyOrd.kle_of_klt hlt)
    rw [←Array.toList_push] at m'
    refine wpS_bind (AAa (AAk ea) ?_)
    refine AAI (fun hz=>wpS_pure (.inl ⟨_,_,rfl,fin _ _ _ g m' (.inl (eq_of_beq hz))⟩)) (fun hz=>?_)
    have hz:¬ na - 1=0:=by simpa using hz
    exact AAI (fun _=>wpS_pure (.inr ⟨rfl,na - 1,nb,_,_,_,rfl,⟨m',by lia,hib,by lia,hlb⟩,by lia⟩)) (fun _=>wpS_pure ⟨rfl,na - 1,nb,_,_,_,rfl,⟨m',by lia,hib,by lia,hlb⟩,by lia⟩)
   | false =>
    refine AAI (fun hn=>by cases hn) (fun _=>?_)
    have m':=m.mi.oneB sb (by lia) eb fun z hz=>KeyOrd.kle_trans (ADd sa hia ea z hz) hlt
    rw [←Array.toList_push] at m'
    refine wpS_bind (AAa (AAk eb) ?_)
    refine AAI (fun hz=>wpS_pure (.inl ⟨_,_,rfl,finB _ _ _ g m' (eq_of_beq hz)⟩)) (fun hz=>?_)
    have hz:¬ nb - 1=1:=by simpa using hz
    exact AAI (fun _=>wpS_pure (.inr ⟨rfl,na,nb - 1,_,_,_,rfl,⟨m',hia,by lia,hla,by lia⟩,by lia⟩)) (fun _=>wpS_pure ⟨rfl,na,nb - 1,_,_,_,rfl,⟨m',hia,by lia,hla,by lia⟩,by lia⟩)
  case post1 =>
   rintro c st' (⟨m',r,rfl,hr⟩ | ⟨rfl,na,nb,out,ac,bc,rfl,m,hx1⟩)
   ·exact wpS_pure ⟨m',_,rfl,hr⟩
   refine wpS_bind (wpS_lift (wpAny_rule ⟨rfl,?_⟩))
   refine wpS_bind (wpS_mono (wpS_forRange (I:=fun y c st'=>(∃ g,st'=setG st g)∧∃ na nb out mg ac bc,c=(none,na,nb,out,mg,ac,bc)∧MHi ky a b out na nb∧na + nb + x + 1 + 2 * y≤a.size + b.size)
    (Q:=fun c st'=>(∃ m r,c=(some m,r)∧R m st')∨((∃ g,st'=setG st g)∧∃ na nb out mg ac bc,c=(none,na,nb,out,mg,ac,bc)∧MHi ky a b out na nb∧na + nb + x + 2≤a.size + b.size)) ?step2 ?fin2 ⟨⟨g,rfl⟩,_,_,_,_,_,_,rfl,m,by lia⟩) ?post2)
   case fin2 =>
    rintro c st' ⟨_,na,nb,out,mg,ac,bc,rfl,m,hx⟩
    have:=m.ha
    have:=m.hb
    lia
   case post2 =>
    rintro c st' (⟨m',r,rfl,hr⟩ | ⟨⟨g,rfl⟩,na,nb,out,mg,ac,bc,rfl,m,hx1⟩)
    ·exact wpS_pure ⟨m',_,rfl,hr⟩
    ·exact wpS_bind (AEp (wpS_pure ⟨⟨_,rfl⟩,na,nb,_,_,rfl,m,by lia⟩))
   case step2 =>
    rintro y c st' _ hy ⟨⟨g,rfl⟩,na,nb,out,mg,ac,bc,rfl,m,hx2⟩
    have hia:=m.ha
    have hib:=m.hb
    have hla:=m.la
    have hlb:=m.lb
    obtain ⟨xb,eb,mxb⟩:=atb (nb - 1) (by lia)
    extract_lets -merge c1 c2 c3 c4 c5 c6 c7 c8 c9 c10 c11 c12 jp c13
    refine AIx (F:=fun z=>jp () z) fun z=>?_
    subst c13 jp c12 c11 c10 c9 c8 c7 c6 c5 c4 c3 c2 c1
    dsimp -zeta only
    refine wpS_bind (AEp ?_)
    refine wpS_bind (AAa (AAk eb) (wpS_bind (AKm (base:=0) (n:=na) (hint:=na - 1) C hk mxb ma (fun i j x y _ hij _ e1 e2=>AC6 sa hij e1 e2) (by lia) (by lia) fun k k1 k2 k3=>?_)))
    have m1:=m.mi.manyA sa k1 fun x hx z hz=>by
     rw [List.drop_take] at hx
     obtain ⟨i,hi,e⟩:=AEq hx
     exact KeyOrd.kle_trans (ADd sb (by lia) eb z hz) (KeyOrd.kle_of_klt (k3 (k + i) x (by lia) (by lia) (by rw [Nat.zero_add];exact e)))
    have up:∀ z∈a.toList.take k,KLe ky z xb:=fun z hz=>by
     obtain ⟨i,hi⟩:=List.getElem?_of_mem hz
     rw [List.getElem?_take] at hi
     split at hi
     ·exact k2 i z (by lia) (by rw [Nat.zero_add];exact hi)
     ·cases hi
    dsimp -zeta only
    extract_lets -merge d1 d2 jp d3 d4
    refine AF5 (F:=fun n o=>jp () n o) (I:=fun nk o=>¬ nk=0∧nk≤na∧Mh ky a.toList b.toList o.toList nk nb∧∀ z∈a.toList.take nk,KLe ky z xb) (fun nk o h=>?_) (fun key hk0=>?_) (fun hk0=>?_)
    ·clear m1 up k2 k3
     obtain ⟨hz,k1',m1,up⟩:=h
     subst d4 d3 jp d2 d1
     dsimp -zeta only
     refine wpS_bind (AAa (AAk eb) ?_)
     have m2:=m1.oneB sb (by lia) eb up
     rw [←Array.toList_push] at m2
     refine AAI (fun hy=>wpS_pure (.inl ⟨_,_,rfl,finB _ _ _ _ m2 (eq_of_beq hy)⟩)) (fun hy=>?_)
     have hy:¬ nb - 1=1:=fun q=>hy (beq_iff_eq.mpr q)
     obtain ⟨xa,ea,mxa⟩:=ata (nk - 1) (by lia)
     refine wpS_bind (AAa (AAk ea) (wpS_bind (AKn (base:=0) (n:=nb - 1) (hint:=nb - 1 - 1) C hk mxa mb (fun i j x y _ hij _ e1 e2=>AC6 sb hij e1 e2) (by lia) (by lia) fun l l1 l2 l3=>?_)))
     have m3:=m2.manyB sb l1 fun x hx z hz=>by
      rw [List.drop_take] at hx
      obtain ⟨i,hi,e⟩:=AEq hx
      exact KeyOrd.kle_trans (ADd sa (by lia) ea z hz) (l3 (l + i) x (by lia) (by lia) (by rw [Nat.zero_add];exact e))
     have up2:∀ z∈b.toList.take l,KLe ky z xa:=fun z hz=>by
      obtain ⟨i,hi⟩:=List.getElem?_of_mem hz
      rw [List.getElem?_take] at hi
      split at hi
      ·exact KeyOrd.kle_of_klt (l2 i z (by lia) (by rw [Nat.zero_add];exact hi))
      ·cases hi
     dsimp -zeta only
     extract_lets -merge e1 e2 e3 jq e4 e5
     refine AF5 (F:=fun n o=>jq () n o) (I:=fun nl o=>¬ nl=1∧¬ nl=0∧nl≤nb - 1∧Mh ky a.toList b.toList o.toList nk nl∧∀ z∈b.toList.take nl,KLe ky z xa) (fun nl o h=>?_) (fun key hl0=>?_) (fun hl0=>?_)
     ·clear m3 up2 l2 l3
      obtain ⟨hw,hv,l1',m3,up2⟩:=h
      subst e5 e4 jq e3 e2 e1
      dsimp -zeta only
      refine wpS_bind (AAa (AAk ea) ?_)
      have m4:=m3.oneA sa (by lia) ea up2
      rw [←Array.toList_push] at m4
      refine AAI (fun hu=>wpS_pure (.inl ⟨_,_,rfl,fin _ _ _ _ m4 (.inl (eq_of_beq hu))⟩)) (fun hu=>?_)
      have hu:¬ nk - 1=0:=by simpa using hu
      exact AAI (fun _=>wpS_pure (.inr ⟨⟨_,rfl⟩,nk - 1,nl,_,_,_,_,rfl,⟨m4,by lia,by lia,by lia,by lia⟩,by lia⟩)) (fun _=>wpS_pure ⟨⟨_,rfl⟩,nk - 1,nl,_,_,_,_,rfl,⟨m4,by lia,by lia,by lia,by lia⟩,by lia⟩)
     ·have hl0:0<nb - 1 - l:=hl0
      rw [←AGo,←Array.toList_reverse,←Array.toList_append] at m3
      exact AAI (fun hw=>wpS_pure (.inl ⟨_,_,rfl,finB _ _ _ _ m3 (eq_of_beq hw)⟩)) (fun hw=>AAI (fun hv=>wpS_pure (.inl ⟨_,_,rfl,fin _ _ _ _ m3 (.inr (eq_of_beq hv))⟩)) (fun hv=>key _ _ ⟨fun q=>hw (beq_iff_eq.mpr q),fun q=>hv (beq_iff_eq.mpr q),l1,m3,up2⟩))
     ·have hl0:¬ 0<nb - 1 - l:=hl0
      have hl1:l=nb - 1:=by lia
      clear_value jq
      subst hl1
      rw [List.drop_eq_nil_of_le (by rw [List.length_take];lia),List.reverse_nil,List.append_nil] at m3
      exact ⟨hy,by lia,Nat.le_refl _,m3,up2⟩
    ·have hk0:0<na - k:=hk0
     rw [←AGo,←Array.toList_reverse,←Array.toList_append] at m1
     exact AAI (fun hz=>wpS_pure (.inl ⟨_,_,rfl,fin _ _ _ _ m1 (.inl (eq_of_beq hz))⟩)) (fun hz=>key _ _ ⟨fun q=>hz (beq_iff_eq.mpr q),k1,m1,up⟩)
    ·have hk0:¬ 0<na - k:=hk0
     have hk1:k=na:=by lia
     clear_value jp
     subst hk1
     rw [List.drop_eq_nil_of_le (by rw [List.length_take];lia),List.reverse_nil,List.append_nil] at m1
     exact ⟨by lia,Nat.le_refl _,m1,up⟩
end
theorem AIy:∀ (m:List Keyed) (s0 j0:Nat) (arr:Array Keyed),s0 + j0 + m.length≤arr.size→((m.zipIdx j0).foldl (fun a (q:Keyed×Nat)=>a.setIfInBounds (s0 + q.2) q.1) arr).toList=arr.toList.take (s0 + j0) ++ m ++ arr.toList.drop (s0 + j0 + m.length)
 | [],s0,j0,arr,h=>by simp
 | x :: m,s0,j0,arr,h=>by
  rw [List.zipIdx_cons,List.foldl_cons]
  simp only [List.length_cons] at h
  rw [AIy m s0 (j0 + 1) _ (by rw [Array.size_setIfInBounds];lia),Array.toList_setIfInBounds]
  have hl:s0 + j0<arr.toList.length:=by rw [Array.length_toList];lia
  rw [List.take_set,List.drop_set,if_pos (by lia)]
  have e:(arr.toList.take (s0 + (j0 + 1))).set (s0 + j0) x=arr.toList.take (s0 + j0) ++ [x]:=by
   rw [show s0 + (j0 + 1)=(s0 + j0) + 1 by lia,List.take_add_one,List.getElem?_eq_getElem hl]
   rw [List.set_append,if_neg (by rw [List.length_take];lia),List.length_take,Nat.min_eq_left (Nat.le_of_lt hl),Nat.sub_self]
   rfl
  rw [e]
  simp only [List.length_cons,List.append_assoc,List.cons_append,List.nil_append]
  rw [show s0 + (j0 + 1) + m.length=s0 + j0 + (m.length + 1) by lia]
section
variable {M:Model} {A:Around} {E:Value→Shared→Prop} {s:Shared} {κ:SortKind} {O:KeyOrd} {ky:Keyed→O.α} {mem:Keyed→Prop}
theorem AOa {st st':SortSt} {R:PUnit→SortSt→Prop} (h:R ⟨⟩ st'):wpS M A E s (set st':StateT SortSt Sem PUnit) R st:=by
 unfold wpS;rw [StateT.run_set];exact wP ⟨rfl,h⟩
theorem at4 {P X Y S:List Keyed} {i:Nat} (h:i<X.length):(P ++ X ++ Y ++ S)[P.length + i]?=X[i]?:=by
 rw [List.append_assoc,List.append_assoc,List.getElem?_append_right (by lia),Nat.add_sub_cancel_left,List.getElem?_append_left h]
theorem at4' {P X Y S:List Keyed} {i:Nat} (h:i<Y.length):(P ++ X ++ Y ++ S)[P.length + X.length + i]?=Y[i]?:=by
 rw [List.append_assoc,List.getElem?_append_right (by rw [List.length_append];lia),List.length_append,Nat.add_sub_cancel_left,List.getElem?_append_left h]
theorem AQr (C:Cmp M A E s κ O ky mem) {i sa na pw sb nb pw2:Nat} {P X Y S:List Keyed} {R:Bool→SortSt→Prop} {st:SortSt} (hk:kindOf st=κ) (hf:failedOf st=none) (hm:∀ x∈(arrOf st).toList,mem x)
  (e:(arrOf st).toList=P ++ X ++ Y ++ S) (lP:P.length=sa) (lX:X.length=na) (lY:Y.length=nb) (h0:0<na) (h1:0<nb) (sX:SrtL ky X) (sY:SrtL ky Y)
  (p1:(pendingOf st)[i]?=some (sa,na,pw)) (p2:(pendingOf st)[i + 1]?=some (sb,nb,pw2)) (esb:sb=sa + na)
  (h:∀ Z arr g,Z.Perm (X ++ Y)→SrtL ky Z→arr.toList=P ++ Z ++ S→R true (SortSt.mk' κ arr (((pendingOf st).setIfInBounds i (sa,na + nb,pw)).eraseIdxIfInBounds (i + 1)) g none)):wpS M A E s (mergeAt' i) R st:=by
 obtain ⟨y0,ey0⟩:∃ y,Y[0]?=some y:=⟨Y[0],List.getElem?_eq_getElem (by lia)⟩
 obtain ⟨xl,exl⟩:∃ y,X[na - 1]?=some y:=⟨X[na - 1],List.getElem?_eq_getElem (by lia)⟩
 subst lP
 subst esb
 have eX:∀ i,i<na→(arrOf st).toList[P.length + i]?=X[i]?:=fun i hi=>by rw [e];exact at4 (by lia)
 have eY:∀ i,i<nb→(arrOf st).toList[P.length + na + i]?=Y[i]?:=fun i hi=>by rw [e,←lX];exact at4' (by lia)
 have hsz:(arrOf st).size=P.length + na + nb + S.length:=by
  have:=congrArg List.length e
  rw [Array.length_toList] at this
  simp only [List.length_append] at this
  lia
 have ay0:(arrOf st).toList[P.length + na]?=some y0:=by have:=eY 0 h1;rw [Nat.add_zero] at this;rw [this];exact ey0
 refine wpS_bind (wpS_get ?_)
 rw [p1,p2]
 refine wpS_bind ?_
 refine AOa ?_
 refine wpS_bind (AAa (AAk ay0) (wpS_bind (AKm (arr:=arrOf st) (base:=P.length) (n:=na) (hint:=0) C hk (hm y0 (List.mem_of_getElem? ay0)) hm (fun i j x y hi hij hj e1 e2=>?_) (by lia) h0 fun k k1 k2 k3=>?_)))
 ·rw [show i=P.length + (i - P.length) by lia,eX _ (by lia)] at e1
  rw [show j=P.length + (j - P.length) by lia,eX _ (by lia)] at e2
  exact AC6 sX (by lia) e1 e2
 have k2':∀ x∈X.take k,KLe ky x y0:=fun x hx=>by
  obtain ⟨i,hi⟩:=List.getElem?_of_mem hx
  rw [List.getElem?_take] at hi
  split at hi
  ·exact k2 i x ‹_› (by rw [eX i (by lia)];exact hi)
  ·cases hi
 have k3':∀ x∈X.drop k,KLe ky y0 x:=fun x hx=>by
  obtain ⟨i,hi,e⟩:=ADc hx
  have hl:i<X.length:=by
   rcases Nat.lt_or_ge i X.length with q | q
   ·exact q
   ·rw [List.getElem?_eq_none q] at e;cases e
  exact KeyOrd.kle_of_klt (k3 i x hi (by lia) (by rw [eX i (by lia)];exact e))
 have y0le:∀ y∈Y,KLe ky y0 y:=fun y hy=>ACt sY ey0 y (by simpa using hy)
 have whole:(∀ x∈X,∀ y∈Y,KLe ky x y)→R true (SortSt.mk' κ (arrOf st) (((pendingOf st).setIfInBounds i (P.length,na + nb,pw)).eraseIdxIfInBounds (i + 1)) (gallopOf st) none):=fun hx =>
  h (X ++ Y) (arrOf st) (gallopOf st) (List.Perm.refl _) (List.pairwise_append.mpr ⟨sX,sY,hx⟩) (by rw [e,List.append_assoc P X Y])
 have est:SortSt.mk' κ (arrOf st) (((pendingOf st).setIfInBounds i (P.length,na + nb,pw)).eraseIdxIfInBounds (i + 1)) (gallopOf st) none=SortSt.mk' (kindOf st) (arrOf st) (((pendingOf st).setIfInBounds i (P.length,na + nb,pw)).eraseIdxIfInBounds (i + 1)) (gallopOf st) (failedOf st):=by rw [hk,hf]
 refine AAI (fun hz=>wpS_pure ?_) (fun hz=>?_)
 ·have hz:na - k=0:=eq_of_beq hz
  rw [est] at whole
  refine whole fun x hx y hy=>KeyOrd.kle_trans (k2' x ?_) (y0le y hy)
  rw [List.take_of_length_le (by lia)];exact hx
 have hz:¬ na - k=0:=by simpa using hz
 have axl:(arrOf st).toList[P.length + k + (na - k) - 1]?=some xl:=by rw [show P.length + k + (na - k) - 1=P.length + (na - 1) by lia,eX _ (by lia)];exact exl
 refine wpS_bind (AAa (AAk axl) (wpS_bind (AKn (arr:=arrOf st) (base:=P.length + na) (n:=nb) (hint:=nb - 1) C hk (hm xl (List.mem_of_getElem? axl)) hm (fun i j x y hi hij hj e1 e2=>?_) (by lia) (by lia) fun l l1 l2 l3=>?_)))
 ·rw [show i=P.length + na + (i - (P.length + na)) by lia,eY _ (by lia)] at e1
  rw [show j=P.length + na + (j - (P.length + na)) by lia,eY _ (by lia)] at e2
  exact AC6 sY (by lia) e1 e2
 have xle:∀ x∈X,KLe ky x xl:=fun x hx=>ADd sX h0 exl x (by rw [List.take_of_length_le (by lia)];exact hx)
 have l2':∀ y∈Y.take l,KLe ky y xl:=fun x hx=>by
  obtain ⟨i,hi⟩:=List.getElem?_of_mem hx
  rw [List.getElem?_take] at hi
  split at hi
  ·exact KeyOrd.kle_of_klt (l2 i x ‹_› (by rw [eY i (by lia)];exact hi))
  ·cases hi
 have l3':∀ y∈Y.drop l,KLe ky xl y:=fun x hx=>by
  obtain ⟨i,hi,e⟩:=ADc hx
  have hl:i<Y.length:=by
   rcases Nat.lt_or_ge i Y.length with q | q
   ·exact q
   ·rw [List.getElem?_eq_none q] at e;cases e
  exact l3 i x hi (by lia) (by rw [eY i (by lia)];exact e)
 refine AAI (fun hy=>wpS_pure ?_) (fun hy=>?_)
 ·have hy:l=0:=eq_of_beq hy
  rw [est] at whole
  exact whole fun x hx y hy2=>KeyOrd.kle_trans (xle x hx) (l3' y (by rw [hy];exact hy2))
 have hy:¬ l=0:=by simpa using hy
 have ex:((arrOf st).extract (P.length + k) (P.length + na)).toList=X.drop k:=by
  rw [AGo,e,List.append_assoc,List.append_assoc,List.take_append,List.take_of_length_le (by lia),Nat.add_sub_cancel_left,List.take_append,List.take_of_length_le (by lia),←lX,Nat.sub_self,List.take_zero,List.append_nil,List.drop_append,List.drop_eq_nil_of_le (by lia),Nat.add_sub_cancel_left]
  rfl
 have ey:((arrOf st).extract (P.length + na) (P.length + na + l)).toList=Y.take l:=by
  rw [AFG,e,List.append_assoc,List.drop_append,List.drop_eq_nil_of_le (by rw [List.length_append];lia),List.length_append,lX,Nat.sub_self,List.nil_append,List.drop_zero,List.take_append_of_le_length (by lia)]
 have sx:((arrOf st).extract (P.length + k) (P.length + na)).size=na - k:=by rw [←Array.length_toList,ex,List.length_drop];lia
 have sy:((arrOf st).extract (P.length + na) (P.length + na + l)).size=l:=by rw [←Array.length_toList,ey,List.length_take];lia
 have post:∀ (m:Array Keyed) g,MDone ky ((arrOf st).extract (P.length + k) (P.length + na)).toList ((arrOf st).extract (P.length + na) (P.length + na + l)).toList m.toList →
   R true (SortSt.mk' (kindOf st) (m.toList.zipIdx.foldl (fun a (q:Keyed×Nat)=>a.setIfInBounds (P.length + k + q.2) q.1) (arrOf st)) (((pendingOf st).setIfInBounds i (P.length,na + nb,pw)).eraseIdxIfInBounds (i + 1)) g (failedOf st)):=fun m g d=>by
  rw [ex,ey] at d
  rw [hk,hf]
  have lm:m.toList.length=na - k + l:=by rw [d.perm.length_eq,List.length_append,List.length_drop,List.length_take];lia
  have hmem:∀ z∈m.toList,z∈X.drop k∨z∈Y.take l:=fun z hz=>List.mem_append.mp (d.perm.mem_iff.mp hz)
  refine h (X.take k ++ (m.toList ++ Y.drop l)) _ g ?_ ?_ ?_
  ·have p3:(m.toList ++ Y.drop l).Perm (X.drop k ++ Y):=by
    have:=d.perm.append_right (Y.drop l)
    rw [List.append_assoc,List.take_append_drop] at this
    exact this
   have p4:=p3.append_left (X.take k)
   rw [←List.append_assoc (X.take k) (X.drop k) Y,List.take_append_drop] at p4
   exact p4
  ·refine List.pairwise_append.mpr ⟨(AAR sX k).1,List.pairwise_append.mpr ⟨d.srt,(AAR sY l).2.1,fun x hx y hy2=>?_⟩,fun x hx y hy2=>?_⟩
   ·rcases hmem x hx with z | z
    ·exact KeyOrd.kle_trans (xle x (List.mem_of_mem_drop z)) (l3' y hy2)
    ·exact (AAR sY l).2.2 x z y hy2
   ·rcases List.mem_append.mp hy2 with z | z
    ·rcases hmem y z with z | z
     ·exact (AAR sX k).2.2 x hx y z
     ·exact KeyOrd.kle_trans (k2' x hx) (y0le y (List.mem_of_mem_take z))
    ·exact KeyOrd.kle_trans (k2' x hx) (y0le y (List.mem_of_mem_drop z))
  ·have:=AIy m.toList (P.length + k) 0 (arrOf st) (by lia)
   rw [this,Nat.add_zero,lm,e]
   have e1:(P ++ X ++ Y ++ S).take (P.length + k)=P ++ X.take k:=by
    rw [List.append_assoc,List.append_assoc,List.take_append,List.take_of_length_le (by lia),Nat.add_sub_cancel_left,List.take_append_of_le_length (by lia)]
   have e2:(P ++ X ++ Y ++ S).drop (P.length + k + (na - k + l))=Y.drop l ++ S:=by
    rw [show P.length + k + (na - k + l)=(P ++ X).length + l by rw [List.length_append];lia,List.append_assoc,List.drop_append,List.drop_eq_nil_of_le (by lia),Nat.add_sub_cancel_left,List.nil_append,List.drop_append_of_le_length (by lia)]
   rw [e1,e2]
   simp only [List.append_assoc]
 have mx:∀ z∈((arrOf st).extract (P.length + k) (P.length + na)).toList,mem z:=fun z hz=>hm z (by rw [ex] at hz;rw [e];simp [List.mem_of_mem_drop hz])
 have my:∀ z∈((arrOf st).extract (P.length + na) (P.length + na + l)).toList,mem z:=fun z hz=>hm z (by rw [ey] at hz;rw [e];simp [List.mem_of_mem_take hz])
 have first:∀ x y,((arrOf st).extract (P.length + na) (P.length + na + l)).toList[0]?=some x→y∈((arrOf st).extract (P.length + k) (P.length + na)).toList→KLe ky x y:=fun x y e1 hy2=>by
  rw [ey,List.getElem?_take,if_pos (by lia),ey0] at e1
  cases e1
  rw [ex] at hy2
  exact k3' y hy2
 have last:∀ x∈((arrOf st).extract (P.length + na) (P.length + na + l)).toList,∀ y,((arrOf st).extract (P.length + k) (P.length + na)).toList[((arrOf st).extract (P.length + k) (P.length + na)).size - 1]?=some y→KLe ky x y:=fun x hx y e1=>by
  rw [sx,ex,List.getElem?_drop,show k + (na - k - 1)=na - 1 by lia,exl] at e1
  cases e1
  rw [ey] at hx
  exact l2' x hx
 refine AAI (fun _=>wpS_bind (AQp (a:=(arrOf st).extract (P.length + k) (P.length + na)) (b:=(arrOf st).extract (P.length + na) (P.length + na + l)) C (by exact hk) mx my (by rw [ex];exact (AAR sX k).2.1) (by rw [ey];exact (AAR sY l).1) (by rw [sx];lia) (by rw [sy];lia) first last fun m g d=>?_)) (fun _=>wpS_bind (AQq (a:=(arrOf st).extract (P.length + k) (P.length + na)) (b:=(arrOf st).extract (P.length + na) (P.length + na + l)) C (by exact hk) mx my (by rw [ex];exact (AAR sX k).2.1) (by rw [ey];exact (AAR sY l).1) (by rw [sx];lia) (by rw [sy];lia) first last fun m g d=>?_))
 all_goals
  refine wpS_bind (wpS_modify ?_)
  refine wpS_bind (wpS_get (wpS_pure ?_))
  have:=post m g d
  have hn:(failedOf st).isNone=true:=by rw [hf];rfl
  show R (failedOf st).isNone _
  rw [hn]
  exact this
end
section
variable {M:Model} {A:Around} {E:Value→Shared→Prop} {s:Shared} {κ:SortKind} {O:KeyOrd} {ky:Keyed→O.α} {mem:Keyed→Prop}
noncomputable def Kx (ky:Keyed→O.α) (arr:Array Keyed) (i:Nat):O.α:=ky (arr.getD i (Value.none,Value.none))
def AB1 (ky:Keyed→O.α) (lo n:Nat) (arr:Array Keyed):Prop:=∀ i j,i≤j→j<n→O.kle (Kx ky arr (lo + i)) (Kx ky arr (lo + j))
def AB9 (ky:Keyed→O.α) (lo n:Nat) (arr:Array Keyed):Prop:=∀ i j,i≤j→j<n→O.kle (Kx ky arr (lo + j)) (Kx ky arr (lo + i))
theorem AC7 {p q:Array Keyed} {i j:Nat} (h:p[i]?=q[j]?):Kx ky p i=Kx ky q j:=by
 unfold Kx
 rw [Array.getD_eq_getD_getElem?,Array.getD_eq_getD_getElem?,h]
theorem AEL {p:Array Keyed} {i j:Nat} (hj:j≤p.size) (k:Nat):Kx ky (mirror p i j ((j - i) / 2)) k=if i≤k∧k<j then Kx ky p (i + j - 1 - k) else Kx ky p k:=by
 have e:=getElem?_mirror_all (i:=i) hj k
 split
 ·rw [if_pos ‹_›] at e;exact AC7 e
 ·rw [if_neg ‹_›] at e;exact AC7 e
theorem AJ1 {p:Array Keyed} {i j:Nat} (hj:j≤p.size) (he:∀ k,i≤k→k<j→Kx ky p k=Kx ky p (j - 1)) (k:Nat):Kx ky (mirror p i j ((j - i) / 2)) k=Kx ky p k:=by
 rw [AEL hj]
 split
 ·rw [he _ (by lia) (by lia),he k (by lia) (by lia)]
 ·rfl
theorem AN2 {p:Array Keyed} {i:Nat} (h:i<p.size):∃ x,p[i]?=some x∧x∈p.toList∧Kx ky p i=ky x:=by
 refine ⟨p[i],getElem?_pos _ i h,by simp,?_⟩
 unfold Kx
 rw [Array.getD_eq_getD_getElem?,getElem?_pos _ i h];rfl
structure From (lo:Nat) (p q:Array Keyed):Prop where
 perm:q.Perm p
 low:∀ i,i<lo→q[i]?=p[i]?
theorem From.refl {lo:Nat} {p:Array Keyed}:From lo p p:=⟨Array.Perm.refl _,fun _ _=>rfl⟩
theorem From.trans {lo:Nat} {p q r:Array Keyed} (h:From lo p q) (g:From lo q r):From lo p r:=⟨g.perm.trans h.perm,fun i hi=>(g.low i hi).trans (h.low i hi)⟩
theorem From.size {lo:Nat} {p q:Array Keyed} (h:From lo p q):q.size=p.size:=by have:=(Array.perm_iff_toList_perm.mp h.perm).length_eq;simpa using this
theorem From.mirror {lo i j:Nat} {p:Array Keyed} (hi:lo≤i) (hj:j≤p.size):From lo p (mirror p i j ((j - i) / 2)):=⟨mirror_perm _ _ _ _,fun k hk=>by rw [getElem?_mirror_all hj,if_neg (by lia)]⟩
theorem From.mems {lo:Nat} {p q:Array Keyed} (h:From lo p q) (hm:∀ x∈p.toList,mem x):∀ x∈q.toList,mem x:=fun x hx=>hm x ((Array.perm_iff_toList_perm.mp h.perm).mem_iff.mp hx)
theorem AGp (C:Cmp M A E s κ O ky mem) {i j:Nat} {R:Option Bool→SortSt→Prop} {st:SortSt} (hk:kindOf st=κ) (hm:∀ x∈(arrOf st).toList,mem x) (hi:i<(arrOf st).size) (hj:j<(arrOf st).size)
  (h:R (some (O.blt (Kx ky (arrOf st) i) (Kx ky (arrOf st) j))) st):wpS M A E s (ltAt' i j) R st:=by
 obtain ⟨x,e1,m1,k1⟩:=AN2 (ky:=ky) hi
 obtain ⟨y,e2,m2,k2⟩:=AN2 (ky:=ky) hj
 rw [k1,k2] at h
 exact wpS_bind (wpS_get (wpS_bind (AAa e1 (wpS_bind (AAa e2 (C.ask _ _ (hm x m1) (hm y m2) _ _ hk h))))))
theorem ACU (C:Cmp M A E s κ O ky mem) {i j:Nat} {b:Bool} {R:Option Bool→SortSt→Prop} {st:SortSt} (eb:O.blt (Kx ky (arrOf st) i) (Kx ky (arrOf st) j)=b) (hk:kindOf st=κ) (hm:∀ x∈(arrOf st).toList,mem x) (hi:i<(arrOf st).size) (hj:j<(arrOf st).size)
  (h:R (some b) st):wpS M A E s (ltAt' i j) R st:=AGp C hk hm hi hj (by rw [eb];exact h)
theorem ACN {i j:Nat} {R:Unit→SortSt→Prop} {st:SortSt} (h:R () (setArr st (mirror (arrOf st) i j ((j - i) / 2)))):wpS M A E s (reverseSlice' i j) R st:=by
 rw [reverseSlice'_eq];exact wpS_modify h
theorem ADe {lo a nrem:Nat} {arr:Array Keyed} {st:SortSt} {R:Option (Option Nat)×Nat→SortSt→Prop} (F:Nat→Option (Option Nat)×Nat→StateT SortSt Sem (ForInStep (Option (Option Nat)×Nat)))
  (hF:∀ x n (R':ForInStep (Option (Option Nat)×Nat)→SortSt→Prop),1≤n→n<nrem→R' (if O.blt (Kx ky arr (lo + n)) (Kx ky arr (lo + n - 1))=true then .done (none,n) else .yield (none,n + 1)) st→wpS M A E s (F x (none,n)) R' st)
  (h1:1≤a) (ha:a≤nrem) (hs:AB1 ky lo a arr) (h:∀ n,a≤n→n≤nrem→AB1 ky lo n arr→(n=nrem∨O.klt (Kx ky arr (lo + n)) (Kx ky arr (lo + n - 1)))→R (none,n) st):wpS M A E s (forIn [a:nrem] (none,a) F) R st:=by
 refine wpS_forRange (I:=fun x c st'=>st'=st∧c=(none,x)∧AB1 ky lo x arr) ?_ ?_ ⟨rfl,rfl,hs⟩
 ·rintro x c st' hx1 hx2 ⟨rfl,rfl,hs⟩
  refine hF x x _ (by lia) hx2 ?_
  cases e:O.blt (Kx ky arr (lo + x)) (Kx ky arr (lo + x - 1)) with
  | true=>rw [if_pos rfl];exact h x hx1 (by lia) hs (.inr e)
  | false =>
   rw [if_neg (by simp)]
   refine ⟨rfl,rfl,fun i j hij hj=>?_⟩
   by_cases hjx:j=x
   ·subst hjx
    by_cases hi:i=j
    ·subst hi;exact KeyOrd.kle_refl _
    ·have e2:O.kle (Kx ky arr (lo + (j - 1))) (Kx ky arr (lo + j)):=by rw [show lo + (j - 1)=lo + j - 1 by lia];exact e
     exact KeyOrd.kle_trans (hs i (j - 1) (by lia) (by lia)) e2
   ·exact hs i j hij (by lia)
 ·rintro c st' ⟨rfl,rfl,hs⟩
  rw [Nat.max_eq_right ha] at hs ⊢
  exact h nrem ha (Nat.le_refl _) hs (.inl rfl)
theorem AMF (C:Cmp M A E s κ O ky mem) {lo nrem:Nat} {R:Option Nat→SortSt→Prop} {st:SortSt} (hk:kindOf st=κ) (hm:∀ x∈(arrOf st).toList,mem x) (h1:1≤nrem) (hz:lo + nrem≤(arrOf st).size)
  (h:∀ m arr,From lo (arrOf st) arr→1≤m→m≤nrem→AB1 ky lo m arr→R (some m) (setArr st arr)):wpS M A E s (countRun' lo nrem) R st:=by
 have body:∀ (arr:Array Keyed),From lo (arrOf st) arr→∀ n,1≤n→n<nrem→∀ {R':Option Bool→SortSt→Prop},R' (some (O.blt (Kx ky arr (lo + n)) (Kx ky arr (lo + n - 1)))) (setArr st arr)→wpS M A E s (ltAt' (lo + n) (lo + n - 1)) R' (setArr st arr):=fun arr hF n n1 n2 R' hR =>
  AGp (st:=setArr st arr) C hk (hF.mems hm) (by show lo + n<arr.size;rw [hF.size];lia) (by show lo + n - 1<arr.size;rw [hF.size];lia) hR
 -- the last part: turned about,then on
 have tail:∀ (arr:Array Keyed) (n:Nat),From lo (arrOf st) arr→1≤n→n≤nrem→AB9 ky lo n arr→AB1 ky lo n (mirror arr lo (lo + n) ((lo + n - lo) / 2)):=fun arr n hF n1 n2 hd i j hij hj=>by
  have hs:lo + n≤arr.size:=by rw [hF.size];lia
  rw [AEL hs,AEL hs,if_pos (by lia),if_pos (by lia),show lo + (lo + n) - 1 - (lo + i)=lo + (n - 1 - i) by lia,show lo + (lo + n) - 1 - (lo + j)=lo + (n - 1 - j) by lia]
  exact hd _ _ (by lia) (by lia)
 have eqs:∀ (arr:Array Keyed) (n q:Nat),From lo (arrOf st) arr→n≤nrem→q + 1≤n→(∀ i,n - (q + 1)≤i→i<n→Kx ky arr (lo + i)=Kx ky arr (lo + n - 1))→∀ k,Kx ky (mirror arr (lo + n - (q + 1)) (lo + n) ((lo + n - (lo + n - (q + 1))) / 2)) k=Kx ky arr k:=fun arr n q hF n2 hq he k=>by
  refine AJ1 (by rw [hF.size];lia) (fun k k1 k2=>?_) k
  rw [show k=lo + (k - lo) by lia]
  exact he (k - lo) (by lia) (by lia)
 refine wpS_bind (ADe (ky:=ky) (lo:=lo) (arr:=arrOf st) _ (fun x n R' n1 n2 hR=>?_) (Nat.le_refl 1) h1 (fun i j hij hj=>by rw [show i=j by lia];exact KeyOrd.kle_refl _) fun n n1 n2 hs hor=>?_)
 ·refine wpS_bind (body (arrOf st) From.refl n n1 n2 ?_)
  cases e:O.blt (Kx ky (arrOf st) (lo + n)) (Kx ky (arrOf st) (lo + n - 1)) with
  | true=>rw [e,if_pos rfl] at hR;exact wpS_pure hR
  | false=>rw [e,if_neg (by simp)] at hR;exact wpS_pure hR
 refine AAI (fun he=>wpS_pure (h n (arrOf st) From.refl n1 n2 hs)) (fun he=>?_)
 have he:¬ n=nrem:=by simpa using he
 have hlt:=hor.resolve_left he
 refine AAI (fun hn=>?_) (fun hn=>?_)
 ·refine wpS_bind (AGp C hk hm (by lia) (by lia) ?_)
  cases hrose:O.blt (Kx ky (arrOf st) lo) (Kx ky (arrOf st) (lo + n - 1)) with
  | true=>exact AAI (fun _=>wpS_pure (h n (arrOf st) From.refl n1 n2 hs)) (fun z=>absurd rfl z)
  | false =>
   refine AAI (fun z=>by cases z) (fun _=>?_)
   refine wpS_bind (ACN ?_)
   have all:∀ k,k<n→Kx ky (arrOf st) (lo + k)=Kx ky (arrOf st) (lo + n - 1):=fun k hk=>by
    have a1:=hs 0 k (by lia) hk
    have a2:=hs k (n - 1) (by lia) (by lia)
    rw [show lo + (n - 1)=lo + n - 1 by lia] at a2
    exact KeyOrd.kle_antisymm a2 (KeyOrd.kle_trans hrose a1)
   have hF1:From lo (arrOf st) (mirror (arrOf st) lo (lo + n) ((lo + n - lo) / 2)):=From.mirror (Nat.le_refl _) (by lia)
   have ek:∀ k,Kx ky (mirror (arrOf st) lo (lo + n) ((lo + n - lo) / 2)) k=Kx ky (arrOf st) k:=AJ1 (by lia) fun k k1 k2=>by
    rw [show k=lo + (k - lo) by lia];exact all _ (by lia)
   have hd:AB9 ky lo (n + 1) (mirror (arrOf st) lo (lo + n) ((lo + n - lo) / 2)):=fun i j hij hj=>by
    rw [ek,ek]
    by_cases hjn:j=n
    ·subst hjn
     by_cases hi:i=j
     ·subst hi;exact KeyOrd.kle_refl _
     ·rw [all i (by lia)];exact KeyOrd.kle_of_klt hlt
    ·rw [all i (by lia),all j (by lia)];exact KeyOrd.kle_refl _
   show wpS M A E s _ R (setArr st (mirror (arrOf st) lo (lo + n) ((lo + n - lo) / 2)))
   generalize mirror (arrOf st) lo (lo + n) ((lo + n - lo) / 2)=arr0 at hF1 hd ⊢
   refine wpS_bind (wpS_lift (wpAny_rule ⟨rfl,?_⟩))
   refine wpS_bind (wpS_mono (wpS_forRange (I:=fun x c st'=>∃ arr q,c=(none,x,q)∧st'=setArr st arr∧From lo (arrOf st) arr∧AB9 ky lo x arr∧q + 1≤x∧∀ i,x - (q + 1)≤i→i<x→Kx ky arr (lo + i)=Kx ky arr (lo + x - 1))
    (Q:=fun c st'=>∃ arr m q,c=(none,m,q)∧st'=setArr st arr∧From lo (arrOf st) arr∧AB9 ky lo m arr∧1≤m∧m≤nrem∧q + 1≤m∧∀ i,m - (q + 1)≤i→i<m→Kx ky arr (lo + i)=Kx ky arr (lo + m - 1)) ?st ?fi ⟨arr0,0,rfl,rfl,hF1,hd,by lia,fun i h1 h2=>by congr 1;lia⟩) ?po)
   case fi =>
    rintro c st' ⟨arr,q,rfl,rfl,hF,hd,hq,he⟩
    rw [Nat.max_eq_right (by lia)] at *
    exact ⟨arr,nrem,q,rfl,rfl,hF,hd,by lia,by lia,hq,he⟩
   case st =>
    rintro x c st' hx1 hx2 ⟨arr,q,rfl,rfl,hF,hd,hq,he⟩
    refine wpS_bind (body arr hF x (by lia) hx2 ?_)
    cases e1:O.blt (Kx ky arr (lo + x)) (Kx ky arr (lo + x - 1)) with
    | true =>
     refine AAI (fun _=>?_) (fun z=>absurd rfl z)
     have stp:∀ arr':Array Keyed,(∀ k,Kx ky arr' k=Kx ky arr k)→AB9 ky lo (x + 1) arr':=fun arr' hk' i j hij hj=>by
      rw [hk',hk']
      by_cases hjx:j=x
      ·subst hjx
       by_cases hi:i=j
       ·subst hi;exact KeyOrd.kle_refl _
       ·have e2:O.kle (Kx ky arr (lo + j)) (Kx ky arr (lo + (j - 1))):=by rw [show lo + (j - 1)=lo + j - 1 by lia];exact KeyOrd.kle_of_klt e1
        exact KeyOrd.kle_trans e2 (hd i (j - 1) (by lia) (by lia))
      ·exact hd i j hij (by lia)
     refine AAI (fun hq0=>wpS_bind (ACN (wpS_pure ⟨_,0,rfl,rfl,hF.trans (From.mirror (i:=lo + x - (q + 1)) (j:=lo + x) (by lia) ?_),stp _ (eqs arr x q hF (by lia) hq he),by lia,fun i h1 h2=>by congr 1;lia⟩))) (fun hq0=>wpS_pure ⟨arr,0,rfl,rfl,hF,stp arr (fun _=>rfl),by lia,fun i h1 h2=>by congr 1;lia⟩)
     show lo + x≤arr.size
     rw [hF.size];lia
    | false =>
     refine AAI (fun z=>by cases z) (fun _=>?_)
     have sz1:lo + x<arr.size:=by rw [hF.size];lia
     cases e2:O.blt (Kx ky arr (lo + x - 1)) (Kx ky arr (lo + x)) with
     | true =>
      refine wpS_bind (ACU (st:=setArr st arr) C e2 hk (hF.mems hm) (by show lo + x - 1<arr.size;lia) sz1 ?_)
      exact AAI (fun _=>wpS_pure ⟨arr,x,q,rfl,rfl,hF,hd,by lia,by lia,hq,he⟩) (fun z=>absurd rfl z)
     | false =>
      refine wpS_bind (ACU (st:=setArr st arr) C e2 hk (hF.mems hm) (by show lo + x - 1<arr.size;lia) sz1 ?_)
      have ex:Kx ky arr (lo + x)=Kx ky arr (lo + x - 1):=O.total _ _ e1 e2
      refine AAI (fun z=>by cases z) (fun _=>wpS_pure ⟨arr,q + 1,rfl,rfl,hF,fun i j hij hj=>?_,by lia,fun i i1 i2=>?_⟩)
      ·by_cases hjx:j=x
       ·subst hjx
        by_cases hi:i=j
        ·subst hi;exact KeyOrd.kle_refl _
        ·rw [ex,show lo + j - 1=lo + (j - 1) by lia];exact hd i (j - 1) (by lia) (by lia)
       ·exact hd i j hij (by lia)
      ·rw [show lo + (x + 1) - 1=lo + x by lia]
       by_cases hi:i=x
       ·rw [hi]
       ·rw [ex];exact he i (by lia) (by lia)
   case po =>
    rintro c st' ⟨arr,m,q,rfl,rfl,hF,hd,m1,m2,hq,he⟩
    refine AAI (fun hq0=>wpS_bind (ACN ?_)) (fun hq0=>?_)
    ·have hF2:=hF.trans (From.mirror (i:=lo + m - (q + 1)) (j:=lo + m) (by lia) (by rw [hF.size];lia))
     have hd2:AB9 ky lo m (mirror arr (lo + m - (q + 1)) (lo + m) ((lo + m - (lo + m - (q + 1))) / 2)):=fun i j hij hj=>by rw [eqs arr m q hF m2 hq he,eqs arr m q hF m2 hq he];exact hd i j hij hj
     show wpS M A E s _ R (setArr st (mirror arr (lo + m - (q + 1)) (lo + m) ((lo + m - (lo + m - (q + 1))) / 2)))
     generalize mirror arr (lo + m - (q + 1)) (lo + m) ((lo + m - (lo + m - (q + 1))) / 2)=arr2 at hF2 hd2 ⊢
     refine wpS_bind (ACN ?_)
     have hF3:=hF2.trans (From.mirror (i:=lo) (j:=lo + m) (Nat.le_refl lo) (by rw [hF2.size];lia))
     refine wpS_bind (ADe (ky:=ky) (lo:=lo) (arr:=mirror arr2 lo (lo + m) ((lo + m - lo) / 2)) _ (fun x n R' n1 n2 hR=>?_) m1 m2 (tail arr2 m hF2 m1 m2 hd2) fun n' a b c _=>wpS_pure (h n' _ hF3 (Nat.le_trans m1 a) b c))
     refine wpS_bind (body _ hF3 n n1 n2 ?_)
     cases e:O.blt (Kx ky (mirror arr2 lo (lo + m) ((lo + m - lo) / 2)) (lo + n)) (Kx ky (mirror arr2 lo (lo + m) ((lo + m - lo) / 2)) (lo + n - 1)) with
     | true=>rw [e,if_pos rfl] at hR;exact wpS_pure hR
     | false=>rw [e,if_neg (by simp)] at hR;exact wpS_pure hR
    ·refine wpS_bind (ACN ?_)
     have hF3:=hF.trans (From.mirror (i:=lo) (j:=lo + m) (Nat.le_refl lo) (by rw [hF.size];lia))
     refine wpS_bind (ADe (ky:=ky) (lo:=lo) (arr:=mirror arr lo (lo + m) ((lo + m - lo) / 2)) _ (fun x n R' n1 n2 hR=>?_) m1 m2 (tail arr m hF m1 m2 hd) fun n' a b c _=>wpS_pure (h n' _ hF3 (Nat.le_trans m1 a) b c))
     refine wpS_bind (body _ hF3 n n1 n2 ?_)
     cases e:O.blt (Kx ky (mirror arr lo (lo + m) ((lo + m - lo) / 2)) (lo + n)) (Kx ky (mirror arr lo (lo + m) ((lo + m - lo) / 2)) (lo + n - 1)) with
     | true=>rw [e,if_pos rfl] at hR;exact wpS_pure hR
     | false=>rw [e,if_neg (by simp)] at hR;exact wpS_pure hR
 ·have hn1:n=1:=by lia
  subst hn1
  have hF1:From lo (arrOf st) (arrOf st):=From.refl
  have hd:AB9 ky lo (1 + 1) (arrOf st):=fun i j hij hj=>by
   by_cases hi:i=j
   ·subst hi;exact KeyOrd.kle_refl _
   ·have h0:i=0:=by lia
    have h1:j=1:=by lia
    subst h0;subst h1
    exact KeyOrd.kle_of_klt hlt
  obtain ⟨arr0,hF1,hd,e0⟩:∃ arr0,From lo (arrOf st) arr0∧AB9 ky lo (1 + 1) arr0∧arr0=arrOf st:=⟨_,hF1,hd,rfl⟩
  refine (show wpS M A E s _ R (setArr st arr0)→_ from fun hh=>by rw [e0] at hh;exact hh) ?_
  refine wpS_bind (wpS_lift (wpAny_rule ⟨rfl,?_⟩))
  refine wpS_bind (wpS_mono (wpS_forRange (I:=fun x c st'=>∃ arr q,c=(none,x,q)∧st'=setArr st arr∧From lo (arrOf st) arr∧AB9 ky lo x arr∧q + 1≤x∧∀ i,x - (q + 1)≤i→i<x→Kx ky arr (lo + i)=Kx ky arr (lo + x - 1))
   (Q:=fun c st'=>∃ arr m q,c=(none,m,q)∧st'=setArr st arr∧From lo (arrOf st) arr∧AB9 ky lo m arr∧1≤m∧m≤nrem∧q + 1≤m∧∀ i,m - (q + 1)≤i→i<m→Kx ky arr (lo + i)=Kx ky arr (lo + m - 1)) ?st ?fi ⟨arr0,0,rfl,rfl,hF1,hd,by lia,fun i h1 h2=>by congr 1;lia⟩) ?po)
  case fi =>
   rintro c st' ⟨arr,q,rfl,rfl,hF,hd,hq,he⟩
   rw [Nat.max_eq_right (by lia)] at *
   exact ⟨arr,nrem,q,rfl,rfl,hF,hd,by lia,by lia,hq,he⟩
  case st =>
   rintro x c st' hx1 hx2 ⟨arr,q,rfl,rfl,hF,hd,hq,he⟩
   refine wpS_bind (body arr hF x (by lia) hx2 ?_)
   cases e1:O.blt (Kx ky arr (lo + x)) (Kx ky arr (lo + x - 1)) with
   | true =>
    refine AAI (fun _=>?_) (fun z=>absurd rfl z)
    have stp:∀ arr':Array Keyed,(∀ k,Kx ky arr' k=Kx ky arr k)→AB9 ky lo (x + 1) arr':=fun arr' hk' i j hij hj=>by
     rw [hk',hk']
     by_cases hjx:j=x
     ·subst hjx
      by_cases hi:i=j
      ·subst hi;exact KeyOrd.kle_refl _
      ·have e2:O.kle (Kx ky arr (lo + j)) (Kx ky arr (lo + (j - 1))):=by rw [show lo + (j - 1)=lo + j - 1 by lia];exact KeyOrd.kle_of_klt e1
       exact KeyOrd.kle_trans e2 (hd i (j - 1) (by lia) (by lia))
     ·exact hd i j hij (by lia)
    refine AAI (fun hq0=>wpS_bind (ACN (wpS_pure ⟨_,0,rfl,rfl,hF.trans (From.mirror (i:=lo + x - (q + 1)) (j:=lo + x) (by lia) ?_),stp _ (eqs arr x q hF (by lia) hq he),by lia,fun i h1 h2=>by congr 1;lia⟩))) (fun hq0=>wpS_pure ⟨arr,0,rfl,rfl,hF,stp arr (fun _=>rfl),by lia,fun i h1 h2=>by congr 1;lia⟩)
    show lo + x≤arr.size
    rw [hF.size];lia
   | false =>
    refine AAI (fun z=>by cases z) (fun _=>?_)
    have sz1:lo + x<arr.size:=by rw [hF.size];lia
    cases e2:O.blt (Kx ky arr (lo + x - 1)) (Kx ky arr (lo + x)) with
    | true =>
     refine wpS_bind (ACU (st:=setArr st arr) C e2 hk (hF.mems hm) (by show lo + x - 1<arr.size;lia) sz1 ?_)
     exact AAI (fun _=>wpS_pure ⟨arr,x,q,rfl,rfl,hF,hd,by lia,by lia,hq,he⟩) (fun z=>absurd rfl z)
    | false =>
     refine wpS_bind (ACU (st:=setArr st arr) C e2 hk (hF.mems hm) (by show lo + x - 1<arr.size;lia) sz1 ?_)
     have ex:Kx ky arr (lo + x)=Kx ky arr (lo + x - 1):=O.total _ _ e1 e2
     refine AAI (fun z=>by cases z) (fun _=>wpS_pure ⟨arr,q + 1,rfl,rfl,hF,fun i j hij hj=>?_,by lia,fun i i1 i2=>?_⟩)
     ·by_cases hjx:j=x
      ·subst hjx
       by_cases hi:i=j
       ·subst hi;exact KeyOrd.kle_refl _
       ·rw [ex,show lo + j - 1=lo + (j - 1) by lia];exact hd i (j - 1) (by lia) (by lia)
      ·exact hd i j hij (by lia)
     ·rw [show lo + (x + 1) - 1=lo + x by lia]
      by_cases hi:i=x
      ·rw [hi]
      ·rw [ex];exact he i (by lia) (by lia)
  case po =>
   rintro c st' ⟨arr,m,q,rfl,rfl,hF,hd,m1,m2,hq,he⟩
   refine AAI (fun hq0=>wpS_bind (ACN ?_)) (fun hq0=>?_)
   ·have hF2:=hF.trans (From.mirror (i:=lo + m - (q + 1)) (j:=lo + m) (by lia) (by rw [hF.size];lia))
    have hd2:AB9 ky lo m (mirror arr (lo + m - (q + 1)) (lo + m) ((lo + m - (lo + m - (q + 1))) / 2)):=fun i j hij hj=>by rw [eqs arr m q hF m2 hq he,eqs arr m q hF m2 hq he];exact hd i j hij hj
    show wpS M A E s _ R (setArr st (mirror arr (lo + m - (q + 1)) (lo + m) ((lo + m - (lo + m - (q + 1))) / 2)))
    generalize mirror arr (lo + m - (q + 1)) (lo + m) ((lo + m - (lo + m - (q + 1))) / 2)=arr2 at hF2 hd2 ⊢
    refine wpS_bind (ACN ?_)
    have hF3:=hF2.trans (From.mirror (i:=lo) (j:=lo + m) (Nat.le_refl lo) (by rw [hF2.size];lia))
    refine wpS_bind (ADe (ky:=ky) (lo:=lo) (arr:=mirror arr2 lo (lo + m) ((lo + m - lo) / 2)) _ (fun x n R' n1 n2 hR=>?_) m1 m2 (tail arr2 m hF2 m1 m2 hd2) fun n' a b c _=>wpS_pure (h n' _ hF3 (Nat.le_trans m1 a) b c))
    refine wpS_bind (body _ hF3 n n1 n2 ?_)
    cases e:O.blt (Kx ky (mirror arr2 lo (lo + m) ((lo + m - lo) / 2)) (lo + n)) (Kx ky (mirror arr2 lo (lo + m) ((lo + m - lo) / 2)) (lo + n - 1)) with
    | true=>rw [e,if_pos rfl] at hR;exact wpS_pure hR
    | false=>rw [e,if_neg (by simp)] at hR;exact wpS_pure hR
   ·refine wpS_bind (ACN ?_)
    have hF3:=hF.trans (From.mirror (i:=lo) (j:=lo + m) (Nat.le_refl lo) (by rw [hF.size];lia))
    refine wpS_bind (ADe (ky:=ky) (lo:=lo) (arr:=mirror arr lo (lo + m) ((lo + m - lo) / 2)) _ (fun x n R' n1 n2 hR=>?_) m1 m2 (tail arr m hF m1 m2 hd) fun n' a b c _=>wpS_pure (h n' _ hF3 (Nat.le_trans m1 a) b c))
    refine wpS_bind (body _ hF3 n n1 n2 ?_)
    cases e:O.blt (Kx ky (mirror arr lo (lo + m) ((lo + m - lo) / 2)) (lo + n)) (Kx ky (mirror arr lo (lo + m) ((lo + m - lo) / 2)) (lo + n - 1)) with
    | true=>rw [e,if_pos rfl] at hR;exact wpS_pure hR
    | false=>rw [e,if_neg (by simp)] at hR;exact wpS_pure hR
end
section
variable {M:Model} {A:Around} {E:Value→Shared→Prop} {s:Shared} {κ:SortKind} {O:KeyOrd} {ky:Keyed→O.α} {mem:Keyed→Prop}
theorem AMG {p:Array Keyed} {src d:Nat} (hs:src<p.size) (hd:d≤src) (k:Nat):Kx ky (bubble p src d) k=if k=src - d then Kx ky p src else if src - d<k∧k≤src then Kx ky p (k - 1) else Kx ky p k:=by
 have e:=getElem?_bubble hs d hd k
 split
 ·rw [if_pos ‹_›] at e;exact AC7 e
 ·rw [if_neg ‹_›] at e
  split
  ·rw [if_pos ‹_›] at e;exact AC7 e
  ·rw [if_neg ‹_›] at e;exact AC7 e
theorem AOb {i j:Nat} {R:Unit→SortSt→Prop} {st:SortSt} (h:R () (setArr st (bubble (arrOf st) i (i - j)))):wpS M A E s (moveDown' i j) R st:=by
 rw [moveDown'_eq];exact wpS_modify h
theorem AOc (C:Cmp M A E s κ O ky mem) {lo n ok:Nat} {R:Bool→SortSt→Prop} {st:SortSt} (hk:kindOf st=κ) (hm:∀ x∈(arrOf st).toList,mem x) (hok:ok≤n) (hz:lo + n≤(arrOf st).size) (hs:AB1 ky lo ok (arrOf st))
  (h:∀ arr,From lo (arrOf st) arr→AB1 ky lo n arr→R true (setArr st arr)):wpS M A E s (binarySort' lo n ok) R st:=by
 refine wpS_bind (wpS_mono (wpS_forRange (I:=fun k c st'=>∃ arr,c=(none,())∧st'=setArr st arr∧From lo (arrOf st) arr∧AB1 ky lo (min k n) arr)
  (Q:=fun c st'=>∃ arr,c=(none,())∧st'=setArr st arr∧From lo (arrOf st) arr∧AB1 ky lo n arr) ?step ?fin ⟨arrOf st,rfl,rfl,From.refl,?init⟩) ?post)
 case post =>
  rintro c st' ⟨arr,rfl,rfl,hF,hu⟩
  exact wpS_pure (h arr hF hu)
 case init =>
  intro i j hij hj
  by_cases h0:ok=0
  ·rw [show i=j by lia];exact KeyOrd.kle_refl _
  ·exact hs i j hij (by lia)
 case fin =>
  rintro c st' ⟨arr,rfl,rfl,hF,hu⟩
  refine ⟨arr,rfl,rfl,hF,?_⟩
  rwa [show min (max (max ok 1) n) n=n by lia] at hu
 case step =>
  rintro k c st' hk1 hk2 ⟨arr,rfl,rfl,hF,hu⟩
  rw [show min k n=k by lia] at hu
  have hsz:lo + k<arr.size:=by rw [hF.size];lia
  refine wpS_bind (wpS_mono (wpS_forRange (I:=fun x c st'=>st'=setArr st arr∧∃ l r,c=(none,l,r)∧l≤r∧r≤k∧r - l≤k - x∧(∀ i,i<l→O.kle (Kx ky arr (lo + i)) (Kx ky arr (lo + k)))∧∀ i,r≤i→i<k→O.klt (Kx ky arr (lo + k)) (Kx ky arr (lo + i)))
   (Q:=fun c st'=>st'=setArr st arr∧∃ l r,c=(none,l,r)∧l≤k∧(∀ i,i<l→O.kle (Kx ky arr (lo + i)) (Kx ky arr (lo + k)))∧∀ i,l≤i→i<k→O.klt (Kx ky arr (lo + k)) (Kx ky arr (lo + i))) ?st2 ?fi2 ⟨rfl,0,k,rfl,by lia,by lia,by lia,fun i hi=>by lia,fun i h1 h2=>by lia⟩) ?po2)
  case fi2 =>
   rintro c st' ⟨rfl,l,r,rfl,h1,h2,h3,h4,h5⟩
   have:l=r:=by lia
   subst this
   exact ⟨rfl,l,l,rfl,h2,h4,h5⟩
  case st2 =>
   rintro x c st' _ hx ⟨rfl,l,r,rfl,h1,h2,h3,h4,h5⟩
   refine AAI (fun hg=>wpS_pure ?_) (fun hg=>?_)
   ·have hg:l ≥ r:=hg
    have:l=r:=by lia
    subst this
    exact ⟨rfl,l,l,rfl,h2,h4,h5⟩
   ·have hg:¬ l ≥ r:=hg
    have hmid:lo + (l + r) / 2<arr.size:=by lia
    cases e1:O.blt (Kx ky arr (lo + k)) (Kx ky arr (lo + (l + r) / 2)) with
    | true =>
     refine wpS_bind (ACU (st:=setArr st arr) C e1 hk (hF.mems hm) hsz hmid ?_)
     exact AAI (fun _=>wpS_pure ⟨rfl,l,(l + r) / 2,rfl,by lia,by lia,by lia,h4,fun i i1 i2=>KeyOrd.klt_of_klt_of_kle e1 (hu _ _ i1 i2)⟩) (fun z=>absurd rfl z)
    | false =>
     refine wpS_bind (ACU (st:=setArr st arr) C e1 hk (hF.mems hm) hsz hmid ?_)
     exact AAI (fun z=>by cases z) (fun _=>wpS_pure ⟨rfl,(l + r) / 2 + 1,r,rfl,by lia,by lia,by lia,fun i i1=>KeyOrd.kle_trans (hu i ((l + r) / 2) (by lia) (by lia)) e1,h5⟩)
  case po2 =>
   rintro c st' ⟨rfl,l,r,rfl,h2,h4,h5⟩
   refine wpS_bind (AOb (wpS_pure ⟨_,rfl,rfl,hF.trans ⟨bubble_perm _ _ _,fun i hi=>?_⟩,?_⟩))
   ·show (bubble arr (lo + k) (lo + k - (lo + l)))[i]?=_
    rw [getElem?_bubble hsz _ (by lia),if_neg (by lia),if_neg (by lia)]
   ·show AB1 ky lo (min (k + 1) n) (bubble arr (lo + k) (lo + k - (lo + l)))
    rw [show min (k + 1) n=k + 1 by lia]
    have kb:∀ i,i≤k→Kx ky (bubble arr (lo + k) (lo + k - (lo + l))) (lo + i)=if i=l then Kx ky arr (lo + k) else if l<i then Kx ky arr (lo + (i - 1)) else Kx ky arr (lo + i):=fun i hi=>by
     rw [AMG hsz (by lia),show lo + k - (lo + k - (lo + l))=lo + l by lia]
     by_cases e1:i=l
     ·rw [if_pos (by lia),if_pos e1]
     ·rw [if_neg (by lia),if_neg e1]
      by_cases e2:l<i
      ·rw [if_pos (by lia),if_pos e2,show lo + i - 1=lo + (i - 1) by lia]
      ·rw [if_neg (by lia),if_neg e2]
    intro i j hij hj
    rw [kb i (by lia),kb j (by lia)]
    by_cases a1:i=l
    ·rw [if_pos a1]
     by_cases b1:j=l
     ·rw [if_pos b1];exact KeyOrd.kle_refl _
     ·rw [if_neg b1,if_pos (by lia)]
      exact KeyOrd.kle_of_klt (h5 (j - 1) (by lia) (by lia))
    ·rw [if_neg a1]
     by_cases a2:l<i
     ·rw [if_pos a2,if_neg (by lia),if_pos (by lia)]
      exact hu _ _ (by lia) (by lia)
     ·rw [if_neg a2]
      by_cases b1:j=l
      ·rw [if_pos b1];exact h4 i (by lia)
      ·rw [if_neg b1]
       by_cases b2:l<j
       ·rw [if_pos b2];exact hu _ _ (by lia) (by lia)
       ·rw [if_neg b2];exact hu _ _ hij (by lia)
def AAd (ky:Keyed→O.α):List (Nat×Nat×Nat)→List (List Keyed)→Nat→Prop
 | [],[],_=>True
 | q :: p,r :: rs,b=>q.1=b∧q.2.1=r.length∧0<r.length∧SrtL ky r∧AAd ky p rs (b + r.length)
 | _,_,_=>False
theorem AAd.len:∀ {p:List (Nat×Nat×Nat)} {rs:List (List Keyed)} {b:Nat},AAd ky p rs b→p.length=rs.length
 | [],[],_,_=>rfl
 | q :: p,r :: rs,b,h=>by simp [AAd.len h.2.2.2.2]
 | [],_ :: _,_,h=>h.elim
 | _ :: _,[],_,h=>h.elim
theorem AAd.few:∀ {p:List (Nat×Nat×Nat)} {rs:List (List Keyed)} {b:Nat},AAd ky p rs b→rs.length≤rs.flatten.length
 | [],[],_,_=>by simp
 | q :: p,r :: rs,b,h=>by have:=AAd.few h.2.2.2.2;have:=h.2.2.1;simp only [List.length_cons,List.flatten_cons,List.length_append];lia
 | [],_ :: _,_,h=>h.elim
 | _ :: _,[],_,h=>h.elim
theorem AAd.snoc:∀ {p:List (Nat×Nat×Nat)} {rs:List (List Keyed)} {b:Nat},AAd ky p rs b→∀ {r:List Keyed} {q:Nat×Nat×Nat},q.1=b + rs.flatten.length→q.2.1=r.length→0<r.length→SrtL ky r→AAd ky (p ++ [q]) (rs ++ [r]) b
 | [],[],b,_,r,q,h1,h2,h3,h4=>⟨by simpa using h1,h2,h3,h4,trivial⟩
 | q' :: p,r' :: rs,b,h,r,q,h1,h2,h3,h4=>⟨h.1,h.2.1,h.2.2.1,h.2.2.2.1,AAd.snoc h.2.2.2.2 (by rw [h1];simp only [List.flatten_cons,List.length_append];lia) h2 h3 h4⟩
 | [],_ :: _,_,h,_,_,_,_,_,_=>h.elim
 | _ :: _,[],_,h,_,_,_,_,_,_=>h.elim
theorem AAd.pow {f:Nat→Nat}:∀ {p:List (Nat×Nat×Nat)} {rs:List (List Keyed)} {b i:Nat},AAd ky p rs b→AAd ky (p.modify i fun q=>(q.1,q.2.1,f q.2.2)) rs b
 | [],[],_,i,_=>by cases i <;> trivial
 | q :: p,r :: rs,b,0,h=>h
 | q :: p,r :: rs,b,i + 1,h=>⟨h.1,h.2.1,h.2.2.1,h.2.2.2.1,AAd.pow h.2.2.2.2⟩
 | [],_ :: _,_,_,h=>h.elim
 | _ :: _,[],_,_,h=>h.elim
theorem AAd.split:∀ {p:List (Nat×Nat×Nat)} {rs:List (List Keyed)} {b:Nat} (i:Nat),AAd ky p rs b→i + 1<p.length →
  ∃ rs1 X Y rs2 pw pw2,rs=rs1 ++ X :: Y :: rs2∧p[i]?=some (b + rs1.flatten.length,X.length,pw)∧p[i + 1]?=some (b + rs1.flatten.length + X.length,Y.length,pw2)∧0<X.length∧0<Y.length∧SrtL ky X∧SrtL ky Y ∧
   ∀ Z,SrtL ky Z→Z.length=X.length + Y.length→AAd ky ((p.set i (b + rs1.flatten.length,X.length + Y.length,pw)).eraseIdx (i + 1)) (rs1 ++ Z :: rs2) b
 | q :: q2 :: p,r :: r2 :: rs,b,0,h,_=>by
  obtain ⟨h1,h2,h3,h4,g1,g2,g3,g4,g5⟩:=h
  obtain ⟨a1,a2,a3⟩:=q
  obtain ⟨c1,c2,c3⟩:=q2
  simp only at h1 h2 g1 g2
  subst h1;subst h2;subst g1;subst g2
  refine ⟨[],r,r2,rs,a3,c3,rfl,by simp,by simp,h3,g3,h4,g4,fun Z hz hl=>?_⟩
  exact ⟨by simp,by simp [hl],by lia,hz,by rw [hl,←Nat.add_assoc];exact g5⟩
 | q :: p,r :: rs,b,i + 1,h,hi=>by
  obtain ⟨h1,h2,h3,h4,h5⟩:=h
  obtain ⟨rs1,X,Y,rs2,pw,pw2,e1,e2,e3,e4,e5,e6,e7,e8⟩:=AAd.split i h5 (by simpa using hi)
  refine ⟨r :: rs1,X,Y,rs2,pw,pw2,by rw [e1];rfl,?_,?_,e4,e5,e6,e7,fun Z hz hl=>?_⟩
  ·rw [List.getElem?_cons_succ,e2,List.flatten_cons,List.length_append,Nat.add_assoc]
  ·rw [List.getElem?_cons_succ,e3,List.flatten_cons,List.length_append,Nat.add_assoc b]
  ·have:=e8 Z hz hl
   refine ⟨h1,h2,h3,h4,?_⟩
   rw [List.flatten_cons,List.length_append,←Nat.add_assoc]
   exact this
 | [],_,_,_,_,hi=>by simp at hi
 | [_],_,_,0,_,hi=>by simp at hi
 | _ :: _,[],_,_,h,_=>h.elim
 | _ :: _ :: _,[_],_,0,h,_=>h.2.2.2.2.elim
theorem AB1.srt {lo n:Nat} {arr:Array Keyed} (h:AB1 ky lo n arr) (hz:lo + n≤arr.size):SrtL ky ((arr.toList.drop lo).take n):=by
 refine List.pairwise_iff_getElem.mpr fun i j hi hj hij=>?_
 have li:i<n:=by rw [List.length_take] at hi;lia
 have lj:j<n:=by rw [List.length_take] at hj;lia
 have e:∀ k (hk:k<((arr.toList.drop lo).take n).length),k<n→ky ((arr.toList.drop lo).take n)[k]=Kx ky arr (lo + k):=fun k hk hn=>by
  rw [List.getElem_take,List.getElem_drop]
  unfold Kx
  rw [Array.getD_eq_getD_getElem?,getElem?_pos arr (lo + k) (by lia)]
  simp
 show O.kle _ _
 rw [e i hi li,e j hj lj]
 exact h i j (by lia) lj
end
section
variable {M:Model} {A:Around} {E:Value→Shared→Prop} {s:Shared} {κ:SortKind} {O:KeyOrd} {ky:Keyed→O.α} {mem:Keyed→Prop}
structure Rn (κ:SortKind) (ky:Keyed→O.α) (a0:Array Keyed) (st:SortSt) (rs:List (List Keyed)) (rest:List Keyed):Prop where
 kind:kindOf st=κ
 failed:failedOf st=none
 perm:(arrOf st).Perm a0
 eq:(arrOf st).toList=rs.flatten ++ rest
 pend:AAd ky (pendingOf st).toList rs 0
variable {a0:Array Keyed} {st:SortSt} {rs:List (List Keyed)} {rest:List Keyed}
theorem Rn.mems (r:Rn κ ky a0 st rs rest) (hm:∀ x∈a0.toList,mem x):∀ x∈(arrOf st).toList,mem x:=fun x hx=>hm x ((Array.perm_iff_toList_perm.mp r.perm).mem_iff.mp hx)
theorem Rn.size (r:Rn κ ky a0 st rs rest):(arrOf st).size=a0.size:=by have:=(Array.perm_iff_toList_perm.mp r.perm).length_eq;simpa using this
theorem Rn.psize (r:Rn κ ky a0 st rs rest):(pendingOf st).size=rs.length:=by rw [←r.pend.len,Array.length_toList]
theorem Rn.merge (C:Cmp M A E s κ O ky mem) (r:Rn κ ky a0 st rs rest) (hm:∀ x∈a0.toList,mem x) {i:Nat} (hi:i + 1<rs.length) {R:Bool→SortSt→Prop}
  (h:∀ st' rs',Rn κ ky a0 st' rs' rest→rs'.flatten.length=rs.flatten.length→rs'.length + 1=rs.length→R true st'):wpS M A E s (mergeAt' i) R st:=by
 obtain ⟨rs1,X,Y,rs2,pw,pw2,e1,e2,e3,e4,e5,e6,e7,e8⟩:=r.pend.split i (by rw [r.pend.len];exact hi)
 rw [Nat.zero_add,Array.getElem?_toList] at e2 e3
 have earr:(arrOf st).toList=rs1.flatten ++ X ++ Y ++ (rs2.flatten ++ rest):=by rw [r.eq,e1];simp [List.append_assoc]
 refine AQr C r.kind r.failed (r.mems hm) earr rfl rfl rfl e4 e5 e6 e7 e2 e3 rfl fun Z arr g pz sz ez=>?_
 have lz:Z.length=X.length + Y.length:=by rw [pz.length_eq,List.length_append]
 refine h _ (rs1 ++ Z :: rs2) ⟨rfl,rfl,?_,?_,?_⟩ ?_ ?_
 ·show arr.Perm a0
  refine Array.Perm.trans (Array.perm_iff_toList_perm.mpr ?_) r.perm
  rw [ez,earr]
  refine List.Perm.append_right _ ?_
  rw [List.append_assoc]
  exact pz.append_left _
 ·show arr.toList=_
  rw [ez];simp [List.append_assoc]
 ·show AAd ky (((pendingOf st).setIfInBounds i (rs1.flatten.length,X.length + Y.length,pw)).eraseIdxIfInBounds (i + 1)).toList _ 0
  have:=e8 Z sz lz
  rw [Nat.zero_add] at this
  rw [Array.eraseIdxIfInBounds_eq]
  split
  ·rw [Array.toList_eraseIdx,Array.toList_setIfInBounds];exact this
  ·rename_i hn
   rw [Array.size_setIfInBounds,r.psize] at hn
   lia
 ·rw [e1];simp [lz];lia
 ·rw [e1];simp;lia
theorem AOd (C:Cmp M A E s κ O ky mem) {R:Unit→SortSt→Prop} (hk:kindOf st=κ) (hf:failedOf st=none) (hp:pendingOf st=#[]) (hm:∀ x∈(arrOf st).toList,mem x)
  (h:∀ st',(arrOf st').Perm (arrOf st)→failedOf st'=none→SrtL ky (arrOf st').toList→R () st'):wpS M A E s sortRuns' R st:=by
 have r0:Rn κ ky (arrOf st) st [] (arrOf st).toList:=⟨hk,hf,Array.Perm.refl _,rfl,by rw [hp];trivial⟩
 refine wpS_bind (wpS_get ?_)
 refine wpS_bind (wpS_mono (wpS_forRange (I:=fun x c st'=>∃ rs rest,c=(none,rs.flatten.length)∧Rn κ ky (arrOf st) st' rs rest∧(x≤rs.flatten.length∨(arrOf st).size≤rs.flatten.length))
  (Q:=fun c st'=>∃ rs rest,c=(none,rs.flatten.length)∧Rn κ ky (arrOf st) st' rs rest∧(arrOf st).size≤rs.flatten.length) ?step ?fin ⟨[],_,rfl,r0,.inl (Nat.zero_le _)⟩) ?post)
 case fin =>
  rintro c st' ⟨rs,rest,rfl,r,hx⟩
  exact ⟨rs,rest,rfl,r,hx.elim (fun hx=>Nat.le_trans (Nat.le_max_right _ _) hx) id⟩
 case post =>
  rintro c st' ⟨rs,rest,rfl,r,hx⟩
  have hl:rest=[]:=by
   have:=congrArg List.length r.eq
   rw [Array.length_toList,r.size,List.length_append] at this
   exact List.eq_nil_of_length_eq_zero (by lia)
  subst hl
  have hfew:=r.pend.few
  have hsz:rs.flatten.length=(arrOf st).size:=by
   have:=congrArg List.length r.eq
   rw [Array.length_toList,r.size,List.append_nil] at this
   exact this.symm
  refine wpS_bind (wpS_mono (wpS_forRange (I:=fun y c st'=>∃ rs,c=(none,())∧Rn κ ky (arrOf st) st' rs []∧(rs.length≤(arrOf st).size - y∨rs.length≤1)) (Q:=fun c st'=>∃ rs,c=(none,())∧Rn κ ky (arrOf st) st' rs []∧rs.length≤1) ?st ?fi ⟨rs,rfl,r,.inl (by lia)⟩) ?po)
  case po =>
   rintro c st' ⟨rs,rfl,r,h1⟩
   refine wpS_pure (h st' r.perm r.failed ?_)
   rw [r.eq,List.append_nil]
   have hpd:=r.pend
   generalize (pendingOf st').toList=pl at hpd
   match rs,h1,pl,hpd with
   | [],_,_,_=>exact List.Pairwise.nil
   | [x],_,[q],hpd=>simpa using hpd.2.2.2.1
  case fi =>
   rintro c st' ⟨rs,rfl,r,h1⟩
   refine ⟨rs,rfl,r,?_⟩
   rcases h1 with h1 | h1
   ·have:max 0 (arrOf st).size=(arrOf st).size:=Nat.max_eq_right (Nat.zero_le _)
    have h1:rs.length≤(arrOf st).size - max 0 (arrOf st).size:=h1
    lia
   ·exact h1
  case st =>
   rintro y c st' _ hy ⟨rs,rfl,r,h1⟩
   refine wpS_bind (wpS_get ?_)
   have hps:=r.psize
   refine AAI (fun hz=>wpS_pure ⟨rs,rfl,r,?_⟩) (fun hz=>?_)
   ·have hz:(pendingOf st').size≤1:=hz
    lia
   ·have hz:¬ (pendingOf st').size≤1:=hz
    have fin:∀ i,i + 1<rs.length→wpS M A E s (mergeAt' i) (fun b st''=>b=true∧∃ rs',Rn κ ky (arrOf st) st'' rs' []∧rs'.length + 1=rs.length) st':=fun i hi=>r.merge C hm hi fun st'' rs' r' _ h2=>⟨rfl,rs',r',h2⟩
    refine wpS_bind (wpS_mono (fin _ ?_) ?_)
    ·have q1:(pendingOf st').size - 2 - 1 + 1<rs.length:=by lia
     have q2:(pendingOf st').size - 2 + 1<rs.length:=by lia
     repeat' split
     all_goals first | exact q1 | exact q2
    ·rintro b st'' ⟨rfl,rs',r',h2⟩
     refine AAI (fun z=>by cases z) (fun _=>wpS_pure ⟨rs',rfl,r',?_⟩)
     lia
 case step =>
  rintro x c st' _ hx ⟨rs,rest,rfl,r,hxl⟩
  have hsz:rs.flatten.length + rest.length=(arrOf st).size:=by
   have:=congrArg List.length r.eq
   rw [Array.length_toList,r.size,List.length_append] at this
   exact this.symm
  have hx:x<(arrOf st).size:=hx
  refine AAI (fun hz=>wpS_pure ⟨rs,rest,rfl,r,hz⟩) (fun hz=>?_)
  have hz:¬ rs.flatten.length ≥ (arrOf st).size:=hz
  -- a run is found,and made longer where it is short
  have after:∀ (n:Nat) (arr:Array Keyed),From rs.flatten.length (arrOf st') arr→1≤n→rs.flatten.length + n≤(arrOf st).size→AB1 ky rs.flatten.length n arr →
    Rn κ ky (arrOf st) (setArr st' arr) rs (arr.toList.drop rs.flatten.length)∧SrtL ky ((arr.toList.drop rs.flatten.length).take n)∧arr.size=(arrOf st).size:=fun n arr hF n1 n2 hu=>by
   have esz:arr.size=(arrOf st).size:=by rw [hF.size,r.size]
   have elow:arr.toList.take rs.flatten.length=rs.flatten:=by
    have e1:arr.toList.take rs.flatten.length=(arrOf st').toList.take rs.flatten.length:=by
     apply List.ext_getElem?
     intro i
     rw [List.getElem?_take,List.getElem?_take]
     split
     ·rw [Array.getElem?_toList,Array.getElem?_toList];exact hF.low i ‹_›
     ·rfl
    rw [e1,r.eq,List.take_left]
   refine ⟨⟨r.kind,r.failed,hF.perm.trans r.perm,?_,r.pend⟩,hu.srt (by lia),esz⟩
   show arr.toList=_
   have:=(List.take_append_drop rs.flatten.length arr.toList).symm
   rw [elow] at this
   exact this
  refine wpS_bind (AMF C r.kind (r.mems hm) (by show 1≤(arrOf st).size - rs.flatten.length;lia) (by rw [r.size];show rs.flatten.length + ((arrOf st).size - rs.flatten.length)≤_;lia) fun m arr hF m1 m2 hu=>?_)
  have m2:m≤(arrOf st).size - rs.flatten.length:=m2
  refine AAI (fun hlt=>?_) (fun hlt=>?_)
  ·have hlt:m<minRun' (arrOf st).size (arrOf st).size 0:=hlt
   refine wpS_bind (wpS_lift (wpAny_rule ⟨rfl,?_⟩))
   refine wpS_bind (AOc (st:=setArr st' arr) (lo:=rs.flatten.length) (n:=(min ((arrOf st).size - rs.flatten.length) (minRun' (arrOf st).size (arrOf st).size 0))) (ok:=m) C r.kind (hF.mems (r.mems hm)) (by lia) (by show _≤arr.size;rw [hF.size,r.size];lia) hu fun arr2 hF2 hu2=>?_)
   have hF3:From rs.flatten.length (arrOf st') arr2:=hF.trans hF2
   refine AAI (fun z=>by cases z) (fun _=>?_)
   obtain ⟨r1,s1,esz⟩:=after (min ((arrOf st).size - rs.flatten.length) (minRun' (arrOf st).size (arrOf st).size 0)) arr2 hF3 (by lia) (by lia) hu2
   have jp:∀ (st2:SortSt) (rs2:List (List Keyed)),Rn κ ky (arrOf st) st2 rs2 (arr2.toList.drop rs.flatten.length)→rs2.flatten.length=rs.flatten.length→∃ rs3 rest3,((none:Option Unit),rs.flatten.length + (min ((arrOf st).size - rs.flatten.length) (minRun' (arrOf st).size (arrOf st).size 0)))=(none,rs3.flatten.length)∧Rn κ ky (arrOf st) (setPending st2 ((pendingOf st2).push (rs.flatten.length,(min ((arrOf st).size - rs.flatten.length) (minRun' (arrOf st).size (arrOf st).size 0)),0))) rs3 rest3∧(x + 1≤rs3.flatten.length∨(arrOf st).size≤rs3.flatten.length):=fun st2 rs2 r2 l2=>by
    have lt:((arr2.toList.drop rs.flatten.length).take (min ((arrOf st).size - rs.flatten.length) (minRun' (arrOf st).size (arrOf st).size 0))).length=(min ((arrOf st).size - rs.flatten.length) (minRun' (arrOf st).size (arrOf st).size 0)):=by have:=Array.length_toList (xs:=arr2);rw [List.length_take,List.length_drop];lia
    have lf:(rs2 ++ [(arr2.toList.drop rs.flatten.length).take (min ((arrOf st).size - rs.flatten.length) (minRun' (arrOf st).size (arrOf st).size 0))]).flatten.length=rs.flatten.length + (min ((arrOf st).size - rs.flatten.length) (minRun' (arrOf st).size (arrOf st).size 0)):=by
     rw [List.flatten_append,List.length_append,l2]
     simp only [List.flatten_cons,List.flatten_nil,List.append_nil,lt]
    refine ⟨rs2 ++ [(arr2.toList.drop rs.flatten.length).take (min ((arrOf st).size - rs.flatten.length) (minRun' (arrOf st).size (arrOf st).size 0))],(arr2.toList.drop rs.flatten.length).drop (min ((arrOf st).size - rs.flatten.length) (minRun' (arrOf st).size (arrOf st).size 0)),by rw [lf],⟨r2.kind,r2.failed,r2.perm,?_,?_⟩,?_⟩
    ·show (arrOf st2).toList=_
     rw [r2.eq]
     simp only [List.flatten_append,List.flatten_cons,List.flatten_nil,List.append_nil,List.append_assoc,List.take_append_drop]
    ·show AAd ky ((pendingOf st2).push (rs.flatten.length,(min ((arrOf st).size - rs.flatten.length) (minRun' (arrOf st).size (arrOf st).size 0)),0)).toList _ 0
     rw [Array.toList_push]
     exact r2.pend.snoc (by rw [Nat.zero_add,l2]) (by rw [lt]) (by rw [lt];lia) s1
    ·rw [lf];lia
   refine wpS_bind (wpS_get ?_)
   cases hb:(pendingOf (setArr st' arr2)).back? with
   | none=>exact wpS_bind (wpS_modify (wpS_pure (jp (setArr st' arr2) rs r1 rfl)))
   | some q =>
    obtain ⟨q1,q2,q3⟩:=q
    refine wpS_bind (wpS_mono (wpS_forRange (I:=fun _ c st2=>∃ rs2,c=(none,())∧Rn κ ky (arrOf st) st2 rs2 (arr2.toList.drop rs.flatten.length)∧rs2.flatten.length=rs.flatten.length) (Q:=fun c st2=>∃ rs2,c=(none,())∧Rn κ ky (arrOf st) st2 rs2 (arr2.toList.drop rs.flatten.length)∧rs2.flatten.length=rs.flatten.length) ?a ?b ⟨rs,rfl,r1,rfl⟩) ?c)
    case b=>intro c st2 hh;exact hh
    case c =>
     rintro c st2 ⟨rs2,rfl,r2,l2⟩
     refine wpS_bind (wpS_modify (wpS_bind (wpS_modify (wpS_pure (jp _ rs2 ⟨r2.kind,r2.failed,r2.perm,r2.eq,?_⟩ l2)))))
     show AAd ky ((pendingOf st2).modify ((pendingOf st2).size - 1) fun q=>(q.1,q.2.1,_)).toList rs2 0
     rw [Array.toList_modify]
     exact r2.pend.pow (f:=fun _=>_)
    case a =>
     rintro y c st2 _ _ ⟨rs2,rfl,r2,l2⟩
     refine wpS_bind (wpS_get ?_)
     have hps:=r2.psize
     dsimp only
     cases he:(if (pendingOf st2).size > 1 then (pendingOf st2)[(pendingOf st2).size - 2]? else none) with
     | none=>exact wpS_pure ⟨rs2,rfl,r2,l2⟩
     | some q =>
      have hp1:(pendingOf st2).size > 1:=by
       by_cases z:(pendingOf st2).size > 1
       ·exact z
       ·rw [if_neg z] at he;cases he
      exact AAI (fun _=>wpS_pure ⟨rs2,rfl,r2,l2⟩) (fun _=>wpS_bind (r2.merge C hm (i:=(pendingOf st2).size - 2) (by lia) fun st3 rs3 r3 l3 _=>AAI (fun z=>by cases z) (fun _=>wpS_pure ⟨rs3,rfl,r3,by rw [l3,l2]⟩)))
  ·obtain ⟨r1,s1,esz⟩:=after m arr hF m1 (by lia) hu
   have jp:∀ (st2:SortSt) (rs2:List (List Keyed)),Rn κ ky (arrOf st) st2 rs2 (arr.toList.drop rs.flatten.length)→rs2.flatten.length=rs.flatten.length→∃ rs3 rest3,((none:Option Unit),rs.flatten.length + m)=(none,rs3.flatten.length)∧Rn κ ky (arrOf st) (setPending st2 ((pendingOf st2).push (rs.flatten.length,m,0))) rs3 rest3∧(x + 1≤rs3.flatten.length∨(arrOf st).size≤rs3.flatten.length):=fun st2 rs2 r2 l2=>by
    have lt:((arr.toList.drop rs.flatten.length).take m).length=m:=by have:=Array.length_toList (xs:=arr);rw [List.length_take,List.length_drop];lia
    have lf:(rs2 ++ [(arr.toList.drop rs.flatten.length).take m]).flatten.length=rs.flatten.length + m:=by
     rw [List.flatten_append,List.length_append,l2]
     simp only [List.flatten_cons,List.flatten_nil,List.append_nil,lt]
    refine ⟨rs2 ++ [(arr.toList.drop rs.flatten.length).take m],(arr.toList.drop rs.flatten.length).drop m,by rw [lf],⟨r2.kind,r2.failed,r2.perm,?_,?_⟩,?_⟩
    ·show (arrOf st2).toList=_
     rw [r2.eq]
     simp only [List.flatten_append,List.flatten_cons,List.flatten_nil,List.append_nil,List.append_assoc,List.take_append_drop]
    ·show AAd ky ((pendingOf st2).push (rs.flatten.length,m,0)).toList _ 0
     rw [Array.toList_push]
     exact r2.pend.snoc (by rw [Nat.zero_add,l2]) (by rw [lt]) (by rw [lt];lia) s1
    ·rw [lf];lia
   refine wpS_bind (wpS_get ?_)
   cases hb:(pendingOf (setArr st' arr)).back? with
   | none=>exact wpS_bind (wpS_modify (wpS_pure (jp (setArr st' arr) rs r1 rfl)))
   | some q =>
    obtain ⟨q1,q2,q3⟩:=q
    refine wpS_bind (wpS_mono (wpS_forRange (I:=fun _ c st2=>∃ rs2,c=(none,())∧Rn κ ky (arrOf st) st2 rs2 (arr.toList.drop rs.flatten.length)∧rs2.flatten.length=rs.flatten.length) (Q:=fun c st2=>∃ rs2,c=(none,())∧Rn κ ky (arrOf st) st2 rs2 (arr.toList.drop rs.flatten.length)∧rs2.flatten.length=rs.flatten.length) ?a ?b ⟨rs,rfl,r1,rfl⟩) ?c)
    case b=>intro c st2 hh;exact hh
    case c =>
     rintro c st2 ⟨rs2,rfl,r2,l2⟩
     refine wpS_bind (wpS_modify (wpS_bind (wpS_modify (wpS_pure (jp _ rs2 ⟨r2.kind,r2.failed,r2.perm,r2.eq,?_⟩ l2)))))
     show AAd ky ((pendingOf st2).modify ((pendingOf st2).size - 1) fun q=>(q.1,q.2.1,_)).toList rs2 0
     rw [Array.toList_modify]
     exact r2.pend.pow (f:=fun _=>_)
    case a =>
     rintro y c st2 _ _ ⟨rs2,rfl,r2,l2⟩
     refine wpS_bind (wpS_get ?_)
     have hps:=r2.psize
     dsimp only
     cases he:(if (pendingOf st2).size > 1 then (pendingOf st2)[(pendingOf st2).size - 2]? else none) with
     | none=>exact wpS_pure ⟨rs2,rfl,r2,l2⟩
     | some q =>
      have hp1:(pendingOf st2).size > 1:=by
       by_cases z:(pendingOf st2).size > 1
       ·exact z
       ·rw [if_neg z] at he;cases he
      exact AAI (fun _=>wpS_pure ⟨rs2,rfl,r2,l2⟩) (fun _=>wpS_bind (r2.merge C hm (i:=(pendingOf st2).size - 2) (by lia) fun st3 rs3 r3 l3 _=>AAI (fun z=>by cases z) (fun _=>wpS_pure ⟨rs3,rfl,r3,by rw [l3,l2]⟩)))
end
end L2
namespace L2
open PySem PySem.Spec PyProof.Rows PySem.W
section
variable {prog:Program} {w:World} {A:Around} {E:Value→Shared→Prop} {s:Shared} {κ:SortKind} {O:KeyOrd} {ky:Keyed→O.α}
noncomputable def ACV (h:Heap) (a:Addr) (us:List Value):Heap:=((h.update a (Obj.mapSeq fun _=>#[])).push (seqObj "tuple" us.toArray 0)).push (seqObj "list" #[] 0)
theorem AE0 {h:Heap} {a b:Addr} {us:List Value} {o:Obj} (hb:b≠a) (e:h.get? b=some o):(ACV h a us).get? b=some o:=by
 have hlt:=Heap.lt_size e
 refine (Heap.get?_push_ne _ b _ (by rw [size_push',Heap.size_update];exact Nat.ne_of_lt (Nat.lt_succ_of_lt hlt))).trans ((Heap.get?_push_ne _ b _ (by rw [Heap.size_update];exact Nat.ne_of_lt hlt)).trans ?_)
 rw [Heap.get?_update_ne _ _ _ _ hb];exact e
theorem AFH {a:Addr} {us:List Value} {n:Nat} {F:PySem.Fin→Shared→Prop} (ho:s.heap.get? a=some (seqObj "list" us.toArray n)) (h2:¬ us.length<2) (hz:us.length≤16777216)
  (hK:wpAny (model prog w) A (keyKind' us.toArray) (fun κ' s'=>κ'=κ∧s'={ s with heap:=ACV s.heap a us }) E { s with heap:=ACV s.heap a us })
  (hC:Cmp (model prog w) A E { s with heap:=ACV s.heap a us } κ O ky (·∈(pairsOf us).toList))
  (h:∀ st:Array Keyed,st.Perm (pairsOf us)→SrtL ky st.toList→F (.done (.ret .none)) { s with heap:=sortedHeap s.heap a us (st.map (·.2)) }) :
  wpAny (model prog w) A (Builtin.«list.sort» ⟨[.ref a],[]⟩) F E s:=by
 have ha:=Heap.lt_size ho
 have hsl:us.toArray.size≤sizeLine:=by rw [List.size_toArray,sizeLine_eq];exact hz
 rw [list_sort_plain]
 refine wB (listItems_at ho rfl (wB (listUpdate_at ho rfl ?_ hsl (Nat.zero_le _))))
 have ho1:=get?_update_seq ho (fun _=>#[])
 refine wB (seqEpoch_at ho1 rfl (wB (wpAny_newTuple (wB (wpAny_newList (wpAny_holding ?_) (Nat.zero_le _))) hsl)))
 have ho6:(ACV s.heap a us).get? a=_ :=
  (Heap.get?_push_ne _ a _ (by rw [size_push',Heap.size_update];exact Nat.ne_of_lt (Nat.lt_succ_of_lt ha))).trans ((Heap.get?_push_ne _ a _ (by rw [Heap.size_update];exact Nat.ne_of_lt ha)).trans ho1)
 have hz:¬ us.toArray.size<2:=by rw [List.size_toArray];exact h2
 dsimp only
 rw [if_neg hz,if_neg hz]
 refine wB (wpAny_mono hK ?_ fun _ _ e=>e)
 rintro κ' s' ⟨rfl,rfl⟩
 have run:=AOd (st:=SortSt.mk' κ' (us.toArray.zip us.toArray) #[] 7 none) (R:=fun _ st'=>(arrOf st').Perm (pairsOf us)∧failedOf st'=none∧SrtL ky (arrOf st').toList) hC rfl rfl rfl (fun x hx=>hx) fun st' a1 a2 a3=>⟨a1,a2,a3⟩
 refine wB (wpAny_mono run ?_ fun _ _ e=>e)
 rintro ⟨⟨⟩,st'⟩ s' ⟨rfl,hp,hf,hs⟩
 dsimp only
 have hsz:((arrOf st').map (·.2)).size≤sizeLine:=by
  rw [Array.size_map]
  have:=(Array.perm_iff_toList_perm.mp hp).length_eq
  rw [Array.length_toList,Array.length_toList,pairsOf_size] at this
  rw [this,sizeLine_eq];assumption
 refine wB (seqEpoch_at ho6 rfl (wB (listUpdate_at ho6 rfl ?_ (Nat.zero_le _) (Nat.le_succ_of_le hsz))))
 rw [hf]
 simp only [bne_self_eq_false,Bool.false_eq_true,if_false]
 exact wP (h _ hp hs)
theorem AF7 {l:Addr} {us:List Value} {Q:Value→Shared→Prop} (hl:s.heap.IsList l us.toArray) (h2:¬ us.length<2) (hz:us.length≤16777216)
  (hK:∀ (A':Around) (h1:Heap),A'.units≤A.units + 2→(∀ b o,s.heap.get? b=some o→h1.get? b=some o)→wpAny (model prog w) A' (keyKind' us.toArray) (fun κ' s'=>κ'=κ∧s'={ s with heap:=h1 }) E { s with heap:=h1 })
  (hC:∀ (A':Around) (h1:Heap),A'.units≤A.units + 2→(∀ b o,s.heap.get? b=some o→h1.get? b=some o)→Cmp (model prog w) A' E { s with heap:=h1 } κ O ky (·∈(pairsOf us).toList))
  (q:∀ st:Array Keyed,st.Perm (pairsOf us)→SrtL ky st.toList→Q (.ref (s.heap.objs.size + 1)) { s with heap:=sortedAll s.heap us (st.map (·.2)) }) :
  wpAny (model prog w) A (call (.builtin "sorted") [.ref l]) Q E s:=by
 have hsl:us.length≤sizeLine:=by rw [sizeLine_eq];exact hz
 refine Calls.call_function_entry kind_sorted plain_sorted entry_sorted (args_sorted1 _) ?_
 unfold Builtin.«sorted»
 refine wB (m:=checkCount "sorted" 1 1 _) (wP (wB (collect_list hl (wB (wpAny_newList ?_ hsl)) hsl)))
 have hsz:((s.heap.push (seqObj "list" #[] 0)).update s.heap.objs.size (Obj.mapSeq (· ++ us.toArray))).objs.size=s.heap.objs.size + 1:=by
  rw [Heap.size_update,size_push']
 have hoL:=Heap.get?_push_size ((s.heap.push (seqObj "list" #[] 0)).update s.heap.objs.size (Obj.mapSeq (· ++ us.toArray))) (o:=seqObj "list" us.toArray 0) rfl
 rw [hsz] at hoL
 show wpAny _ _ _ _ _ { s with heap:=((s.heap.push (seqObj "list" #[] 0)).update s.heap.objs.size (Obj.mapSeq (· ++ us.toArray))).push (seqObj "list" us.toArray 0) }
 rw [hsz]
 have keep:∀ b o,s.heap.get? b=some o→(((s.heap.push (seqObj "list" #[] 0)).update s.heap.objs.size (Obj.mapSeq (· ++ us.toArray))).push (seqObj "list" us.toArray 0)).get? b=some o:=fun b o e=>by
  have hlt:=Heap.lt_size e
  refine (Heap.get?_push_ne _ b _ (by rw [hsz];exact Nat.ne_of_lt (Nat.lt_succ_of_lt hlt))).trans ?_
  rw [Heap.get?_update_ne _ _ _ _ (Nat.ne_of_lt hlt)]
  exact (Heap.get?_push_ne _ b _ (Nat.ne_of_lt hlt)).trans e
 have keep2:∀ b o,s.heap.get? b=some o→(ACV (((s.heap.push (seqObj "list" #[] 0)).update s.heap.objs.size (Obj.mapSeq (· ++ us.toArray))).push (seqObj "list" us.toArray 0)) (s.heap.objs.size + 1) us).get? b=some o:=fun b o e=>AE0 (Nat.ne_of_lt (Nat.lt_succ_of_lt (Heap.lt_size e))) (keep b o e)
 exact wB (wpAny_holding (wpAny_call_entry slot_list_sort ⟨_,hoL,rfl⟩ entry_list_sort (AFH (κ:=κ) (ky:=ky) (s:={ s with heap:=((s.heap.push (seqObj "list" #[] 0)).update s.heap.objs.size (Obj.mapSeq (· ++ us.toArray))).push (seqObj "list" us.toArray 0) }) hoL h2 hz (hK _ _ (by simp) keep2) (hC _ _ (by simp) keep2) fun st a1 a2=>⟨_,rfl,wP ⟨_,rfl,q st a1 a2⟩⟩) (args_list_sort _)))
end
noncomputable def kyR (ps:List (Addr×List Int)):Keyed→List Int:=fun k=>match k.1 with
 | .ref x=>((ps.find? fun q=>decide (q.1=x)).map (·.2)).getD []
 | _=>[]
theorem AEM {ps:List (Addr×List Int)} (hc:∀ q∈ps,∀ q'∈ps,q.1=q'.1→q.2=q'.2) {q:Addr×List Int} (hq:q∈ps) (v:Value):kyR ps (.ref q.1,v)=q.2:=by
 unfold kyR
 cases hf:ps.find? fun q'=>decide (q'.1=q.1) with
 | none=>exact absurd (rfl:q.1=q.1) (by simpa using List.find?_eq_none.mp hf q hq)
 | some p =>
  have h1:=List.find?_some hf
  have h2:=List.mem_of_find?_eq_some hf
  show ((ps.find? fun q'=>decide (q'.1=q.1)).map (·.2)).getD []=q.2
  rw [hf]
  exact hc p h2 q hq (by simpa using h1)
noncomputable abbrev rv (ps:List (Addr×List Int)):List Value:=ps.map fun q=>Value.ref q.1
theorem AFI (ps:List (Addr×List Int)):(pairsOf (rv ps)).toList=ps.map fun q=>((Value.ref q.1,Value.ref q.1):Keyed):=by
 show ((rv ps).toArray.zip (rv ps).toArray).toList=_
 rw [Array.toList_zip]
 show (rv ps).zip (rv ps)=_
 induction ps with
 | nil=>rfl
 | cons q ps ih=>simp only [rv,List.map_cons,List.zip_cons_cons] at ih ⊢;rw [ih]
def AEN (h:Heap) (ps:List (Addr×List Int)):Prop:=∀ q∈ps,∃ us,IntsAre us q.2∧∃ o n,h.get? q.1=some o∧o.cls=.type "tuple"∧o.data=.seq us.toArray n
section
variable {prog:Program} {w:World} {A:Around} {E:Value→Shared→Prop} {s:Shared}
theorem AMH {κ:SortKind} {x y:Keyed} {b:Bool} {R:Option Bool→SortSt→Prop} {st:SortSt} (hk:kindOf st=κ) (h:R (some b) st) (q:∀ (E':Value→Shared→Prop) (Q:Bool→Shared→Prop),Q b s→wpAny (model prog w) A (keyLt' κ x.1 y.1) Q E' s):wpS (model prog w) A E s (lt' x y) R st:=by
 rw [lt'_eq]
 refine wpS_bind (wpS_get ?_)
 rw [hk]
 exact wpS_bind (wpS_lift (wpAny_attempt (q _ _ ⟨rfl,wpS_pure h⟩)))
theorem AIz {ps:List (Addr×List Int)} (ht:AEN s.heap ps) (hc:∀ q∈ps,∀ q'∈ps,q.1=q'.1→q.2=q'.2) {n:Nat} (hn:∀ q∈ps,q.2.length=n):Cmp (model prog w) A E s (tuples' true) lexO (kyR ps) (·∈(pairsOf (rv ps)).toList) where
 ask:=fun x y hx hy R st hk h=>by
  rw [AFI] at hx hy
  obtain ⟨p,hp,rfl⟩:=List.mem_map.mp hx
  obtain ⟨q,hq,rfl⟩:=List.mem_map.mp hy
  rw [AEM hc hp,AEM hc hq] at h
  refine AMH hk h fun E' Q hQ=>?_
  obtain ⟨us,a1,o1,n1,b1,c1,d1⟩:=ht p hp
  obtain ⟨vs,a2,o2,n2,b2,c2,d2⟩:=ht q hq
  have l1:=a1.length
  have l2:=a2.length
  have l3:=hn p hp
  have l4:=hn q hq
  refine kat_lt b1 d1 b2 d2 ?_
  rw [show decide (us.toArray.size<vs.toArray.size)=false by rw [List.size_toArray,List.size_toArray];exact decide_eq_false (by lia)]
  exact AEy 0 a1 a2 (by lia) hQ
theorem AHZ {ps:List (Addr×List Int)} (ht:AEN s.heap ps) {n:Nat} (n0:0<n) (hn:∀ q∈ps,q.2.length=n) (h2:¬ ps.length<2):wpAny (model prog w) A (keyKind' (rv ps).toArray) (fun κ' s'=>κ'=tuples' true∧s'=s) E s:=by
 obtain ⟨fs,kt,fl,fi⟩:=AFu ht (fun q hq=>by rw [hn q hq];exact n0)
 refine kat_kind (T:=.type "int") kt (by lia) (fun v hv=>?_) rfl ⟨rfl,rfl⟩
 obtain ⟨i,t,rfl⟩:=fi v hv
 exact ALu _ _ i t
theorem ANJ {x y:Addr} {ox oy:Obj} {n k:Nat} (hu:A.units<cLine) (hx:s.heap.get? x=some ox) (cx:ox.cls=.type "tuple") (dx:ox.data=.seq #[] n) (hy:s.heap.get? y=some oy) (cy:oy.cls=.type "tuple") (dy:oy.data=.seq #[] k)
  {E':Value→Shared→Prop} {Q:Bool→Shared→Prop} (h:Q false s):wpAny (model prog w) A (keyLt' oneType' (.ref x) (.ref y)) Q E' s:=by
 rw [keyLt'_oneType,oneLt'_eq]
 simp only [if_true]
 refine wB (wpAny_cRoomFor hu ?_)
 obtain ⟨ocls,od,odt,osl⟩:=ox
 obtain ⟨pcls,pd,pdt,psl⟩:=oy
 simp only at cx dx cy dy
 subst cx;subst dx;subst cy;subst dy
 have hcall:wpAny (model prog w) A (call (.builtin "tuple.__lt__") [.ref x,.ref y]) (fun v s'=>v=.bool false∧s'=s) E' s :=
  wpAny_call (codeAny_call_builtin (R:=wants (fun v s'=>v=.bool false∧s'=s) E') PySem.F.slot_tuple_lt.plain PySem.F.entry_tuple_lt (PySem.F.slot_tuple_lt.check _ _ _ _ _ _ _ _ ⟨_,hx,rfl⟩ (PySem.F.args_tuple_lt_2 _ _)
   (HT.tuple_lt_ints x y #[] #[] n k od pd osl psl [] [] .nil .nil prog w A (wants (fun v s'=>v=.bool false∧s'=s) E') s ⟨hx,hy,rfl,rfl⟩)))
 refine wB (wpAny_callSpecialIfBound?_slot ⟨_,hx,rfl⟩ PySem.F.slot_tuple_lt (wpAny_mono hcall ?_ fun _ _ e=>e))
 rintro v s' ⟨rfl,rfl⟩
 exact wpAny_truthy_bool h
theorem AHa {ps:List (Addr×List Int)} (hu:A.units<cLine) (ht:AEN s.heap ps) (hc:∀ q∈ps,∀ q'∈ps,q.1=q'.1→q.2=q'.2) (hn:∀ q∈ps,q.2.length=0):Cmp (model prog w) A E s oneType' lexO (kyR ps) (·∈(pairsOf (rv ps)).toList) where
 ask:=fun x y hx hy R st hk h=>by
  rw [AFI] at hx hy
  obtain ⟨p,hp,rfl⟩:=List.mem_map.mp hx
  obtain ⟨q,hq,rfl⟩:=List.mem_map.mp hy
  rw [AEM hc hp,AEM hc hq,List.eq_nil_of_length_eq_zero (hn p hp),List.eq_nil_of_length_eq_zero (hn q hq)] at h
  refine AMH hk h fun E' Q hQ=>?_
  obtain ⟨us,a1,o1,n1,b1,c1,d1⟩:=ht p hp
  obtain ⟨vs,a2,o2,n2,b2,c2,d2⟩:=ht q hq
  have l1:=a1.length
  have l2:=a2.length
  have e1:us=[]:=List.eq_nil_of_length_eq_zero (by rw [l1,hn p hp])
  have e2:vs=[]:=List.eq_nil_of_length_eq_zero (by rw [l2,hn q hq])
  subst e1;subst e2
  exact ANJ hu b1 c1 d1 b2 c2 d2 hQ
theorem AF8 {ps:List (Addr×List Int)} (ht:AEN s.heap ps) (hn:∀ q∈ps,q.2.length=0) (h2:¬ ps.length<2):wpAny (model prog w) A (keyKind' (rv ps).toArray) (fun κ' s'=>κ'=oneType'∧s'=s) E s:=by
 have hty:∀ v∈rv ps,∀ {Q':Value→Shared→Prop},Q' (.type "tuple") s→wpAny (model prog w) A (typeOf v) Q' E s:=fun v hv Q' hq=>by
  obtain ⟨q,hq2,rfl⟩:=List.mem_map.mp hv
  obtain ⟨us,a1,o1,n1,b1,c1,d1⟩:=ht q hq2
  exact wpAny_typeOf_ref b1 (by rw [c1];exact hq)
 obtain ⟨v₁,v₂,rest,e⟩:∃ v₁ v₂ rest,rv ps=v₁ :: v₂ :: rest:=by
  match ps,h2 with
  | [],h2=>simp at h2
  | [_],h2=>simp at h2
  | a :: b :: r,_=>exact ⟨_,_,_,rfl⟩
 rw [kat_kind_eq,List.mapM_toArray,map_eq_pure_bind]
 refine wB (wB (kas_mapM (r:=none) _ (fun v hv Q' hq=>?_) (wP ?_)))
 ·rw [kas_first_eq]
  refine wB (hty v hv ?_)
  rw [if_neg (by decide)]
  obtain ⟨q,hq2,rfl⟩:=List.mem_map.mp hv
  obtain ⟨us,a1,o1,n1,b1,c1,d1⟩:=ht q hq2
  have e1:us=[]:=List.eq_nil_of_length_eq_zero (by rw [a1.length,hn q hq2])
  subst e1
  exact wB (listItems_at b1 d1 (wP hq))
 ·rw [e]
  rw [if_neg (by simp),if_neg (by simp)]
  rw [←e,oneTypeOnly'_eq,List.mapM_toArray,map_eq_pure_bind]
  refine wB (wB (wB (kas_mapM (r:=.type "tuple") _ (fun v hv Q' hq=>hty v hv hq) (wP ?_))))
  have h0:(List.map (fun _=>Value.type "tuple") (rv ps)).toArray[0]?=some (.type "tuple"):=by rw [e];simp
  have hall:((List.map (fun _=>Value.type "tuple") (rv ps)).toArray.all fun x=>x == Value.type "tuple")=true:=by
   simp only [List.all_toArray,List.all_map,List.all_eq_true]
   intro _ _
   rfl
  rw [h0]
  simp only [hall,if_true]
  exact wP (wP ⟨rfl,rfl⟩)
end
theorem ADr {ps:List (Addr×List Int)} (hc:∀ q∈ps,∀ q'∈ps,q.1=q'.1→q.2=q'.2) {st:Array Keyed} (hp:st.Perm (pairsOf (rv ps))) (hs:SrtL (O:=lexO) (kyR ps) st.toList) :
  ∃ ps':List (Addr×List Int),ps'.Perm ps∧SrtR (ps'.map (·.2))∧st.map (·.2)=(rv ps').toArray:=by
 have hpl:=Array.perm_iff_toList_perm.mp hp
 rw [AFI] at hpl
 let g:Keyed→Addr×List Int:=fun k=>((match k.1 with | .ref x=>x | _=>0),kyR ps k)
 have eg:∀ q∈ps,g (Value.ref q.1,Value.ref q.1)=q:=fun q hq=>by
  show (q.1,kyR ps (Value.ref q.1,Value.ref q.1))=q
  rw [AEM hc hq]
 refine ⟨st.toList.map g,?_,?_,?_⟩
 ·have:=hpl.map g
  rw [List.map_map] at this
  have e:ps.map (g ∘ fun q=>(Value.ref q.1,Value.ref q.1))=ps:=by
   conv=>rhs;rw [←List.map_id ps]
   exact List.map_congr_left fun q hq=>eg q hq
  rw [e] at this
  exact this
 ·unfold SrtR
  rw [List.map_map]
  exact List.Pairwise.map _ (fun a b h=>h) hs
 ·apply Array.ext'
  rw [Array.toList_map]
  show _=(st.toList.map g).map fun q=>Value.ref q.1
  rw [List.map_map]
  refine List.map_congr_left fun k hk=>?_
  obtain ⟨q,hq,rfl⟩:=List.mem_map.mp (hpl.mem_iff.mp hk)
  rfl
noncomputable def AMI:List V→Hp→VK→Prop:=fun xs H Q=>∃ (p:Addr) (ps:List (Addr×List Int)),xs=[.ref p]∧H p=some (.lst (refs ps))∧(∀ q∈ps,H q.1=some (.tup (q.2.map V.int)))∧ps.length≤16777216∧(∃ n,∀ q∈ps,q.2.length=n) ∧
 ∀ (l:Addr) (ps':List (Addr×List Int)),H l=none→ps'.Perm ps→SrtR (ps'.map (·.2))→Q (.ref l) (upd H l (.lst (refs ps')))
theorem AMJ {a b:List Int} (h:a.map V.int=b.map V.int):a=b:=by
 have:=congrArg (List.map fun p=>match p with | V.int i=>i | _=>0) h
 simpa [List.map_map,Function.comp_def] using this
section
variable {X:Cx} {pins:List (Addr×Obj)} {σ:St} {H:Hp} {s:Shared}
theorem AI0 {ps:List (Addr×List Int)} (ht:∀ q∈ps,H q.1=some (.tup (q.2.map V.int))):∀ q∈ps,∀ q'∈ps,q.1=q'.1→q.2=q'.2:=fun q hq q' hq' e=>by
 have h1:=ht q hq
 have h2:=ht q' hq'
 rw [e,h2] at h1
 injection h1 with h1
 injection h1 with h1
 exact (AMJ h1).symm
theorem ACH (I:Inv X pins σ H s) {ps:List (Addr×List Int)} (ht:∀ q∈ps,H q.1=some (.tup (q.2.map V.int))) {h1:Heap} (k:∀ q∈ps,∀ o,s.heap.get? q.1=some o→h1.get? q.1=some o):AEN h1 ps:=fun q hq=>by
 obtain ⟨us,w1,tt,_⟩:=I.tuple (.of (ht q hq))
 obtain ⟨o,e1,e2,n',e3⟩:=tt
 exact ⟨us,AKJ w1,o,n',k q hq o e1,e2,e3⟩
theorem AHl {k:Nat} (hr:Room k X.A):AAs X (.builtin "sorted") AMI:=by
 intro pins s σ H xs us Q I r h
 obtain ⟨p,ps,rfl,hp,ht,hz,⟨n,hn⟩,k⟩:=h
 obtain ⟨u,rfl,ru⟩:=r.one
 cases ru
 obtain ⟨its,r,pl,hz'⟩:=I.list (.of hp)
 have hits:=AHQ r
 subst hits
 have fin:∀ ps':List (Addr×List Int),ps'.Perm ps→SrtR (ps'.map (·.2))→EP X pins σ Q (.ref (s.heap.objs.size + 1)) { s with heap:=sortedAll s.heap (rv ps) (rv ps').toArray }:=fun ps' h1 h2=>by
  obtain ⟨e,he⟩:=sortedAll_at s.heap (rv ps) (rv ps').toArray
  refine ⟨.ref (s.heap.objs.size + 1),_,I.laid (t':=s.toks) (o:=.lst (refs ps')) (fun b o q=>sortedAll_old q) (Nat.le_succ _) ⟨?_,_,e,AEH ps',he⟩,rfl,k _ ps' (I.hok.fresh (Nat.le_succ _)) h1 h2⟩
  rw [List.length_map,h1.length_eq,sizeLine_eq];exact hz
 by_cases h2:ps.length<2
 ·refine AIf pl.isList (by simpa using h2) (fin ps (List.Perm.refl _) ?_)
  match ps,h2 with
  | [],_=>exact List.Pairwise.nil
  | [_],_=>exact List.pairwise_singleton _ _
 ·have hc:=AI0 ht
  have hu:=hr.un
  rcases Nat.eq_zero_or_pos n with e | n0
  ·subst e
   refine AF7 (κ:=oneType') (O:=lexO) (ky:=kyR ps) pl.isList (by simpa using h2) (by simpa using hz) (fun A' h1 _ k1=>AF8 (s:={ s with heap:=h1 }) (ACH I ht fun q _ o e=>k1 _ o e) hn h2) (fun A' h1 ha k1=>AHa (s:={ s with heap:=h1 }) (by lia) (ACH I ht fun q _ o e=>k1 _ o e) hc hn) fun st hp hs=>?_
   obtain ⟨ps',a1,a2,a3⟩:=ADr hc hp hs
   rw [a3]
   exact fin ps' a1 a2
  ·refine AF7 (κ:=tuples' true) (O:=lexO) (ky:=kyR ps) pl.isList (by simpa using h2) (by simpa using hz) (fun A' h1 _ k1=>AHZ (s:={ s with heap:=h1 }) (ACH I ht fun q _ o e=>k1 _ o e) n0 hn h2) (fun A' h1 ha k1=>AIz (s:={ s with heap:=h1 }) (ACH I ht fun q _ o e=>k1 _ o e) hc hn) fun st hp hs=>?_
   obtain ⟨ps',a1,a2,a3⟩:=ADr hc hp hs
   rw [a3]
   exact fin ps' a1 a2
end
def AF9:pC:=p1 fun x f K=>∃ rs:List (List Int),x=.lst (rs.map rowP)∧rs.length≤16777216∧(∃ n,∀ r∈rs,r.length=n)∧∀ rs':List (List Int),rs'.Perm rs→SrtR rs'→K (.lst (rs'.map rowP)) .nw
theorem AOe:RefC AMI AF9:=fun W ρ σ Hs H Q K xs vs ok st r hp q=>by
 unfold AF9 p1 at hp
 split at hp
 ·obtain ⟨v,rfl,rv⟩:=r.one
  obtain ⟨rs,rfl,hz,⟨n,hn⟩,hk⟩:=hp
  obtain ⟨p,us,rfl,c,r1⟩:=AAz ok rv
  obtain ⟨ps,rfl,e,ht⟩:=AHT r1
  have hl:ps.length=rs.length:=by rw [←e,List.length_map]
  refine ⟨p,ps,rfl,c,ht,by lia,⟨n,fun q hq=>hn _ (by rw [←e];exact List.mem_map_of_mem hq)⟩,fun l ps' hl' h1 h2=>q _ _ _ _ (hk (ps'.map (·.2)) (by rw [←e];exact h1.map _) h2) (Step.new ok.bag hl') ?_⟩
  have:=ADq (b:=W.b) (Z:=Zof W ρ σ .nw) (H:=H) (ps:=ps') fun q hq=>ht q (h1.mem_iff.mp hq)
  rw [show (ps'.map fun q=>rowP q.2)=(ps'.map (·.2)).map rowP by rw [List.map_map];rfl] at this
  exact ACq ok st (by simp) (by simp) this hl'
 ·exact hp.elim
noncomputable def AJ2:List V→Hp→VK→Prop:=fun xs H Q=>∃ (p:Addr) (ks:List (List Int)) (vs:List V),xs=[.ref p]∧H p=some (.dT ((ks.map keyI).zip vs))∧ks.length=vs.length∧ks.length≤1000000∧(∃ n,∀ r∈ks,r.length=n) ∧
 ∀ (l:Addr) (ps':List (Addr×List Int)),H l=none→(∀ q∈ps',H q.1=some (.tup (q.2.map V.int)))→(ps'.map (·.2)).Perm ks→SrtR (ps'.map (·.2))→Q (.ref l) (upd H l (.lst (refs ps')))
section
variable {X:Cx} {pins:List (Addr×Obj)} {σ:St} {H:Hp} {s:Shared}
theorem AHm (hc:X.calm=true) {k:Nat} (hr:Room k X.A):AAs X (.builtin "sorted") AJ2:=by
 intro pins s σ H xs us Q I r h
 obtain ⟨p,ks,vs,rfl,hp,hlv,hz0,⟨n,hn⟩,k⟩:=h
 obtain ⟨u,rfl,ru⟩:=r.one
 cases ru
 obtain ⟨es,ep,ps0,rd,hd,hz,e1,e2,e3⟩:=ALy I.hok hp
 rw [List.map_fst_zip (by rw [List.length_map,hlv];exact Nat.le_refl _)] at e1
 obtain ⟨ps,a1,a2,a3⟩:=AHS e1
 have ht:∀ q∈ps,H q.1=some (.tup (q.2.map V.int)):=fun q hq=>by
  have:=e2 _ (a3 q hq)
  rw [AGj] at this
  exact this
 have er:(es.toList.map (·.key))=rv ps:=by
  rw [e3]
  have:=congrArg (List.map Value.ref) a1
  simpa [List.map_map,Function.comp_def] using this.symm
 have hpl:ps.length=ks.length:=by rw [←a2,List.length_map]
 have hes:es.size=ps.length:=by
  have:=congrArg List.length er
  simpa using this
 obtain ⟨m,hm,_⟩:=I.loc
 refine kdu_sorted (AJy hd) (I.ok.hd hc) (Att.fr_all hm) (AMn (g:=Att.noObjs s.heap) (L:=X.env.locals)) rd (by rw [hes,hpl,sizeLine_eq];lia) fun D h' tk ws F' N' hD hl hv=>?_
 have ew:ws=rv ps:=by
  rw [←er]
  apply List.ext_getElem?
  intro j
  by_cases hj:j<ws.length
  ·obtain ⟨hj2,e⟩:=hv j ws[j] (by simp [hj])
   rw [List.getElem?_eq_getElem hj,e,List.getElem?_map]
   simp [hj2]
  ·rw [List.getElem?_eq_none (by lia),List.getElem?_eq_none (by simp;lia)]
 subst ew
 have nD:∀ u,s.heap.get? D≠some u:=fun u e=>Nat.lt_irrefl _ (hD (D,u) (ADL (N' _ List.mem_cons_self).2.1 (Att.noObjs_get _ _) e))
 have hDn:H D=none:=by
  cases e:H D with
  | none=>rfl
  | some o=>obtain ⟨u,e2⟩:=(I.hok D o e).there;exact absurd e2 (nD u)
 have hDg:h'.get? D=some (seqObj "list" (rv ps).toArray 0):=N'.get (a:=D) List.mem_cons_self
 have hLD:X.env.locals≠D:=fun z=>(N' _ List.mem_cons_self).2.1 z.symm
 have fin:∀ ps':List (Addr×List Int),ps'.Perm ps→SrtR (ps'.map (·.2))→EP X pins σ Q (.ref D) { s with heap:=sortedHeap h' D (rv ps) (rv ps').toArray,toks:=tk }:=fun ps' h1 h2=>by
  obtain ⟨e,he⟩:=sortedHeap_at (out:=(rv ps').toArray) hDg
  have hns:(sortedHeap h' D (rv ps) (rv ps').toArray).Ns X.env.locals m:=by
   obtain ⟨o',x,y,e',rr⟩:=F'.ns
   exact ⟨o',x,y,(sortedHeap_old hLD (Heap.lt_size e')).trans e',rr⟩
  refine ⟨.ref D,_,I.laidF (t':=tk) (o:=.lst (refs ps')) hm hns (fun b u nb eb=>?_) hDn nD ⟨?_,_,e,AEH ps',he⟩,rfl,k D ps' hDn (fun q hq=>ht q (h1.mem_iff.mp hq)) (by rw [←a2];exact h1.map _) h2⟩
  ·have e4:=N'.get (List.mem_cons_of_mem _ (ADL nb (Att.noObjs_get _ _) eb))
   rw [sortedHeap_old (show b≠D from fun z=>nD u (by rw [←z];exact eb)) (Heap.lt_size e4)]
   exact e4
  ·rw [List.length_map,h1.length_eq,sizeLine_eq];lia
 have nL:∀ b o,H b=some o→b≠X.env.locals:=fun b o e z=>by subst z;rw [I.free] at e;cases e
 have keepT:∀ q∈ps,∀ o,s.heap.get? q.1=some o→(ACV h' D (rv ps)).get? q.1=some o:=fun q hq o e =>
  AE0 (fun z=>nD o (by rw [←z];exact e)) (N'.get (List.mem_cons_of_mem _ (ADL (nL _ _ (ht q hq)) (Att.noObjs_get _ _) e)))
 by_cases h2:ps.length<2
 ·refine wpAny_call_entry slot_list_sort ⟨_,hDg,rfl⟩ entry_list_sort (AFt hDg (by simpa using h2) ⟨_,rfl,fin ps (List.Perm.refl _) ?_⟩) (args_list_sort _)
  match ps,h2 with
  | [],_=>exact List.Pairwise.nil
  | [_],_=>exact List.pairwise_singleton _ _
 ·have hco:=AI0 ht
  have hn':∀ q∈ps,q.2.length=n:=fun q hq=>hn _ (by rw [←a2];exact List.mem_map_of_mem hq)
  have hu:=hr.un
  rcases Nat.eq_zero_or_pos n with e | n0
  ·subst e
   refine wpAny_call_entry slot_list_sort ⟨_,hDg,rfl⟩ entry_list_sort (AFH (κ:=oneType') (O:=lexO) (ky:=kyR ps) (s:={ s with heap:=h',toks:=tk }) hDg (by simpa using h2) (by simp;lia) (AF8 (s:={ s with heap:=_,toks:=tk }) (ACH I ht keepT) hn' h2) (AHa (s:={ s with heap:=_,toks:=tk }) (by simp;lia) (ACH I ht keepT) hco hn') fun st hp hs=>⟨_,rfl,?_⟩) (args_list_sort _)
   obtain ⟨ps',b1,b2,b3⟩:=ADr hco hp hs
   rw [b3]
   exact fin ps' b1 b2
  ·refine wpAny_call_entry slot_list_sort ⟨_,hDg,rfl⟩ entry_list_sort (AFH (κ:=tuples' true) (O:=lexO) (ky:=kyR ps) (s:={ s with heap:=h',toks:=tk }) hDg (by simpa using h2) (by simp;lia) (AHZ (s:={ s with heap:=_,toks:=tk }) (ACH I ht keepT) n0 hn' h2) (AIz (s:={ s with heap:=_,toks:=tk }) (ACH I ht keepT) hco hn') fun st hp hs=>⟨_,rfl,?_⟩) (args_list_sort _)
   obtain ⟨ps',b1,b2,b3⟩:=ADr hco hp hs
   rw [b3]
   exact fin ps' b1 b2
end
def AEs:pC:=p1 fun x f K=>∃ (ks:List (List Int)) (xs:List P),x=.dT ks xs∧ks.length≤1000000∧(∃ n,∀ r∈ks,r.length=n)∧∀ rs':List (List Int),rs'.Perm ks→SrtR rs'→K (.lst (rs'.map rowP)) .nw
theorem ANK:RefC AJ2 AEs:=fun W ρ σ Hs H Q K xs vs ok st r hp q=>by
 unfold AEs p1 at hp
 split at hp
 ·obtain ⟨v,rfl,rv⟩:=r.one
  obtain ⟨ks,xs,rfl,hz,hn,hk⟩:=hp
  obtain ⟨p,us,rfl,_,c1,c2,c3⟩:=ADZ ok rv
  refine ⟨p,ks,us,rfl,c1,by rw [c2,c3.length],hz,hn,fun l ps' hl ht hp' hs'=>q _ _ _ _ (hk _ hp' hs') (Step.new ok.bag hl) ?_⟩
  have hr:Rps W.b (Zof W ρ σ .nw) H ((ps'.map (·.2)).map rowP) (refs ps'):=by
   have:=ADq (b:=W.b) (Z:=Zof W ρ σ .nw) (H:=H) (ps:=ps') ht
   rw [List.map_map]
   exact this
  exact ACq ok st (by simp) (by simp) hr hl
 ·exact hp.elim
end L2
namespace L2
open PySem
noncomputable abbrev Tl:=List (List Int×Int)
theorem AFJ (t:Tl) (r:List Int) (c:Int) (r':List Int):getT (putT t r c) r'=if r'=r then some c else getT t r':=by
 unfold putT
 split
 ·rename_i hm
  by_cases e:r'=r
  ·subst e
   rw [if_pos rfl]
   obtain ⟨q,hq,e⟩:=List.mem_map.mp hm
   unfold getT
   induction t with
   | nil=>simp at hq
   | cons p t ih =>
    rw [List.map_cons,List.find?_cons]
    by_cases hp:p.1=r'
    ·simp [hp]
    ·rw [if_neg hp]
     simp only [hp,decide_false]
     refine ih ?_ ?_
     ·rcases List.mem_map.mp hm with ⟨z,hz,ez⟩
      rcases List.mem_cons.mp hz with rfl | hz
      ·exact absurd ez hp
      ·exact List.mem_map.mpr ⟨z,hz,ez⟩
     ·rcases List.mem_cons.mp hq with rfl | hq
      ·exact absurd e hp
      ·exact hq
  ·rw [if_neg e]
   unfold getT
   clear hm
   induction t with
   | nil=>rfl
   | cons p t ih =>
    rw [List.map_cons,List.find?_cons,List.find?_cons]
    by_cases hp:p.1=r
    ·rw [if_pos hp]
     have:¬ p.1=r':=fun z=>e (by rw [←z,hp])
     simp only [this,decide_false]
     exact ih
    ·rw [if_neg hp]
     by_cases hp':p.1=r'
     ·simp [hp']
     ·simp only [hp',decide_false];exact ih
 ·rename_i hm
  unfold getT
  rw [List.find?_append]
  by_cases e:r'=r
  ·subst e
   rw [if_pos rfl]
   have:t.find? (fun q=>decide (q.1=r'))=none:=List.find?_eq_none.mpr fun q hq=>by
    simp only [decide_eq_true_eq]
    exact fun z=>hm (List.mem_map.mpr ⟨q,hq,z⟩)
   rw [this];simp
  ·rw [if_neg e]
   have:([(r,c)]:Tl).find? (fun q=>decide (q.1=r'))=none:=by
    have:¬ r=r':=fun z=>e z.symm
    simp [this]
   rw [this];cases t.find? (fun q=>decide (q.1=r')) <;> rfl
theorem AHb {t:Tl} {r:List Int} (h:r ∉ t.map (·.1)):getT t r=none:=by
 unfold getT
 rw [List.find?_eq_none.mpr fun q hq=>?_]
 ·rfl
 ·simp only [decide_eq_true_eq]
  exact fun z=>h (List.mem_map.mpr ⟨q,hq,z⟩)
theorem AGq {t:Tl} (nd:(t.map (·.1)).Nodup) {q:List Int×Int} (h:q∈t):getT t q.1=some q.2:=by
 induction t with
 | nil=>cases h
 | cons p t ih =>
  unfold getT
  rw [List.find?_cons]
  rw [List.map_cons,List.nodup_cons] at nd
  rcases List.mem_cons.mp h with rfl | h
  ·simp
  ·have:¬ p.1=q.1:=fun z=>nd.1 (by rw [z];exact List.mem_map_of_mem h)
   simp only [this,decide_false]
   exact ih nd.2 h
theorem AI1 (t:Tl) (r:List Int) (c:Int) (r':List Int):r'∈(putT t r c).map (·.1) ↔ r'=r∨r'∈t.map (·.1):=by
 rw [AHU]
 split
 ·rename_i h
  exact ⟨.inr,fun z=>z.elim (fun z=>z ▸ h) id⟩
 ·rw [List.mem_append,List.mem_singleton,or_comm]
noncomputable def addT (a:Tl) (q:List Int×Int):Tl:=putT a q.1 ((getT a q.1).getD 0 + q.2)
noncomputable def sumT (t:Tl):Tl:=t.foldl addT []
noncomputable def cnt (t:Tl) (r:List Int):Int:=(t.map fun q=>if q.1=r then q.2 else 0).sum
theorem ANL (a:Tl) (q:List Int×Int) (r:List Int):(getT (addT a q) r).getD 0=(getT a r).getD 0 + if q.1=r then q.2 else 0:=by
 unfold addT
 rw [AFJ]
 by_cases e:r=q.1
 ·subst e;simp
 ·rw [if_neg e,if_neg (fun z=>e z.symm)];simp
theorem AMK (t:Tl):∀ (a:Tl) (r:List Int),(getT (t.foldl addT a) r).getD 0=(getT a r).getD 0 + cnt t r:=by
 induction t with
 | nil=>intro a r;simp [cnt]
 | cons q t ih =>
  intro a r
  rw [List.foldl_cons,ih,ANL]
  unfold cnt
  rw [List.map_cons,List.sum_cons]
  lia
theorem AI2 (t:Tl) (r:List Int):(getT (sumT t) r).getD 0=cnt t r:=by
 unfold sumT
 rw [AMK]
 simp [getT]
theorem AKo (t:Tl):∀ (a:Tl) (r:List Int),r∈(t.foldl addT a).map (·.1) ↔ r∈a.map (·.1)∨r∈t.map (·.1):=by
 induction t with
 | nil=>intro a r;simp
 | cons q t ih =>
  intro a r
  rw [List.foldl_cons,ih]
  unfold addT
  rw [AI1,List.map_cons,List.mem_cons]
  constructor
  ·rintro ((h | h) | h)
   ·exact .inr (.inl h)
   ·exact .inl h
   ·exact .inr (.inr h)
  ·rintro (h | h | h)
   ·exact .inl (.inr h)
   ·exact .inl (.inl h)
   ·exact .inr h
theorem AML (t:Tl) (r:List Int):r∈(sumT t).map (·.1) ↔ r∈t.map (·.1):=by
 unfold sumT;rw [AKo];simp
theorem AEt (t:Tl):∀ a:Tl,(t.foldl addT a).length≤a.length + t.length:=by
 induction t with
 | nil=>intro a;simp
 | cons q t ih =>
  intro a
  have h1:=ih (addT a q)
  have h2:(addT a q).length≤a.length + 1:=AC4 _ _ _
  simp only [List.foldl_cons,List.length_cons]
  lia
theorem AFK (t:Tl):(sumT t).length≤t.length:=by have:=AEt t [];simpa [sumT] using this
theorem APo (t:Tl):∀ a:Tl,(a.map (·.1)).Nodup→((t.foldl addT a).map (·.1)).Nodup:=by
 induction t with
 | nil=>intro a h;exact h
 | cons q t ih=>intro a h;exact ih (addT a q) (ACk h)
theorem AOf (t:Tl):((sumT t).map (·.1)).Nodup:=APo t [] (by simp)
theorem AFL {t:Tl} {n:Nat} (h:∀ q∈t,q.1.length=n):∀ q∈sumT t,q.1.length=n:=fun q hq=>by
 have:q.1∈(sumT t).map (·.1):=List.mem_map_of_mem hq
 obtain ⟨p,hp,e⟩:=List.mem_map.mp ((AML t q.1).mp this)
 rw [←e];exact h p hp
noncomputable def posT (t:Tl):Tl:=((ACl (t.map (·.1))).filter fun r=>decide (0<(getT t r).getD 0)).map fun r=>(r,(getT t r).getD 0)
theorem AKp {t:Tl} (h:∀ r,0≤(getT t r).getD 0):posT t=AAZ t:=by
 unfold posT AAZ
 congr 1
 refine List.filter_congr fun r _=>?_
 have:=h r
 by_cases e:(getT t r).getD 0=0
 ·simp [e]
 ·have:0<(getT t r).getD 0:=by lia
  simp [e,this]
theorem AGA {t:Tl} (h:∀ q∈t,0≤q.2) (r:List Int):0≤cnt t r:=by
 unfold cnt
 induction t with
 | nil=>simp
 | cons q t ih =>
  rw [List.map_cons,List.sum_cons]
  have h1:=ih fun p hp=>h p (List.mem_cons_of_mem _ hp)
  have h2:=h q List.mem_cons_self
  split <;> lia
theorem AMM {t:Tl} (h:(t.map (·.1)).Nodup):((AAZ t).map (·.1)).Nodup:=by
 unfold AAZ
 rw [List.map_map,show ((fun q:List Int×Int=>q.1) ∘ fun r=>(r,(getT t r).getD 0))=id from rfl,List.map_id]
 exact ((ACL _).nodup_iff.mpr h).filter _
theorem AKq {t:Tl} {n:Nat} (h:∀ q∈t,q.1.length=n):∀ q∈AAZ t,q.1.length=n:=fun q hq=>by
 obtain ⟨p,hp,e⟩:=List.mem_map.mp (AKj hq)
 rw [←e];exact h p hp
theorem AKr {t:Tl} {q:List Int×Int} (h:q∈AAZ t):q.2=(getT t q.1).getD 0∧q.2≠0:=by
 unfold AAZ at h
 obtain ⟨r,hr,rfl⟩:=List.mem_map.mp h
 exact ⟨rfl,by simpa using (List.mem_filter.mp hr).2⟩
theorem ANM {t:Tl} (h:(t.map (·.1)).Nodup):AH1 t=t:=by
 have key:∀ (t a:Tl),(∀ q∈t,q.1 ∉ a.map (·.1))→(t.map (·.1)).Nodup→t.foldl (fun a q=>putT a q.1 q.2) a=a ++ t:=by
  intro t
  induction t with
  | nil=>intro a _ _;simp
  | cons q t ih =>
   intro a h1 h2
   rw [List.map_cons,List.nodup_cons] at h2
   rw [List.foldl_cons,show putT a q.1 q.2=a ++ [q] by unfold putT;rw [if_neg (h1 q List.mem_cons_self)]]
   rw [ih _ (fun p hp=>?_) h2.2]
   ·simp
   ·rw [List.map_append,List.mem_append]
    rintro (z | z)
    ·exact h1 p (List.mem_cons_of_mem _ hp) z
    ·have:p.1=q.1:=by simpa using z
     exact h2.1 (by rw [←this];exact List.mem_map_of_mem hp)
 have:=key t [] (by simp) h
 simpa [AH1] using this
noncomputable def idx (ss:List Str) (z:Str):Nat:=ss.findIdx fun x=>decide (x=z)
theorem AEO {ss:List Str} {z:Str} (h:z∈ss):ss[idx ss z]?=some z∧∀ m,m<idx ss z→ss[m]?≠some z:=by
 have hl:idx ss z<ss.length:=List.findIdx_lt_length_of_exists ⟨z,h,decide_eq_true rfl⟩
 refine ⟨?_,fun m hm e=>?_⟩
 ·have:=List.findIdx_getElem (p:=fun x=>decide (x=z)) (xs:=ss) (w:=hl)
  rw [List.getElem?_eq_getElem hl]
  exact congrArg some (of_decide_eq_true this)
 ·have:=List.not_of_lt_findIdx hm
  obtain ⟨hm2,e2⟩:=List.getElem?_eq_some_iff.mp e
  simp [e2] at this
theorem AMN {ss:List Str} {z:Str} (h:z∈ss):idx ss z<ss.length:=(List.getElem?_eq_some_iff.mp (AEO h).1).1
noncomputable def AB5 (room:List Str) (r:List Int) (part:List Str):List Int:=part.map fun n=>r.getD (idx room n) 0
noncomputable def AAl (room:List Str) (t:Tl) (part:List Str):Tl:=t.map fun q=>(AB5 room q.1 part,q.2)
theorem AGB (room:List Str) (r:List Int) (part:List Str):(AB5 room r part).length=part.length:=by unfold AB5;rw [List.length_map]
theorem ADM (room:List Str) (t:Tl) (part:List Str):(AAl room t part).length=t.length:=by unfold AAl;rw [List.length_map]
theorem AE1 (room:List Str) (t:Tl) (part:List Str):∀ q∈AAl room t part,q.1.length=part.length:=fun q hq=>by
 obtain ⟨p,_,rfl⟩:=List.mem_map.mp hq
 exact AGB _ _ _
theorem AE2 {room:List Str} {t:Tl} {part:List Str} (h:∀ q∈t,0≤q.2):∀ q∈AAl room t part,0≤q.2:=fun q hq=>by
 obtain ⟨p,hp,rfl⟩:=List.mem_map.mp hq
 exact h p hp
noncomputable def shT (room:List Str) (t:Tl) (part:List Str):Tl:=AAZ (sumT (AAl room t part))
structure Sh (room:List Str) (t:Tl) (part:List Str):Prop where
 len:part.length≤100
 sub:∀ n∈part,n∈room
 few:t.length≤100000
 rows:∀ q∈t,q.1.length=room.length
structure Tal (n:Nat) (t:Tl):Prop where
 few:t.length≤1000
 rows:∀ q∈t,q.1.length=n
 pos:∀ q∈t,0<q.2
 nd:(t.map (·.1)).Nodup
theorem AJV {room:List Str} {t:Tl} {part:List Str} (h:∀ q∈t,0≤q.2):posT (sumT (AAl room t part))=shT room t part :=
 AKp fun r=>by rw [AI2];exact AGA (AE2 h) r
theorem ADs {n:Nat} {t:Tl} (hl:t.length≤1000) (h1:∀ q∈t,q.1.length=n) (h2:(t.map (·.1)).Nodup) (h3:∀ r,0≤(getT t r).getD 0):Tal n (AAZ t) where
 few:=Nat.le_trans (ACM t) hl
 rows:=AKq h1
 pos:=fun q hq=>by
  obtain ⟨a,b⟩:=AKr hq
  have:=h3 q.1
  lia
 nd:=AMM h2
theorem AJ3 {room:List Str} {t:Tl} {part:List Str} (h:∀ q∈t,0≤q.2) (hl:t.length≤1000):Tal part.length (shT room t part):=by
 refine ADs ?_ (AFL (AE1 room t part)) (AOf _) fun r=>by rw [AI2];exact AGA (AE2 h) r
 exact Nat.le_trans (AFK _) (by rw [ADM];exact hl)
theorem AJ4 (room:List Str) (t:Tl) (part:List Str):(shT room t part).length≤t.length:=Nat.le_trans (ACM _) (Nat.le_trans (AFK _) (by rw [ADM];exact Nat.le_refl _))
theorem AI3 {n:Nat} {t:Tl} (h:Tal n t):∀ q∈t,0≤q.2:=fun q hq=>Int.le_of_lt (h.pos q hq)
end L2
namespace L2
open PySem PyProof.Rows
abbrev leS (a b:Str):Prop:=¬ (b.cps.toList<a.cps.toList)
abbrev SrtS (l:List Str):Prop:=l.Pairwise leS
theorem AMO {a b c:Str} (h:leS a b) (g:leS b c):leS a c:=fun z=>h (List.lt_of_le_of_lt (List.not_lt.mp g) z)
theorem AOg {a b:Str} (h:a.cps.toList=b.cps.toList):a=b:=PyProof.Rows.ext_toList h
theorem ANN {a b:Str} (h:leS a b) (g:leS b a):a=b:=AOg (List.le_antisymm (List.not_lt.mp h) (List.not_lt.mp g))
theorem AGC:∀ (l:List Str) (p:Str),risingS p l=true→(p :: l).Pairwise leS
 | [],p,_=>List.pairwise_singleton _ _
 | x :: r,p,h=>by
  rw [risingS,Bool.and_eq_true] at h
  have h1:leS p x:=by have:=h.1;rw [ltCps_eq] at this;simpa using this
  have h2:=AGC r x h.2
  refine List.pairwise_cons.mpr ⟨fun y hy=>?_,h2⟩
  rcases List.mem_cons.mp hy with rfl | hy
  ·exact h1
  ·exact AMO h1 ((List.pairwise_cons.mp h2).1 y hy)
theorem AGr {l:List Str} (h:sortedS l=true):SrtS l:=by
 cases l with
 | nil=>exact List.Pairwise.nil
 | cons x r=>exact AGC r x h
theorem AE3:∀ {a b:List Str},a.Perm b→SrtS a→SrtS b→a=b
 | [],b,h,_,_=>(List.nil_perm.mp h).symm
 | x :: xs,[],h,_,_=>absurd h.length_eq (by simp)
 | x :: xs,y :: ys,h,h1,h2=>by
  have e:x=y:=by
   have hx:x∈y :: ys:=h.mem_iff.mp List.mem_cons_self
   have hy:y∈x :: xs:=h.mem_iff.mpr List.mem_cons_self
   rcases List.mem_cons.mp hx with e | hx
   ·exact e
   ·rcases List.mem_cons.mp hy with e | hy
    ·exact e.symm
    ·exact ANN ((List.pairwise_cons.mp h1).1 y hy) ((List.pairwise_cons.mp h2).1 x hx)
  subst e
  rw [AE3 ((List.perm_cons x).mp h) (List.pairwise_cons.mp h1).2 (List.pairwise_cons.mp h2).2]
structure Rm (ns r:List Str):Prop where
 sub:∀ n∈r,n∈ns
 nd:r.Nodup
 srt:SrtS r
theorem Rm.len {ns r:List Str} (h:Rm ns r):r.length≤ns.length:=h.nd.length_le_of_subset h.sub
theorem Rm.part {ns r p:List Str} (h:Rm ns r) (s:p.Sublist r):Rm ns p:=⟨fun n hn=>h.sub n (s.subset hn),h.nd.sublist s,h.srt.sublist s⟩
theorem Rm.of {ns l r:List Str} (hp:r.Perm l) (hs:sortedS r=true) (h1:∀ n∈l,n∈ns) (h2:l.Nodup):Rm ns r:=⟨fun n hn=>h1 n (hp.mem_iff.mp hn),hp.nodup_iff.mpr h2,AGr hs⟩
structure Nms (ns:List Str):Prop where
 pos:1≤ns.length
 len:ns.length≤6
 nd:ns.Nodup
 srt:SrtS ns
theorem Nms.rm {ns p:List Str} (h:Nms ns) (s:p.Sublist ns):Rm ns p:=⟨fun n hn=>s.subset hn,h.nd.sublist s,h.srt.sublist s⟩
structure Er (ns:List Str) (fd:List (List Str)) (sp fr:List Str):Prop where
 fnd:∀ r∈fd,Rm ns r
 nd:(sp ++ fr).Nodup
 sub:∀ n∈sp ++ fr,n∈ns
 ap:∀ r∈fd,∀ n∈r,n ∉ sp ++ fr
theorem AGD {α:Type} {l:List α} {m:Nat} {x:α} (h:l[m]?=some x):(l.eraseIdx m ++ [x]).Perm l:=by
 obtain ⟨hm,e⟩:=List.getElem?_eq_some_iff.mp h
 have h1:l=l.take m ++ x :: l.drop (m + 1):=by
  conv=>lhs;rw [←List.take_append_drop m l,List.drop_eq_getElem_cons hm,e]
 rw [List.eraseIdx_eq_take_drop_succ]
 conv=>rhs;rw [h1]
 rw [List.append_assoc]
 exact List.Perm.append_left _ (List.perm_append_singleton x _)
theorem Er.pop {ns:List Str} {fd:List (List Str)} {sp fr:List Str} (h:Er ns fd sp fr) {m:Nat} {x:Str} (e:sp[m]?=some x):Er ns fd (sp.eraseIdx m) (fr ++ [x]):=by
 have hp:(sp.eraseIdx m ++ (fr ++ [x])).Perm (sp ++ fr):=by
  have h1:=(AGD e).append_right fr
  refine List.Perm.trans ?_ h1
  rw [List.append_assoc]
  exact List.Perm.append_left _ List.perm_append_comm
 exact ⟨h.fnd,hp.nodup_iff.mpr h.nd,fun n hn=>h.sub n (hp.mem_iff.mp hn),fun r hr n hn z=>h.ap r hr n hn (hp.mem_iff.mp z)⟩
theorem Er.add {ns:List Str} {fd:List (List Str)} {sp fr part room:List Str} (h:Er ns fd sp fr) (hp:room.Perm (part ++ fr)) (hs:sortedS room=true) (hpart:part=[]∨∃ r∈fd,part.Sublist r):Er ns (fd ++ [room]) sp []:=by
 have hn:=List.nodup_append.mp h.nd
 have pin:∀ n∈part,n∈ns∧n ∉ sp ++ fr:=fun n hn2=>by
  rcases hpart with e | ⟨r,hr,s⟩
  ·rw [e] at hn2;cases hn2
  ·exact ⟨(h.fnd r hr).sub n (s.subset hn2),h.ap r hr n (s.subset hn2)⟩
 have pnd:part.Nodup:=by
  rcases hpart with e | ⟨r,hr,s⟩
  ·rw [e];exact List.nodup_nil
  ·exact (h.fnd r hr).nd.sublist s
 have rm:Rm ns room:=Rm.of hp hs (fun n hn2=>by
  rcases List.mem_append.mp hn2 with z | z
  ·exact (pin n z).1
  ·exact h.sub n (List.mem_append_right _ z)) (List.nodup_append.mpr ⟨pnd,hn.2.1,fun a ha b hb e=>(pin a ha).2 (List.mem_append_right _ (e ▸ hb))⟩)
 refine ⟨fun r hr=>?_,by rw [List.append_nil];exact hn.1,fun n hn2=>h.sub n (List.mem_append_left _ (by simpa using hn2)),fun r hr n hn2 z=>?_⟩
 ·rcases List.mem_append.mp hr with z | z
  ·exact h.fnd r z
  ·rw [List.mem_singleton.mp z];exact rm
 ·rw [List.append_nil] at z
  rcases List.mem_append.mp hr with q | q
  ·exact h.ap r q n hn2 (List.mem_append_left _ z)
  ·rw [List.mem_singleton.mp q] at hn2
   rcases List.mem_append.mp (hp.mem_iff.mp hn2) with q | q
   ·exact (pin n q).2 (List.mem_append_left _ z)
   ·exact hn.2.2 n z n q rfl
end L2
namespace L2
open PySem PySem.Spec PyProof.Rows
noncomputable abbrev nStr (i:Int):Str:=Str.ofString (toString i)
abbrev Lo (i:Int):Prop:=-(10 ^ 30)<i∧i<10 ^ 30
section
variable {X:Cx}
end
def AQs:pC:=p1 fun x _ K=>match x with
 | .int i=>Lo i∧K (.str (nStr i)) .fr
 | _=>False
def pFmt (pa:pE):pE:=fun ρ K=>pa ρ fun x _=>match x with
 | .str z=>z.length≤16777216∧K (.str z) .fr
 | .int i=>Lo i∧K (.str (nStr i)) .fr
 | _=>False
noncomputable abbrev pJ:=Str→pE
noncomputable def pJ0:pJ:=fun out _ K=>out.length≤16777216∧K (.str out) .fr
noncomputable def pJ1 (pa:pE) (r:pJ):pJ:=fun out ρ K=>pa ρ fun x _=>∃ y,x=.str y∧(out ++ y).length≤16777216∧r (out ++ y) ρ K
def APp (z:Str) (y:P) (K:P→Fl→Prop):Prop:=∃ ys:List Str,(y=.lst (ys.map P.str)∨y=.tup (ys.map P.str))∧(ys.map (·.length)).sum + ys.length * z.length≤16777216∧K (.str (Txt.join z ys)) .fr
def AQt (po pe:pE):pE:=fun ρ K=>po ρ fun x _=>∃ z,x=.str z∧pe ρ fun y _=>APp z y K
section
variable {ι:Type} {Xs:ι→Cx} {a b o e:Expr} {es:List Expr} {pa pe po:pE} {r:pJ} {pos apos cpos:Pos} {Kf:PySem.W.Frag}
end
structure Chg (fs xs:List Addr) (h h':Heap):Prop where
 keep:∀ b o,b ∉ fs→b ∉ xs→h.get? b=some o→h'.get? b=some o
 slot:∀ b o,b∈fs→b ∉ xs→h.get? b=some o→∃ sl,h'.get? b=some { o with slots:=sl }
 there:∀ b o,h.get? b=some o→∃ o',h'.get? b=some o'
section
variable {M:Model} {A:Around} {E:Value→Shared→Prop} {s:Shared} {base:Heap} {env:Env} {outer:List Env} {L e:Addr}
end
section
variable {X:Cx} {pins:List (Addr×Obj)} {σ:St} {H:Hp} {s:Shared}
structure Own (X:Cx):Prop where
 stk:X.stack=X.env :: X.outer
 frm:X.env.frame=some X.env.locals
 ex:X.ex=[]
structure Apart (X:Cx) (pins:List (Addr×Obj)) (H:Hp) (b:Addr):Prop where
 new:X.s₀.heap.get? b=none
 free:H b=none
 loc:b≠X.env.locals
 cell:∀ y k,X.env.cells.lookup y=some k→k≠b
 pin:∀ p∈X.pn ++ pins,p.1≠b
end
section
variable {P:Program} {w:World} {K:PySem.W.Frag} {mg:Str→Option Value} {base:Heap} {N:List Str} {qual:Str} {sc:Scope} {f:Addr} {cd:Value} {A:Around} {outer:List Env} {s₀:Shared} {H₀:Hp} {E:XK}
end
noncomputable abbrev vE:List Value:=[.type "ValueError",.type "Exception",.type "BaseException",.type "object"]
structure XCls (K:PySem.W.Frag) (mg:Str→Option Value) (x:Str) (C:Addr):Prop where
 bd:mg x=some (.ref C)
 ok:PySem.W.excIn K C vE "ValueError.__new__"=true
noncomputable def mroIn (K:PySem.W.Frag) (C C':Addr):Bool:=match K.lookup C with
 | some ⟨_,_,.cls cd,_⟩=>cd.mro.contains (.ref C')
 | _=>true
section
variable {M:Model} {A:Around} {E:Value→Shared→Prop} {nm q:Str} {C N:Addr} {bs bm:List Value} {hdct:Bool} {sn:List Str} {sub:List Value} {ab:Bool} {col:Option Bool} {dd:Option Addr} {k0 k1 k2 k3 k5:Option Value} {newId:String}
 {nm' q':Str} {C' N':Addr} {bs' bm':List Value} {hdct':Bool} {sn':List Str} {sub':List Value} {ab':Bool} {col':Option Bool} {dd':Option Addr} {l0 l1 l2 l3 l5:Option Value} {newId':String}
end
section
variable {X:Cx}
end
section
variable {X:Cx} {pins:List (Addr×Obj)} {σ:St} {H:Hp} {s:Shared} {a:Addr}
end
noncomputable abbrev pFX:=List P→(P→Prop)→(Str→Prop)→Prop
noncomputable abbrev EXT:=Str→Hp→Prop
section
variable {P':Program} {w:World} {K:PySem.W.Frag} {mg:Str→Option Value} {base:Heap}
end
noncomputable abbrev pX:=List S→(P→Fl→Prop)→(Str→Prop)→Prop
noncomputable abbrev pAX:=List S→(List (P×Fl)→Prop)→(Str→Prop)→Prop
noncomputable def AQu (p:pE):pX:=fun ρ K _=>p ρ K
noncomputable def AQv:pAX:=fun _ K _=>K []
noncomputable def APq (pa:pX) (pr:pAX):pAX:=fun ρ K Kx=>pa ρ (fun x f=>pr ρ (fun xs=>K ((x,f) :: xs)) Kx) Kx
noncomputable def pFnX (f:pFX) (pa:pAX):pX:=fun ρ K Kx=>pa ρ (fun xs=>f (xs.map (·.1)) (fun z=>K z .nw) Kx) Kx
noncomputable def pFn0 (f:pF) (pa:pAX):pX:=fun ρ K Kx=>pa ρ (fun xs=>f (xs.map (·.1)) fun z=>K z .nw) Kx
section
variable {ι:Type}
variable {Xs:ι→Cx} {EX:EXT} {a e:Expr} {es:List Expr} {pa:pX} {pr:pAX} {pos:Pos}
def AQw (EX:EXT) (p:pX):pS:=fun E ρ=>p ρ (fun x f=>retF x f=true∧E.rt x) fun n=>E.ex n EX
def AQx (EX:EXT) (p:pX) (k:Nat):pS:=fun E ρ=>p ρ (fun x f=>pSet k x f ρ E.nx) fun n=>E.ex n EX
def APr (EX:EXT) (p:pX):pS:=fun E ρ=>p ρ (fun _ _=>E.nx ρ) fun n=>E.ex n EX
def APs (EX:EXT) (n:Str) (p:pA):pS:=fun E ρ=>p ρ fun xs=>xs.length≤100∧E.ex n EX
noncomputable def pHd0:Str→pS:=fun _ _ _=>False
noncomputable def pHd (x:Str) (no:List Str) (p:pS) (r:Str→pS):Str→pS:=fun n E ρ=>(n=x∧p E ρ)∨(n∈no∧r n E ρ)
def pTry (f:pFX) (pa:pA) (k:Nat) (ph:Str→pS):pS:=fun E ρ=>pa ρ fun xs=>f (xs.map (·.1)) (fun z=>pSet k z .nw ρ E.nx) fun n=>ph n E ρ
end
end L2
namespace L2
open PySem
end L2
namespace L2
open PySem PySem.Spec PyProof.Rows PySem.W
theorem APt (t:SetTable) (n:Nat):(t.orStandIn n).led=t.led:=by unfold SetTable.orStandIn;split <;> rfl
theorem AOh (t:SetTable) (es:Array (Int×Value)) (h:Int) (x:Value):(layNew t es h x).2.1.led=t.led:=by
 unfold layNew;split
 ·exact APt _ _
 ·rfl
theorem AGE {mask finger moves:Nat} {led plain:Bool} {hs:Array Int} {t':SetTable} {order:Array Nat} (e:SetTable.laid mask finger moves led plain hs=some (t',order)):t'.led=led∧t'.plain=plain:=by
 unfold SetTable.laid at e
 cases h:SetTable.layClean mask hs with
 | none=>rw [h] at e;cases e
 | some ow =>
  rw [h] at e
  injection e with e
  injection e with e1 e2
  subst e1
  exact ⟨rfl,rfl⟩
theorem AOi (t:SetTable) (es:Array (Int×Value)) (n:Nat):(relayAll t es n).2.1.led=t.led:=by
 unfold relayAll;split
 ·rename_i t' order e
  dsimp only
  split
  ·exact (AGE e).1
  ·rfl
 ·rfl
theorem AMP {t:SetTable} (es:Array (Int×Value)) (n:Nat) (p:t.plain=false):(relayAll t es n).2.1.plain=false:=by
 unfold relayAll;split
 ·rename_i t' order e
  dsimp only
  split
  ·rw [(AGE e).2];exact p
  ·rfl
 ·rfl
theorem ADt {α:Type}:∀ {l:List α} {i:Nat} (h:i<l.length),(l[i] :: l.eraseIdx i).Perm l
 | [],_,h=>by cases h
 | x :: r,0,h=>by simp
 | x :: r,i + 1,h=>by
  have ih:=ADt (l:=r) (i:=i) (by simpa using h)
  simp only [List.getElem_cons_succ,List.eraseIdx_cons_succ]
  exact (List.Perm.swap _ _ _).trans (ih.cons _)
section
variable {prog:Program} {w:World} {A:Around} {E:Value→Shared→Prop} {s:Shared}
theorem AKs {src:Source} {n:Nat} {Q:Nat→Shared→Prop} (hn:n≠0) (h:∀ i,i<n→∀ dr,Q i { s with drawn:=dr }):wpAny (model prog w) A (choose src n) Q E s:=fun Γ p _=>by
 unfold choose
 rw [Sem.wp]
 exact ⟨hn,by rw [Sem.wp];exact h _ (Nat.mod_lt _ (Nat.pos_of_ne_zero hn)) _⟩
theorem AI4 {α:Type}:∀ (n:Nat) (xs:List α) (s:Shared) (Q:List α→Shared→Prop),xs.length=n→(∀ ys dr,ys.Perm xs→Q ys { s with drawn:=dr })→wpAny (model prog w) A (drawOrder n xs) Q E s
 | 0,xs,s,Q,hl,h=>by
  unfold drawOrder
  obtain rfl:=List.eq_nil_of_length_eq_zero hl
  exact wP (h [] s.drawn (List.Perm.refl _))
 | n + 1,[],s,Q,hl,h=>by cases hl
 | n + 1,x :: xs,s,Q,hl,h=>by
  unfold drawOrder
  refine wB (AKs (by simp) fun i hi dr=>?_)
  rw [List.getElem?_eq_getElem hi]
  dsimp only
  refine wB (AI4 n _ _ _ (by rw [List.length_eraseIdx_of_lt hi];simp at hl ⊢;lia) fun ys dr hp=>wP ?_)
  exact h _ dr ((hp.cons _).trans (ADt hi))
end
theorem AHc {α:Type} (next:Nat→Nat):∀ (n k:Nat) (left:List α) (out:Array α),left.length=n→(pickOrder.go next n k left out).toList.Perm (out.toList ++ left)
 | 0,k,left,out,hl=>by
  obtain rfl:=List.eq_nil_of_length_eq_zero hl
  unfold pickOrder.go
  simp
 | n + 1,k,left,out,hl=>by
  unfold pickOrder.go
  have hi:next k % left.length<left.length:=Nat.mod_lt _ (by lia)
  rw [List.getElem?_eq_getElem hi]
  dsimp only
  refine (AHc next n (k + 1) _ _ (by rw [List.length_eraseIdx_of_lt hi];lia)).trans ?_
  rw [Array.toList_push,List.append_assoc]
  exact (ADt hi).append_left _
theorem ACW {α:Type} (next:Nat→Nat) (xs:Array α):(pickOrder next xs).toList.Perm xs.toList:=by
 unfold pickOrder
 simpa using AHc next xs.size 0 xs.toList #[] rfl
theorem AMQ:Manifest.owners.lookup (String.ofList ['r','o','t','a','r','e','t','i','_','t','e','s'].reverse)=some Manifest.sig_set_iterator:=by kernel_rfl
theorem ABw:Slot "set_iterator" "__next__" "set_iterator.__next__":=.of (owner:="set_iterator") (n:="__next__") (by rw [typeLookup_type,builtinLookup_eq_fast];kernel_rfl) (by decide +kernel) (by decide +kernel) (by decide +kernel) (by first | exact .inl (by decide +kernel) | exact .inr (by decide +kernel)) (by rw [isSubtype_type];kernel_rfl)
theorem AHn:entryFor table "set_iterator.__next__"=some Builtin.«set_iterator.__next__»:=entryFor_of_tree (by kernel_rfl)
theorem AI5 (a:Value):argsOk "set_iterator.__next__" ⟨[a],[]⟩:=by
 unfold argsOk;rw [signature?_of (id:="set_iterator.__next__") (n:=['_','_','t','x','e','n','_','_']) (o:=['r','o','t','a','r','e','t','i','_','t','e','s']) (by kernel_rfl) AMQ];kernel_rfl
theorem AI6:entryFor table "set.__iter__"=some Builtin.«frozenset.__iter__»:=entryFor_alias (id':="frozenset.__iter__") (by kernel_rfl) rfl (by decide +kernel) (by kernel_rfl)
noncomputable def sOb (es:Array (Int×Value)) (ep:Nat) (t:SetTable):Obj:={ cls:=.type "set",dict:=none,data:=.set es ep t,slots:=#[] }
noncomputable def iOb (vs:Array Value):Obj:={ cls:=.type "set_iterator",dict:=none,data:=.fields vs,slots:=#[] }
noncomputable abbrev iF (first:Value) (i:Nat) (a:Addr) (n ep:Nat):Array Value:=#[first,.int i 0,.ref a,.int n 0,.int ep 0]
section
variable {prog:Program} {w:World} {A:Around} {E:Value→Shared→Prop} {s:Shared} {I a:Addr} {i n ep j:Nat} {es:Array (Int×Value)} {t:SetTable} {first:Value}
noncomputable def AGF (I:Addr):Sem PySem.Fin:=do setField (.ref I) 2 .none;raiseNew (←newExc (.type "StopIteration") [])
theorem AGG {F:PySem.Fin→Shared→Prop} (hit:s.heap.get? I=some (iOb (iF (.int j 0) i a es.size ep))) (hs:s.heap.get? a=some (sOb es ep t)) (hf:t.fits es.size=true)
  (h:wpAny (model prog w) A (setNext a j i ep >>= fun r=>match r with | some (x,next)=>(do setField (.ref I) 0 (rawInt next);setField (.ref I) 1 (rawInt ((i:Int) + 1));ret x) | none=>AGF I) F E s) :
  wpAny (model prog w) A (Builtin.«set_iterator.__next__» ⟨[.ref I],[]⟩) F E s:=by
 unfold Builtin.«set_iterator.__next__»
 refine wB (m:=slotArgs "__next__" 0 _) (wP ?_)
 refine wB (wpAny_fieldsOf hit rfl ?_)
 dsimp only
 refine wB (wpAny_setEntries_of hs rfl hf ?_)
 rw [if_neg (by simp)]
 simp only [Int.toNat_natCast]
 exact h
theorem AMR {T:Addr} {ps:List Nat} {F:PySem.Fin→Shared→Prop} (hit:s.heap.get? I=some (iOb (iF (.ref T) i a es.size ep))) (hs:s.heap.get? a=some (sOb es ep t)) (hf:t.fits es.size=true) (hT:s.heap.get? T=some (seqObj "tuple" (ps.map fun p:Nat=>rawInt p).toArray 0))
  (h:wpAny (model prog w) A (match ps[i]? with | some p=>(do let x ←setNextDrawn a p ep;setField (.ref I) 1 (rawInt ((i:Int) + 1));ret x) | none=>(do setField (.ref I) 0 (rawInt 0);AGF I)) F E s) :
  wpAny (model prog w) A (Builtin.«set_iterator.__next__» ⟨[.ref I],[]⟩) F E s:=by
 unfold Builtin.«set_iterator.__next__»
 refine wB (m:=slotArgs "__next__" 0 _) (wP ?_)
 refine wB (wpAny_fieldsOf hit rfl ?_)
 dsimp only
 refine wB (wpAny_setEntries_of hs rfl hf ?_)
 rw [if_neg (by simp)]
 refine wB (wpAny_seqItems hT rfl ?_)
 dsimp only
 simp only [Int.toNat_natCast,List.getElem?_toArray,List.getElem?_map]
 cases e:ps[i]? with
 | none=>rw [e] at h;exact h
 | some p=>rw [e] at h;exact h
end
section
variable {prog:Program} {w:World} {A:Around} {E:Value→Shared→Prop} {s:Shared} {I a:Addr} {i n ep j:Nat} {es:Array (Int×Value)} {t:SetTable} {first:Value}
theorem ADf {Q:Option Value→Shared→Prop} (hT:s.TypeIs (.ref I) "set_iterator") (h:wpAny (model prog w) A.in1 (Builtin.«set_iterator.__next__» ⟨[.ref I],[]⟩) (fun fin s'=>∃ v,fin=.done (.ret v)∧Q (some v) s') (fun e s'=>s'.TypeIs e "StopIteration"∧Q none s') s):wpAny (model prog w) A (pyNext (.ref I)) Q E s:=by
 unfold pyNext
 refine wB (wpAny_attempt (wpAny_callSpecial?_slot (name:=Str.ofString "__next__") hT ABw (wpAny_call_entry ABw hT AHn (wpAny_mono h (fun fin s' x=>?_) fun e s' x=>?_) (AI5 _))))
 ·obtain ⟨v,rfl,q⟩:=x
  exact ⟨_,rfl,wP q⟩
 ·exact wB (wpAny_isInstance (T:="StopIteration") (b:=true) x.1 isSubtype_stop (wP x.2))
theorem AFM {vs:Array Value} {F:PySem.Fin→Shared→Prop} (hh:A.handled=none) (hit:s.heap.get? I=some (iOb vs)) (hv:2<vs.size)
  (h:∀ h' e,Heap.ExtBut I s.heap h'→Shared.TypeIs { s with heap:=h' } e "StopIteration"→E e { s with heap:=h' }):wpAny (model prog w) A (AGF I) F E s:=by
 unfold AGF
 refine wB (wpAny_setField hit rfl hv ?_)
 refine wB ?_
 simp only [newExc,newTuple]
 refine wB (wpAny_newObj_type ?nx (by size_fits))
 refine wB (m:=firstArgMember _ _) (wpAny_of_eq (a:=Value.none) (by first | rfl | (simp only [firstArgMember];rfl)) (wpAny_newObj_type ?ny (by size_fits)))
 simp only [raiseNew]
 refine wB (wpAny_handled ?_)
 rw [hh]
 refine wB (wP (wpAny_throw ?_))
 exact h _ _ (((Heap.SameBut.update ..).extBut.push _).push _) ⟨_,Heap.get?_push_size _ rfl,rfl⟩
noncomputable def ACO (w:World) (a:Addr) (es:Array (Int×Value)) (ep:Nat):List Value:=(pickOrder (w.params.setOrder a ep) es).toList.map (·.2)
theorem AHd {Q:Option (Value×Nat)→Shared→Prop} (bt:w.params.followText "set-order"=true) (hs:s.heap.get? a=some (sOb es ep t)) (hf:t.fits es.size=true) (h:Q ((ACO w a es ep)[i]?.map fun x=>(x,j)) s):wpAny (model prog w) A (setNext a j i ep) Q E s:=by
 unfold setNext
 refine wB (wpAny_setState_of hs rfl hf ?_)
 dsimp only
 refine wB ?_
 unfold setsByText
 refine wB (wpAny_askSetting (wP ?_))
 show wpAny _ _ (if w.params.followText "set-order"=true then _ else _) _ _ _
 rw [if_pos bt]
 rw [if_neg (by simp)]
 refine wB ?_
 unfold setWalk
 refine wB (wpAny_setState_of hs rfl hf ?_)
 dsimp only
 refine wB ?_
 unfold setsByText
 refine wB (wpAny_askSetting (wP ?_))
 show wpAny _ _ (if w.params.followText "set-order"=true then _ else _) _ _ _
 rw [if_pos bt]
 refine wB (wpAny_askSetting (wP (wP ?_)))
 unfold ACO at h
 rw [List.getElem?_map,Array.getElem?_toList,Option.map_map] at h
 exact h
end
section
variable {prog:Program} {w:World} {A:Around} {E:Value→Shared→Prop} {s:Shared} {I a:Addr} {ep:Nat} {es:Array (Int×Value)} {t:SetTable}
theorem AEP:Slot "set_iterator" "__iter__" "set_iterator.__iter__":=.of (owner:="set_iterator") (n:="__iter__") (by rw [typeLookup_type,builtinLookup_eq_fast];kernel_rfl) (by decide +kernel) (by decide +kernel) (by decide +kernel) (by first | exact .inl (by decide +kernel) | exact .inr (by decide +kernel)) (by rw [isSubtype_type];kernel_rfl)
theorem AHo:entryFor table "set_iterator.__iter__"=some Builtin.«dict_keyiterator.__iter__»:=entryFor_alias (id':="dict_keyiterator.__iter__") (by kernel_rfl) rfl (by decide +kernel) (by kernel_rfl)
theorem AI7 (a:Value):argsOk "set_iterator.__iter__" ⟨[a],[]⟩:=by
 unfold argsOk;rw [signature?_of (id:="set_iterator.__iter__") (n:=['_','_','r','e','t','i','_','_']) (o:=['r','o','t','a','r','e','t','i','_','t','e','s']) (by kernel_rfl) AMQ];kernel_rfl
theorem AEQ {Q:Value→Shared→Prop} {vs:Array Value} (hit:s.heap.get? I=some (iOb vs)) (hQ:Q (.ref I) s):wpAny (model prog w) A (pyIter (.ref I)) Q E s:=by
 have hT:s.TypeIs (.ref I) "set_iterator":=⟨_,hit,rfl⟩
 refine wpAny_pyIter_slot hT AEP (wpAny_call_entry AEP hT AHo ?_ (AI7 _))
 exact wP ⟨_,rfl,"set_iterator",_,hT,ABw.lookup,hQ⟩
theorem AMS (hh:A.handled=none) (hIa:a≠I) (bt:w.params.followText "set-order"=true) (hf:t.fits es.size=true):WalksS prog w A I [I,a] [I] (fun x y=>y=x) es.size (fun i v=>(ACO w a es ep)[i]?=some v)
  (fun i s=>s.heap.get? I=some (iOb (iF (.int 0 0) i a es.size ep))∧s.heap.get? a=some (sOb es ep t)) where
 sub:=fun b hb=>by simp at hb;simp [hb]
 grefl:=fun _=>rfl
 gtrans:=fun _ _ _ h1 h2=>h2.trans h1
 frame:=fun i s h' tk st _ hk=>⟨hk I (by simp) _ st.1,hk a (by simp) _ st.2⟩
 item:=fun i s Q E hi st hQ=>by
  have hl:(ACO w a es ep).length=es.size:=by unfold ACO;rw [List.length_map,(ACW _ _).length_eq,Array.length_toList]
  refine ADf ⟨_,st.1,rfl⟩ (AGG (j:=0) st.1 st.2 hf (wB (AHd bt st.2 hf ?_)))
  rw [List.getElem?_eq_getElem (show i<(ACO w a es ep).length by lia),Option.map_some]
  dsimp only
  refine wB (wpAny_setField_rec st.1 (by simp) fun h1 e1 b1=>wB (wpAny_setField_rec e1 (by simp) fun h2 e2 b2=>wP ⟨_,rfl,hQ _ _ (by rw [List.getElem?_eq_getElem]) ⟨?_,?_⟩ ⟨?_,rfl,rfl,rfl,Nat.le_refl _⟩⟩))
  ·rw [e2];simp [iOb,rawInt]
  ·exact b2.extBut _ _ hIa (b1.extBut _ _ hIa st.2)
  ·exact fun b o nb e=>b2.extBut _ _ (fun z=>nb (by simp [z])) (b1.extBut _ _ (fun z=>nb (by simp [z])) e)
 done:=fun s Q E st hQ=>by
  have hl:(ACO w a es ep).length=es.size:=by unfold ACO;rw [List.length_map,(ACW _ _).length_eq,Array.length_toList]
  refine ADf ⟨_,st.1,rfl⟩ (AGG (j:=0) st.1 st.2 hf (wB (AHd bt st.2 hf ?_)))
  rw [List.getElem?_eq_none (by lia),Option.map_none]
  dsimp only
  exact AFM hh st.1 (by simp) fun h' e x y=>⟨y,hQ _ ⟨fun b o nb e=>x b o (fun z=>nb (by simp [z])) e,rfl,rfl,rfl,Nat.le_refl _⟩⟩
 self:=fun i s Q E st hQ=>AEQ st.1 hQ
theorem AKt {T:Addr} {ps:List Nat} (hh:A.handled=none) (hIa:a≠I) (hIT:T≠I) (hf:t.fits es.size=true) (hl:ps.length=es.size) (hp:∀ p∈ps,p<es.size):WalksS prog w A I [I,a,T] [I] (fun x y=>y=x) es.size (fun i v=>∃ p,ps[i]?=some p∧∃ h,es[p]?=some (h,v))
  (fun i s=>s.heap.get? I=some (iOb (iF (.ref T) i a es.size ep))∧s.heap.get? a=some (sOb es ep t)∧s.heap.get? T=some (seqObj "tuple" (ps.map fun p:Nat=>rawInt p).toArray 0)) where
 sub:=fun b hb=>by simp at hb;simp [hb]
 grefl:=fun _=>rfl
 gtrans:=fun _ _ _ h1 h2=>h2.trans h1
 frame:=fun i s h' tk st _ hk=>⟨hk I (by simp) _ st.1,hk a (by simp) _ st.2.1,hk T (by simp) _ st.2.2⟩
 item:=fun i s Q E hi st hQ=>by
  have hi':i<ps.length:=by lia
  have hp':=hp _ (List.getElem_mem hi')
  refine ADf ⟨_,st.1,rfl⟩ (AMR st.1 st.2.1 hf st.2.2 ?_)
  rw [List.getElem?_eq_getElem hi']
  dsimp only
  refine wB ?_
  unfold setNextDrawn
  refine wB (wpAny_setState_of st.2.1 rfl hf ?_)
  dsimp only
  rw [if_neg (by simp),Array.getElem?_eq_getElem hp']
  dsimp only
  refine wP ?_
  refine wB (wpAny_setField_rec st.1 (by simp) fun h1 e1 b1=>wP ⟨_,rfl,hQ _ _ ⟨_,List.getElem?_eq_getElem hi',es[ps[i]].1,by rw [Array.getElem?_eq_getElem hp']⟩ ⟨?_,?_,?_⟩ ⟨?_,rfl,rfl,rfl,Nat.le_refl _⟩⟩)
  ·rw [e1];simp [iOb,rawInt]
  ·exact b1.extBut _ _ hIa st.2.1
  ·exact b1.extBut _ _ hIT st.2.2
  ·exact fun b o nb e=>b1.extBut _ _ (fun z=>nb (by simp [z])) e
 done:=fun s Q E st hQ=>by
  refine ADf ⟨_,st.1,rfl⟩ (AMR st.1 st.2.1 hf st.2.2 ?_)
  rw [List.getElem?_eq_none (by lia)]
  dsimp only
  refine wB (wpAny_setField_rec st.1 (by simp) fun h1 e1 b1=>?_)
  exact AFM hh e1 (by simp) fun h' e x y=>⟨y,hQ _ ⟨fun b o nb e=>x b o (fun z=>nb (by simp [z])) (b1.extBut _ _ (fun z=>nb (by simp [z])) e),rfl,rfl,rfl,Nat.le_refl _⟩⟩
 self:=fun i s Q E st hQ=>AEQ st.1 hQ
theorem AGH {i j:Nat} {Q:Option (Value×Nat)→Shared→Prop} (bt:w.params.followText "set-order"=false) (h1:es.size≤1) (hled:t.led=true) (hs:s.heap.get? a=some (sOb es ep t)) (hf:t.fits es.size=true)
  (h:Q (match es[SetTable.below t.place j]?,t.place[SetTable.below t.place j]? with | some (_,x),some k=>some (x,k + 1) | _,_=>none) s):wpAny (model prog w) A (setNext a j i ep) Q E s:=by
 unfold setNext
 refine wB (wpAny_setState_of hs rfl hf ?_)
 dsimp only
 refine wB ?_
 unfold setsByText
 refine wB (wpAny_askSetting (wP ?_))
 show wpAny _ _ (if w.params.followText "set-order"=true then _ else _) _ _ _
 rw [if_neg (by rw [bt];exact Bool.false_ne_true)]
 refine wpAny_ite_split (fun hab=>absurd hab ?_) (fun _=>?_)
 ·show ¬ ((!t.plain && decide (es.size > 1))=true)
  simp;lia
 ·refine wB (?_:wpAny _ _ (if (!t.led && !es.isEmpty)=true then _ else pure ()) _ _ _)
  rw [if_neg (by rw [hled];simp)]
  exact wP (wP h)
theorem AKu (xs:Array Nat):SetTable.below xs 0=0:=by
 unfold SetTable.below
 have:∀ n hi,SetTable.below.go xs 0 n 0 hi=0:=by
  intro n
  induction n with
  | zero=>intro hi;rfl
  | succ n ih =>
   intro hi
   unfold SetTable.below.go
   split
   ·simp only [Nat.not_lt_zero,if_false];exact ih _
   ·rfl
 exact this _ _
theorem AMT {xs:Array Nat} (h:xs.size=1) (k:Nat) (hk:xs[0]?=some k):SetTable.below xs (k + 1)=1:=by
 unfold SetTable.below
 rw [h]
 unfold SetTable.below.go
 have e:xs.getD 0 (k + 1)=k:=by rw [Array.getD_eq_getD_getElem?,hk];rfl
 simp [e,SetTable.below.go]
theorem AKv (hh:A.handled=none) (hIa:a≠I) (bt:w.params.followText "set-order"=false) (h1:es.size≤1) (hled:t.led=true) (hf:t.fits es.size=true):WalksS prog w A I [I,a] [I] (fun x y=>y=x) es.size (fun i v=>∃ h,es[i]?=some (h,v))
  (fun i s=>(∃ j:Nat,s.heap.get? I=some (iOb (iF (.int j 0) i a es.size ep))∧(i=0→j=0)∧(i=1→∃ k,t.place[0]?=some k∧j=k + 1))∧s.heap.get? a=some (sOb es ep t)) where
 sub:=fun b hb=>by simp at hb;simp [hb]
 grefl:=fun _=>rfl
 gtrans:=fun _ _ _ h1 h2=>h2.trans h1
 frame:=fun i s h' tk st _ hk=>⟨let ⟨j,e,r⟩:=st.1;⟨j,hk I (by simp) _ e,r⟩,hk a (by simp) _ st.2⟩
 item:=fun i s Q E hi st hQ=>by
  obtain ⟨⟨j,e,r,_⟩,sa⟩:=st
  have i0:i=0:=by lia
  subst i0
  obtain rfl:=r rfl
  have hp:t.place.size=es.size:=by simp [SetTable.fits] at hf;exact hf.1
  refine ADf ⟨_,e,rfl⟩ (AGG e sa hf (wB (AGH bt h1 hled sa hf ?_)))
  rw [AKu,Array.getElem?_eq_getElem hi,Array.getElem?_eq_getElem (show 0<t.place.size by lia)]
  dsimp only
  refine wB (wpAny_setField_rec e (by simp) fun h1 e1 b1=>wB (wpAny_setField_rec e1 (by simp) fun h2 e2 b2=>wP ⟨_,rfl,hQ _ _ ⟨es[0].1,by rw [Array.getElem?_eq_getElem hi]⟩ ⟨⟨t.place[0] + 1,?_,(fun z=>absurd z (by lia)),(fun _=>⟨_,Array.getElem?_eq_getElem _,rfl⟩)⟩,?_⟩ ⟨?_,rfl,rfl,rfl,Nat.le_refl _⟩⟩))
  ·rw [e2];simp [iOb,rawInt]
  ·exact b2.extBut _ _ hIa (b1.extBut _ _ hIa sa)
  ·exact fun b o nb e=>b2.extBut _ _ (fun z=>nb (by simp [z])) (b1.extBut _ _ (fun z=>nb (by simp [z])) e)
 done:=fun s Q E st hQ=>by
  obtain ⟨⟨j,e,r0,r1⟩,sa⟩:=st
  have hp:t.place.size=es.size:=by simp [SetTable.fits] at hf;exact hf.1
  refine ADf ⟨_,e,rfl⟩ (AGG e sa hf (wB (AGH bt h1 hled sa hf ?_)))
  have hn:es[SetTable.below t.place j]?=none:=by
   by_cases z:es.size=0
   ·exact Array.getElem?_eq_none (by lia)
   ·have z1:es.size=1:=by lia
    obtain ⟨k,hk,rfl⟩:=r1 z1
    rw [AMT (by lia) k hk]
    exact Array.getElem?_eq_none (by lia)
  rw [hn]
  dsimp only
  exact AFM hh e (by simp) fun h' e x y=>⟨y,hQ _ ⟨fun b o nb e=>x b o (fun z=>nb (by simp [z])) e,rfl,rfl,rfl,Nat.le_refl _⟩⟩
 self:=fun i s Q E st hQ=>let ⟨⟨_,e,_⟩,_⟩:=st;AEQ e hQ
end
def ADu (w:World) (es:Array (Int×Value)) (t:SetTable):Prop:=t.fits es.size=true∧es.size≤4096∧t.led=!w.params.followText "set-order"∧(0<es.size→t.plain=false)
def AI8 (prog:Program) (w:World) (A:Around) (a:Addr) (es:Array (Int×Value)) (s:Shared) (I:Addr) (h1:Heap) (dr:PySem.Drawn):Prop :=
 s.heap.objs.size≤I∧(∀ b o,s.heap.get? b=some o→h1.get? b=some o)∧∃ (vs:List Value) (fp:List Addr) (St:Nat→Shared→Prop),
  vs.Perm (es.toList.map (·.2))∧(∀ b∈fp,b=a∨s.heap.objs.size≤b∧b<h1.objs.size)∧I<h1.objs.size∧WalksS prog w A I fp [I] (fun x y=>y=x) es.size (fun i v=>vs[i]?=some v) St∧St 0 { s with heap:=h1,drawn:=dr }
section
variable {prog:Program} {w:World} {A:Around} {E:Value→Shared→Prop} {s:Shared} {I a:Addr} {ep:Nat} {es:Array (Int×Value)} {t:SetTable}
theorem WalksS.wk {fp wr:List Addr} {G:Array GenState→Array GenState→Prop} {n:Nat} {P P':Nat→Value→Prop} {St:Nat→Shared→Prop} (W:WalksS prog w A I fp wr G n P St) (h:∀ i v,i<n→P i v→P' i v):WalksS prog w A I fp wr G n P' St where
 sub:=W.sub
 grefl:=W.grefl
 gtrans:=W.gtrans
 frame:=W.frame
 item:=fun i s Q E hi st hQ=>W.item i s Q E hi st fun v s' hp=>hQ v s' (h i v hi hp)
 done:=W.done
 self:=W.self
theorem ANO {Q:Value→Shared→Prop} (hh:A.handled=none) (hs:s.heap.get? a=some (sOb es ep t)) (ok:ADu w es t) (hQ:∀ I h1 dr,AI8 prog w A a es s I h1 dr→Q (.ref I) { s with heap:=h1,drawn:=dr }):wpAny (model prog w) A (pyIter (.ref a)) Q E s:=by
 obtain ⟨hf,hz,hled,hpl⟩:=ok
 have hT:s.TypeIs (.ref a) "set":=⟨_,hs,rfl⟩
 have ha:=Heap.lt_size hs
 refine wpAny_pyIter_slot hT F.slot_set_iter (wpAny_call_entry F.slot_set_iter hT AI6 ?_ (F.args_set_iter_1 _))
 unfold Builtin.«frozenset.__iter__» Builtin.Frozenset.slot0 Builtin.Frozenset.addrOf Builtin.Frozenset.sizeOf
 refine wB (wB (m:=slotArgs "__iter__" 0 _) (wP (wP ?_)))
 refine wB (wB (wpAny_setEntries_of hs rfl hf (wP ?_)))
 unfold setDrawn
 refine wB (wB (wpAny_setState_of hs rfl hf ?_))
 dsimp only
 refine wB ?_
 unfold setsByText
 refine wB (wpAny_askSetting (wP (wP ?_)))
 have low:∀ (first:Value),∀ {Q':Value→Shared→Prop},Q' (.ref s.heap.objs.size) { s with heap:=s.heap.push (iOb (iF first 0 a es.size ep)) }→wpAny (model prog w) A.in1 (do let d ←setEpoch a;newFields "set_iterator" [first,rawInt 0,Value.ref a,rawInt ↑es.size,rawInt ↑d]) Q' E s:=fun first Q' q =>
  wB (wpAny_setEpoch_of hs rfl hf (wpAny_newObj_type q))
 refine wpAny_ite_split (fun hd=>?_) (fun hd=>?_)
 ·have hd':(!w.params.followText "set-order" && (!t.plain && decide (es.size > 1)))=true:=hd
  refine wB (AI4 es.size _ _ _ (List.length_range) fun ps dr pp=>?_)
  have hl:ps.length=es.size:=by rw [pp.length_eq,List.length_range]
  refine wB (wpAny_newTuple ?_ (by rw [List.length_map,hl,sizeLine_eq];lia))
  have hs':(s.heap.push (seqObj "tuple" (ps.map fun p:Nat=>rawInt p).toArray 0)).get? a=some (sOb es ep t):=Heap.get?_push_of_some _ hs
  refine wB (wpAny_setEpoch_of (s:={ s with heap:=s.heap.push (seqObj "tuple" (ps.map fun p:Nat=>rawInt p).toArray 0),drawn:=dr }) hs' rfl hf ?_)
  refine wB (wpAny_newObj_type (wP ⟨_,rfl,"set_iterator",_,⟨_,Heap.get?_push_size _ rfl,rfl⟩,ABw.lookup,hQ _ _ _ ?_⟩))
  have hsz:(s.heap.push (seqObj "tuple" (ps.map fun p:Nat=>rawInt p).toArray 0)).objs.size=s.heap.objs.size + 1:=size_push' _ _
  show AI8 prog w A a es s (s.heap.push (seqObj "tuple" (ps.map fun p:Nat=>rawInt p).toArray 0)).objs.size ((s.heap.push (seqObj "tuple" (ps.map fun p:Nat=>rawInt p).toArray 0)).push (iOb (iF (.ref s.heap.objs.size) 0 a es.size ep))) dr
  have lt:∀ p∈ps,p<es.size:=fun p hp=>List.mem_range.mp (pp.mem_iff.mp hp)
  refine ⟨by rw [hsz];exact Nat.le_succ _,fun b o e=>Heap.get?_push_of_some _ (Heap.get?_push_of_some _ e),ps.map fun p=>((es[p]?).map (·.2)).getD .none,[_,a,s.heap.objs.size],_,?_,?_,by simp only [size_push'];exact Nat.lt_succ_self _,WalksS.wk (AKt (T:=s.heap.objs.size) (ps:=ps) hh (by rw [hsz];exact Nat.ne_of_lt (Nat.lt_succ_of_lt ha)) (by rw [hsz];exact Nat.ne_of_lt (Nat.lt_succ_self _)) hf hl lt) ?_,Heap.get?_push_size _ rfl,Heap.get?_push_of_some _ hs',Heap.get?_push_of_some _ (Heap.get?_push_size _ rfl)⟩
  ·refine (pp.map _).trans ?_
   have:(List.range es.size).map (fun p=>((es[p]?).map (·.2)).getD .none)=es.toList.map (·.2):=by
    apply List.ext_getElem
    ·simp
    ·intro i h1 h2
     have h3:i<es.size:=by simpa using h1
     simp [h3]
   rw [this]
  ·intro b hb
   simp only [List.mem_cons,List.not_mem_nil,or_false] at hb
   rw [size_push',hsz]
   rcases hb with rfl | rfl | rfl
   ·right;rw [hsz];exact ⟨Nat.le_succ _,Nat.lt_succ_self _⟩
   ·left;rfl
   ·right;exact ⟨Nat.le_refl _,Nat.lt_succ_of_lt (Nat.lt_succ_self _)⟩
  ·rintro i v hi ⟨p,e1,h,e2⟩
   rw [List.getElem?_map,e1,Option.map_some,e2];rfl
 ·have hd':¬ (!w.params.followText "set-order" && (!t.plain && decide (es.size > 1)))=true:=hd
  refine wB (wP ?_)
  refine wB (wpAny_setEpoch_of hs rfl hf ?_)
  refine wB (wpAny_newObj_type (wP ⟨_,rfl,"set_iterator",_,⟨_,Heap.get?_push_size _ rfl,rfl⟩,ABw.lookup,hQ _ _ s.drawn ?_⟩))
  show AI8 prog w A a es s s.heap.objs.size (s.heap.push (iOb (iF (.int 0 0) 0 a es.size ep))) s.drawn
  have fpo:∀ b∈[s.heap.objs.size,a],b=a∨s.heap.objs.size≤b∧b<(s.heap.push (iOb (iF (.int 0 0) 0 a es.size ep))).objs.size:=by
   intro b hb
   simp only [List.mem_cons,List.not_mem_nil,or_false] at hb
   rw [size_push']
   rcases hb with rfl | rfl
   ·right;exact ⟨Nat.le_refl _,Nat.lt_succ_self _⟩
   ·left;rfl
  cases bt:w.params.followText "set-order" with
  | true =>
   refine ⟨Nat.le_refl _,fun b o e=>Heap.get?_push_of_some _ e,ACO w a es ep,_,_,(ACW _ _).map _,fpo,by rw [size_push'];exact Nat.lt_succ_self _,AMS (ep:=ep) hh (Nat.ne_of_lt ha) bt hf,Heap.get?_push_size _ rfl,Heap.get?_push_of_some _ hs⟩
  | false =>
   have h1:es.size≤1:=by
    rw [bt] at hd'
    by_cases z:es.size≤1
    ·exact z
    ·exfalso;apply hd';rw [hpl (by lia)];simp;lia
   refine ⟨Nat.le_refl _,fun b o e=>Heap.get?_push_of_some _ e,es.toList.map (·.2),_,_,List.Perm.refl _,fpo,by rw [size_push'];exact Nat.lt_succ_self _,WalksS.wk (AKv (ep:=ep) hh (Nat.ne_of_lt ha) bt h1 (by rw [hled,bt];rfl) hf) ?_,⟨0,Heap.get?_push_size _ rfl,fun _=>rfl,fun z=>absurd z (by lia)⟩,Heap.get?_push_of_some _ hs⟩
   rintro i v hi ⟨h,e⟩
   rw [List.getElem?_map,Array.getElem?_toList,e];rfl
end
section
variable {prog:Program} {w:World} {A:Around} {E:Value→Shared→Prop} {s:Shared} {a:Addr} {ep:Nat} {es:Array (Int×Value)} {t:SetTable}
theorem ANP {Q:Bool→Shared→Prop} (hT:s.TypeIs (.ref a) "set") (h:Q false s):wpAny (model prog w) A (Builtin.List.listLengthHint (.ref a)) Q E s:=by
 unfold Builtin.List.listLengthHint
 refine wB (wpAny_specialOf hT F.slot_set_len.lookup ?_)
 generalize hid:("set.__len__":String)=id0
 wp_delta
 rw [show splitId id0=some ("set","__len__") from by subst hid;decide +kernel]
 subst hid
 refine wB (wpAny_isInstance (T:="set") (b:=true) hT sub_set_self ?_)
 refine wpAny_ite_split (fun z=>absurd z (by decide)) (fun _=>wpAny_ite_split (fun _=>wB (wpAny_typeOf hT (wP h))) (fun z=>absurd (by decide +kernel) z))
theorem AKw {R:Result→Shared→Prop} (hh:A.handled=none) (hs:s.heap.get? a=some (sOb es ep t)) (ok:ADu w es t) (S:Addr) (res:Value) (hSa:S≠a) (hS:s.heap.get? S=some { cls:=.type "list",data:=.seq #[] })
  (hR:∀ h' tk dr acc c',(∀ b o,b≠S→s.heap.get? b=some o→h'.get? b=some o)→h'.get? S=some { cls:=.type "list",dict:=none,data:=.seq acc c',slots:=#[] }→acc.toList.Perm (es.toList.map (·.2))→R (.ok (.ret res)) { s with heap:=h',toks:=tk,drawn:=dr }) :
  wpAny (model prog w) A.in1 (Builtin.List.listExtendWith (.ref S) (.ref a) res)
   (fun fin s'=>match fin with | .done f=>R (.ok f) s' | .again c'=>c'.quiet=true∧codeAny (model prog w) A c' R s') (fun e s'=>R (.error e) s') s:=by
 have hSlt:=Heap.lt_size hS
 have hz:es.size≤sizeLine:=by rw [sizeLine_eq];have:=ok.2.1;lia
 unfold Builtin.List.listExtendWith
 refine wB (wpAny_typeOf (T:="set") ⟨_,hs,rfl⟩ ?_)
 have n1:Builtin.List.listSameRef (.ref S) (.ref a)=false:=by simp [Builtin.List.listSameRef,hSa]
 rw [if_neg (by rw [n1];decide)]
 refine wB (ANO hh hs ok fun I h1 dr W=>?_)
 obtain ⟨hI,keep,vs,fp,St,pp,hfp,hI2,W,st⟩:=W
 have hSI:S≠I:=fun z=>absurd hSlt (by rw [z];exact Nat.not_lt.mpr hI)
 have hSf:S ∉ fp:=fun hb=>(hfp S hb).elim hSa fun z=>absurd hSlt (Nat.not_lt.mpr z.1)
 have key:∀ (h:Heap) (c₁:Nat),St 0 { s with heap:=h,drawn:=dr }→(∀ b o,b≠S→s.heap.get? b=some o→h.get? b=some o)→h.get? S=some { cls:=.type "list",data:=.seq #[] c₁ } →
   codeAny (model prog w) A (.builtin "list.extend.loop" ⟨[.ref S,.ref I,res],[]⟩) R { s with heap:=h,drawn:=dr }:=by
  intro h c₁ hst hk hS₁
  refine codeAny_extend_loopS W hz S hSf res es.size 0 _ #[] c₁ rfl (Nat.zero_le _) hst hS₁ (ItemsOf.nil _) fun s' acc c' hm hS' hacc=>?_
  have e:s'={ s with heap:=s'.heap,toks:=s'.toks,drawn:=dr }:=by
   have e1:=hm.gens;have e2:=hm.drawn;have e3:=hm.os
   obtain ⟨hp',g',d',tk',os'⟩:=s'
   simp only at e1 e2 e3
   subst e1;subst e2;subst e3
   rfl
  rw [e]
  refine hR _ _ _ acc c' (fun b o nb eb=>hm.heap b o (fun hb=>?_) (hk b o nb eb)) hS' ?_
  ·rcases List.mem_cons.mp hb with z | hb
   ·exact nb z
   ·exact absurd (Heap.lt_size eb) (by rw [List.mem_singleton.mp hb];exact Nat.not_lt.mpr hI)
  ·have hl:vs.length=es.size:=by rw [pp.length_eq];simp
   have:acc.toList=vs:=by
    apply List.ext_getElem?
    intro i
    by_cases hi:i<acc.size
    ·have:=hacc.2 i acc[i] (by rw [Array.getElem?_eq_getElem hi])
     rw [this,Array.getElem?_toList,Array.getElem?_eq_getElem hi]
    ·rw [List.getElem?_eq_none (by simpa using hi),List.getElem?_eq_none (by have:=hacc.1;lia)]
   rw [this];exact pp
 have hS1:=keep _ _ hS
 refine wB (wpAny_holding (ANP ⟨_,keep _ _ hs,rfl⟩ ?_))
 refine wpAny_ite_split (fun _=>?_) (fun _=>wP ⟨plainId_quiet PySem.F.plain_extend_loop _,key _ _ st (fun b o _ e=>keep b o e) hS1⟩)
 refine wB (wpAny_rule (wB ?_))
 show wpAny _ _ (updateSeq S (·.push .none) >>= fun _=>updateSeq S (·.pop)) _ _ _
 refine wB (wpAny_updateSeq hS1 rfl ?_)
 have hS2:=Heap.get?_update_self (Obj.mapSeq (·.push Value.none)) hS1 rfl
 refine wpAny_updateSeq (hz:=by seq_fits) hS2 rfl ?_
 have hS3:=Heap.get?_update_self (Obj.mapSeq (·.pop)) hS2 rfl
 refine wP ⟨plainId_quiet PySem.F.plain_extend_loop _,key _ _ (W.frame 0 _ _ _ st (Nat.le_refl _) fun b hb o e=>?_) (fun b o nb e=>?_) hS3⟩
 ·have nb:S≠b:=fun z=>hSf (z ▸ hb)
  exact (Heap.get?_update_other _ _ nb).trans ((Heap.get?_update_other _ _ nb).trans e)
 ·exact (Heap.get?_update_other _ _ nb.symm).trans ((Heap.get?_update_other _ _ nb.symm).trans (keep b o e))
theorem AJW {R:List Value→Shared→Prop} (hh:A.handled=none) (hs:s.heap.get? a=some (sOb es ep t)) (ok:ADu w es t)
  (h:∀ h' tk dr acc,(∀ b o,s.heap.get? b=some o→h'.get? b=some o)→acc.Perm (es.toList.map (·.2))→R acc { s with heap:=h',toks:=tk,drawn:=dr }):wpAny (model prog w) A (collect (.ref a)) R E s:=by
 have ha:=Heap.lt_size hs
 unfold collect
 refine wB (wpAny_runValue (codeAny_builtin entry_proto_collect' ?_))
 rw [Around.under_plainId PySem.F.plain_proto_collect _]
 refine wB (m:=newList []) (wpAny_newObj_type (wP ⟨plainId_quiet PySem.F.plain_list_iadd _,codeAny_builtin entry_list_iadd' ?_⟩))
 rw [Around.under_plainId PySem.F.plain_list_iadd _]
 have hS1:(s.heap.push { cls:=.type "list",data:=.seq ([]:List Value).toArray }).get? s.heap.objs.size=some { cls:=.type "list",data:=.seq #[] }:=Heap.get?_push_size _ rfl
 have key:=AKw (prog:=prog) (A:=A) (s:={ s with heap:=s.heap.push { cls:=.type "list",data:=.seq ([]:List Value).toArray } })
  (R:=fun q s'=>∃ h' tk dr acc c',q=.ok (.ret (.ref s.heap.objs.size))∧s'={ s with heap:=h',toks:=tk,drawn:=dr }∧(∀ b o,s.heap.get? b=some o→h'.get? b=some o)∧h'.get? s.heap.objs.size=some { cls:=.type "list",dict:=none,data:=.seq acc c',slots:=#[] }∧acc.toList.Perm (es.toList.map (·.2)))
  hh (Heap.get?_push_of_some _ hs) ok s.heap.objs.size (.ref s.heap.objs.size) (Nat.ne_of_gt ha) hS1 fun h' tk dr acc c' k1 k2 k3=>⟨h',tk,dr,acc,c',rfl,rfl,fun b o e=>k1 b o (Nat.ne_of_lt (Heap.lt_size e)) (Heap.get?_push_of_some _ e),k2,k3⟩
 refine wpAny_mono key (fun fin s' x=>?_) fun e s' x=>?_
 ·cases fin with
  | done f =>
   obtain ⟨h',tk,dr,acc,c',e,rfl,k1,k2,k3⟩:=x
   cases e
   exact wB (wpAny_load k2 (wP (h h' tk dr _ k1 k3)))
  | again c₁ =>
   refine ⟨x.1,codeAny_mono x.2 fun q s₂ y=>?_⟩
   obtain ⟨h',tk,dr,acc,c',rfl,rfl,k1,k2,k3⟩:=y
   exact wB (wpAny_load k2 (wP (h h' tk dr _ k1 k3)))
 ·obtain ⟨_,_,_,_,_,e',_⟩:=x
  cases e'
theorem AKx {ss:List Str} {Q:Value→Shared→Prop} (hh:A.handled=none) (hs:s.heap.get? a=some (sOb es ep t)) (ok:ADu w es t) (hv:StrsAre (es.toList.map (·.2)) ss) (h64:es.size<64)
  (h:∀ h' tk dr (D:Addr) (out:List Value) (ss':List Str) e,(∀ u,s.heap.get? D≠some u)→(∀ b o,s.heap.get? b=some o→h'.get? b=some o)→h'.get? D=some (seqObj "list" out.toArray e)→StrsAre out ss'→ss'.Perm ss→sortedS ss'=true→Q (.ref D) { s with heap:=h',toks:=tk,drawn:=dr }) :
  wpAny (model prog w) A (call (.builtin "sorted") [.ref a]) Q E s:=by
 refine Calls.call_function_entry kind_sorted plain_sorted entry_sorted (args_sorted1 _) ?_
 unfold Builtin.«sorted»
 refine wB (m:=checkCount "sorted" 1 1 _) (wP (wB (AJW (A:=A.in1) hh hs ok fun h' tk dr acc k1 k2=>?_)))
 have hl:acc.length=es.size:=by rw [k2.length_eq];simp
 refine wB (wpAny_newList ?_ (by rw [hl,sizeLine_eq];lia))
 have hD:(h'.push (seqObj "list" acc.toArray 0)).get? h'.objs.size=some (seqObj "list" acc.toArray 0):=Heap.get?_push_size _ rfl
 have hS:StrsAre acc (acc.map strOf):=strsAre_map acc fun v hv'=>hv.all v (k2.mem_iff.mp hv')
 have hp:(acc.map strOf).Perm ss:=by
  have:=k2.map strOf
  rwa [hv.strs] at this
 refine wB (wpAny_holding (wpAny_call_entry slot_list_sort ⟨_,hD,rfl⟩ entry_list_sort (list_sort_treeK strKind_oneLt hD hS.keysOf (fun v₁ v₂ rest e=>keyKind_strs (by rw [←e];exact hS)) (by lia) fun st' a1 a2=>⟨_,rfl,?_⟩) (args_list_sort _)))
 obtain ⟨ss',b1,b2,b3⟩:=sorted_out_str hS a1 a2
 obtain ⟨e,he⟩:=sortedHeap_at (out:=(arrOf st').map (·.2)) hD
 refine wP ⟨_,rfl,h _ _ _ _ ((arrOf st').map (·.2)).toList ss' e ?_ (fun b o eb=>?_) ?_ b1 (b2.trans hp) b3⟩
 ·exact fun u eu=>absurd (Heap.lt_size (k1 _ _ eu)) (Nat.lt_irrefl _)
 ·have e4:=k1 b o eb
  have ne:b≠h'.objs.size:=Nat.ne_of_lt (Heap.lt_size e4)
  have e5:(h'.push (seqObj "list" acc.toArray 0)).get? b=some o:=Heap.get?_push_of_some _ e4
  rw [sortedHeap_old ne (Heap.lt_size e5)]
  exact e5
 ·rw [Array.toArray_toList];exact he
end
theorem AMU {prog:Program} {w:World} (y:Str) (tk:Tok):(PySem.strKind prog w).is y (.str y tk)=true:=by
 show Value.isStrOf y (.str y tk)=true
 simp [Value.isStrOf]
theorem AI9 {prog:Program} {w:World} {y:Str} {v:Value} (h:(PySem.strKind prog w).is y v=true):strOf v=y∧∃ tk,v=.str y tk:=by
 obtain ⟨tk,rfl⟩:=Value.isStrOf_shape h
 exact ⟨rfl,tk,rfl⟩
noncomputable abbrev AMV (es:Array (Int×Value)):List Str:=es.toList.map fun e=>strOf e.2
def Txts (prog:Program) (w:World) (h:Heap) (a:Addr) (ks:List Str):Prop:=∃ es ep t,h.get? a=some (sOb es ep t)∧ADu w es t∧es.size<scanBound∧ElemsOf (PySem.strKind prog w) es.toList∧(AMV es).Perm ks
noncomputable def ABQ (ks:List Str) (y:Str):List Str:=if y∈ks then ks else ks ++ [y]
section
variable {prog:Program} {w:World} {A:Around} {E:Value→Shared→Prop} {s:Shared} {a:Addr}
theorem Txts.at {h h':Heap} {ks:List Str} (x:Txts prog w h a ks) (k:∀ o,h.get? a=some o→h'.get? a=some o):Txts prog w h' a ks:=let ⟨es,ep,t,e,r⟩:=x;⟨es,ep,t,k _ e,r⟩
theorem AJA {es es':Array (Int×Value)} {ep:Nat} {t t':SetTable} {Q:Unit→Shared→Prop} (ho:s.heap.get? a=some (sOb es ep t)) (hz:es'.size<scanBound) (h:∀ h',Heap.SameBut a s.heap h'→h'.get? a=some (sOb es' (ep + 1) t')→Q () { s with heap:=h' }):wpAny (model prog w) A (storeSet a es' t') Q E s:=by
 refine wpAny_storeSet_of ho rfl (h _ (Heap.SameBut.update ..) ?_) (fits_of_scanBound hz)
 exact Heap.get?_update_self (Obj.putSet es' t') ho rfl
theorem AJ5 (g:Bool→Sem Unit) (hg:g=fun b=>match b with | true=>rule "set.scan.the-table-gave-way" | false=>pure ()) (b:Bool) {Q:Unit→Shared→Prop} (hq:Q () s):wpAny (model prog w) A (g b) Q E s:=by
 subst hg;cases b <;> first | exact wP hq | exact wpAny_rule hq
theorem AOj {ks:List Str} {y:Str} {tk:Tok} {Q:Bool→Shared→Prop} (x:Txts prog w s.heap a ks) (hroom:ks.length + 1<scanBound) (h:∀ b h',Heap.SameBut a s.heap h'→Txts prog w h' a (ABQ ks y)→Q b { s with heap:=h' }) :
  wpAny (model prog w) A (setAddHashed a (.str y tk) ((PySem.strKind prog w).hash y)) Q E s:=by
 obtain ⟨es,ep,t,ho,⟨hf,hz,hled,hpl⟩,hb,hel,hp⟩:=x
 have hk:=AMU (prog:=prog) (w:=w) y tk
 have hsz:es.size=ks.length:=by rw [←hp.length_eq];simp
 have mem:y∈ks ↔ ∃ e∈es.toList,(PySem.strKind prog w).is y e.2=true:=by
  rw [←hp.mem_iff,List.mem_map]
  constructor
  ·rintro ⟨e,he,rfl⟩
   obtain ⟨⟨k,hk2,_⟩,_⟩:=hel e he
   refine ⟨e,he,?_⟩
   rw [(AI9 hk2).1];exact hk2
  ·rintro ⟨e,he,q⟩
   exact ⟨e,he,(AI9 q).1⟩
 unfold setAddHashed setAddHashedIn
 refine wpAny_holding (wB (wpAny_setState_of ho rfl hf ?_))
 dsimp only
 rw [if_pos (byScan_of rfl hb hel)]
 unfold setAddByScan
 refine wB (wB (wpAny_rule (wB (wpAny_setScan_of hk ho rfl hf hel ?_))))
 cases hr:List.findIdx? (fun e=>(PySem.strKind prog w).is y e.2) es.toList with
 | some j =>
  obtain ⟨hj,hpj,_⟩:=List.findIdx?_eq_some_iff_getElem.mp hr
  have hm:y∈ks:=mem.mpr ⟨_,List.getElem_mem hj,hpj⟩
  refine wP (wP (h _ s.heap (Heap.SameBut.refl a s.heap) ⟨es,ep,t,ho,⟨hf,hz,hled,hpl⟩,hb,hel,?_⟩))
  unfold ABQ
  rw [if_pos hm]
  exact hp
 | none =>
  have hm:y ∉ ks:=fun z=>by
   obtain ⟨e,he,q⟩:=mem.mp z
   have:=List.findIdx?_eq_none_iff.mp hr e he
   rw [q] at this;cases this
  dsimp only
  have pm:=layNew_perm t es ((PySem.strKind prog w).hash y) (.str y tk)
  have ft:=layNew_fits t es ((PySem.strKind prog w).hash y) (.str y tk)
  have ld:=AOh t es ((PySem.strKind prog w).hash y) (.str y tk)
  generalize layNew t es ((PySem.strKind prog w).hash y) (.str y tk)=L at pm ft ld ⊢
  obtain ⟨es1,t1,wd,gv⟩:=L
  dsimp only at pm ft ld ⊢
  rw [Array.toList_push] at pm
  have z1:es1.size=es.size + 1:=by have:=pm.length_eq;simpa using this
  have hel1:ElemsOf (PySem.strKind prog w) es1.toList:=(hel.push hk rfl).perm pm
  have hb1:es1.size<scanBound:=by lia
  have pt1:(AMV es1).Perm (ABQ ks y):=by
   unfold ABQ
   rw [if_neg hm]
   refine (pm.map _).trans ?_
   rw [List.map_append]
   exact hp.append (List.Perm.refl _)
  have fin:∀ (t2:SetTable),t2.fits es1.size=true→t2.led=t.led→t2.plain=false→wpAny (model prog w) A (do
    storeSet a es1 t2
    if (!wd && t2.tooFull)=true then do
      (match (relayAll t2 es1 (SetTable.grown es1.size)).2.2 with | true=>rule "set.scan.the-table-gave-way" | false=>pure ():Sem Unit)
      storeSet a (relayAll t2 es1 (SetTable.grown es1.size)).1 (relayAll t2 es1 (SetTable.grown es1.size)).2.1
      pure (some true)
     else pure (some true)) (fun r s'=>wpAny (model prog w) A (match r with | some added=>pure added | none=>setAddHashedIn a (.str y tk) ((PySem.strKind prog w).hash y) 99999) Q E s') E s:=by
   intro t2 f2 l2 p2
   have ok2:ADu w es1 t2:=⟨f2,by have:scanBound=4096:=rfl;lia,by rw [l2,hled],fun _=>p2⟩
   refine wB (AJA ho hb1 fun h1 b1 e1=>?_)
   split
   ·have pm3:=relayAll_perm t2 es1 (SetTable.grown es1.size)
    have ft3:=relayAll_fits t2 es1 (SetTable.grown es1.size)
    have ld3:=AOi t2 es1 (SetTable.grown es1.size)
    have pl3:=AMP es1 (SetTable.grown es1.size) p2
    generalize relayAll t2 es1 (SetTable.grown es1.size)=L at pm3 ft3 ld3 pl3 ⊢
    obtain ⟨es3,t3,gv3⟩:=L
    dsimp only at pm3 ft3 ld3 pl3 ⊢
    have z3:es3.size=es1.size:=by have:=pm3.length_eq;simpa using this
    have hb3:es3.size<scanBound:=by lia
    refine wB (AJ5 _ rfl gv3 (wB (AJA (s:={ s with heap:=h1 }) e1 hb3 fun h3 b3 e3=>wP (wP (h _ _ (b1.trans b3) ⟨es3,_,t3,e3,⟨ft3,by have:scanBound=4096:=rfl;lia,by rw [ld3,l2,hled],fun _=>pl3⟩,hb3,hel1.perm pm3,(pm3.map _).trans pt1⟩)))))
   ·exact wP (wP (h _ _ b1 ⟨es1,_,t2,e1,ok2,hb1,hel1,pt1⟩))
  refine wB (AJ5 _ rfl gv ?_)
  by_cases p1:t1.plain=true
  ·rw [if_pos p1]
   refine wB (wP ?_)
   exact fin { t1 with plain:=false } (SetTable.fits_plain_off ft) ld rfl
  ·rw [if_neg p1]
   refine wB (wP ?_)
   exact fin t1 ft ld (by simpa using p1)
end
noncomputable def setT (ys:List Str):List Str:=ys.foldl ABQ []
section
variable {prog:Program} {w:World} {A:Around} {E:Value→Shared→Prop} {s:Shared} {a:Addr}
theorem AOk {P:Nat→Value→Prop} {n:Nat} {R:Result→Shared→Prop} {I:Addr} {fp wr:List Addr} {G:Array GenState→Array GenState→Prop} {ys:List Str} {vs:List Value} {St:Nat→Shared→Prop} (W:WalksS prog w A.in1 I fp wr G n P St) (hn:n=vs.length) (hP':∀ i v,P i v→vs[i]?=some v) (hvs:StrsAre vs ys) (S:Addr) (hSf:S ∉ fp) (hb:vs.length + 1<scanBound) :
  ∀ (k i:Nat) (s:Shared) (ks:List Str),vs.length - i=k→i≤vs.length→ks.length≤i→St i s→Txts prog w s.heap S ks→(∀ s',Moved (S :: wr) G s s'→Txts prog w s'.heap S ((ys.drop i).foldl ABQ ks)→R (.ok (.ret .none)) s') →
   codeAny (model prog w) A (.builtin "set.update.loop" ⟨[.ref S,.ref I],[]⟩) R s:=by
 have hSw:S ∉ wr:=fun h=>hSf (W.sub _ h)
 have hl:vs.length=ys.length:=hvs.length
 subst hn
 intro k
 induction k with
 | zero =>
  intro i s ks hk hi hle st tx hR
  have hin:i=vs.length:=by lia
  subst hin
  refine codeAny_builtin PyProof.Rows.F.entry_set_update_loop ?_
  rw [Around.under_plainId PyProof.Rows.F.plain_set_update_loop _]
  refine wB (m:=pyNext (.ref I)) (W.done s _ _ st fun s' hm=>?_)
  refine wP (hR s' (hm.mono fun b hb=>List.mem_cons_of_mem _ hb) ?_)
  rw [List.drop_of_length_le (by lia)]
  exact tx.at fun o e=>hm.heap S o hSw e
 | succ k ih =>
  intro i s ks hk hi hle st tx hR
  have hlt:i<vs.length:=by lia
  have hly:i<ys.length:=by lia
  refine codeAny_builtin PyProof.Rows.F.entry_set_update_loop ?_
  rw [Around.under_plainId PyProof.Rows.F.plain_set_update_loop _]
  refine wB (m:=pyNext (.ref I)) (W.item i s _ _ hlt st fun v s' hP st' hm=>?_)
  replace hP:=hP' i v hP
  have hv:∃ tk,v=.str ys[i] tk:=by
   have hv1:vs[i]=v:=by rw [List.getElem?_eq_getElem hlt] at hP;exact Option.some.inj hP
   obtain ⟨x,tk,e⟩:=hvs.all v (hv1 ▸ List.getElem_mem hlt)
   have e2:=hvs.strs
   have:ys[i]=x:=by
    have e3:(vs.map strOf)[i]?=ys[i]?:=by rw [e2]
    rw [List.getElem?_map,hP,List.getElem?_eq_getElem hly,e] at e3
    exact (Option.some.inj e3).symm
   exact ⟨tk,by rw [this];exact e⟩
  obtain ⟨tk,rfl⟩:=hv
  refine wB (m:=holding _ _) (wpAny_holding ?_)
  unfold setAdd
  refine wpAny_holding (wB ((PySem.strKind prog w).pyHash (AMU ys[i] tk) ?_))
  refine AOj (s:={ s' with toks:=s'.toks + 1 }) (tx.at fun o e=>hm.heap S o hSw e) (by lia) fun b h' hsb tx'=>?_
  have hle':(ABQ ks ys[i]).length≤i + 1:=by
   unfold ABQ;split
   ·lia
   ·simp;lia
  refine wP ⟨plainId_quiet PyProof.Rows.F.plain_set_update_loop _,ih (i + 1) _ _ (by lia) hlt hle' (W.frame _ s' _ _ st' (Nat.le_succ _) fun b hb o e=>?_) tx' fun s'' hm'' tx''=>?_⟩
  ·rw [hsb.2 b (fun h:b=S=>hSf (by rw [←h];exact hb))];exact e
  ·refine hR s'' (Moved.trans W.gtrans ((hm.mono fun b hb=>List.mem_cons_of_mem _ hb).then_heap (Nat.le_succ _) fun b o hb e=>?_) hm'') ?_
   ·rw [hsb.2 b (fun h:b=S=>hb (by rw [h];exact List.mem_cons_self))];exact e
   ·rw [List.drop_eq_getElem_cons hly];exact tx''
theorem AOl (x:Value) {Q₁:Value→Shared→Prop} (h:Q₁ (.ref s.heap.objs.size) { s with heap:=s.heap.push (sOb #[] 0 (.fresh 0 0 (!w.params.followText "set-order"))) }) :
  codeAny (model prog w) A (.call (.builtin "set.__new__") ⟨[.type "set",x],[]⟩) (wants Q₁ E) s:=by
 refine codeAny_of_tree ?_
 show wpAny _ A.in1 (do checkBuiltinCall "set.__new__" ⟨[.type "set",x],[]⟩;again (.builtin "set.__new__" ⟨[.type "set",x],[]⟩)) _ _ s
 refine wB (wpAny_of_eq (F.newCall_set_1 x) (wP ⟨plainId_quiet F.plain_set_new _,codeAny_builtin F.entry_set_new ?_⟩))
 rw [Around.under_plainId F.plain_set_new _]
 unfold Builtin.«set.__new__» Builtin.Frozenset.newClass
 have hsub:=sub_set_self
 obtain ⟨hp,g,d,tk,os⟩:=s
 dsimp only
 wp_walk
 refine wpAny_askSetting (wP ?_)
 dsimp only
 simp only [newObj]
 exact wB (wpAny_alloc (wP (wP h)))
theorem ANQ:ADu w #[] (.fresh 0 0 (!w.params.followText "set-order")):=⟨rfl,by decide,rfl,fun h=>absurd h (by decide)⟩
theorem AE4 {l:Addr} {c:String} {od:Option Addr} {dt:Data} {sl:Array (Option Value)} {vs:List Value} {ys:List Str} {Q:Value→Shared→Prop} (hh:A.handled=none) (hol:s.heap.get? l=some { cls:=.type c,dict:=od,data:=dt,slots:=sl }) (hys:StrsAre vs ys) (hb:ys.length + 1<scanBound)
  (hsls:isSubtype (.type c) (.type "set")=pure false) (hslf:isSubtype (.type c) (.type "frozenset")=pure false) (hne:(Value.type c == Value.type "dict")=false)
  (hit:∀ (A':Around) (s':Shared),A'.handled=none→s'.heap.get? l=some { cls:=.type c,dict:=od,data:=dt,slots:=sl }→∃ (oI:Obj) (St:Nat→Heap→Prop),(∀ (E':Value→Shared→Prop) (Q':Value→Shared→Prop),Q' (.ref s'.heap.objs.size) { s' with heap:=s'.heap.push oI }→wpAny (model prog w) A' (pyIter (.ref l)) Q' E' s')∧Walks prog w A'.in1 s'.heap.objs.size [s'.heap.objs.size,l] [s'.heap.objs.size] vs.toArray.size (fun i v=>vs.toArray[i]?=some v) St∧St 0 (s'.heap.push oI))
  (h:∀ (h':Heap) (tk:Nat),Txts prog w h' s.heap.objs.size (setT ys)→(∀ b o,s.heap.get? b=some o→h'.get? b=some o)→Q (.ref s.heap.objs.size) { s with heap:=h',toks:=tk }) :
  wpAny (model prog w) A (call (.type "set") [.ref l]) Q E s:=by
 obtain ⟨c',tl,hmro⟩:=F.called_set.mro
 have hmade:=F.called_set.made
 have hsub:=F.called_set.sub
 have hlt:=Heap.lt_size hol
 refine wpAny_call (codeAny_of_tree (?_:wpAny _ _ (callAny (.type "set") _) _ _ _))
 refine wP ⟨Code.quiet_builtin _ (by decide +kernel),codeAny_builtin F.entry_type_call ?_⟩
 rw [Around.under_plain (weight_type_call_type "set" [.ref l] []) rfl]
 have q1:=F.called_set.notType
 have q2:=F.called_set.canCreate
 have hct:=F.typeCall_set_1 (.ref l)
 repeat (any_goals (first | assumption | wp_step))
 generalize hT0:SetTable.fresh 0 0 (!w.params.followText "set-order")=t0
 refine codeAny_mono (AOl (.ref l) (E:=E) (Q₁:=fun obj s₁=>obj=.ref s.heap.objs.size∧s₁={ s with heap:=s.heap.push (sOb #[] 0 t0) }) (by rw [hT0];exact ⟨rfl,rfl⟩)) fun r s₁ hr=>?_
 cases r with
 | error e=>exact hr
 | ok fl =>
  cases fl with
  | ret obj =>
   obtain ⟨rfl,rfl⟩:=hr
   have hS:(s.heap.push (sOb #[] 0 t0)).get? s.heap.objs.size=some (sOb #[] 0 t0):=Heap.get?_push_size _ rfl
   have hT:Shared.TypeIs { s with heap:=s.heap.push (sOb #[] 0 t0) } (.ref s.heap.objs.size) "set":=⟨_,hS,rfl⟩
   have hli:=F.called_set.init.lookup
   have hbi:=F.called_set.init.bind (.ref s.heap.objs.size)
   repeat (any_goals (first | assumption | wp_step))
   refine codeAny_mono (codeAny_call_builtin (R:=wants (fun r s₂=>r=.none∧∃ h' tk,s₂={ s with heap:=h',toks:=tk }∧Txts prog w h' s.heap.objs.size (setT ys)∧(∀ b o,s.heap.get? b=some o→h'.get? b=some o)) E) F.called_set.init.plain F.entry_set_init (check_set_init_1 hT ?_)) fun r₂ s₂ hr₂=>?_
   ·have hol':(s.heap.push (sOb #[] 0 t0)).get? l=some { cls:=.type c,dict:=od,data:=dt,slots:=sl }:=Heap.get?_push_of_some _ hol
    have hS':(s.heap.push (sOb #[] 0 t0)).get? s.heap.objs.size=some { cls:=.type "set",dict:=none,data:=.set #[] 0 t0,slots:=#[] }:=hS
    subst hT0
    unfold Builtin.«set.__init__» noKeywords Builtin.Frozenset.updateFrom
    generalize hPI:pyIter=PI
    wp_walk
    subst hPI
    obtain ⟨oI,St,hit1,W,st⟩:=hit A.in1.in1 { s with heap:=s.heap.push (sOb #[] 0 (SetTable.fresh 0 0 (!w.params.followText "set-order"))) } hh hol'
    refine hit1 _ _ (wB (wpAny_runValue ?_))
    have hsz:=size_push' s.heap (sOb #[] 0 (SetTable.fresh 0 0 (!w.params.followText "set-order")))
    have hSf:s.heap.objs.size ∉ [(s.heap.push (sOb #[] 0 (SetTable.fresh 0 0 (!w.params.followText "set-order")))).objs.size,l]:=by
     rw [hsz];simp only [List.mem_cons,List.not_mem_nil,or_false,not_or]
     exact ⟨Nat.ne_of_lt (Nat.lt_succ_self _),Nat.ne_of_gt hlt⟩
    have hlen:=hys.length
    refine AOk W.toS (List.size_toArray) (vs:=vs) (fun i v e=>by simpa using e) hys s.heap.objs.size hSf (by lia) (vs.length - 0) 0 _ [] rfl (Nat.zero_le _) (Nat.le_refl _) st ⟨#[],0,_,Heap.get?_push_of_some _ hS,ANQ,by decide,fun e he=>by simp at he,List.Perm.refl _⟩ fun s' hm tx=>?_
    have e:s'={ s with heap:=s'.heap,toks:=s'.toks }:=by
     have e1:=hm.gens;have e2:=hm.drawn;have e3:=hm.os
     obtain ⟨hp',g',d',tk',os'⟩:=s'
     simp only at e1 e2 e3
     subst e1;subst e2;subst e3
     rfl
    refine wP (wP ⟨rfl,_,_,e,tx,fun b o eb=>?_⟩)
    have hb:=Heap.lt_size eb
    refine hm.heap b o ?_ (Heap.get?_push_of_some _ (Heap.get?_push_of_some _ eb))
    rw [hsz]
    simp only [List.mem_cons,List.not_mem_nil,or_false,not_or]
    exact ⟨Nat.ne_of_lt hb,Nat.ne_of_lt (Nat.lt_succ_of_lt hb)⟩
   ·cases r₂ with
    | error e=>exact hr₂
    | ok fl₂ =>
     cases fl₂ with
     | ret r =>
      obtain ⟨rfl,h',tk,rfl,x1,x2⟩:=hr₂
      repeat (any_goals (first | assumption | wp_step))
      exact h _ _ x1 x2
     | _=>exact hr₂.elim
  | _=>exact hr.elim
end
section
variable {prog:Program} {w:World} {A:Around} {E:Value→Shared→Prop} {s:Shared} {a:Addr}
theorem APu:isSubtype (.type "tuple") (.type "set")=pure false:=by rw [isSubtype_type];kernel_rfl
theorem APv:isSubtype (.type "tuple") (.type "frozenset")=pure false:=by rw [isSubtype_type];kernel_rfl
theorem AKy {l:Addr} {vs:List Value} {ys:List Str} {Q:Value→Shared→Prop} (hh:A.handled=none) (hl:s.heap.IsList l vs.toArray) (hys:StrsAre vs ys) (hb:ys.length + 1<scanBound)
  (h:∀ (h':Heap) (tk:Nat),Txts prog w h' s.heap.objs.size (setT ys)→(∀ b o,s.heap.get? b=some o→h'.get? b=some o)→Q (.ref s.heap.objs.size) { s with heap:=h',toks:=tk }):wpAny (model prog w) A (call (.type "set") [.ref l]) Q E s:=by
 obtain ⟨⟨ocls,od,dt,sl⟩,hol,hc,n,hd⟩:=hl
 simp only at hc hd
 subst hc;subst hd
 exact AE4 hh hol hys hb F.sub_list_set F.sub_list_frozenset (by decide) (fun A' s' hA e=>have hl':s'.heap.IsList l vs.toArray:=⟨_,e,rfl,n,rfl⟩;⟨_,_,fun E' Q' q=>wpAny_pyIter_list hl' q,Walks.list (A:=A'.in1) hA _ l (Nat.ne_of_lt (Heap.lt_size e)) vs.toArray,⟨_,Heap.get?_push_size _ rfl,rfl,rfl⟩,hl'.push _⟩) h
theorem AKz {l:Addr} {vs:List Value} {ys:List Str} {Q:Value→Shared→Prop} (hh:A.handled=none) (hl:s.heap.IsTuple l vs.toArray) (hys:StrsAre vs ys) (hb:ys.length + 1<scanBound)
  (h:∀ (h':Heap) (tk:Nat),Txts prog w h' s.heap.objs.size (setT ys)→(∀ b o,s.heap.get? b=some o→h'.get? b=some o)→Q (.ref s.heap.objs.size) { s with heap:=h',toks:=tk }):wpAny (model prog w) A (call (.type "set") [.ref l]) Q E s:=by
 obtain ⟨⟨ocls,od,dt,sl⟩,hol,hc,n,hd⟩:=hl
 simp only at hc hd
 subst hc;subst hd
 exact AE4 hh hol hys hb APu APv (by decide) (fun A' s' hA e=>have hl':s'.heap.IsTuple l vs.toArray:=⟨_,e,rfl,n,rfl⟩;⟨_,_,fun E' Q' q=>wpAny_pyIter_tuple hl' q,Walks.tuple (A:=A'.in1) hA _ l (Nat.ne_of_lt (Heap.lt_size e)) vs.toArray,⟨_,Heap.get?_push_size _ rfl,rfl,rfl⟩,⟨_,Heap.get?_push_of_some _ e,rfl,n,rfl⟩⟩) h
end
noncomputable def AH2 (prog:Program) (w:World) (a:Addr) (ks:List Str):HO:=.ext fun h=>Txts prog w h a ks
noncomputable def AK0 (prog:Program) (w:World):List V→Hp→VK→Prop:=fun xs H Q=>∃ (p:Addr) (ss:List Str),xs=[.ref p]∧(H p=some (.lst (ss.map V.str))∨H p=some (.tup (ss.map V.str)))∧ss.length<4000∧∀ a:Addr,H a=none→Q (.ref a) (upd H a (AH2 prog w a (setT ss)))
noncomputable def AGs (prog:Program) (w:World):List V→Hp→VK→Prop:=fun xs H Q=>∃ (a:Addr) (ks:List Str),xs=[.ref a]∧H a=some (AH2 prog w a ks)∧ks.length<64∧∀ (l:Addr) (ss':List Str),H l=none→ss'.Perm ks→sortedS ss'=true→Q (.ref l) (upd H l (.lst (ss'.map V.str)))
section
variable {X:Cx} {pins:List (Addr×Obj)} {σ:St} {H:Hp} {s:Shared}
theorem Inv.dr {d:PySem.Drawn} (I:Inv X pins σ H s):Inv X pins σ H { s with drawn:=d }:=⟨I.ok,I.os,I.bare,I.base,I.loc,I.cell,I.free,I.freeC,I.pin,I.hok,I.len⟩
theorem AMW (hc:X.calm=true):AAs X (.type "set") (AK0 X.prog X.w):=by
 intro pins s σ H xs us Q I r h
 obtain ⟨p,ss,rfl,hp,hz,q⟩:=h
 obtain ⟨u,rfl,ru⟩:=r.one
 cases ru
 have fin:∀ (h':Heap) (tk:Nat),Txts X.prog X.w h' s.heap.objs.size (setT ss)→(∀ b o,s.heap.get? b=some o→h'.get? b=some o)→EP X pins σ Q (.ref s.heap.objs.size) { s with heap:=h',toks:=tk }:=fun h' tk tx k =>
  ⟨.ref s.heap.objs.size,_,I.laid (t':=tk) (o:=AH2 X.prog X.w s.heap.objs.size (setT ss)) k (Nat.le_refl _) ⟨tx,(let ⟨_,_,_,e,_⟩:=tx;⟨_,e⟩),fun h1 h2 x y=>x.at y⟩,rfl,q _ (I.hok.fresh (Nat.le_refl _))⟩
 have hb:ss.length + 1<scanBound:=by show ss.length + 1<4096;lia
 rcases hp with hp | hp
 ·obtain ⟨its,r,pl,_⟩:=I.list (.of hp)
  exact AKy (I.ok.hd hc) pl.isList (ADT r) hb fin
 ·obtain ⟨its,r,tt,_⟩:=I.tuple (.of hp)
  exact AKz (I.ok.hd hc) tt (ADT r) hb fin
theorem AJX (hc:X.calm=true):AAs X (.builtin "sorted") (AGs X.prog X.w):=by
 intro pins s σ H xs us Q I r h
 obtain ⟨a,ks,rfl,ha,h64,q⟩:=h
 obtain ⟨u,rfl,ru⟩:=r.one
 cases ru
 obtain ⟨⟨es,ep,t,e,ok,_,hel,hp⟩,_⟩:=I.hok a _ ha
 have hz:es.size=ks.length:=by rw [←hp.length_eq];simp
 have hS:StrsAre (es.toList.map (·.2)) ((es.toList.map (·.2)).map strOf):=strsAre_map _ fun v hv=>by
  obtain ⟨x,hx,rfl⟩:=List.mem_map.mp hv
  obtain ⟨⟨k,hk,_⟩,_⟩:=hel x hx
  obtain ⟨_,tk,e⟩:=AI9 hk
  exact ⟨_,tk,e⟩
 have hpk:((es.toList.map (·.2)).map strOf).Perm ks:=by rw [List.map_map];exact hp
 obtain ⟨m,hm,_⟩:=I.loc
 refine AKx (I.ok.hd hc) e ok hS (by lia) fun h' tk dr D out ss' ep' nD k1 k2 k3 k4 k5=>?_
 have hDn:H D=none:=by
  cases e:H D with
  | none=>rfl
  | some o=>obtain ⟨u,e2⟩:=(I.hok D o e).there;exact absurd e2 (nD u)
 refine ⟨.ref D,_,(Inv.laidF (t':=tk) (o:=.lst (ss'.map V.str)) I hm (hm.at' fun o e=>k1 _ o e) (fun b u _ e=>k1 b u e) hDn nD ⟨?_,out,ep',AD6 k3,k2⟩).dr,rfl,q D ss' hDn (k4.trans hpk) k5⟩
 rw [List.length_map,(k4.trans hpk).length_eq]
 exact Nat.le_of_lt (ABh (by lia))
end
theorem AMX {ks:List Str} {y x:Str}:x∈ABQ ks y ↔ x∈ks∨x=y:=by
 unfold ABQ;split
 ·rename_i h
  exact ⟨.inl,fun z=>z.elim id fun e=>e ▸ h⟩
 ·simp
theorem AJY {ks:List Str} {y:Str} (h:ks.Nodup):(ABQ ks y).Nodup:=by
 unfold ABQ;split
 ·exact h
 ·rename_i n
  exact List.nodup_append.mpr ⟨h,by simp,fun a ha b hb e=>n (by rw [List.mem_singleton] at hb;rw [←hb,←e];exact ha)⟩
theorem AJB:∀ (ys ks:List Str) (x:Str),x∈ys.foldl ABQ ks ↔ x∈ks∨x∈ys
 | [],ks,x=>by simp
 | y :: r,ks,x=>by
  rw [List.foldl_cons,AJB r,AMX,List.mem_cons,or_assoc]
theorem AGI:∀ (ys ks:List Str),ks.Nodup→(ys.foldl ABQ ks).Nodup
 | [],ks,h=>h
 | y :: r,ks,h=>AGI r _ (AJY h)
theorem AJC:∀ (ys ks:List Str),(ys.foldl ABQ ks).length≤ks.length + ys.length
 | [],ks=>by simp
 | y :: r,ks=>by
  have:=AJC r (ABQ ks y)
  have h2:(ABQ ks y).length≤ks.length + 1:=by unfold ABQ;split <;> simp
  simp only [List.foldl_cons,List.length_cons]
  lia
theorem ANR {ys:List Str} {x:Str}:x∈setT ys ↔ x∈ys:=by unfold setT;rw [AJB];simp
theorem AK1 (ys:List Str):(setT ys).Nodup:=AGI ys [] List.Pairwise.nil
theorem ANS (ys:List Str):(setT ys).length≤ys.length:=by unfold setT;simpa using AJC ys []
def AC8:pC:=p1 fun x f K=>∃ ss:List Str,(x=.lst (ss.map P.str)∨x=.tup (ss.map P.str))∧ss.length<64∧∀ ss':List Str,ss'.Nodup→(∀ z,z∈ss' ↔ z∈ss)→SrtS ss'→K (.lst (ss'.map P.str)) .nw
def AOm:pC:=p1 fun x f K=>∃ ss:List Str,(x=.lst (ss.map P.str)∨x=.tup (ss.map P.str))∧ss.length<4000∧K (.int (setT ss).length) .fr
noncomputable def rSS (prog:Program) (w:World):List V→Hp→VK→Prop:=fun xs H Q=>AK0 prog w xs H fun v H1=>AGs prog w [v] H1 Q
section
variable {prog:Program} {w:World}
theorem ANT {W:Wd} {ρ:List S} {σ:St} {Hs H:Hp} {x:P} {f:Fl} {v:V} {ss:List Str} (ok:Ok W ρ σ H) (rv:RF W ρ σ Hs f H x v) (hx:x=.lst (ss.map P.str)∨x=.tup (ss.map P.str)):∃ p,v=.ref p∧(H p=some (.lst (ss.map V.str))∨H p=some (.tup (ss.map V.str))):=by
 rcases hx with rfl | rfl
 ·obtain ⟨p,us,rfl,c,r1⟩:=AAz ok rv
  rw [Rps.strs.mp r1] at c
  exact ⟨p,rfl,.inl c⟩
 ·obtain ⟨p,us,rfl,c,r1⟩:=ABo ok rv
  rw [Rps.strs.mp r1] at c
  exact ⟨p,rfl,.inr c⟩
theorem AMY:RefC (rSS prog w) AC8:=fun W ρ σ Hs H Q K xs vs ok st r hp q=>by
 unfold AC8 p1 at hp
 split at hp
 ·obtain ⟨v,rfl,rv⟩:=r.one
  obtain ⟨ss,hx,h64,hk⟩:=hp
  obtain ⟨p,rfl,hc⟩:=ANT ok rv hx
  refine ⟨p,ss,rfl,hc,by lia,fun a ha=>⟨a,setT ss,rfl,AAG,by have:=ANS ss;lia,fun l ss' hl h1 h2=>?_⟩⟩
  have s1:Step W.b W.a H (upd H a (AH2 prog w a (setT ss))):=Step.new ok.bag ha
  exact q _ _ _ _ (hk ss' (h1.nodup_iff.mpr (AK1 ss)) (fun z=>h1.mem_iff.trans ANR) (AGr h2)) (s1.trans (Step.new s1.bag hl)) (ACq (g:=.nw) (ok.step s1) (st.trans s1) (by simp) (by simp) (Rps.strs.mpr rfl) hl)
 ·exact hp.elim
section
variable {ι:Type} {Xs:ι→Cx} {a:Expr} {p:pA} {p1 p2 pos pos2:Pos}
theorem AER (hx:∀ i,(Xs i).prog=prog∧(Xs i).w=w) (hc:∀ i,(Xs i).calm=true) (hm:∀ i,(Xs i).mg "sorted"=none) (hm2:∀ i,(Xs i).mg "set"=none) (ha:QA Xs [a] p)
  (hg:∀ i,Gl (Xs i) "sorted":=by intro _;rfl) (hg2:∀ i,Gl (Xs i) "set":=by intro _;rfl) (he:∀ i,starEach [a] (Xs i).env=(false,eval a (Xs i).env) :: starEach [] (Xs i).env:=by intro _;rfl) :
  QE Xs (.Call (.Name "sorted" p1) [.Call (.Name "set" p2) [a] [] pos2] [] pos) (AEd AC8 p):=by
 obtain ⟨t,h1,h2⟩:=ha
 refine ⟨tCB (AGs prog w) (ABy (tCB (AK0 prog w) t) tNil),fun i=>?_,show RefE (tCB (rSS prog w) t) _ from AD9 AMY h2⟩
 have c1:=AJX (X:=Xs i) (hc i)
 have c2:=AMW (X:=Xs i) (hc i)
 rw [(hx i).1,(hx i).2] at c1 c2
 exact ACC c1 (hg i) (hm i) (show bootBuiltins _=some (.builtin "sorted") by decide +kernel) (AAL (ADz c2 (hg2 i) (hm2 i) (by decide +kernel) (h1 i) (by decide +kernel) (by decide +kernel) (he i) rfl) AAY rfl) (by decide +kernel) (by decide +kernel) rfl rfl
end
end
section
variable {X:Cx}
end
def pIsB:p2:=fun x _ y _ K=>∃ a b,x=.bl a∧y=.bl b∧K (.bl (decide (a=b))) .fr
noncomputable def minI (b:Int):List Int→Int
 | []=>b
 | p :: r=>if p<b then minI p r else minI b r
section
variable {X:Cx} {pins:List (Addr×Obj)} {σ:St}
end
def pAny:pC:=p1 fun x f K=>∃ bs:List Bool,x=.lst (bs.map P.bl)∧K (.bl (bs.any id)) .fr
def AQy (pe pd:pE):pE:=fun ρ K=>pe ρ fun x f=>pd ρ fun y g=>∃ rs:List Int,x=.lst (rs.map P.int)∧y.imm=true∧(rs=[]→K y .fr)∧∀ b r,rs=b :: r→K (.int (minI b r)) .fr
section
variable {ι:Type} {Xs:ι→Cx} {e d:Expr} {pe pd:pE} {p pos kpos:Pos}
end
end L2
namespace L2
open PySem PySem.Spec PyProof.Rows
noncomputable abbrev lc2 (elt tg iter tg2 iter2:Expr) (scope:Scope) (pos:Pos):Expr:=.ListComp elt [⟨tg,iter,[],0⟩,⟨tg2,iter2,[],0⟩] scope pos
theorem ANU (elt tg iter tg2 iter2:Expr) (scope:Scope) (pos:Pos) (it acc:Value) (env:Env):compTurn (lc2 elt tg iter tg2 iter2 scope pos) 0 it acc env=(do
  standAt iter.pos
  match ←pyNext it with
  | none=>pure (.done .next)
  | some v =>
   letOwnedTupleGo tg it v
   assign tg env v
   let x ←eval iter2 env
   standAt iter2.pos
   let x ←foldedSetIterable iter2 env x
   let i2 ←holding [x] (pyIter x)
   let _ ←runOwn (.compStart (lc2 elt tg iter tg2 iter2 scope pos) 1 i2 acc env) env
   again (.compLoop (lc2 elt tg iter tg2 iter2 scope pos) 0 it acc env)):=by rfl
theorem AOn (elt tg iter tg2 iter2:Expr) (scope:Scope) (pos:Pos) (it acc:Value) (env:Env):compTurn (lc2 elt tg iter tg2 iter2 scope pos) 1 it acc env=(do
  standAt iter2.pos
  match ←pyNext it with
  | none=>pure (.done .next)
  | some v =>
   letOwnedTupleGo tg2 it v
   assign tg2 env v
   (do let _ ←call (.builtin "list.append") [acc,←eval elt env])
   again (.compLoop (lc2 elt tg iter tg2 iter2 scope pos) 1 it acc env)):=by rfl
section
variable {prog:Program} {w:World} {A:Around} {R:Result→Shared→Prop} {s:Shared} {elt tg iter tg2 iter2:Expr} {scope:Scope} {pos:Pos} {it acc:Value} {env:Env}
theorem AOo (I:Nat→Shared→Prop)
  (turn:∀ n s,I n s→wpAny (model prog w) A (pyNext it) (fun r s₁=>match r with
   | none=>R (.ok .next) s₁
   | some v=>wpAny (model prog w) A (letOwnedTupleGo tg2 it v) (fun _ s₁'=>wpAny (model prog w) A (assign tg2 env v) (fun _ s₂ =>
     wpAny (model prog w) A (eval elt env) (fun x s₄=>wpAny (model prog w) A (call (.builtin "list.append") [acc,x]) (fun _ s₅=>∃ m,m<n∧I m s₅) (fun _ _=>False) s₄) (fun _ _=>False) s₂) (fun _ _=>False) s₁') (fun _ _=>False) s₁) (fun _ _=>False) s)
  (n:Nat) (h:I n s):codeAny (model prog w) A (.compLoop (lc2 elt tg iter tg2 iter2 scope pos) 1 it acc env) R s:=by
 refine codeAny_loop rfl I (fun n s hI=>?_) n h
 show wpAny _ A ((compTurn (lc2 elt tg iter tg2 iter2 scope pos) 1 it acc env).onRaise (fun x=>do noteFrame x env;theTreesLotGoes x)) _ _ s
 refine wpAny_noted ?_
 rw [AOn]
 refine wB (wpAny_standAt (wB (wpAny_mono (turn n s hI) (fun r s₁ h₁=>?_) fun _ _ h'=>h'.elim)))
 cases r with
 | none=>exact wP h₁
 | some v =>
  refine wB (wpAny_mono h₁ (fun _ s₁' h₁'=>?_) fun _ _ h'=>h'.elim)
  refine wB (wpAny_mono h₁' (fun _ s₂ h₂=>?_) fun _ _ h'=>h'.elim)
  exact wB (wB (wpAny_mono h₂ (fun x s₄ h₄=>wB (wpAny_mono h₄ (fun _ s₅ h₅=>wP (wP ⟨rfl,h₅⟩)) fun _ _ h'=>h'.elim)) fun _ _ h'=>h'.elim))
theorem ANV (h:codeAny (model prog w) A (.compLoop (lc2 elt tg iter tg2 iter2 scope pos) 1 it acc env) R s)
  (h2:wpAny (model prog w) A (pyIter it) (fun it' s'=>codeAny (model prog w) A (.compLoop (lc2 elt tg iter tg2 iter2 scope pos) 1 it' acc env) R s') (notedBy (model prog w) A env fun x s'=>R (.error x) s') s) :
  codeAny (model prog w) A (.compStart (lc2 elt tg iter tg2 iter2 scope pos) 1 it acc env) R s:=by
 refine codeAny_of_tree ?_
 show wpAny _ _ ((compStart (lc2 elt tg iter tg2 iter2 scope pos) 1 it acc env).onRaise (fun x=>do noteFrame x env;standAt theWindowsPlace)) _ _ s
 refine wpAny_notedAt ?_
 unfold compStart
 refine wpAny_ite ?_
 rw [if_neg (show ¬ (((clausesOf (lc2 elt tg iter tg2 iter2 scope pos))[1]?).elim false fun x=>x.is_async != 0)=true from Bool.false_ne_true)]
 refine wB (wpAny_askSetting (wpAny_ite ?_))
 split
 ·exact wP ⟨rfl,h⟩
 ·refine wB (wpAny_rule (?_:wpAny _ _ (standAt iter2.pos >>= _) _ _ s))
  exact wB (wpAny_standAt (wB (wpAny_mono h2 (fun it' s' h'=>wP ⟨rfl,h'⟩) fun _ _ x=>x)))
theorem ANW (hs:∀ x,foldedSetIterable iter2 env x=pure x) (I:Nat→Shared→Prop)
  (turn:∀ n s,I n s→wpAny (model prog w) A (pyNext it) (fun r s₁=>match r with
   | none=>R (.ok .next) s₁
   | some v=>wpAny (model prog w) A (letOwnedTupleGo tg it v) (fun _ s₁'=>wpAny (model prog w) A (assign tg env v) (fun _ s₂ =>
     wpAny (model prog w) A (eval iter2 env) (fun x s₄=>wpAny (model prog w) A (pyIter x) (fun i2 s₅=>codeAny (model prog w) A (.compStart (lc2 elt tg iter tg2 iter2 scope pos) 1 i2 acc env) (fun r s₆=>r=.ok .next∧∃ m,m<n∧I m s₆) s₅) (fun _ _=>False) s₄) (fun _ _=>False) s₂) (fun _ _=>False) s₁') (fun _ _=>False) s₁) (fun _ _=>False) s)
  (n:Nat) (h:I n s):codeAny (model prog w) A (.compLoop (lc2 elt tg iter tg2 iter2 scope pos) 0 it acc env) R s:=by
 refine codeAny_loop rfl I (fun n s hI=>?_) n h
 show wpAny _ A ((compTurn (lc2 elt tg iter tg2 iter2 scope pos) 0 it acc env).onRaise (fun x=>do noteFrame x env;theTreesLotGoes x)) _ _ s
 refine wpAny_noted ?_
 rw [ANU]
 refine wB (wpAny_standAt (wB (wpAny_mono (turn n s hI) (fun r s₁ h₁=>?_) fun _ _ h'=>h'.elim)))
 cases r with
 | none=>exact wP h₁
 | some v =>
  refine wB (wpAny_mono h₁ (fun _ s₁' h₁'=>?_) fun _ _ h'=>h'.elim)
  refine wB (wpAny_mono h₁' (fun _ s₂ h₂=>?_) fun _ _ h'=>h'.elim)
  refine wB (wpAny_mono h₂ (fun x s₄ h₄=>?_) fun _ _ h'=>h'.elim)
  refine wB (wpAny_standAt (wB (wpAny_of_eq (hs x) ?_)))
  refine wB (wpAny_holding (wpAny_mono h₄ (fun i2 s₅ h₅=>?_) fun _ _ h'=>h'.elim))
  refine wB (wpAny_runOwn (codeAny_mono h₅ fun r s₆ h₆=>?_))
  obtain ⟨rfl,h₆⟩:=h₆
  exact wP ⟨rfl,h₆⟩
end
def In2 (D:Addr) (M:List V→Hp→Prop) (i2:Nat) (te:TE) (ys:List V) (σ4:St) (J2:It) (H5:Hp):Prop:=∃ W2:Nat→Nat→List V→Hp→Prop,(∃ m2,W2 0 m2 ys H5)∧∀ k m2 zs H6,W2 k m2 zs H6→H6 D=some (.lst zs)∧((J2.stop k H6∧M zs H6)∨(J2.go k H6∧∃ M2:List V→Hp→Prop,(∀ us H',M2 us H'→∃ m',m'<m2∧W2 (k + 1) m' us H') ∧
 ∀ y H7,J2.yld k H6 y H7→te (σ4.set i2 (some y)) H7 fun z H9=>H9 D=some (.lst zs)∧zs.length<sizeLine∧M2 (zs ++ [z]) (upd H9 D (.lst (zs ++ [z])))))
def Run2 (J:It) (pick:List (Option Nat)) (i1:Nat) (wi2:TI) (i2:Nat) (te:TE) (σ:St) (Q:VK) (H1:Hp):Prop:=∀ D,H1 D=none→∃ W:Nat→Nat→List V→Hp→Prop,(∃ m,W 0 m [] (upd H1 D (.lst []))) ∧
 ∀ i m ys H2,W i m ys H2→H2 D=some (.lst ys)∧((J.stop i H2∧Q (.ref D) H2)∨(J.go i H2∧∃ M:List V→Hp→Prop,(∀ zs H',M zs H'→∃ m',m'<m∧W (i + 1) m' zs H') ∧
  ∀ x H3,J.yld i H2 x H3→wi2 ((L2.picked σ pick).set i1 (some x)) H3 (In2 D M i2 te ys ((L2.picked σ pick).set i1 (some x)))))
def AGJ (wi:TI) (pick:List (Option Nat)) (i1:Nat) (wi2:TI) (i2:Nat) (te:TE):TE:=fun σ H Q=>wi σ H fun J H1=>Run2 J pick i1 wi2 i2 te σ Q H1
section
variable {X:Cx} {N':List Str} {pick:List (Option Nat)} {elt tg iter tg2 iter2:Expr} {scope sc:Scope} {pos:Pos} {N:List Str} {wi wi2:TI} {i1 i2:Nat} {te:TE}
theorem AK2 {pins:List (Addr×Obj)} {s:Shared} {σ:St} {H:Hp} {Q:VK} {use:Option (Value→Sem Unit)} {QQ:Value→Shared→Prop}
  (S:CompScope N sc N' pick scope) (hN:X.N=N) (hsc:X.env.scope=sc) (hc:X.calm=true) (hi:PI X tg iter wi) (hp1:pick[i1]?=some none) (hp2:pick[i2]?=some none) (hne:i1≠i2) (hg:∀ p,PG (X.comp N' scope p) tg (ABU i1)) (hi2:∀ p,PI (X.comp N' scope p) tg2 iter2 wi2) (hg2:∀ p,PG (X.comp N' scope p) tg2 (ABU i2))
  (he:∀ p,PE (X.comp N' scope p) elt te) (hs:∀ x,foldedSetIterable iter X.env x=pure x) (hs2:∀ p x,foldedSetIterable iter2 (X.comp N' scope p).env x=pure x)
  (I:Inv X pins σ H s) (h:AGJ wi pick i1 wi2 i2 te σ H Q)
  (fin:∀ (D C:Addr) (H':Hp) (s':Shared) (m:Str→Option Value),Inv X pins σ H' s'→Q (.ref D) H'→H' C=none→C≠X.env.locals→X.s₀.heap.objs.size≤C→(∀ x c,X.env.cells.lookup x=some c→c≠C)→(∀ p∈X.pn ++ pins,p.1≠C)→s'.heap.Ns C m →
   compPost (model X.prog X.w) X.A X.xe use QQ (.ref D) C (.ok .next) s') :
  wpAny (model X.prog X.w) X.A (comprehension (lc2 elt tg iter tg2 iter2 scope pos) scope X.env (firstIterPos [⟨tg,iter,[],0⟩,⟨tg2,iter2,[],0⟩] pos) (newList []) false (eval iter X.env) use) QQ X.xe s:=by
 have hasC:∀ y∈scope.names,y.2=NameKind.free→∃ c,X.env.cells.lookup y.1=some c:=fun y hy e=>by
  have q:=S.has y hy e
  rw [←hsc] at q
  exact I.ok.has y.1 q
 refine wpAny_comprehension_free rfl hs (ADw hasC) S.kind S.names (thn (hi pins s σ H _ I h) fun v s1 h1=>thn h1 fun itv s2 h2=>?_)
 obtain ⟨it,fp,tn,J,H2,e,I2,T,st2,f2,q⟩:=h2
 subst e
 have fr2:H2 s2.heap.objs.size=none:=I2.fresh
 obtain ⟨W,⟨m0,w0⟩,turn⟩:=q s2.heap.objs.size fr2
 refine wpAny_newObj_type (T:="list") (wpAny_newFunctionEnv S.nocell (by intro y hy;simp at hy) (fun h₁ hns₁ hsb₁=>?_) S.kind)
 dsimp only at hns₁ hsb₁ ⊢
 have I3:Inv X pins σ (upd H2 s2.heap.objs.size (.lst [])) { s2 with heap:=s2.heap.push { cls:=.type "list",dict:=none,data:=.seq ([]:List Value).toArray } } :=
  I2.lnew (t':=s2.toks) (its:=[]) .nil (Nat.zero_le _)
 generalize hH3:s2.heap.push { cls:=.type "list",dict:=none,data:=.seq ([]:List Value).toArray }=G3 at hns₁ hsb₁ I3 ⊢
 have f3:∀ b∈fp,FpOk X pins (upd H2 s2.heap.objs.size (.lst [])) b:=fun b hb=>by
  obtain ⟨o,e,_⟩:=T.obj _ _ st2 b hb
  refine ⟨?_,(f2 b hb).2⟩
  rw [AAE (Nat.ne_of_lt (Heap.lt_size e))]
  exact (f2 b hb).1
 have hfo:∀ b∈fp,∃ o,G3.get? b=some o:=fun b hb=>by
  obtain ⟨o,e,_⟩:=T.obj _ _ st2 b hb
  exact ⟨o,hH3 ▸ Heap.get?_push_of_some _ e⟩
 have k34:∀ b o,G3.get? b=some o→h₁.get? b=some o:=fun b o e=>(hsb₁.2 b (Nat.ne_of_lt (Heap.lt_size e))).trans (Heap.get?_push_of_some _ e)
 have I4:=AFf (s4:={ s2 with heap:=h₁,toks:=s2.toks + ([]:List (Str×Value)).length }) S hN hsc I3 f3 hfo (Nat.le_refl G3.objs.size) k34 hns₁ rfl rfl
 have st4:tn 0 h₁:=T.keep _ _ _ st2 fun b hb o e=>k34 b o (hH3 ▸ Heap.get?_push_of_some _ e)
 have sz3:s2.heap.objs.size≤G3.objs.size:=by rw [←hH3,Heap.size_push];exact Nat.le_succ _
 generalize hp:(⟨clOf X.env.cells scope.names [],G3.objs.size,{ s2 with heap:=G3 },upd H2 s2.heap.objs.size (.lst []),fp,pins⟩:CompP)=p at I4
 have sub:∀ y c,(X.comp N' scope p).env.cells.lookup y=some c→X.env.cells.lookup y=some c:=fun y c e=>by
  subst hp
  rcases ADj (cs:=[]) e with q | q
  ·exact q
  ·simp at q
 -- what stays true of the iterator's objects
 have stat:∀ {H':Hp},(∀ b∈fp,H' b=none)→∀ b∈fp,FpOk (X.comp N' scope p) [] H' b:=fun hn b hb=>by
  refine ⟨hn b hb,fun z=>?_,fun z=>?_,.inl (by subst hp;exact hb),fun x c e=>(f2 b hb).2.2.2.2.1 x c (sub x c e),fun q hq=>?_⟩
  ·subst hp
   obtain ⟨o,e⟩:=hfo b hb
   have z:b=G3.objs.size:=z
   exact absurd (Heap.lt_size e) (by rw [z];exact Nat.lt_irrefl _)
  ·subst hp
   rcases List.mem_cons.mp (I2.stkSub b z) with q | q
   ·exact (f2 b hb).2.1 q
   ·exact (f2 b hb).2.2.1 q
  ·refine (f2 b hb).2.2.2.2.2 q ?_
   subst hp
   have hq:q∈(X.pn ++ pins) ++ []:=hq
   simpa using hq
 have loop:codeAny (model X.prog X.w) X.A (.compLoop (lc2 elt tg iter tg2 iter2 scope pos) 0 (.ref it) (.ref s2.heap.objs.size) (X.comp N' scope p).env)
   (compPost (model X.prog X.w) X.A X.xe use QQ (.ref s2.heap.objs.size) G3.objs.size) { s2 with heap:=h₁,toks:=s2.toks + ([]:List (Str×Value)).length }:=by
  refine ANW (hs2 p) (fun n s'=>∃ i ys H',Inv (X.comp N' scope p) [] (L2.picked σ pick) H' s'∧tn i s'.heap∧(∀ b∈fp,H' b=none)∧W i n ys H') ?_ m0 ⟨0,[],_,I4,st4,fun b hb=>(f3 b hb).1,w0⟩
  rintro n s5 ⟨i,ys,H5,I5,st5,fr5,w5⟩
  obtain ⟨hD,alt⟩:=turn i n ys H5 w5
  rcases alt with ⟨stop,qn⟩ | ⟨go,M,hM,step⟩
  ·refine thn (T.done (X.comp N' scope p) rfl rfl rfl hc i [] s5 _ H5 _ I5 (stat fr5) st5 stop) fun r s6 ⟨hr,I6⟩=>?_
   subst hr
   obtain ⟨m6,hn6,_⟩:=I6.loc
   have un:Un (frs X.stack) fp H2 H5 s2.heap s6.heap:=by
    have u1:Un (frs X.stack) fp H2 (upd H2 s2.heap.objs.size (.lst [])) s2.heap G3:=Un.laid (fun b o e=>hH3 ▸ Heap.get?_push_of_some _ e) (Nat.le_refl _) fr2
    have u2:=I6.base
    subst hp
    exact u1.trans u2
   have IO:Inv X pins σ H5 s6:=I2.call' (by have e:=I6.os;subst hp;exact e) un (by have e:=I6.hok;subst hp;exact e) I6.bare fun b hb=>⟨(f2 b hb).2.2.2.1,(f2 b hb).2.1,(f2 b hb).2.2.2.2.1,(f2 b hb).2.2.2.2.2⟩
   refine fin _ _ H5 s6 m6 IO qn ?_ ?_ ?_ ?_ ?_ ?_
   ·have e:=I6.free;subst hp;exact e
   ·exact Nat.ne_of_gt (Nat.lt_of_lt_of_le I2.lt sz3)
   ·exact Nat.le_trans I2.sz sz3
   ·intro x c e z
    obtain ⟨v,q⟩:=I2.cell x c e
    exact absurd (Nat.lt_of_lt_of_le q.lt sz3) (by rw [z];exact Nat.lt_irrefl _)
   ·intro q hq z
    exact absurd (Nat.lt_of_lt_of_le (Heap.lt_size (I2.pin q hq).1) sz3) (by rw [z];exact Nat.lt_irrefl _)
   ·subst hp;exact hn6
  ·refine thn (T.item (X.comp N' scope p) rfl rfl rfl hc i [] s5 _ H5 _ I5 (stat fr5) st5 go) fun r s6 ⟨u,hr,h6⟩=>?_
   subst hr
   refine thn h6 fun _ s7 ⟨x,H7,I7,r7,y7,st7,fr7⟩=>?_
   have I7':=I7.pinned (stat fr7) (T.obj _ _ st7)
   refine thn (hg p _ s7 _ H7 x u (fun σ' H'=>σ'=(L2.picked σ pick).set i1 (some x)∧wi2 σ' H' (In2 s2.heap.objs.size M i2 te ys σ')) I7' r7 ⟨rfl,step x H7 y7⟩) fun _ s8 ⟨σ8,H8,I8,e8,q8⟩=>?_
   have w8:∀ (k:Nat) v,(L2.picked σ pick)[k]?=some (some v)→σ8[k]?=some (some v):=fun k v e=>by
    rw [e8,List.getElem?_set_ne (fun z=>by subst z;rw [ABa hp1] at e;cases e)]
    exact e
   have n8:σ8[i2]?=some none:=by rw [e8,List.getElem?_set_ne hne];exact ABa hp2
   refine thn (hi2 p _ s8 σ8 H8 _ I8 q8) fun v2 s9 h9=>thn h9 fun itv2 s10 h10=>?_
   obtain ⟨it2,fp2,tn2,J2,H10,e10,I10,T2,st10,f10,W2,⟨m2,w20⟩,turn2⟩:=h10
   subst e10
   have back:∀ {H':Hp} {s':Shared},Inv (X.comp N' scope p) ([] ++ ACc fp s7.heap) σ8 H' s'→∀ {zs:List V},M zs H' →
     ∃ m,m<n∧∃ i ys H'',Inv (X.comp N' scope p) [] (L2.picked σ pick) H'' s'∧tn i s'.heap∧(∀ b∈fp,H'' b=none)∧W i m ys H'':=fun {H' s'} I' {zs} mz=>by
    obtain ⟨m',hm,w'⟩:=hM _ _ mz
    refine ⟨m',hm,i + 1,zs,H',?_,T.keep _ _ _ st7 fun b hb o e=>(I'.pin (b,o) (List.mem_append_right _ (List.mem_append_right _ (ABV hb e)))).1,fun b hb=>?_,w'⟩
    ·refine (I'.unpinned).weak ?_ w8
     rw [(I'.unpinned).len,I7.len]
    ·obtain ⟨o,e,d⟩:=T.obj _ _ st7 b hb
     exact (I'.pin (b,o) (List.mem_append_right _ (List.mem_append_right _ (ABV hb e)))).2.1
   have stat2:∀ {H':Hp},(∀ b∈fp2,H' b=none)→∀ b∈fp2,FpOk (X.comp N' scope p) ([] ++ ACc fp s7.heap) H' b:=fun hn b hb=>⟨hn b hb,(f10 b hb).2⟩
   have loop2:codeAny (model X.prog X.w) X.A (.compLoop (lc2 elt tg iter tg2 iter2 scope pos) 1 (.ref it2) (.ref s2.heap.objs.size) (X.comp N' scope p).env) (fun r s₆=>r=.ok .next∧∃ m,m<n∧∃ i ys H',Inv (X.comp N' scope p) [] (L2.picked σ pick) H' s₆∧tn i s₆.heap∧(∀ b∈fp,H' b=none)∧W i m ys H') s10:=by
    refine AOo (fun n2 s'=>∃ k zs H',Inv (X.comp N' scope p) ([] ++ ACc fp s7.heap) σ8 H' s'∧tn2 k s'.heap∧(∀ b∈fp2,H' b=none)∧W2 k n2 zs H') ?_ m2 ⟨0,ys,H10,I10,st10,fun b hb=>(f10 b hb).1,w20⟩
    rintro n2 s11 ⟨k,zs,H11,I11,st11,fr11,w11⟩
    obtain ⟨hD11,alt2⟩:=turn2 k n2 zs H11 w11
    rcases alt2 with ⟨stop2,m11⟩ | ⟨go2,M2,hM2,step2⟩
    ·refine thn (T2.done (X.comp N' scope p) rfl rfl rfl hc k _ s11 _ H11 _ I11 (stat2 fr11) st11 stop2) fun r s12 ⟨hr,I12⟩=>?_
     subst hr
     exact ⟨rfl,back I12 m11⟩
    ·refine thn (T2.item (X.comp N' scope p) rfl rfl rfl hc k _ s11 _ H11 _ I11 (stat2 fr11) st11 go2) fun r s12 ⟨u2,hr,h12⟩=>?_
     subst hr
     refine thn h12 fun _ s13 ⟨x2,H13,I13,r13,y13,st13,fr13⟩=>?_
     have I13':=I13.pinned (stat2 fr13) (T2.obj _ _ st13)
     refine thn (hg2 p _ s13 _ H13 x2 u2 (fun σ' H'=>σ'=σ8.set i2 (some x2)∧te σ' H' fun z H14=>H14 s2.heap.objs.size=some (.lst zs)∧zs.length<sizeLine∧M2 (zs ++ [z]) (upd H14 s2.heap.objs.size (.lst (zs ++ [z])))) I13' r13 ⟨rfl,step2 x2 H13 y13⟩) fun _ s14 ⟨σ14,H14,I14,e14,q14⟩=>?_
     refine thn (he p _ s14 σ14 H14 _ I14 q14) fun v s15 ⟨z,H15,I15,r15,hD15,hz15,q15⟩=>?_
     refine thn (ACd (X:=X.comp N' scope p) _ s15 σ14 H15 (.ref s2.heap.objs.size) [z] _ [v] (fun _ H'=>M2 (zs ++ [z]) H') I15 rfl (.cons r15 .nil) ⟨_,zs,z,rfl,rfl,hD15,hz15,q15⟩) fun w s16 ⟨z',H16,I16,r16,q16⟩=>?_
     obtain ⟨m',hm',w'⟩:=hM2 _ _ q16
     refine ⟨m',hm',k + 1,zs ++ [z],H16,?_,T2.keep _ _ _ st13 fun b hb o e=>(I16.pin (b,o) (List.mem_append_right _ (List.mem_append_right _ (ABV hb e)))).1,fun b hb=>?_,w'⟩
     ·refine (I16.unpinned).weak ?_ fun k v e=>?_
      ·rw [(I16.unpinned).len,I13.len]
      ·rw [e14,List.getElem?_set_ne (fun z=>by subst z;rw [n8] at e;cases e)]
       exact e
     ·obtain ⟨o,e,d⟩:=T2.obj _ _ st13 b hb
      exact (I16.pin (b,o) (List.mem_append_right _ (List.mem_append_right _ (ABV hb e)))).2.1
   exact ANV loop2 (T2.self _ 0 _ _ _ st10 loop2)
 subst hp
 exact codeAny_compStart_list loop (T.self _ 0 _ _ _ st4 loop)
theorem ANX (S:CompScope N sc N' pick scope) (hc:X.calm=true) (hi:PI X tg iter wi) (hp1:pick[i1]?=some none) (hp2:pick[i2]?=some none) (hne:i1≠i2) (hg:∀ p,PG (X.comp N' scope p) tg (ABU i1)) (hi2:∀ p,PI (X.comp N' scope p) tg2 iter2 wi2) (hg2:∀ p,PG (X.comp N' scope p) tg2 (ABU i2))
  (he:∀ p,PE (X.comp N' scope p) elt te) (hN:X.N=N:=by rfl) (hsc:X.env.scope=sc:=by rfl) (hs:∀ x,foldedSetIterable iter X.env x=pure x:=by intro _;rfl) (hs2:∀ p x,foldedSetIterable iter2 (X.comp N' scope p).env x=pure x:=by intro _ _;rfl) :
  PE X (lc2 elt tg iter tg2 iter2 scope pos) (AGJ wi pick i1 wi2 i2 te):=by
 intro pins s σ H Q I h
 rw [eval_ListComp]
 refine AK2 S hN hsc hc hi hp1 hp2 hne hg hi2 hg2 he hs hs2 I h fun D C H' s' m IO q n1 n2 n3 n4 n5 hn=>?_
 exact ⟨m,hn,fun h' hs'=>⟨.ref D,H',IO.turned (t':=s'.toks) (fun b o hb e=>(hs'.2 b hb).trans e) n1 (Ne.symm (Ne.symm n2)) (.inr n3) n4 n5,rfl,q⟩⟩
end
def AH3 (pi:pI):pE:=fun ρ K=>pi ρ fun xs f _=>f≠.bo∧∃ rs:List (List Str),xs=rs.map nmP∧rs.flatten.length≤1000000∧K (.lst (rs.flatten.map P.str)) .nw
theorem APw {W:Wd} {ρ:List S} {σ:St} {Hs H:Hp} {f:Fl} {ns:List Str} {v:V} (hf:f≠.bo) (h:RF W ρ σ Hs f H (nmP ns) v):∃ a,v=.ref a∧H a=some (.tup (ns.map V.str)):=by
 have k:∀ {Z:Addr→Prop},Rp W.b Z H (nmP ns) v→∃ a,v=.ref a∧H a=some (.tup (ns.map V.str)):=fun {Z} h=>by
  obtain ⟨a,us,rfl,hc,hr⟩:=h
  rw [Rps.strs.mp hr] at hc
  exact ⟨a,rfl,hc⟩
 cases f with
 | bo=>exact absurd rfl hf
 | nw=>exact k h.1
 | fr=>exact k h
 | cl=>exact k h
 | rf=>exact k h
 | an=>exact k h
theorem AHe {α:Type} {l:List α} {i:Nat} (h:i<l.length):l.take (i + 1)=l.take i ++ [l[i]]:=by
 apply List.ext_getElem?
 intro k
 rw [List.getElem?_append,List.getElem?_take,List.getElem?_take,List.length_take]
 by_cases h1:k<i
 ·simp [h1,Nat.lt_succ_of_lt h1,show k<min i l.length by lia]
 ·by_cases h2:k=i
  ·subst h2;simp [h,show ¬ k<min k l.length by lia,show k - min k l.length=0 by lia]
  ·simp [show ¬ k<i + 1 by lia,show ¬ k<min i l.length by lia,show k - min i l.length≠0 by lia]
theorem AES {rs:List (List Str)} {i:Nat} (h:i<rs.length):(rs.take (i + 1)).flatten=(rs.take i).flatten ++ rs[i]:=by
 rw [AHe h,List.flatten_append,List.flatten_cons,List.flatten_nil,List.append_nil]
theorem AOp {rs:List (List Str)} {i:Nat}:((rs.take i).flatten).length≤rs.flatten.length:=by
 have:=List.take_append_drop i rs
 have e:rs.flatten=(rs.take i).flatten ++ (rs.drop i).flatten:=by rw [←List.flatten_append,this]
 rw [e,List.length_append]
 lia
theorem AMZ {wi:TI} {pi:pI} {pick:List (Option Nat)} {i1 i2:Nat} {Kf:PySem.W.Frag} (hp1:pick[i1]?=some none) (hp2:pick[i2]?=some none) (hne:i1≠i2) (hi:RefI wi pi):RefE (AGJ wi pick i1 (iTup Kf (tVar i1)) i2 (tVar i2)) (AH3 pi):=by
 intro W ρ σ H Q K ok hk q
 refine hi W ρ σ H _ _ ok hk fun xs f _ J H1 ⟨hfb,rs,hxs,hlen,hend⟩ s1 jC _=>?_
 subst hxs
 have ok1:=ok.step s1
 have stD:∀ {D H2},H1 D=none→Step W.b W.a H1 H2→∀ {o},Step W.b W.a H1 (upd H2 D o):=fun {D H2} hD s {o}=>⟨s.bag.put (ok1.bag.nb hD) (ok1.bag.na hD),fun p u hp e=>by rw [AAE (AAJ e hD)];exact s.same p u hp e⟩
 intro D hD
 have nDb:=ok1.bag.nb hD
 have len1:∀ v:V,((L2.picked σ pick).set i1 (some v))[i1]?=some (some v):=fun v=>by
  have:=ABa (σ:=σ) hp1
  have hl:i1<(L2.picked σ pick).length:=(List.getElem?_eq_some_iff.mp this).1
  rw [List.getElem?_set_self hl]
 have len2:∀ v u:V,(((L2.picked σ pick).set i1 (some v)).set i2 (some u))[i2]?=some (some u):=fun v u=>by
  have:=ABa (σ:=σ) hp2
  have hl:i2<((L2.picked σ pick).set i1 (some v)).length:=by rw [List.length_set];exact (List.getElem?_eq_some_iff.mp this).1
  rw [List.getElem?_set_self hl]
 refine ⟨fun i m ys H2=>m=rs.length - i∧i≤rs.length∧ys=((rs.take i).flatten).map V.str∧H2 D=some (.lst ys)∧Step W.b W.a H1 H2,⟨rs.length,by simp,Nat.zero_le _,by simp,AAG,stD hD (Step.refl ok1.bag)⟩,?_⟩
 rintro i m ys H2 ⟨rfl,hi,rfl,eD,s2⟩
 refine ⟨eD,?_⟩
 have ok2:=ok1.step s2
 obtain ⟨j1,j2,j3⟩:=jC (fun p=>W.O p∨p=D) ρ σ H2 ⟨fun p z=>z.elim .inl fun z=>.inr (z ▸ hD),rfl,rfl,ok2,s2⟩ i
 rw [List.length_map] at j1 j2
 by_cases hlt:i<rs.length
 ·refine .inr ⟨j1 hlt,fun zs H'=>zs=((rs.take (i + 1)).flatten).map V.str∧H' D=some (.lst zs)∧Step W.b W.a H1 H',fun zs H' ⟨z1,z2,z3⟩=>⟨rs.length - (i + 1),by lia,rfl,hlt,z1,z2,z3⟩,fun v H3 y=>?_⟩
  obtain ⟨y1,y2⟩:=j3 v H3 y (nmP rs[i]) (by rw [List.getElem?_map,List.getElem?_eq_getElem hlt];rfl)
  obtain ⟨a,rfl,ha⟩:=APw hfb y2
  have s3:=s2.trans y1
  have eD3:=y1.same D _ nDb eD
  have hDa:a≠D:=fun z=>by rw [z,eD3] at ha;cases ha
  refine ⟨_,len1 _,a,rfl,⟨_,.of ha⟩,?_⟩
  refine ⟨fun k m2 zs H6=>m2=rs[i].length - k∧k≤rs[i].length∧zs=((rs.take i).flatten ++ rs[i].take k).map V.str∧H6 D=some (.lst zs)∧H6 a=some (.tup (rs[i].map V.str))∧Step W.b W.a H1 H6,⟨rs[i].length,by simp,Nat.zero_le _,by simp,eD3,ha,s3⟩,?_⟩
  rintro k m2 zs H6 ⟨rfl,hk,rfl,eD6,ha6,s6⟩
  refine ⟨eD6,?_⟩
  by_cases hk2:k<rs[i].length
  ·refine .inr ⟨⟨_,V.str rs[i][k],.of ha6,by rw [List.getElem?_map,List.getElem?_eq_getElem hk2];rfl⟩,fun us H'=>us=((rs.take i).flatten ++ rs[i].take (k + 1)).map V.str∧H' D=some (.lst us)∧H' a=some (.tup (rs[i].map V.str))∧Step W.b W.a H1 H',fun us H' ⟨z1,z2,z3,z4⟩=>⟨rs[i].length - (k + 1),by lia,rfl,hk2,z1,z2,z3,z4⟩,fun u H7 ⟨e7,y7⟩=>?_⟩
   subst e7
   have eu:u=V.str rs[i][k]:=by
    have:=y7 _ (.of ha6)
    rw [List.getElem?_map,List.getElem?_eq_getElem hk2] at this
    exact (Option.some.inj this).symm
   subst eu
   have e8:((rs.take i).flatten ++ rs[i].take k).map V.str ++ [V.str rs[i][k]]=((rs.take i).flatten ++ rs[i].take (k + 1)).map V.str:=by
    rw [AHe hk2,←List.append_assoc,List.map_append (l₂:=[rs[i][k]])]
    rfl
   refine ⟨_,len2 _ _,eD6,?_,?_⟩
   ·have h1:=AOp (rs:=rs) (i:=i + 1)
    rw [AES hlt] at h1
    have e16:sizeLine=16777216:=rfl
    have h3:(rs[i].take k).length≤rs[i].length:=by rw [List.length_take];lia
    simp only [List.length_map,List.length_append] at h1 ⊢
    lia
   ·rw [e8]
    exact ⟨rfl,AAG,by rw [AAE hDa];exact ha6,stD hD s6⟩
  ·have e:k=rs[i].length:=by lia
   subst e
   refine .inl ⟨⟨_,.of ha6,by simp⟩,?_⟩
   have e9:(rs.take (i + 1)).flatten=(rs.take i).flatten ++ rs[i].take rs[i].length:=by rw [AES hlt,List.take_length]
   rw [e9]
   exact ⟨rfl,eD6,s6⟩
 ·have e:i=rs.length:=by lia
  subst e
  rw [List.take_length] at eD
  refine .inl ⟨j2 (Nat.le_refl _),q _ .nw _ H2 hend (s1.trans s2) ?_⟩
  have nz:∀ g,¬ Zof W ρ σ g D:=fun g z=>ok1.dom z hD
  exact ⟨⟨D,_,rfl,nz .fr,eD,Rps.strs.mpr rfl⟩,fun _=>⟨D,rfl,s1.free hD⟩⟩
section
variable {ι:Type} {Xs:ι→Cx} {N' N:List Str} {pick:List (Option Nat)} {iter:Expr} {scope sc:Scope} {pos p1 p2 p3 p4:Pos} {pi:pI} {x y:Str}
theorem AOq {i1 i2:Nat} {Kf:PySem.W.Frag} (S:CompScope N sc N' pick scope) (hc:∀ i,(Xs i).calm=true) (hK:∀ i,(Xs i).K=Kf) (hp1:pick[i1]?=some none) (hp2:pick[i2]?=some none) (hne:i1≠i2) (hi:QI Xs (.Name x p1) iter pi) (nd:N'.Nodup) (n1:N'[i1]?=some x) (n2:N'[i2]?=some y)
  (hx:∀ q:ι×CompP,Loc ((Blk Xs N' scope) q).env.scope x:=by intro _;trivial) (hy:∀ q:ι×CompP,Loc ((Blk Xs N' scope) q).env.scope y:=by intro _;trivial)
  (fx:∀ q:ι×CompP,((Blk Xs N' scope) q).fn x=true∨((Blk Xs N' scope) q).env.scope.names.lookup x=some .local:=by intro _;trivial) (fy:∀ q:ι×CompP,((Blk Xs N' scope) q).fn y=true∨((Blk Xs N' scope) q).env.scope.names.lookup y=some .local:=by intro _;trivial)
  (vx:∀ q:ι×CompP,Vis ((Blk Xs N' scope) q).env.scope x:=by intro _;trivial) (vy:∀ q:ι×CompP,Vis ((Blk Xs N' scope) q).env.scope y:=by intro _;trivial)
  (dx:(x == ("__debug__":Str))=false:=by decide) (dy:(y == ("__debug__":Str))=false:=by decide) (cx:(x == ("__classdict__":Str))=false:=by decide) (cy:(y == ("__classdict__":Str))=false:=by decide)
  (hN:∀ i,(Xs i).N=N:=by intro _;rfl) (hsc:∀ i,(Xs i).env.scope=sc:=by intro _;rfl) (hs:∀ i,∀ x,foldedSetIterable iter (Xs i).env x=pure x:=by intro _ _;rfl) :
  QE Xs (lc2 (.Name y p4) (.Name x p1) iter (.Name y p2) (.Name x p3) scope pos) (AH3 pi):=by
 obtain ⟨wi,w1,w2⟩:=hi
 refine ⟨AGJ wi pick i1 (iTup Kf (tVar i1)) i2 (tVar i2),fun i=>?_,AMZ hp1 hp2 hne w2⟩
 refine ANX S (hc i) (w1 i) hp1 hp2 hne (fun p=>AAf (i:=i1) nd n1 (hx (i,p)) (fx (i,p))) (fun p=>?_) (fun p=>AAf (i:=i2) nd n2 (hy (i,p)) (fy (i,p))) (fun p=>AB2 n2 (vy (i,p)) dy cy) (hN i) (hsc i) (hs i) (fun _ _=>rfl)
 have:=ALJ (X:=(Xs i).comp N' scope p) (tg:=.Name y p2) (AB2 (pos:=p3) n1 (vx (i,p)) dx cx)
 rw [show ((Xs i).comp N' scope p).K=Kf from hK i] at this
 exact this
end
section
variable {M:Model} {A:Around} {E:Value→Shared→Prop} {s:Shared}
end
structure CompScopeC (N:List Str) (sc:Scope) (N':List Str) (pick:List (Option Nat)) (scope:Scope):Prop where
 kind:scope.kind=.function
 cell:∀ y∈scope.names,y.2=NameKind.cell→scope.names.lookup y.1=some .cell
 names:∀ y∈scope.names,y.2=NameKind.local→scope.names.lookup y.1=some .local
 free:∀ y∈scope.names,y.2=NameKind.free→scope.names.lookup y.1=some .free
 has:∀ y∈scope.names,y.2=NameKind.free→(sc.names.lookup y.1=some .cell∨sc.names.lookup y.1=some .free)
 len:pick.length=N'.length
 cap:∀ q∈pick.zip N',q.1=none∨(N[q.1.getD 0]?=some q.2∧(q.2,NameKind.free)∈scope.names)
section
variable {X:Cx} {N':List Str} {pick:List (Option Nat)} {elt tg iter:Expr} {ifs:List Expr} {scope sc:Scope} {pos:Pos} {N:List Str} {wi:TI} {g:TG} {tt:TT} {te:TE}
end
section
variable {X:Cx} {N':List Str} {pick:List (Option Nat)} {elt tg iter:Expr} {ifs:List Expr} {scope sc:Scope} {pos:Pos} {N:List Str} {wi:TI} {g:TG} {tt:TT} {te:TE}
end
section
variable {ι:Type} {Xs:ι→Cx} {N' N:List Str} {pick:List (Option Nat)} {elt tg iter:Expr} {ifs:List Expr} {scope sc:Scope} {pos:Pos} {pi:pI} {pg:pG} {pt:pT} {pe:pE}
end
end L2
namespace L2
open PySem PySem.Spec PyProof.Rows PySem.W
section
variable {X:Cx}
end
def APx:pC:=p1 fun x f K=>∃ n:Int,x=.int n∧0≤n∧n≤1000∧K (.lst ((List.range n.toNat).map fun k:Nat=>P.int (k:Int))) .nw
section
variable {ι:Type} {Xs:ι→Cx} {a:Expr} {p:pA} {p1 p2 pos pos2:Pos}
end
def AK3 (pa pb:pE):pI:=fun ρ K=>pa ρ fun x f=>pb ρ fun y g=>∃ xs ys,x=.lst xs∧y=.lst ys∧P.imms xs=true∧K (List.zipWith ADI xs ys) g.el (stF f && stF g)
section
variable {ι:Type} {Xs:ι→Cx} {a b:Expr} {pa pb:pE} {pos p1 tp:Pos} {elts:List Expr} {x1:Nat} {Kf:PySem.W.Frag}
theorem AJ6 (hK:∀ i,(Xs i).K=Kf) (hm:∀ i,(Xs i).mg "zip"=none) (ha:QE Xs a pa) (hb:QE Xs b pb) (hg:∀ i,Gl (Xs i) "zip":=by intro _;rfl) (hs:∀ i,starEach [a,b] (Xs i).env=[(false,eval a (Xs i).env),(false,eval b (Xs i).env)]:=by intro _;rfl) (hs2:∀ i,starEach [b] (Xs i).env=[(false,eval b (Xs i).env)]:=by intro _;rfl) :
  QI Xs (.Tuple elts x1 tp) (.Call (.Name "zip" p1) [a,b] [] pos) (AK3 pa pb):=by
 obtain ⟨ta,a1,a2⟩:=ha
 obtain ⟨tb,b1,b2⟩:=hb
 refine ⟨ANz Kf (ABy ta (ABy tb tNil)),fun i=>?_,fun W ρ σ H R K ok hk q=>a2 W ρ σ H _ _ ok hk fun x f v H1 h1 s1 r1=>b2 W ρ σ H1 _ _ (ok.step s1) h1 fun y g u H2 ⟨xs,ys,e1,e2,i1,hk2⟩ s2 r2=>?_⟩
 ·have:=AOX (elts:=elts) (x1:=x1) (tp:=tp) (p:=p1) (pos:=pos) (hg i) (hm i) (AAL (a1 i) (AAL (b1 i) AAY (by rw [hs2 i];rfl)) (by rw [hs i,hs2 i])) (hs i) (hs2 i)
  rw [hK i] at this
  exact this
 ·subst e1;subst e2
  have s12:=s1.trans s2
  have ok2:=ok.step s12
  have r1':=r1.step (ok.step s1) s2
  obtain ⟨l1,vs,rfl,c1,rv1⟩:=AAz ok2 r1'
  obtain ⟨l2,us,rfl,c2,rv2⟩:=AAz ok2 r2
  have nb:∀ {f:Fl} {xs:List P} {l:Addr} {Hs:Hp},RF W ρ σ Hs f H2 (.lst xs) (.ref l)→l≠W.b:=fun r=>by
   obtain ⟨p',us',e1,e2,_⟩:=r.any ok2;cases e1;exact e2
  have nb1:=nb r1'
  have nb2:=nb r2
  have len1:=rv1.length
  have len2:=rv2.length
  have j2:=AHK (K:=Kf) ok2 r2 c2 rv2
  have core:∀ O' ρ' σ' H',(∀ i v H'',(Itl Kf l2).yld i H' v H''→∀ x,ys[i]?=some x→Step W.b W.a H' H''∧RF { W with O:=O' } ρ' σ' H' g.el H'' x v)→H' l1=some (.lst vs)→H' l2=some (.lst us)→(∀ p vs,H2 p=some (.tup vs)→H' p=some (.tup vs))→Bag H' W.b W.a→∀ i,(i<(List.zipWith ADI xs ys).length→(ItzL Kf l1 l2).go i H')∧((List.zipWith ADI xs ys).length≤i→(ItzL Kf l1 l2).stop i H') ∧
    ∀ v H'',(ItzL Kf l1 l2).yld i H' v H''→∀ x,(List.zipWith ADI xs ys)[i]?=some x→Step W.b W.a H' H''∧RF { W with O:=O' } ρ' σ' H' g.el H'' x v:=fun O' ρ' σ' H' hj g1 g2 gt hb i=>by
   refine ⟨fun hi=>?_,fun hi=>?_,fun v H'' yl x hx=>?_⟩
   ·rw [List.length_zipWith] at hi
    exact ⟨vs,us,.of g1,.of g2,by lia,by lia⟩
   ·rw [List.length_zipWith] at hi
    exact ⟨vs,us,.of g1,.of g2,by lia⟩
   ·obtain ⟨T,x',y',hT,rfl,rfl,e⟩:=yl
    obtain ⟨e1,e2⟩:=e vs us (.of g1) (.of g2)
    rw [List.getElem?_zipWith] at hx
    cases ex:xs[i]? with
    | none=>rw [ex] at hx;simp at hx
    | some px =>
     cases ey:ys[i]? with
     | none=>rw [ex,ey] at hx;simp at hx
     | some py =>
      rw [ex,ey] at hx
      have hx:ADI px py=x:=by simpa using hx
      subst hx
      obtain ⟨v1,a1,a2⟩:=rv1.get ex
      obtain ⟨v2,b1,b2⟩:=rv2.get ey
      rw [e1] at a1;cases a1
      rw [e2] at b1;cases b1
      have m1:px.imm=true:=AE9.mp i1 px (List.mem_of_getElem? ex)
      refine ⟨Step.new hb hT,?_⟩
      have k1:∀ {Z:Addr→Prop},Rp W.b Z (upd H' T (.tup [x',y'])) px x':=fun {Z}=>(((a2.imm m1:Rp W.b (fun _=>True) H2 px x').keep (Z':=fun _=>True) (H':=upd H' T (.tup [x',y'])) (fun p o hz=>absurd trivial hz) (fun p ws e=>by rw [AAE (AAJ (gt p ws e) hT)];exact gt p ws e)).imm m1)
      have r3:=(hj i y' H' ⟨rfl,fun zs hz=>by obtain ⟨_,e3⟩:=e vs zs (.of g1) hz;exact e3⟩ py ey).2
      have k2:∀ {Z:Addr→Prop},Rp W.b Z H' py y'→Rp W.b Z (upd H' T (.tup [x',y'])) py y':=fun {Z} r=>r.keep (fun p o hz e=>⟨hz,by rw [AAE (AAJ e hT)];exact e⟩) (fun p ws e=>by rw [AAE (AAJ e hT)];exact e)
      cases g with
      | bo=>exact ⟨T,[x',y'],rfl,AAG,x',[y'],rfl,k1,y',[],rfl,k2 r3,rfl⟩
      | nw=>exact ⟨T,[x',y'],rfl,AAG,x',[y'],rfl,k1,y',[],rfl,k2 r3,rfl⟩
      | fr=>exact ⟨T,[x',y'],rfl,AAG,x',[y'],rfl,k1,y',[],rfl,k2 r3,rfl⟩
      | cl=>exact ⟨T,[x',y'],rfl,AAG,x',[y'],rfl,k1,y',[],rfl,k2 r3,rfl⟩
      | rf=>exact ⟨T,[x',y'],rfl,AAG,x',[y'],rfl,k1,y',[],rfl,k2 r3,rfl⟩
      | an=>exact ⟨T,[x',y'],rfl,AAG,x',[y'],rfl,k1,y',[],rfl,k2 r3,rfl⟩
  refine ⟨l1,l2,vs,us,rfl,.of c1,.of c2,q _ _ _ _ H2 hk2 s12 (fun O' ρ' σ' H' hl i=>?_) (fun hst O' ρ' σ' H' hl i=>?_)⟩
  ·have hj:=fun i=>(j2.1 O' ρ' σ' H' hl i).2.2
   obtain ⟨_,rfl,rfl,ok',st⟩:=hl
   exact core O' _ _ H' hj (st.same l1 _ nb1 c1) (st.same l2 _ nb2 c2) (fun p ws e=>st.same p _ (ok2.bag.neT e).1 e) st.bag i
  ·rw [Bool.and_eq_true] at hst
   have hj:=fun i=>(j2.2 hst.2 O' ρ' σ' H' hl i).2.2
   obtain ⟨rfl,hl⟩:=hl
   have k1:=ADm ok2 hl (AFl hst.1)
   have k2:=ADm ok2 hl (AFl hst.2)
   have nz:∀ {f:Fl} {xs:List P} {l:Addr} {Hs:Hp},stF f=true→RF W ρ σ Hs f H2 (.lst xs) (.ref l)→¬ Zof W ρ σ f l:=fun {f xs l Hs} hf r=>by
    cases f with
    | nw=>obtain ⟨q,us,e1,e2,_⟩:=r.1;cases e1;exact e2
    | fr=>obtain ⟨q,us,e1,e2,_⟩:=r;cases e1;exact e2
    | cl=>obtain ⟨q,us,e1,e2,_⟩:=r;cases e1;exact e2
    | _=>simp [stF] at hf
   exact core _ _ _ H' hj (k1.1 l1 _ (nz hst.1 r1') c1).2 (k2.1 l2 _ (nz hst.2 r2) c2).2 k1.2 hl.bag i
end
end L2
open PySem L2
local macro_rules
 | `(tactic| simp_arith only [$ls,*] $[$l:location]?)=>`(tactic| simp only [pRet,AEd,AKP,pNil,AFn,AIV,AIU,AGa,pVar,pK,pOp,AFh,pAnd,pNot,AKS,pIfS,pSeq,AKT,AIQ,pAsg,pSet,AKU,pFn,p1,pLen,AFq,AHv,pII,CT,pIx,pCat,AGd,isTy,tyN,pEq,pNe,pInG,AId,AGf,AKd,ADX,AEF,ADY,pFrz,frzS,stF,AKQ,AKR,AB7,AAb,Fl.join,Fl.el,Fl.top,topF,retF,ACe,AB8,pAll,AFr,AEm,AKf,AGh,AIi,AFw,AIu,AHz,AH0,AF2,AF9,AEs,AF3,ADW,AFj,pFor,AIX,AC8,AH3,AK3,List.replicate,List.map_cons,List.map_nil,List.length_cons,List.length_nil,List.cons_append,List.nil_append,List.getElem?_cons_zero,List.getElem?_cons_succ,List.set_cons_zero,List.set_cons_succ,List.getElem?_nil,Option.getD_some,Option.getD_none,Nat.reduceAdd,Nat.reduceSub,Nat.sub_self,Nat.zero_add,if_true,if_false,Bool.false_eq_true,exists_eq_left,exists_eq_left',ite_self,exists_and_left,exists_and_right,exists_eq,exists_eq',exists_const,and_true,true_and,Option.some.injEq,P.int.injEq,P.str.injEq,P.bl.injEq,P.tup.injEq,P.lst.injEq,List.cons.injEq,Prod.mk.injEq,ne_eq,reduceCtorEq,not_false_eq_true,decide_true,decide_false,Bool.true_or,Bool.or_true,Bool.false_or,Bool.or_false,Bool.and_true,Bool.true_and,Bool.and_false,Bool.false_and,Bool.not_true,Bool.not_false,AJj,AJk,ALX,AJl,AJm,AJn,ALY,ALZ,AJo,AIN,ADD,AD7,ADE,AIO,AIj,AFy,AGk,AFx,AJp,ALa,ALb,AJq,AHE,AHF,AIb,AIc,ANy,ALr,ALs,ALt,AJu,AJv,AL2,AKi,AL1,List.all_cons,List.all_nil,AHR,AL3,AL4,AL5,AL7,AIn,AL8,Bool.not_eq_true',decide_eq_false_iff_not,decide_eq_true_eq,$ls,*] $[$l]?)
local macro_rules
 | `(tactic| simp_arith [$ls,*] $[$l:location]?)=>`(tactic| simp_arith only [AIr,AIs,AJz,AIt,List.length_map,exists_prop,and_assoc,forall_const,forall_eq,forall_eq_apply_imp_iff,$ls,*] $[$l]?)
namespace K
open PySem L2
noncomputable def top (i:Nat):Stmt:=PySem.Challenge.pw_roomtally_k21_whole_counts_judged.main.body.getD i (.Pass ⟨0,0,0,0⟩)
noncomputable abbrev ABj:Stmt:=top 4
theorem AK4:FnScope ["part","room"] ["part","room"] (AAC ABj):=⟨rfl,rfl,rfl,by decide +kernel,rfl,by decide +kernel,by decide +kernel⟩
noncomputable abbrev ABk:Stmt:=top 5
theorem AK5:FnScope ["room","part"] ["room","part"] (AAC ABk):=⟨rfl,rfl,rfl,by decide +kernel,rfl,by decide +kernel,by decide +kernel⟩
noncomputable abbrev ABl:Stmt:=top 6
theorem AK6:FnScope ["row","spots"] ["row","spots"] (AAC ABl):=⟨rfl,rfl,rfl,by decide +kernel,rfl,by decide +kernel,by decide +kernel⟩
noncomputable abbrev ABm:Stmt:=top 8
theorem ACm:FnScope ["papers","counts","row","count"] ["papers"] (AAC ABm):=⟨rfl,rfl,rfl,by decide +kernel,rfl,by decide +kernel,by decide +kernel⟩
noncomputable abbrev ABn:Stmt:=top 9
theorem AGK:FnScope ["room","rows","part","spots"] ["room","rows","part"] (AAC ABn):=⟨rfl,rfl,rfl,by decide +kernel,rfl,by decide +kernel,by decide +kernel⟩
noncomputable abbrev AAi:Stmt:=top 11
theorem AEu:FnScope ["rooms"] ["rooms"] (AAC AAi):=⟨rfl,rfl,rfl,by decide +kernel,rfl,by decide +kernel,by decide +kernel⟩
noncomputable abbrev ABE:Stmt:=top 13
theorem AET:FnScope ["rooms","tallies","rows","questions"] ["rooms","tallies","rows"] (AAC ABE):=⟨rfl,rfl,rfl,by decide +kernel,rfl,by decide +kernel,by decide +kernel⟩
noncomputable abbrev ABq:Stmt:=top 15
theorem ACa:FnScope ["_law_script","_law_salt","_law_one"] ["_law_script"] (AAC ABq):=⟨rfl,rfl,rfl,by decide +kernel,rfl,by decide +kernel,by decide +kernel⟩
noncomputable abbrev ABb:Stmt:=top 16
theorem ABg:FnScope ["_law_bag_here","_law_many_here","_law_seed","_law_mixed","_law_drawn_here"] ["_law_bag_here","_law_many_here"] (AAC ABb):=⟨rfl,rfl,rfl,by decide +kernel,rfl,by decide +kernel,by decide +kernel⟩
noncomputable abbrev ABF:Stmt:=top 17
theorem AEU:FnScope ["_law_bag_here","_law_size","_law_letters"] ["_law_bag_here","_law_size"] (AAC ABF):=⟨rfl,rfl,rfl,by decide +kernel,rfl,by decide +kernel,by decide +kernel⟩
noncomputable abbrev ABK:Stmt:=top 18
theorem AAw:FnScope ["_law_bag_here","_law_many_here","_law_letters","_law_found","_law_start","_law_k","_law_word_here","_law_step"] ["_law_bag_here","_law_many_here"] (AAC ABK):=⟨rfl,rfl,rfl,by decide +kernel,rfl,by decide +kernel,by decide +kernel⟩
noncomputable abbrev AAn:Stmt:=top 19
theorem AEv:FnScope ["_law_bag_here"] ["_law_bag_here"] (AAC AAn):=⟨rfl,rfl,rfl,by decide +kernel,rfl,by decide +kernel,by decide +kernel⟩
noncomputable abbrev ABG:Stmt:=top 20
theorem ABx:FnScope ["_law_bag_here","_law_names_here","_law_many_here","_law_name","_law_mask"] ["_law_bag_here","_law_names_here"] (AAC ABG):=⟨rfl,rfl,rfl,by decide +kernel,rfl,by decide +kernel,by decide +kernel⟩
noncomputable abbrev ABc:Stmt:=top 21
theorem AA3:FnScope ["_law_bag_here","_law_names_here","_law_many_here","_law_found","_law_spare","_law_k","_law_part_here","_law_fresh","_law_turn"] ["_law_bag_here","_law_names_here","_law_many_here"] (AAC ABc):=⟨rfl,rfl,rfl,by decide +kernel,rfl,by decide +kernel,by decide +kernel⟩
noncomputable abbrev AAp:Stmt:=top 22
theorem AAv:FnScope ["_law_bag_here","_law_names_here","_law_many_here","_law_row","_law_spare","_law_k","_law_found","_law_at","_law_name"] ["_law_bag_here","_law_names_here","_law_many_here"] (AAC AAp):=⟨rfl,rfl,rfl,by decide +kernel,rfl,by decide +kernel,by decide +kernel⟩
noncomputable abbrev AA4:Stmt:=top 23
theorem AA9:FnScope ["_law_bag_here","_law_names_here","_law_way","_law_many_here","_law_found","_law_turn"] ["_law_bag_here","_law_names_here"] (AAC AA4):=⟨rfl,rfl,rfl,by decide +kernel,rfl,by decide +kernel,by decide +kernel⟩
noncomputable abbrev AAq:Stmt:=top 24
theorem AGL:FnScope ["_law_bag_here","_law_size","_law_base"] ["_law_bag_here","_law_size","_law_base"] (AAC AAq):=⟨rfl,rfl,rfl,by decide +kernel,rfl,by decide +kernel,by decide +kernel⟩
noncomputable abbrev ABd:Stmt:=top 25
theorem AJD:FnScope ["_law_bag_here"] ["_law_bag_here"] (AAC ABd):=⟨rfl,rfl,rfl,by decide +kernel,rfl,by decide +kernel,by decide +kernel⟩
noncomputable abbrev AAr:Stmt:=top 26
theorem AGM:FnScope ["_law_counts"] ["_law_counts"] (AAC AAr):=⟨rfl,rfl,rfl,by decide +kernel,rfl,by decide +kernel,by decide +kernel⟩
noncomputable abbrev ABL:Stmt:=top 27
theorem ACA:FnScope ["_law_bag_here","_law_room","_law_counts","_law_base","_law_k"] ["_law_bag_here","_law_room"] (AAC ABL):=⟨rfl,rfl,rfl,by decide +kernel,rfl,by decide +kernel,by decide +kernel⟩
noncomputable abbrev AAx:Stmt:=top 28
theorem AGt:FnScope ["_law_room","_law_row","_law_part_here"] ["_law_room","_law_row","_law_part_here"] (AAC AAx):=⟨rfl,rfl,rfl,by decide +kernel,rfl,by decide +kernel,by decide +kernel⟩
noncomputable abbrev AA0:Stmt:=top 29
theorem ABY:FnScope ["_law_room","_law_rows","_law_part_here","_law_counts","_law_row","_law_count","_law_here"] ["_law_room","_law_rows","_law_part_here"] (AAC AA0):=⟨rfl,rfl,rfl,by decide +kernel,rfl,by decide +kernel,by decide +kernel⟩
noncomputable abbrev ABr:Stmt:=top 30
theorem AJZ:FnScope ["_law_one","_law_other"] ["_law_one","_law_other"] (AAC ABr):=⟨rfl,rfl,rfl,by decide +kernel,rfl,by decide +kernel,by decide +kernel⟩
noncomputable abbrev ABM:Stmt:=top 31
theorem ACB:FnScope ["_law_rooms_here","_law_found","_law_room"] ["_law_rooms_here"] (AAC ABM):=⟨rfl,rfl,rfl,by decide +kernel,rfl,by decide +kernel,by decide +kernel⟩
noncomputable abbrev ABN:Stmt:=top 32
theorem ABA:FnScope ["_law_bag_here","_law_room","_law_rows","_law_at","_law_row","_law_count","_law_many_here","_law_counts","_law_fresh"] ["_law_bag_here","_law_room","_law_rows"] (AAC ABN):=⟨rfl,rfl,rfl,by decide +kernel,rfl,by decide +kernel,by decide +kernel⟩
noncomputable abbrev ABO:Stmt:=top 33
theorem AHp:FnScope ["_law_found","_law_due"] ["_law_found","_law_due"] (AAC ABO):=⟨rfl,rfl,rfl,by decide +kernel,rfl,by decide +kernel,by decide +kernel⟩
noncomputable abbrev ABZ:Stmt:=top 34
theorem AA1:FnScope ["_law_script","_law_bag_here","_law_names_here","_law_rooms_here","_law_rows","_law_tallies","_law_every_here","_law_some","_law_way","_law_at","_law_due","_law_handed","_law_found"] ["_law_script"] (AAC ABZ):=⟨rfl,rfl,rfl,by decide +kernel,rfl,by decide +kernel,by decide +kernel⟩
section
variable {H H1 H2:Hp} {b a p D:Addr} {o:HO}
structure StepD (b a D:Addr) (H H':Hp):Prop where
 bag:Bag H' b a
 same:∀ p o,p≠b→p≠D→H p=some o→H' p=some o
 nb:D≠b
 na:D≠a
theorem StepD.new (h:Bag H b a) (n:H D=none):StepD b a D H (upd H D o) :=
 ⟨h.new n,fun p u _ _ e=>by rw [AAE (AAJ e n)];exact e,h.nb n,h.na n⟩
theorem StepD.step (s:StepD b a D H H1) (t:Step b a H1 H2):StepD b a D H H2:=⟨t.bag,fun p u n1 n2 e=>t.same p u n1 (s.same p u n1 n2 e),s.nb,s.na⟩
theorem StepD.put (s:StepD b a D H H1):StepD b a D H (upd H1 D o):=⟨s.bag.put s.nb s.na,fun p u n1 n2 e=>by rw [AAE n2];exact s.same p u n1 n2 e,s.nb,s.na⟩
theorem StepD.out (s:StepD b a D H H1) (n:H D=none):Step b a H H1:=⟨s.bag,fun p u n1 e=>s.same p u n1 (AAJ e n) e⟩
end
def AH4 (K:PySem.W.Frag):Sp:=fun vs H Q _=>∃ (a:Addr) (ns:List Int),vs=[.ref a]∧SqL K H a (ns.map V.int)∧∀ (b a':Addr) (H':Hp),H b=none→H a'=none→Bag H' b a'→Same H H'→Q (.ref b) H'
def AGN:Sp:=fun vs H Q _=>∃ (b a:Addr) (m:Int),vs=[.ref b,.int m]∧Bag H b a∧0<m∧m<2 ^ 64∧∀ (r:Int) (H':Hp),0≤r→r<m→Step b a H H'→Q (.int r) H'
def AJ7 (x:Str):Prop:=∀ c∈x.cps.toList,97≤c∧c≤122
def AMa:Sp:=fun vs H Q _=>∃ (b a:Addr) (n:Int),vs=[.ref b,.int n]∧Bag H b a∧0≤n∧n≤1000∧∀ (x:Str) (H':Hp),(x.length:Int)=n→AJ7 x→Step b a H H'→Q (.str x) H'
section
variable {P:Program} {w:World} {K:PySem.W.Frag} {mg:Str→Option Value} {base:Heap}
structure TxtB (mg:Str→Option Value):Prop where
 b_len:mg "len"=none
 b_list:mg "list"=none
 b_range:mg "range"=none
 b_isinstance:mg "isinstance"=none
 b_bool:mg "bool"=none
 b_int:mg "int"=none
 b_tuple:mg "tuple"=none
 b_all:mg "all"=none
 b_any:mg "any"=none
 b_sorted:mg "sorted"=none
 b_set:mg "set"=none
 b_sum:mg "sum"=none
 b_dict:mg "dict"=none
 b_zip:mg "zip"=none
 b_min:mg "min"=none
 b_max:mg "max"=none
theorem AN3 (ns:List Int):cutV (ns.map V.int) none (some 63)=(ns.take 63).map V.int:=by
 unfold cutV
 rw [List.map_take]
 simp [HT.sIx]
theorem APy (D:AAM K mg "_law_bag" ABq) (T:TxtB mg):Fn P w K mg base "_law_bag" 1 ["_law_script"] (AH4 K):=by
 refine AD5 D ACa (fun _ _ _ _ _ _ us hl=>ACP hl (fun _=>rfl)) (fun vs H Q E h=>?_) (fun f cdv A outer s H vs Q E hr h=>?_)
 ·obtain ⟨a,ns,rfl,_⟩:=h;rfl
 ·obtain ⟨a,ns,rfl,hS,k⟩:=h
  refine ⟨_,(AAX (ABI (i:=1) ACa.nd rfl (Or.inl rfl) (ACC AD4 (by rfl) T.b_len (by decide +kernel) (AAL (ACx AEc (pv 0) ADQ (ADR AAK)) AAY)))
 (AAX (AFU PassesOwn.never rfl (AJa (ACx AEc (pv 0) ADQ (ADR AAK))) (AAf (i:=2) ACa.nd rfl (Or.inl rfl))
 (ABR (ABI (i:=1) ACa.nd rfl (Or.inl rfl) (AAt ACu (AAt ABs (AAt ADP (pv 1) AAK) (pv 2)) AAK))))
 (ABR (ADO (AFX (AAL (ADz ABD (by rfl) T.b_list (by decide +kernel) (AAL (ACx AEc (pv 0) ADQ (ADR AAK)) AAY)) (AAL AAK (AAL AAK (AAL (pv 1) AAY))))))))),?_⟩
  refine ⟨_,rfl,63,rfl,a,ns.map V.int,rfl,hS,fun p hp=>?_⟩
  have s1:Same H (upd H p (.lst (cutV (ns.map V.int) none (some 63)))):=fun b o e=>by rw [AAE (AAJ e hp)];exact e
  refine ⟨p,_,rfl,AAG,?_⟩
  refine ⟨_,rfl,63,rfl,a,ns.map V.int,rfl,s1.seq hS,fun p2 hp2=>?_⟩
  rw [AN3] at *
  have s2:Same H (upd (upd H p (.lst ((ns.take 63).map V.int))) p2 (.lst ((ns.take 63).map V.int))):=s1.trans fun b o e=>by rw [AAE (AAJ e hp2)];exact e
  refine ⟨p2,rfl,⟨_,.of AAG⟩,AMr (K:=K) (a:=p2) (xs:=(ns.take 63).map V.int) (fun i σ H2=>∃ (z:Int) (v:Option V),σ=[some (.ref a),some (.int z),v]∧Same H H2∧H2 p2=some (.lst ((ns.take 63).map V.int)))
   ⟨_,_,rfl,s2,AAG⟩ (fun i σ H2 _ ⟨_,_,_,_,e⟩=>.of e) ?_ ?_⟩
  ·rintro i y σ H2 hi ⟨z,v,rfl,s3,e3⟩
   obtain ⟨n,hn,rfl⟩:∃ n,(ns.take 63)[i]?=some n∧y=V.int n:=by
    rw [List.getElem?_map] at hi
    cases e:(ns.take 63)[i]? with
    | none=>rw [e] at hi;cases hi
    | some n=>rw [e] at hi;exact ⟨n,rfl,(Option.some.inj hi).symm⟩
   simp [tAsg,ABU,tOp,rI,rI0,tVar,tC,CMul]
   exact ⟨s3,by simpa [List.map_take] using e3⟩
  ·rintro σ H2 ⟨z,v,rfl,s3,e3⟩
   refine ⟨_,rfl,63,rfl,a,ns.map V.int,rfl,s3.seq hS,fun p3 hp3=>?_⟩
   refine ⟨p3,_,rfl,.inl AAG,fun p4 hp4=>⟨_,rfl,(by show 4≤sizeLine;decide),fun b hb=>?_⟩⟩
   rw [AN3] at *
   have s4:Same H2 (upd H2 p3 (.lst ((ns.take 63).map V.int))):=fun b o e=>by rw [AAE (AAJ e hp3)];exact e
   have s5:=s4.trans (fun b o e=>by rw [AAE (AAJ e hp4)];exact e:Same _ (upd (upd H2 p3 (.lst ((ns.take 63).map V.int))) p4 (.lst ((ns.take 63).map V.int))))
   have s6:Same _ (upd (upd (upd H2 p3 (.lst ((ns.take 63).map V.int))) p4 (.lst ((ns.take 63).map V.int))) b (.lst [.ref p4,.int 0,.int 0,.int z])):=fun c o e=>by rw [AAE (AAJ e hb)];exact e
   have np:p4≠b:=AAJ (o:=.lst ((ns.take 63).map V.int)) AAG hb
   refine k b p4 _ ((s3.trans s5).free hb) ((s3.trans s4).free hp4) ⟨ns.take 63,0,0,z,AAG,?_,Int.le_refl _,np⟩ ((s3.trans s5).trans s6)
   rw [AAE np,AAG]
theorem AOr (D:AAM K mg "_law_pull" ABb) (T:TxtB mg):Fn P w K mg base "_law_pull" 1 ["_law_bag_here","_law_many_here"] AGN:=by
 refine AD5 D ABg (fun _ _ _ _ _ _ us hl=>ABf hl (fun _ _=>rfl)) (fun vs H Q E h=>?_) (fun f cdv A outer s H vs Q E hr h=>?_)
 ·obtain ⟨b,a,m,rfl,_⟩:=h
  rfl
 ·obtain ⟨b,a,m,rfl,⟨ns,i,c,z,hb,ha,hi,hab⟩,hm,hm2,k⟩:=h
  refine ⟨_,(AAX (AFS (ACp ANm (ABW ixF (pv 0) AAK (fun _ _=>rfl)) AAK (AAc _))
 (AAX (AN9 (pv 0) AAK AM1 AAK APD ADh)
 (AAX (ABI (i:=2) ABg.nd rfl (Or.inl rfl) (ABW ixF (pv 0) AAK (fun _ _=>rfl)))
 (AAX (AFS (ACp ANm (ABW ixF (pv 0) AAK (fun _ _=>rfl)) (ACC AD4 (by rfl) T.b_len (by decide +kernel) (AAL (ABW ixF (pv 0) AAK (fun _ _=>rfl)) AAY)) (AAc _))
 (ABR (ABI (i:=2) ABg.nd rfl (Or.inl rfl) (ABW ixF (ABW ixF (pv 0) AAK (fun _ _=>rfl)) (AAt AFV (ABW ixF (pv 0) AAK (fun _ _=>rfl)) AAK) (fun _ _=>rfl))))
 ADN)
 (AAX (AFS (PW.pt (AQC (ACp AHr (ABW ixF (pv 0) AAK (fun _ _=>rfl)) (ACC AD4 (by rfl) T.b_len (by decide +kernel) (AAL (ABW ixF (pv 0) AAK (fun _ _=>rfl)) AAY)) (AAc _)) (AO7 (ACp ANl (pv 2) (AAt ALL AAK AAK) (AAc _)))))
 (AAX (ABI (i:=3) ABg.nd rfl (Or.inl rfl) (AAt ACu (AAt ABs (AAt ABs (AAt ADP (pv 2) AAK) (AAt ADP (ABW ixF (pv 0) AAK (fun _ _=>rfl)) AAK)) AAK) AAK))
 (AAX (ABI (i:=3) ABg.nd rfl (Or.inl rfl) (AAt ACu (AAt ADP (pv 3) (pv 3)) AAK))
 (ABR (ADO (AAt ACu (AAt AIK (AAt ACu (AAt ADP (AAt ABs (pv 3) (ABW ixF (pv 0) AAK (fun _ _=>rfl))) AAK) AAK) AAK) (pv 1))))))
 ADN)
 (ABR (AFT (pv 2) (AH9 (pv 0) AAK ADh)))))))
 ADN)
 (AAX (ABI (i:=4) ABg.nd rfl (Or.inl rfl) (AAt ACu (ABW ixF (pv 0) AAK (fun _ _=>rfl)) (pv 1)))
 (AAX (AFT (AAt AIK (ABW ixF (pv 0) AAK (fun _ _=>rfl)) (pv 1)) (AH9 (pv 0) AAK ADh))
 (ABR (ADO (pv 4)))))),?_⟩
  have ua:∀ o,upd H b o a=some (HO.lst (List.map V.int ns)):=fun o=>by rw [AAE hab];exact ha
  have fin:∀ r i' c',0≤i'→Q (V.int (r % m)) (upd H b (bagO a i' c' z)):=fun r i' c' hi' =>
   k _ _ (Int.emod_nonneg _ (Int.ne_of_gt hm)) (Int.emod_lt_of_pos _ hm) ⟨⟨ns,i',c',z,AAG,ua _,hi',hab⟩,fun p o hp e=>by rw [AAE hp];exact e⟩
  have h1:0≤i + 1:=by lia
  have hm3:m<18446744073709551616:=hm2
  simp [tSeq,tIfS,AKF,tOp,rI0,rI,rIxF,tVar,tC,ANj,ipI,AKL,tAsg,ABU,tCB,ABy,tNil,ANi,tOr,tRet,gSub,L2.start,atI,ixN,CMul,CPow,hb,ha,ua,AAG,AGP,hm,hm2,hm3,List.replicate]
  split
  ·split
   ·have h2:1≤i + 1:=by lia
    have h3:i<ns.length:=by lia
    have h4:(i + 1).toNat - 1<ns.length:=by lia
    simp only [h2,h3,if_true,Option.bind_some,List.getElem?_eq_getElem h4,Option.map_some,Option.some.injEq,exists_eq_left',V.int.injEq,exists_eq_left]
    split
    ·exact ⟨by lia,fin _ _ _ h1⟩
    ·split
     ·exact ⟨by lia,fin _ _ _ h1⟩
     ·exact fin _ _ _ h1
   ·split
    ·exact ⟨by lia,fin _ _ _ h1⟩
    ·split
     ·exact ⟨by lia,fin _ _ _ h1⟩
     ·exact fin _ _ _ h1
  ·exact fin _ _ _ hi
theorem ANY {i:Int} (h0:0≤i) (h1:i<26):∃ c:Nat,atI (Str.ofString "abcdefghijklmnopqrstuvwxyz").cps.toList i=some c∧97≤c∧c≤122:=by
 obtain ⟨n,rfl⟩:=Int.eq_ofNat_of_zero_le h0
 have h:n<26:=by lia
 have e:(Str.ofString "abcdefghijklmnopqrstuvwxyz").cps.toList=[97,98,99,100,101,102,103,104,105,106,107,108,109,110,111,112,113,114,115,116,117,118,119,120,121,122]:=by decide +kernel
 rw [e]
 have q:∀ m:_root_.Fin 26,[97,98,99,100,101,102,103,104,105,106,107,108,109,110,111,112,113,114,115,116,117,118,119,120,121,122][m.val]?=some (97 + m.val):=by decide +kernel
 exact ⟨97 + n,ABS (q ⟨n,h⟩),by lia,by lia⟩
theorem AJE:∀ cs:List Nat,(cs.map ((fun x=>x.cps.toList) ∘ fun c=>(⟨#[c]⟩:Str))).flatten=cs
 | []=>rfl
 | x :: r=>by simp [AJE r]
theorem AOs (D:AAM K mg "_law_word" ABF) (T:TxtB mg) (Gf_law_pull:Fn P w K mg base "_law_pull" 1 ["_law_bag_here","_law_many_here"] AGN):Fn P w K mg base "_law_word" 2 ["_law_bag_here","_law_size"] AMa:=by
 refine AD5 D AEU (fun _ _ _ _ _ _ us hl=>ABf hl (fun _ _=>rfl)) (fun vs H Q E h=>?_) (fun f cdv A outer s H vs Q E hr h=>?_)
 ·obtain ⟨b,a,m,rfl,_⟩:=h
  rfl
 ·obtain ⟨b,a,n,rfl,hb,hn0,hn1,k⟩:=h
  refine ⟨_,(AAX (ABI (i:=2) AEU.nd rfl (Or.inr rfl) AH8)
 (ABR (ADO (AFa PySem.F.plainAttrs_str PySem.F.slot_str_join PySem.F.type_str_join AOL AH8 (AAL (AJg (N:=["_law_bag_here","_law_size","_law_letters"]) (sc:=AAC ABF) (N':=["_law_k","_law_letters","_law_bag_here"]) (pick:=[none,some 2,some 0]) ⟨rfl,by decide +kernel,by decide +kernel,by decide +kernel,by decide +kernel,rfl,by decide +kernel⟩ rfl (ADA (by rfl) T.b_range (AAL (pv 1) AAY)) (AEx rfl) (fun p=>(AAf (i:=0) (show List.Nodup (["_law_k","_law_letters","_law_bag_here"]:List Str) by decide +kernel) rfl (Or.inl rfl))) (fun p=>AIH) (fun p=>(ABW AIC (pv 1) (ADk Gf_law_pull (hr.mono (by decide)) (by rfl) (AAL (pv 2) (AAL AAK AAY))) (fun _ _=>rfl)))) AAY))))),?_⟩
  refine ⟨rfl,_,rfl,n,rfl,by lia,by lia,?_⟩
  refine AKO (Pv:=fun D i ys H2=>∃ cs:List Nat,ys=cs.map (fun c=>V.str ⟨#[c]⟩)∧cs.length=i∧(∀ c∈cs,97≤c∧c≤122)∧H2 D=some (.lst ys)∧StepD b a D H H2)
   (fun D hD=>⟨[],rfl,rfl,by simp,AAG,StepD.new hb hD⟩) (fun D i ys H2 _ _ ⟨cs,_,_,_,e,_⟩=>e) ?_ ?_
  ·rintro D hD i ys H2 hi ⟨cs,rfl,hl,hc,hD2,st⟩
   refine ⟨_,rfl,_,rfl,b,a,26,rfl,st.bag,by decide,by decide,fun r H3 h0 h1 st3=>?_⟩
   obtain ⟨c,hc1,hc2,hc3⟩:=ANY h0 h1
   refine ⟨_,r,c,rfl,rfl,by decide +kernel,hc1,?_⟩
   have hDb:D≠b:=hb.nb hD
   refine ⟨st3.same D _ hDb hD2,?_,cs ++ [c],by simp,by simp [hl],?_,AAG,(st.step st3).put⟩
   ·rw [List.length_map,hl];exact ABh (by lia)
   ·intro d hd
    rcases List.mem_append.mp hd with z | z
    ·exact hc d z
    ·rw [List.mem_singleton.mp z];exact ⟨hc2,hc3⟩
  ·rintro D ys H2 hD ⟨cs,rfl,hl,hc,hD2,st⟩
   refine ⟨⟨#[]⟩,D,cs.map (fun c=>⟨#[c]⟩),rfl,rfl,.of (by rw [List.map_map];exact hD2),?_,?_⟩
   ·have e:∀ l:List Nat,((l.map (fun c=>(⟨#[c]⟩:Str))).map (·.length)).sum=l.length:=fun l=>by
     induction l with
     | nil=>rfl
     | cons x r ih=>simp only [List.map_cons,List.sum_cons,ih,List.length_cons];show 1 + r.length=_;lia
    rw [e,List.length_map]
    show cs.length + cs.length * 0≤_
    lia
   ·have e:(Txt.join ⟨#[]⟩ (cs.map (fun c=>(⟨#[c]⟩:Str)))).cps.toList=cs:=by
     rw [AFg,List.map_map]
     exact AJE cs
    refine k _ H2 ?_ ?_ (st.out hD)
    ·have z:(Txt.join ⟨#[]⟩ (cs.map (fun c=>(⟨#[c]⟩:Str)))).cps.toList.length=cs.length:=by rw [e]
     have z2:(Txt.join ⟨#[]⟩ (cs.map (fun c=>(⟨#[c]⟩:Str)))).length=cs.length:=by rw [←z];exact Array.length_toList.symm
     lia
    ·intro c hcm
     rw [e] at hcm
     exact hc c hcm
end
def ACX (x:Str):Prop:=1≤x.length∧x.length≤8∧AJ7 x
def AJ8:Sp:=fun vs H Q _=>∃ (b a:Addr) (n:Int),vs=[.ref b,.int n]∧Bag H b a∧0≤n∧n≤9 ∧
 ∀ (p:Addr) (xs:List Str) (H':Hp),H p=none→H' p=some (.lst (xs.map V.str))→(xs.length:Int)=n→(∀ x∈xs,ACX x)→xs.Nodup→Step b a H H'→Q (.ref p) H'
theorem AMb {n:Nat} (h:n<26):atI (Str.ofString "abcdefghijklmnopqrstuvwxyz").cps.toList (n:Int)=some (97 + n):=by
 have e:(Str.ofString "abcdefghijklmnopqrstuvwxyz").cps.toList=[97,98,99,100,101,102,103,104,105,106,107,108,109,110,111,112,113,114,115,116,117,118,119,120,121,122]:=by decide +kernel
 rw [e]
 have q:∀ m:_root_.Fin 26,[97,98,99,100,101,102,103,104,105,106,107,108,109,110,111,112,113,114,115,116,117,118,119,120,121,122][m.val]?=some (97 + m.val):=by decide +kernel
 exact ABS (q ⟨n,h⟩)
noncomputable def ACb (pre:List Nat) (j:Nat):Str:=⟨(pre ++ [97 + j]).toArray⟩
theorem AMc {pre:List Nat} {i j:Nat} (h:ACb pre i=ACb pre j):i=j:=by
 have e:pre ++ [97 + i]=pre ++ [97 + j]:=by
  have:=congrArg (fun z:Str=>z.cps.toList) h
  simpa [ACb] using this
 have:=List.append_cancel_left e
 simp at this
 exact this
theorem AOt {pre:List Nat} {xs:List Str} (hl:xs.length<26) (h:∀ j,j<26→ACb pre j∈xs):False:=by
 have nd:((List.range 26).map (ACb pre)).Nodup:=by
  exact List.Pairwise.map (ACb pre) (fun i j ne e=>ne (AMc e)) List.nodup_range
 have sub:(List.range 26).map (ACb pre) ⊆ xs:=fun x hx=>by
  obtain ⟨j,hj,rfl⟩:=List.mem_map.mp hx
  exact h j (List.mem_range.mp hj)
 have:=nd.length_le_of_subset sub
 simp at this
 lia
section
variable {P:Program} {w:World} {K:PySem.W.Frag} {mg:Str→Option Value} {base:Heap}
theorem AQz:∀ {r:Int},0≤r→r<4→∃ k:Int,atI [V.int 0,V.int 0,V.int 3,V.int 7] r=some (V.int k)∧0≤k∧k≤7:=by
 intro r h0 h1
 obtain ⟨n,rfl⟩:=Int.eq_ofNat_of_zero_le h0
 have h:n=0∨n=1∨n=2∨n=3:=by lia
 rcases h with rfl | rfl | rfl | rfl
 ·exact ⟨0,rfl,by decide,by decide⟩
 ·exact ⟨0,rfl,by decide,by decide⟩
 ·exact ⟨3,rfl,by decide,by decide⟩
 ·exact ⟨7,rfl,by decide,by decide⟩
theorem ACn (p q:Str):(p ++ q).cps.toList=p.cps.toList ++ q.cps.toList:=Array.toList_append
theorem ADg (p q:Str):(p ++ q).length=p.length + q.length:=Array.size_append
theorem ANZ (D:AAM K mg "_law_names" ABK) (T:TxtB mg) (Gf_law_pull:Fn P w K mg base "_law_pull" 1 ["_law_bag_here","_law_many_here"] AGN) (Gf_law_word:Fn P w K mg base "_law_word" 2 ["_law_bag_here","_law_size"] AMa):Fn P w K mg base "_law_names" 3 ["_law_bag_here","_law_many_here"] AJ8:=by
 refine AD5 D AAw (fun _ _ _ _ _ _ us hl=>ABf hl (fun _ _=>rfl)) (fun vs H Q E h=>?_) (fun f cdv A outer s H vs Q E hr h=>?_)
 ·obtain ⟨b,a,m,rfl,_⟩:=h
  rfl
 ·obtain ⟨b,a,n,rfl,hb,hn0,hn1,k⟩:=h
  refine ⟨_,(AAX (ABI (i:=2) AAw.nd rfl (Or.inl rfl) AH8)
 (AAX (ABI (i:=3) AAw.nd rfl (Or.inl rfl) (AFX AAY))
 (AAX (ABI (i:=4) AAw.nd rfl (Or.inl rfl) (ADk Gf_law_word (hr.mono (by decide)) (by rfl) (AAL (pv 0) (AAL (ABW ixF (AFX (AAL AAK (AAL AAK (AAL AAK (AAL AAK AAY))))) (ADk Gf_law_pull (hr.mono (by decide)) (by rfl) (AAL (pv 0) (AAL AAK AAY))) (fun _ _=>rfl)) AAY))))
 (AAX (AFU PassesOwn.never rfl (ADA (by rfl) T.b_range (AAL (pv 1) AAY)) (AAf (i:=5) AAw.nd rfl (Or.inl rfl))
 (AAX (ABI (i:=6) AAw.nd rfl (Or.inl rfl) (AAt AFW (pv 4) (ADk Gf_law_word (hr.mono (by decide)) (by rfl) (AAL (pv 0) (AAL (AAt ABs AAK (ADk Gf_law_pull (hr.mono (by decide)) (by rfl) (AAL (pv 0) (AAL (AAt AFV AAK (ACC AD1 (by rfl) T.b_len (by decide +kernel) (AAL (pv 4) AAY))) AAY)))) AAY)))))
 (AAX (AFU PassesOwn.never rfl (ADA (by rfl) T.b_range (AAL AAK AAY)) (AAf (i:=7) AAw.nd rfl (Or.inl rfl))
 (ABR (AFS (ACp APV (pv 6) (pv 3) (by rfl))
 (ABR (ABI (i:=6) AAw.nd rfl (Or.inl rfl) (AAt AFW (ACx ALW (pv 6) ADQ (ADR (AQF APG AAK))) (ABW AIC (pv 2) (pv 7) (fun _ _=>rfl)))))
 ADN)))
 (ABR (AGR (AFa PySem.F.plainAttrs_list PySem.F.slot_list_append PySem.F.type_list_append ACd (pv 3) (AAL (pv 6) AAY)))))))
 (ABR (ADO (pv 3))))))),?_⟩
  refine ⟨Nat.zero_le _,fun p hp=>?_⟩
  have sp:=StepD.new (o:=.lst []) hb hp
  refine ⟨_,rfl,(by show 4≤sizeLine;decide),fun q hq=>?_⟩
  have hqp:p≠q:=AAJ (o:=.lst []) AAG hq
  have sq:=sp.step (Step.new (o:=.lst [V.int 0,V.int 0,V.int 3,V.int 7]) sp.bag hq)
  have nqb:=sp.bag.nb hq
  refine ⟨_,rfl,b,a,4,rfl,sq.bag,by decide,by decide,fun r H1 r0 r1 st1=>?_⟩
  obtain ⟨k0,hk,k1,k2⟩:=AQz r0 r1
  refine ⟨q,r,_,rfl,rfl,st1.same q _ nqb AAG,_,hk,?_⟩
  refine ⟨b,a,k0,rfl,st1.bag,k1,by lia,fun w0 H2 hw0 hwl st2=>?_⟩
  have hpb:=hb.nb hp
  have e2:H2 p=some (.lst []):=st2.same p _ hpb (st1.same p _ hpb (by rw [AAE hqp,AAG]))
  have s2:StepD b a p H H2:=(sq.step st1).step st2
  have hw7:w0.length≤7:=by lia
  refine ⟨_,rfl,n,rfl,by lia,by lia,AG1 (lo:=0) (n:=n.toNat) (fun i σ H3=>∃ (xs:List Str) (v5 v6 v7:Option V),σ=[some (.ref b),some (.int n),some (.str (Str.ofString "abcdefghijklmnopqrstuvwxyz")),some (.ref p),some (.str w0),v5,v6,v7] ∧
   H3 p=some (.lst (xs.map V.str))∧xs.length=i∧(∀ x∈xs,ACX x)∧xs.Nodup∧StepD b a p H H3) ⟨[],_,_,_,rfl,e2,rfl,by simp,List.nodup_nil,s2⟩ ?_ ?_⟩
  ·rintro i σ H3 hi ⟨xs,v5,v6,v7,rfl,e3,hl,hg,nd,s3⟩
   refine ⟨_,rfl,_,rfl,_,rfl,_,rfl,w0,rfl,Nat.le_of_lt (ABh (by lia)),_,_,rfl,rfl,?_⟩
   refine ⟨b,a,_,rfl,s3.bag,by lia,by lia,fun r2 H4 r20 r21 st4=>?_⟩
   refine ⟨_,_,rfl,rfl,b,a,_,rfl,st4.bag,by lia,by lia,fun w1 H5 hw1 hwl1 st5=>?_⟩
   refine ⟨_,_,rfl,rfl,Nat.le_of_lt (ABh (by lia)),?_⟩
   have e5:H5 p=some (.lst (xs.map V.str)):=st5.same p _ hpb (st4.same p _ hpb e3)
   have s5:StepD b a p H H5:=(s3.step st4).step st5
   have g0:ACX (w0 ++ w1):=by
    refine ⟨by rw [ADg];lia,by rw [ADg];lia,fun c hc=>?_⟩
    rw [ACn] at hc
    rcases List.mem_append.mp hc with z | z
    ·exact hwl c z
    ·exact hwl1 c z
   generalize w0 ++ w1=wd at g0
   refine ⟨26,rfl,by decide,by decide,AG1 (lo:=0) (n:=26) (fun s σ H6=>H6=H5∧∃ (x:Str) (v7:Option V),σ=[some (.ref b),some (.int n),some (.str (Str.ofString "abcdefghijklmnopqrstuvwxyz")),some (.ref p),some (.str w0),some (.int (0 + (i:Int))),some (.str x),v7] ∧
    ACX x∧x.cps.toList.take (x.length - 1)=wd.cps.toList.take (wd.length - 1)∧(x ∉ xs∨((0<s→x=ACb (wd.cps.toList.take (wd.length - 1)) (s - 1))∧∀ j,j + 1<s→ACb (wd.cps.toList.take (wd.length - 1)) j∈xs)))
    ⟨rfl,wd,_,rfl,g0,rfl,.inr ⟨fun z=>absurd z (Nat.lt_irrefl _),fun j z=>absurd z (Nat.not_lt_zero _)⟩⟩ ?_ ?_⟩
   ·rintro t σ H6 ht ⟨rfl,x,v7,rfl,gx,hpre,inv⟩
    refine ⟨_,rfl,_,rfl,x,p,xs,rfl,rfl,.inl e5,_,rfl,?_⟩
    refine ite2 (fun hm=>?_) (fun hm=>?_)
    ·have hm:x∈xs:=of_decide_eq_true hm
     obtain ⟨i1,i2⟩:=inv.resolve_left fun z=>z hm
     have hx0:0<x.length:=gx.1
     have hx8:=gx.2.1
     refine ⟨_,rfl,1,rfl,-1,rfl,x,rfl,Nat.le_of_lt (ABh (by lia)),?_⟩
     refine ⟨_,rfl,_,rfl,_,_,_,rfl,rfl,by decide +kernel,(by rw [Int.zero_add];exact AMb ht),?_⟩
     have es:(Txt.slice x none (some (-1))).cps.toList=wd.cps.toList.take (wd.length - 1):=by rw [ACQ hx0,hpre]
     have el:(Txt.slice x none (some (-1))).length=x.length - 1:=by
      have z:(Txt.slice x none (some (-1))).cps.toList.length=(Txt.slice x none (some (-1))).length:=Array.length_toList
      have z2:x.cps.toList.length=x.length:=Array.length_toList
      rw [←z,ACQ hx0,List.length_take]
      lia
     have lc:(⟨#[97 + t]⟩:Str).length=1:=rfl
     refine ⟨_,_,rfl,rfl,Nat.le_of_lt (ABh (by rw [el,lc];lia)),rfl,_,_,rfl,⟨?_,?_,?_⟩,?_,.inr ⟨fun _=>?_,fun j hj=>?_⟩⟩
     ·rw [ADg,lc];lia
     ·rw [ADg,lc,el];lia
     ·intro c hc
      rw [ACn] at hc
      rcases List.mem_append.mp hc with z | z
      ·rw [ACQ hx0] at z
       exact gx.2.2 c (List.mem_of_mem_take z)
      ·have z:c=97 + t:=by simpa using z
       lia
     ·rw [ADg,lc,ACn,es]
      have z3:(wd.cps.toList.take (wd.length - 1)).length=x.length - 1:=by rw [←es];exact Array.length_toList.trans el
      rw [el,List.take_append_of_le_length (by lia),List.take_of_length_le (by lia)]
     ·refine PyProof.Rows.ext_toList ?_
      rw [ACn,es]
      simp [ACb]
     ·by_cases z:j + 1<t
      ·exact i2 j z
      ·have z':j=t - 1:=by lia
       have z0:0<t:=by lia
       rw [z',←i1 z0]
       exact hm
    ·have hm:x ∉ xs:=fun z=>hm (decide_eq_true z)
     exact ⟨rfl,x,_,rfl,gx,hpre,.inl hm⟩
   ·rintro σ H6 ⟨rfl,x,v7,rfl,gx,hpre,inv⟩
    have hx:x ∉ xs:=by
     intro hm
     obtain ⟨i1,i2⟩:=inv.resolve_left fun z=>z hm
     refine AOt (pre:=wd.cps.toList.take (wd.length - 1)) (xs:=xs) (by lia) fun j hj=>?_
     by_cases z:j + 1<26
     ·exact i2 j z
     ·have z':j=25:=by lia
      rw [z',←i1 (by decide)]
      exact hm
    refine ⟨_,rfl,.inl ⟨rfl,_,.of e5⟩,_,rfl,p,_,_,rfl,rfl,e5,by rw [List.length_map];exact ABh (by lia),?_⟩
    refine ⟨xs ++ [x],_,_,_,rfl,?_,by simp [hl],?_,?_,s5.put⟩
    ·rw [AAG];simp
    ·intro y hy
     rcases List.mem_append.mp hy with z | z
     ·exact hg y z
     ·rw [List.mem_singleton.mp z];exact gx
    ·exact AJf nd hx
  ·rintro σ H3 ⟨xs,v5,v6,v7,rfl,e3,hl,hg,nd,s3⟩
   exact ⟨_,rfl,k p xs H3 hp e3 (by lia) hg nd (s3.out hp)⟩
end
def AAj:pF:=fun xs K=>∃ m,xs=[.bag,.int m]∧0<m∧m<2 ^ 64∧∀ r,0≤r→r<m→K (.int r)
def AJF:pF:=fun xs K=>∃ n,xs=[.bag,.int n]∧0≤n∧n≤9∧∀ ns:List Str,(ns.length:Int)=n→(∀ x∈ns,ACX x)→ns.Nodup→K (.lst (ns.map P.str))
section
variable {P':Program} {w:World} {K:PySem.W.Frag} {mg:Str→Option Value} {base:Heap}
theorem AMd {b:Addr} {H:Hp} {vs:List V} {m:Int} (r:Rps b (fun p=>p=b) H [.bag,.int m] vs):vs=[.ref b,.int m]:=by
 obtain ⟨v,t,rfl,h1,u,t2,rfl,h2,h3⟩:=r
 rw [show v=_ from h1,show u=_ from h2,show t2=_ from h3]
theorem APz (G:Fn P' w K mg base "_law_pull" 1 ["_law_bag_here","_law_many_here"] AGN):Fn P' w K mg base "_law_pull" 1 ["_law_bag_here","_law_many_here"] (spP AAj):=G.imp fun vs H Q E h=>by
 obtain ⟨b,a,xs,K',hb,r,⟨m,rfl,h0,h1,hk⟩,hQ⟩:=h
 exact ⟨b,a,m,AMd r,hb,h0,h1,fun r H' r0 r1 st=>hQ _ _ H' (hk r r0 r1) st rfl⟩
theorem AOu (G:Fn P' w K mg base "_law_names" 3 ["_law_bag_here","_law_many_here"] AJ8):Fn P' w K mg base "_law_names" 3 ["_law_bag_here","_law_many_here"] (spP AJF):=G.imp fun vs H Q E h=>by
 obtain ⟨b,a,xs,K',hb,r,⟨m,rfl,h0,h1,hk⟩,hQ⟩:=h
 exact ⟨b,a,m,AMd r,hb,h0,h1,fun p ns H' hp e hl hg hn st=>hQ _ _ H' (hk ns hl hg hn) st ⟨p,_,rfl,fun z=>z hp,e,Rps.strs.mpr rfl⟩⟩
end
def AH5 (K:PySem.W.Frag):Sp:=fun vs H Q _=>∃ (a:Addr) (ns:List Int),vs=[.ref a]∧SqL K H a (ns.map V.int)∧∀ H',Q (.bl true) H'
theorem AOv {b ba:Addr} {H:Hp} {n:Nat} {v:Option V} (hb:Bag H b ba):Ok ⟨b,ba,H,fun _=>none,fun _=>False⟩ (.emp :: .sh .bag :: List.replicate n .emp) (v :: some (.ref b) :: List.replicate n none) H where
 bag:=hb
 fb:=rfl
 old:=fun _ _ _ e=>e
 frm:=fun _ _ e=>nomatch e
 oo:=fun _ z=>z.elim
 len:=by simp
 slot:=fun i s e=>by
  match i with
  | 0=>cases e;exact ⟨v,rfl,trivial⟩
  | 1=>cases e;exact ⟨_,rfl,_,rfl,rfl⟩
  | i + 2 =>
   simp only [List.getElem?_cons_succ,List.getElem?_replicate] at e
   split at e
   ·cases e
    rename_i hi
    exact ⟨none,by simp only [List.getElem?_cons_succ,List.getElem?_replicate,if_pos hi],trivial⟩
   ·cases e
 uniq:=fun i j x y h=>by
  exfalso
  match i with
  | 0=>cases h
  | 1=>cases h
  | i + 2 =>
   simp only [List.getElem?_cons_succ,List.getElem?_replicate] at h
   split at h
   ·cases h
   ·cases h
theorem AP0 {K:PySem.W.Frag} {X:Cx} {s0:Stmt} {rest:List Stmt} {p:pS} {n:Nat} (h0:PS X s0 (tAsg (AFY (AH4 K) [] E0 (ABy (tVar 0) tNil)) (ABU 1))) (hq:QSs (fun _:Unit=>X) rest p)
  (hp:p { nx:=fun _=>False,rt:=fun x=>x=.bl true } (.emp :: .sh .bag :: List.replicate n .emp)) :
  ∃ t,PSs X (s0 :: rest) t∧∀ (a:Addr) (ns:List Int) (H:Hp) (Q:VK),SqL K H a (ns.map V.int)→(∀ H',Q (.bl true) H')→t { nx:=fun _ H'=>Q .non H',rt:=Q } (some (.ref a) :: none :: List.replicate n none) H:=by
 obtain ⟨t,t1,t2⟩:=hq
 refine ⟨_,AAX h0 (t1 ()),fun a ns H Q hS k=>⟨_,rfl,a,ns,rfl,hS,fun b ba H1 nb na B s1=>?_⟩⟩
 refine t2 _ _ _ H1 _ _ (AOv (n:=n) B) hp ⟨fun _ _ _ e=>e.elim,fun x v H' e ro=>?_,fun _ _ _ e=>e.elim,fun _ _ _ e=>e.elim,fun _ z=>z,fun _ _ _ e=>e.elim⟩
 subst e
 rw [show v=.bl true from ro.2.2]
 exact k H'
end K
namespace K
open PySem L2
section
variable {P':Program} {w:World} {K:PySem.W.Frag} {mg:Str→Option Value} {base:Heap}
theorem AJG {n:Int} (h0:0≤n):AB3 0 n.toNat=(List.range n.toNat).map fun (k:Nat)=>P.int (0 + k):=rfl
theorem AK7 (D:AAM K mg "_law_answers" AAq) (T:TxtB mg) (Gf_law_pull:Fn P' w K mg base "_law_pull" 1 ["_law_bag_here","_law_many_here"] (spP AAj)):Fn P' w K mg base "_law_answers" 2 ["_law_bag_here","_law_size","_law_base"] (spP AC5):=by
 refine fnP D AGL (fun _ _ _ _ _ _ us hl=>ACE hl (fun _ _ _=>rfl)) (fun xs K h=>?_) (by decide) (fun fa cdv A outer s H E hr=>⟨_,(AAH (AAg (AAU (fun _=>AAu) ABt (fun _=>T.b_tuple) (by decide +kernel) (AAA (ABH (N:=["_law_bag_here","_law_size","_law_base"]) (sc:=AAC AAq) (N':=["_law_k","_law_bag_here","_law_base"]) (pick:=[none,some 0,some 2]) ⟨rfl,by decide +kernel,by decide +kernel,by decide +kernel,by decide +kernel,rfl,by decide +kernel⟩ (by decide) (fun _=>rfl) (ABi (fun _=>T.b_range) (AAA (qv 1) AAB)) (AA8 (k:=0) rfl (fun _=>show List.Nodup (["_law_k","_law_bag_here","_law_base"]:List Str) by decide +kernel)) ABJ (AAN (fun _=>Gf_law_pull) (fun _=>hr.mono (by decide)) (AAA (qv 1) (AAA (qv 2) AAB)))) AAB)))),fun xs K h=>?_⟩)
 ·obtain ⟨_,_,rfl,_⟩:=h;rfl
 ·obtain ⟨n,b,rfl,h0,h1,b0,b1,h⟩:=h
  simp_arith only [pRet]
  refine ⟨by lia,by lia,by rw [AAW];lia,?_⟩
  rw [AJG h0]
  refine AAm.rel P.int (fun _ x=>0≤x∧x<b) (fun k _ M hM=>⟨b,rfl,b0,b1,fun r r0 r1=>hM r _ ⟨r0,r1⟩⟩) (fun _=>rfl) (fun bs he=>?_)
  have hl:=he.length
  rw [List.length_range] at hl
  simp_arith only [pRet]
  exact h bs (by lia) fun x hx=>let ⟨_,_,z⟩:=he.mem x hx;z
theorem AQ0 {a b c d:Int} {r:Int} (h0:0≤r) (h1:r<4):atI [P.int a,P.int b,P.int c,P.int d] r=some (.int (if r=0 then a else if r=1 then b else if r=2 then c else d)):=by
 obtain ⟨n,rfl⟩:=Int.eq_ofNat_of_zero_le h0
 have h:n=0∨n=1∨n=2∨n=3:=by lia
 rcases h with rfl | rfl | rfl | rfl <;> rfl
theorem AOw (D:AAM K mg "_law_many" ABd) (T:TxtB mg) (Gf_law_pull:Fn P' w K mg base "_law_pull" 1 ["_law_bag_here","_law_many_here"] (spP AAj)):Fn P' w K mg base "_law_many" 2 ["_law_bag_here"] (spP AN0):=by
 refine fnP D AJD (fun _ _ _ _ _ _ us hl=>ACP hl (fun _=>rfl)) (fun xs K h=>?_) (by decide) (fun fa cdv A outer s H E hr=>⟨_,(AAH (AAg (ABe (fun _=>ABs) ADo AAF (AAN (fun _=>Gf_law_pull) (fun _=>hr.mono (by decide)) (AAA (qv 0) (AAA (ABP (fun _=>ixA) r_ix (ABB (AAA AAF (AAA AAF (AAA AAF (AAA (ABe (fun _=>ALL) AQZ AAF AAF) AAB))))) (AAN (fun _=>Gf_law_pull) (fun _=>hr.mono (by decide)) (AAA (qv 0) (AAA AAF AAB))) (fun _ _=>rfl)) AAB)))))),fun xs K h=>?_⟩)
 ·obtain ⟨rfl,_⟩:=h;rfl
 ·obtain ⟨rfl,h⟩:=h
  simp_arith only [CPow]
  refine ⟨by decide,4,rfl,by decide,by decide,fun r r0 r1=>?_⟩
  simp_arith only [pRet]
  refine ⟨_,AQ0 r0 r1,?_⟩
  have e12:(10:Int) ^ (12:Int).toNat=1000000000000:=by decide
  refine ⟨_,rfl,?_,?_,fun z z0 z1=>?_⟩
  ·rw [e12];split <;> (try split) <;> (try split) <;> decide
  ·rw [e12];split <;> (try split) <;> (try split) <;> decide
  ·simp_arith only [pRet]
   refine h _ (by lia) ?_
   rw [e12] at z1
   have:z<1000000000000:=by
    revert z1
    split
    ·intro;lia
    ·split
     ·intro;lia
     ·split <;> intro <;> lia
   lia
def ACI:pF:=fun xs K=>∃ t,xs=[dcP t]∧t.length≤100000∧(∃ n,∀ q∈t,q.1.length=n)∧K (tlP (AAZ t))
theorem AK8 (D:AAM K mg "_law_settled" AAr) (T:TxtB mg):Fn P' w K mg base "_law_settled" 1 ["_law_counts"] (spP ACI):=by
 refine fnP D AGM (fun _ _ _ _ _ _ us hl=>ACP hl (fun _=>rfl)) (fun xs K h=>?_) (by decide) (fun fa cdv A outer s H E hr=>?_)
 ·obtain ⟨_,rfl,_⟩:=h;rfl
 ·have hu:=AFe hr
  refine ⟨_,(AAH (AAg (ABH (N:=["_law_counts"]) (sc:=AAC AAr) (N':=["_law_row","_law_counts"]) (pick:=[none,some 0]) ⟨rfl,by decide +kernel,by decide +kernel,by decide +kernel,by decide +kernel,rfl,by decide +kernel⟩ (by decide) (fun _=>rfl) (ABT (fun _=>rfl) (AAS (fun _=>(AHl hr)) AOe (fun _=>T.b_sorted) (by decide +kernel) (AAA (AAU (fun _=>(AKh rfl)) AOW (fun _=>T.b_list) (by decide +kernel) (AAA (qv 0) AAB)) AAB))) (AA8 (k:=0) rfl (fun _=>show List.Nodup (["_law_row","_law_counts"]:List Str) by decide +kernel)) (ADn (AAy (fun _=>(AC1 hr)) r_ne (AEk (fun _=>hu) (qv 1) (qv 0) (fun _ _=>rfl)) AAF (AAc _))) (AEB (AAA (qv 0) (AAA (AEk (fun _=>hu) (qv 1) (qv 0) (fun _ _=>rfl)) AAB)))))),fun xs K h=>?_⟩
  obtain ⟨t,rfl,hl,hn,h⟩:=h
  simp_arith only [pRet]
  obtain ⟨n,hn⟩:=hn
  refine ⟨t.map (·.1),rfl,by rw [List.length_map];lia,⟨n,fun r hr=>by obtain ⟨q,hq,rfl⟩:=List.mem_map.mp hr;exact hn q hq⟩,fun rs' hp hs=>?_⟩
  ·have hlen:rs'.length=t.length:=by rw [hp.length_eq,List.length_map]
   have e:=AIp hp hs
   simp_arith only [List.length_map]
   refine ⟨by lia,?_⟩
   have get:∀ r∈rs',AA6 (t.map (·.1)) (t.map fun q=>P.int q.2) r=some (.int ((getT t r).getD 0)):=fun r hr=>by
    rw [AEJ]
    have hm:r∈t.map (·.1):=hp.mem_iff.mp hr
    obtain ⟨c,hc⟩:=AHW hm
    rw [hc];rfl
   refine AAm.filter (fun r=>decide ((getT t r).getD 0≠0)) (fun r=>prP (r,(getT t r).getD 0)) (fun r _ _=>by simp) (fun r hr M hM=>?_) ?_
   ·simp_arith only [pRet]
    refine ⟨_,get r hr,?_⟩
    have hM:=hM .nw
    simp_arith only [pRet]
    refine ite2 (fun z=>?_) (fun z=>?_)
    ·rw [if_pos (by simpa using z)] at hM
     exact ⟨_,get r hr,hM⟩
    ·rw [if_neg (by simpa using z)] at hM
     exact hM
   ·simp_arith only [pRet]
    rw [e]
    have:((ACl (t.map (·.1))).filter fun r=>decide ((getT t r).getD 0≠0)).map (fun r=>prP (r,(getT t r).getD 0))=(AAZ t).map prP:=by
     unfold AAZ;rw [List.map_map];rfl
    have h':=h
    rw [show tlP (AAZ t)=.lst _ from congrArg P.lst this.symm] at h'
    exact h'
theorem AP1 {a0 a1 a2 a3 a4 a5 a6 a7 a8 a9:Int} {r:Int} (h0:0≤r) (h1:r<10):∃ c,atI [P.int a0,.int a1,.int a2,.int a3,.int a4,.int a5,.int a6,.int a7,.int a8,.int a9] r=some (.int c)∧c∈[a0,a1,a2,a3,a4,a5,a6,a7,a8,a9]:=by
 obtain ⟨n,rfl⟩:=Int.eq_ofNat_of_zero_le h0
 have h:n=0∨n=1∨n=2∨n=3∨n=4∨n=5∨n=6∨n=7∨n=8∨n=9:=by lia
 rcases h with rfl | rfl | rfl | rfl | rfl | rfl | rfl | rfl | rfl | rfl <;> exact ⟨_,rfl,by simp⟩
theorem AP2 {a b c d:Int} {r:Int} (h0:0≤r) (h1:r<4):∃ k,atI [P.int a,P.int b,P.int c,P.int d] r=some (.int k)∧k∈[a,b,c,d]:=by
 obtain ⟨n,rfl⟩:=Int.eq_ofNat_of_zero_le h0
 have h:n=0∨n=1∨n=2∨n=3:=by lia
 rcases h with rfl | rfl | rfl | rfl <;> exact ⟨_,rfl,by simp⟩
def dwB:pS:=fun E ρ=>∃ room t bs v,ρ=[.sh .bag,.sh (nmP room),.own (dcP t),.sh (.int bs),v]∧room.length≤9∧t.length<100∧0<bs∧bs≤10∧∀ (r:List Int) (c:Int),r.length=room.length→(∀ x∈r,0≤x∧x≤9)→1≤c→c≤1000000000000→E.nx [.sh .bag,.sh (nmP room),.own (dcP (putT t r c)),.sh (.int bs),v]
def dwL:pS:=fun E ρ=>∃ room bs,ρ=[.sh .bag,.sh (nmP room),.own (.dT [] []),.sh (.int bs),.emp]∧room.length≤9∧0<bs∧bs≤10∧∀ t v,Drawn room.length t→E.nx [.sh .bag,.sh (nmP room),.own (dcP t),.sh (.int bs),v]
theorem ANa (D:AAM K mg "_law_drawn" ABL) (T:TxtB mg) (Gf_law_pull:Fn P' w K mg base "_law_pull" 1 ["_law_bag_here","_law_many_here"] (spP AAj)) (Gf_law_answers:Fn P' w K mg base "_law_answers" 2 ["_law_bag_here","_law_size","_law_base"] (spP AC5))
  (Gf_law_many:Fn P' w K mg base "_law_many" 2 ["_law_bag_here"] (spP AN0)) (Gf_law_settled:Fn P' w K mg base "_law_settled" 1 ["_law_counts"] (spP ACI)):Fn P' w K mg base "_law_drawn" 3 ["_law_bag_here","_law_room"] (spP AF0):=by
 refine fnP D ACA (fun _ _ _ _ _ _ us hl=>ABf hl (fun _ _=>rfl)) (fun xs K h=>?_) (by decide) (fun fa cdv A outer s H E hr=>?_)
 ·obtain ⟨_,rfl,_⟩:=h;rfl
 ·have hu:=AFe hr
  refine ⟨_,(AAD (AAP (k:=2) (fun _=>ACA.nd) AFE)
 (AAD (AAP (k:=3) (fun _=>ACA.nd) (ABP (fun _=>ixA) r_ix (ABB (AAA AAF (AAA AAF (AAA AAF (AAA AAF AAB))))) (AAN (fun _=>Gf_law_pull) (fun _=>hr.mono (by decide)) (AAA (qv 0) (AAA AAF AAB))) (fun _ _=>rfl)))
 (AAD (QS.weak (m:=dwL) (AB4 (fun _=>PassesOwn.never) (fun _=>rfl) (ABi (fun _=>T.b_range) (AAA (ABP (fun _=>ixA) r_ix (ABB (AAA AAF (AAA AAF (AAA AAF (AAA AAF (AAA AAF (AAA AAF (AAA AAF (AAA AAF (AAA AAF (AAA AAF AAB))))))))))) (AAN (fun _=>Gf_law_pull) (fun _=>hr.mono (by decide)) (AAA (qv 0) (AAA AAF AAB))) (fun _ _=>rfl)) AAB)) (ACF (k:=4) (fun _=>ACA.nd))
 (QSs.weak (m:=dwB) (AAH (AEl (k:=2) (fun _=>hu) (AAN (fun _=>Gf_law_answers) (fun _=>hr.mono (by decide)) (AAA (qv 0) (AAA (AAS (fun _=>AAh) ABp (fun _=>T.b_len) (by decide +kernel) (AAA (qv 1) AAB)) (AAA (qv 3) AAB)))) (AAN (fun _=>Gf_law_many) (fun _=>hr.mono (by decide)) (AAA (qv 0) AAB)))) ?body0)) ?loop0)
 (AAH (AAg (AAN (fun _=>Gf_law_settled) (fun _=>hr.mono (by decide)) (AAA (qv 2) AAB))))))),fun xs K h=>?_⟩
  case body0 =>
   intro E ρ h
   obtain ⟨room,t,bs,v,rfl,hl,ht,b0,b1,h⟩:=h
   simp_arith only [pRet]
   refine ⟨rfl,fun c c1 c2=>?_⟩
   simp_arith only [pRet]
   refine ⟨_,_,rfl,by lia,by rw [List.length_map];lia,b0,by lia,fun r hr hx=>?_⟩
   simp_arith only [List.length_map] at hr ⊢
   refine ⟨by lia,?_⟩
   rw [AHy]
   exact h r c (by lia) (fun x hx2=>by have:=hx x hx2;lia) c1 c2
  case loop0 =>
   intro E ρ h
   obtain ⟨room,bs,rfl,hl,b0,b1,h⟩:=h
   simp_arith only [pRet]
   refine ⟨10,rfl,by decide,by decide,fun r r0 r1=>?_⟩
   obtain ⟨ct,hc,hm2⟩:=AP1 (a0:=3) (a1:=2) (a2:=1) (a3:=0) (a4:=5) (a5:=8) (a6:=12) (a7:=4) (a8:=2) (a9:=40) r0 r1
   have c0:0≤ct∧ct≤40:=by simp at hm2;(omega)
   refine ⟨_,hc,?_⟩
   simp_arith only [pRet]
   refine ⟨by lia,by lia,fun i ρ=>∃ t v,ρ=[.sh .bag,.sh (nmP room),.own (dcP t),.sh (.int bs),v]∧DrawnI room.length i t,⟨[],_,rfl,DrawnI.nil⟩,fun i ρ' x hx hI=>?_,fun ρ' hI=>?_⟩
   ·obtain ⟨t,v,rfl,hd⟩:=hI
    obtain ⟨hi,rfl⟩:=ABz hx
    simp_arith only [pRet]
    exact ⟨room,t,bs,_,rfl,hl,by have:=hd.len;lia,b0,b1,fun r c h1 h2 h3 h4=>⟨putT t r c,⟨_,rfl⟩,hd.put h1 h2 h3 h4⟩⟩
   ·obtain ⟨t,v,rfl,hd⟩:=hI
    rw [AAW] at hd
    exact h t v (hd.out (by lia))
  ·obtain ⟨room,rfl,hl,h⟩:=h
   simp_arith only [pRet]
   refine ⟨4,rfl,by decide,by decide,fun r r0 r1=>?_⟩
   obtain ⟨bs,hb,hm⟩:=AP2 (a:=2) (b:=2) (c:=3) (d:=10) r0 r1
   have b0:0<bs∧bs≤10:=by simp at hm;lia
   refine ⟨_,hb,?_⟩
   simp_arith only [pRet]
   refine ⟨room,bs,rfl,hl,b0.1,b0.2,fun t v hd=>?_⟩
   simp_arith only [pRet]
   exact ⟨t,rfl,by have:=hd.len;lia,⟨_,hd.rows⟩,h t hd⟩
theorem get0 (a:List (List Int×Int)) (r:List Int):(AA6 (a.map (·.1)) (a.map fun q=>P.int q.2) r).getD (.int 0)=.int ((getT a r).getD 0):=by
 rw [AEJ];cases getT a r <;> rfl
theorem AFN (t:List (List Int×Int)):P.imms (t.map fun q=>P.int q.2)=true:=by
 have:=AD7 (t.map (·.2))
 simpa [List.map_map,Function.comp_def] using this
def AGu:pF:=fun xs K=>∃ part room,xs=[nmP part,nmP room]∧part.length≤100∧K (.bl (part.all fun n=>decide (n∈room)))
theorem AMe (D:AAM K mg "within" ABj) (T:TxtB mg):Fn P' w K mg base "within" 1 ["part","room"] (spP AGu):=by
 refine fnP D AK4 (fun _ _ _ _ _ _ us hl=>ABf hl (fun _ _=>rfl)) (fun xs K h=>?_) (by decide) (fun fa cdv A outer s H E hr=>⟨_,(AAH (AAg (AAS (fun _=>(AE8 rfl)) AKW (fun _=>T.b_all) (by decide +kernel) (AAA (ABH (N:=["part","room"]) (sc:=AAC ABj) (N':=["name","room"]) (pick:=[none,some 1]) ⟨rfl,by decide +kernel,by decide +kernel,by decide +kernel,by decide +kernel,rfl,by decide +kernel⟩ (by decide) (fun _=>rfl) (AFm (fun _=>rfl) (qv 0)) (AA8 (k:=0) rfl (fun _=>show List.Nodup (["name","room"]:List Str) by decide +kernel)) ABJ (AD8 (fun _=>(APe hr)) r_in (qv 0) (qv 1) (by rfl))) AAB)))),fun xs K h=>?_⟩)
 ·obtain ⟨_,_,rfl,_⟩:=h;rfl
 ·obtain ⟨part,room,rfl,hl,h⟩:=h
  simp_arith [pRet]
  refine ⟨by lia,AAm.map (fun n=>.bl (decide (n∈room))) (fun _ _=>rfl) (fun n _ M hM=>?_) ?_⟩
  ·simp_arith [ANB]
   exact hM _
  ·refine ⟨part.map fun n=>decide (n∈room),by rw [List.map_map];rfl,?_⟩
   rw [List.all_map]
   exact h
def AJH:pF:=fun xs K=>∃ room r part,xs=[nmP room,rowP r,nmP part]∧part.length≤100∧r.length=room.length∧(∀ n∈part,n∈room)∧K (rowP (AB5 room r part))
theorem AMf (D:AAM K mg "_law_row_of" AAx) (T:TxtB mg):Fn P' w K mg base "_law_row_of" 1 ["_law_room","_law_row","_law_part_here"] (spP AJH):=by
 refine fnP D AGt (fun _ _ _ _ _ _ us hl=>ACE hl (fun _ _ _=>rfl)) (fun xs K h=>?_) (by decide) (fun fa cdv A outer s H E hr=>⟨_,(AAH (AAg (AAU (fun _=>AAu) ABt (fun _=>T.b_tuple) (by decide +kernel) (AAA (ABH (N:=["_law_room","_law_row","_law_part_here"]) (sc:=AAC AAx) (N':=["_law_name","_law_row","_law_room"]) (pick:=[none,some 1,some 0]) ⟨rfl,by decide +kernel,by decide +kernel,by decide +kernel,by decide +kernel,rfl,by decide +kernel⟩ (by decide) (fun _=>rfl) (AFm (fun _=>rfl) (qv 2)) (AA8 (k:=0) rfl (fun _=>show List.Nodup (["_law_name","_law_row","_law_room"]:List Str) by decide +kernel)) ABJ (ABP (fun _=>ixA) r_ix (qv 1) (AIv (qv 2) (qv 0)) (fun _ _=>rfl))) AAB)))),fun xs K h=>?_⟩)
 ·obtain ⟨_,_,_,rfl,_⟩:=h;rfl
 ·obtain ⟨room,r,part,rfl,hl,hr2,hp,h⟩:=h
  simp_arith [pRet]
  refine ⟨by lia,AAm.map (fun n=>.int (r.getD (idx room n) 0)) (fun _ _=>rfl) (fun n hn M hM=>?_) ?_⟩
  ·simp_arith [pRet]
   have hi:=AMN (hp n hn)
   refine ⟨idx room n,(AEO (hp n hn)).1,(AEO (hp n hn)).2,.int (r.getD (idx room n) 0),ABS ?_,hM _⟩
   rw [List.getElem?_map,List.getD_eq_getElem?_getD,List.getElem?_eq_getElem (by lia)];rfl
  ·simp_arith [pRet]
   have e:rowP (AB5 room r part)=.tup (part.map fun n=>P.int (r.getD (idx room n) 0)):=by
    show P.tup ((part.map _).map _)=_
    rw [List.map_map];rfl
   rw [e] at h
   exact h
def AGv:pF:=fun xs K=>∃ room part,xs=[nmP room,nmP part]∧part.length≤100∧(∀ n∈part,n∈room)∧K (.lst ((part.map (idx room)).map fun (j:Nat)=>.int (j:Int)))
theorem AMg (D:AAM K mg "places" ABk) (T:TxtB mg) (Gf_within:Fn P' w K mg base "within" 1 ["part","room"] (spP AGu)):Fn P' w K mg base "places" 2 ["room","part"] (spP AGv):=by
 refine fnP D AK5 (fun _ _ _ _ _ _ us hl=>ABf hl (fun _ _=>rfl)) (fun xs K h=>?_) (by decide) (fun fa cdv A outer s H E hr=>⟨_,(AAD (ACZ (APZ (APY (AAN (fun _=>Gf_within) (fun _=>hr.mono (by decide)) (AAA (qv 1) (AAA (qv 0) AAB)))))
 (AAH AM4)
 ACS)
 (AAH (AAg (ABH (N:=["room","part"]) (sc:=AAC ABk) (N':=["name","room"]) (pick:=[none,some 0]) ⟨rfl,by decide +kernel,by decide +kernel,by decide +kernel,by decide +kernel,rfl,by decide +kernel⟩ (by decide) (fun _=>rfl) (AFm (fun _=>rfl) (qv 1)) (AA8 (k:=0) rfl (fun _=>show List.Nodup (["name","room"]:List Str) by decide +kernel)) ABJ (AIv (qv 1) (qv 0)))))),fun xs K h=>?_⟩)
 ·obtain ⟨_,_,rfl,_⟩:=h;rfl
 ·obtain ⟨room,part,rfl,hl,hp,h⟩:=h
  have ha:(part.all fun n=>decide (n∈room))=true:=List.all_eq_true.mpr fun n hn=>decide_eq_true (hp n hn)
  simp_arith [AGu,ha]
  refine ⟨by lia,by lia,AAm.map (fun n=>.int (idx room n:Int)) (fun _ _=>rfl) (fun n hn M hM=>?_) ?_⟩
  ·simp_arith [pRet]
   exact ⟨idx room n,(AEO (hp n hn)).1,(AEO (hp n hn)).2,hM _⟩
  ·simp_arith [pRet]
   rw [List.map_map] at h
   exact h
def AGw:pF:=fun xs K=>∃ (r:List Int) (js:List Nat),xs=[rowP r,.lst (js.map fun (j:Nat)=>.int (j:Int))]∧js.length≤100∧(∀ j∈js,j<r.length)∧K (rowP (js.map fun (j:Nat)=>r.getD j 0))
theorem AMh (D:AAM K mg "picked" ABl) (T:TxtB mg):Fn P' w K mg base "picked" 1 ["row","spots"] (spP AGw):=by
 refine fnP D AK6 (fun _ _ _ _ _ _ us hl=>ABf hl (fun _ _=>rfl)) (fun xs K h=>?_) (by decide) (fun fa cdv A outer s H E hr=>⟨_,(AAH (AAg (AAU (fun _=>AAu) ABt (fun _=>T.b_tuple) (by decide +kernel) (AAA (ABH (N:=["row","spots"]) (sc:=AAC ABl) (N':=["spot","row"]) (pick:=[none,some 0]) ⟨rfl,by decide +kernel,by decide +kernel,by decide +kernel,by decide +kernel,rfl,by decide +kernel⟩ (by decide) (fun _=>rfl) (ABT (fun _=>rfl) (qv 1)) (AA8 (k:=0) rfl (fun _=>show List.Nodup (["spot","row"]:List Str) by decide +kernel)) ABJ (ABP (fun _=>ixA) r_ix (qv 1) (qv 0) (fun _ _=>rfl))) AAB)))),fun xs K h=>?_⟩)
 ·obtain ⟨_,_,rfl,_⟩:=h;rfl
 ·obtain ⟨r,js,rfl,hl,hj,h⟩:=h
  simp_arith [pRet]
  refine ⟨by lia,AAm.map (fun (j:Nat)=>.int (r.getD j 0)) (fun _ _=>rfl) (fun j hm M hM=>?_) ?_⟩
  ·simp_arith [pRet]
   refine ⟨.int (r.getD j 0),ABS ?_,hM _⟩
   rw [List.getElem?_map,List.getD_eq_getElem?_getD,List.getElem?_eq_getElem (hj j hm)];rfl
  ·simp_arith [pRet]
   have e:rowP (js.map fun (j:Nat)=>r.getD j 0)=.tup (js.map fun (j:Nat)=>P.int (r.getD j 0)):=by
    show P.tup ((js.map _).map _)=_
    rw [List.map_map];rfl
   rw [e] at h
   exact h
def AGx:pF:=fun xs K=>∃ t,xs=[tlP t]∧t.length≤100000∧(∃ n,∀ q∈t,q.1.length=n)∧K (tlP (posT (sumT t)))
def smB:pS:=fun E ρ=>∃ x a r c,ρ=[x,.own (dcP a),.sh (rowP r),.sh (.int c)]∧a.length≤100000∧E.nx [x,.own (dcP (addT a (r,c))),.sh (rowP r),.sh (.int c)]
def smL:pS:=fun E ρ=>∃ t,ρ=[.sh (tlP t),.own (.dT [] []),.emp,.emp]∧t.length≤100000∧∀ v1 v2,E.nx [.sh (tlP t),.own (dcP (sumT t)),v1,v2]
theorem AMi (D:AAM K mg "summed" ABm) (T:TxtB mg):Fn P' w K mg base "summed" 1 ["papers"] (spP AGx):=by
 refine fnP D ACm (fun _ _ _ _ _ _ us hl=>ACP hl (fun _=>rfl)) (fun xs K h=>?_) (by decide) (fun fa cdv A outer s H E hr=>?_)
 ·obtain ⟨_,rfl,_⟩:=h;rfl
 ·have hu:=AFe hr
  refine ⟨_,(AAD (AAP (k:=1) (fun _=>ACm.nd) AFE)
 (AAD (QS.weak (m:=smL) (AEG 0 (AB4 (fun _=>PassesOwn.never) (fun _=>rfl) (ABT (fun _=>rfl) (qv 0)) (AIT (ks:=[2,3]) (fun _=>rfl) (fun _=>rfl) (fun _=>(AA7 (AAf (i:=2) ACm.nd rfl (Or.inl rfl)) (AA7 (AAf (i:=3) ACm.nd rfl (Or.inl rfl)) ACo))) rfl)
 (QSs.weak (m:=smB) (AAH (AEl (k:=1) (fun _=>hu) (qv 2) (ABe (fun _=>ABs) ADo (AEI (fun _=>hu) (qv 1) (qv 2) AAF) (qv 3)))) ?body0))) ?loop0)
 (AAH (AAg (ABH (N:=["papers","counts","row","count"]) (sc:=AAC ABm) (N':=["row","counts"]) (pick:=[none,some 1]) ⟨rfl,by decide +kernel,by decide +kernel,by decide +kernel,by decide +kernel,rfl,by decide +kernel⟩ (by decide) (fun _=>rfl) (ABT (fun _=>rfl) (AAS (fun _=>(AHm rfl hr)) ANK (fun _=>T.b_sorted) (by decide +kernel) (AAA (qv 1) AAB))) (AA8 (k:=0) rfl (fun _=>show List.Nodup (["row","counts"]:List Str) by decide +kernel)) (ADn (AAy (fun _=>AHr) r_gt (AEk (fun _=>hu) (qv 1) (qv 0) (fun _ _=>rfl)) AAF (AAc _))) (AEB (AAA (qv 0) (AAA (AEk (fun _=>hu) (qv 1) (qv 0) (fun _ _=>rfl)) AAB)))))))),fun xs K h=>?_⟩
  case body0 =>
   rintro E ρ ⟨x,a,r,c,rfl,hl,h⟩
   simp_arith [AFN,get0]
   refine ⟨by lia,?_⟩
   rw [AHy]
   exact h
  case loop0 =>
   rintro E ρ ⟨t,rfl,hl,h⟩
   simp_arith [pRet]
   refine ⟨fun i ρ=>∃ v1 v2,ρ=[.sh (tlP t),.own (dcP ((t.take i).foldl addT [])),v1,v2],⟨_,_,rfl⟩,fun i ρ' x hx hI=>?_,fun ρ' hI=>?_⟩
   ·obtain ⟨v1,v2,rfl⟩:=hI
    rw [List.getElem?_map] at hx
    obtain ⟨q,hq,rfl⟩:=Option.map_eq_some_iff.mp hx
    simp_arith [pRet]
    have hl2:=AEt (t.take i) []
    have hl3:(t.take i).length≤t.length:=by rw [List.length_take];lia
    refine ⟨_,_,q.1,q.2,rfl,by simp at hl2;lia,.sh (rowP q.1),.sh (.int q.2),?_⟩
    rw [List.take_add_one,hq,List.foldl_append]
    rfl
   ·obtain ⟨v1,v2,rfl⟩:=hI
    have:=h v1 v2
    rw [List.take_of_length_le (Nat.le_refl _)]
    exact this
  ·obtain ⟨t,rfl,hl,hn,h⟩:=h
   simp_arith [pRet]
   refine ⟨t,rfl,hl,fun v1 v2=>?_⟩
   simp_arith [pRet]
   obtain ⟨n,hn⟩:=hn
   have hl2:(sumT t).length≤t.length:=by have:=AEt t [];simp only [List.length_nil,Nat.zero_add] at this;exact this
   refine ⟨(sumT t).map (·.1),⟨_,rfl⟩,by rw [List.length_map];lia,⟨n,fun r hr=>by obtain ⟨q,hq,rfl⟩:=List.mem_map.mp hr;exact AFL hn q hq⟩,fun rs' hp hs=>?_⟩
   ·have hlen:rs'.length=(sumT t).length:=by rw [hp.length_eq,List.length_map]
    have e:=AIp hp hs
    generalize sumT t=u at *
    refine ⟨by lia,?_⟩
    have get:∀ r∈rs',AA6 (u.map (·.1)) (u.map fun q=>P.int q.2) r=some (.int ((getT u r).getD 0)):=fun r hr=>by
     rw [AEJ]
     have hm:r∈u.map (·.1):=hp.mem_iff.mp hr
     obtain ⟨c,hc⟩:=AHW hm
     rw [hc];rfl
    refine AAm.filter (fun r=>decide (0<(getT u r).getD 0)) (fun r=>prP (r,(getT u r).getD 0)) (fun r _ _=>by simp) (fun r hr M hM=>?_) ?_
    ·simp_arith [get r hr]
     have hM:=hM .nw
     refine ite2 (fun z=>?_) (fun z=>?_)
     ·rw [if_pos (by simpa using z)] at hM;exact hM
     ·rw [if_neg (by simpa using z)] at hM;exact hM
    ·simp_arith [pRet]
     rw [e]
     have e2:((ACl (u.map (·.1))).filter fun r=>decide (0<(getT u r).getD 0)).map (fun r=>prP (r,(getT u r).getD 0))=(posT u).map prP:=by
      unfold posT;rw [List.map_map];rfl
     rw [e2]
     exact h
def AGy:pF:=fun xs K=>∃ room t part,xs=[nmP room,tlP t,nmP part]∧Sh room t part∧K (tlP (posT (sumT (AAl room t part))))
theorem AMj (D:AAM K mg "shared" ABn) (T:TxtB mg) (Gf_places:Fn P' w K mg base "places" 2 ["room","part"] (spP AGv)) (Gf_picked:Fn P' w K mg base "picked" 1 ["row","spots"] (spP AGw)) (Gf_summed:Fn P' w K mg base "summed" 1 ["papers"] (spP AGx)):Fn P' w K mg base "shared" 3 ["room","rows","part"] (spP AGy):=by
 refine fnP D AGK (fun _ _ _ _ _ _ us hl=>ACE hl (fun _ _ _=>rfl)) (fun xs K h=>?_) (by decide) (fun fa cdv A outer s H E hr=>⟨_,(AAD (AAP (k:=3) (fun _=>AGK.nd) (AAN (fun _=>Gf_places) (fun _=>hr.mono (by decide)) (AAA (qv 0) (AAA (qv 2) AAB))))
 (AAH (AAg (AAN (fun _=>Gf_summed) (fun _=>hr.mono (by decide)) (AAA (ABH (N:=["room","rows","part","spots"]) (sc:=AAC ABn) (N':=["row","count","spots"]) (pick:=[none,none,some 3]) ⟨rfl,by decide +kernel,by decide +kernel,by decide +kernel,by decide +kernel,rfl,by decide +kernel⟩ (by decide) (fun _=>rfl) (ABT (fun _=>rfl) (qv 1)) (AGb (i:=0) (j:=1) rfl rfl (fun _=>rfl) (fun _=>rfl) (fun _=>(AA7 (AAf (i:=0) (show List.Nodup (["row","count","spots"]:List Str) by decide +kernel) rfl (Or.inl rfl)) (AA7 (AAf (i:=1) (show List.Nodup (["row","count","spots"]:List Str) by decide +kernel) rfl (Or.inl rfl)) ACo)))) ABJ (AEB (AAA (AAN (fun _=>Gf_picked) (fun _=>hr.mono (by decide)) (AAA (qv 0) (AAA (qv 2) AAB))) (AAA (qv 1) AAB)))) AAB))))),fun xs K h=>?_⟩)
 ·obtain ⟨_,_,_,rfl,_⟩:=h;rfl
 ·obtain ⟨room,t,part,rfl,hs,h⟩:=h
  simp_arith [AGv,AGw,AGx]
  have h1:=hs.len
  have h2:=hs.few
  refine ⟨by lia,hs.sub,?_⟩
  refine ⟨by lia,AAm.map (fun q=>prP (AB5 room q.1 part,q.2)) (fun _ _=>AFx _) (fun q hq M hM=>?_) ?_⟩
  ·simp_arith [pRet]
   have hM:=hM .nw
   have e:AB5 room q.1 part=(part.map (idx room)).map fun (j:Nat)=>q.1.getD j 0:=by unfold AB5;rw [List.map_map];rfl
   rw [e] at hM
   refine ⟨part.map (idx room),rfl,by rw [List.length_map];lia,fun j hj=>?_,hM⟩
   obtain ⟨n,hn,rfl⟩:=List.mem_map.mp hj
   rw [hs.rows q hq]
   exact AMN (hs.sub n hn)
  ·simp_arith [pRet]
   refine ⟨AAl room t part,by unfold AAl;rw [List.map_map];rfl,by unfold AAl;rw [List.length_map];lia,⟨part.length,fun q hq=>?_⟩,h⟩
   obtain ⟨p,hp,rfl⟩:=List.mem_map.mp hq
   exact AGB _ _ _
def AC9:pF:=fun xs K=>∃ room t part,xs=[nmP room,tlP t,nmP part]∧Sh room t part∧K (tlP (shT room t part))
def poB:pS:=fun E ρ=>∃ room t part a r c x,ρ=[.sh (nmP room),.sh (tlP t),.sh (nmP part),.own (dcP a),.sh (rowP r),.sh (.int c),x]∧a.length≤100000∧part.length≤100∧r.length=room.length∧(∀ n∈part,n∈room)∧∀ y,E.nx [.sh (nmP room),.sh (tlP t),.sh (nmP part),.own (dcP (addT a (AB5 room r part,c))),.sh (rowP r),.sh (.int c),y]
def poL:pS:=fun E ρ=>∃ room t part,ρ=[.sh (nmP room),.sh (tlP t),.sh (nmP part),.own (.dT [] []),.emp,.emp,.emp]∧Sh room t part∧∀ x y z,E.nx [.sh (nmP room),.sh (tlP t),.sh (nmP part),.own (dcP (sumT (AAl room t part))),x,y,z]
theorem AK9 (D:AAM K mg "_law_portion" AA0) (T:TxtB mg) (Gf_law_row_of:Fn P' w K mg base "_law_row_of" 1 ["_law_room","_law_row","_law_part_here"] (spP AJH)) (Gf_law_settled:Fn P' w K mg base "_law_settled" 1 ["_law_counts"] (spP ACI)):Fn P' w K mg base "_law_portion" 2 ["_law_room","_law_rows","_law_part_here"] (spP AC9):=by
 refine fnP D ABY (fun _ _ _ _ _ _ us hl=>ACE hl (fun _ _ _=>rfl)) (fun xs K h=>?_) (by decide) (fun fa cdv A outer s H E hr=>?_)
 ·obtain ⟨_,_,_,rfl,_⟩:=h;rfl
 ·have hu:=AFe hr
  refine ⟨_,(AAD (AAP (k:=3) (fun _=>ABY.nd) AFE)
 (AAD (QS.weak (m:=poL) (AEG 1 (AB4 (fun _=>PassesOwn.never) (fun _=>rfl) (ABT (fun _=>rfl) (qv 1)) (AIT (ks:=[4,5]) (fun _=>rfl) (fun _=>rfl) (fun _=>(AA7 (AAf (i:=4) ABY.nd rfl (Or.inl rfl)) (AA7 (AAf (i:=5) ABY.nd rfl (Or.inl rfl)) ACo))) rfl)
 (QSs.weak (m:=poB) (AAD (AAP (k:=6) (fun _=>ABY.nd) (AAN (fun _=>Gf_law_row_of) (fun _=>hr.mono (by decide)) (AAA (qv 0) (AAA (qv 4) (AAA (qv 2) AAB)))))
 (AAH (AEl (k:=3) (fun _=>hu) (qv 6) (ABe (fun _=>ABs) ADo (AEI (fun _=>hu) (qv 3) (qv 6) AAF) (qv 5))))) ?body0))) ?loop0)
 (AAH (AAg (AAN (fun _=>Gf_law_settled) (fun _=>hr.mono (by decide)) (AAA (qv 3) AAB)))))),fun xs K h=>?_⟩
  case body0 =>
   rintro E ρ ⟨room,t,part,a,r,c,x,rfl,hl,hp,hrl,hsub,h⟩
   simp_arith [AJH,AFN,get0]
   refine ⟨hp,hrl,hsub,by lia,?_⟩
   rw [AHy]
   exact h _
  case loop0 =>
   rintro E ρ ⟨room,t,part,rfl,hs,h⟩
   simp_arith [pRet]
   refine ⟨fun i ρ=>∃ x y z,ρ=[.sh (nmP room),.sh (tlP t),.sh (nmP part),.own (dcP ((AAl room (t.take i) part).foldl addT [])),x,y,z],⟨_,_,_,rfl⟩,fun i ρ' x hx hI=>?_,fun ρ' hI=>?_⟩
   ·obtain ⟨v1,v2,v3,rfl⟩:=hI
    rw [List.getElem?_map] at hx
    obtain ⟨q,hq,rfl⟩:=Option.map_eq_some_iff.mp hx
    simp_arith [pRet]
    have hl2:=AEt (AAl room (t.take i) part) []
    have hl3:(AAl room (t.take i) part).length≤t.length:=by unfold AAl;rw [List.length_map,List.length_take];lia
    have hf:=hs.few
    refine ⟨room,t,part,_,q.1,q.2,_,rfl,by simp at hl2;lia,hs.len,hs.rows q (List.mem_of_getElem? hq),hs.sub,fun y=>⟨.sh (rowP q.1),.sh (.int q.2),y,?_⟩⟩
    have e:AAl room (t.take (i + 1)) part=AAl room (t.take i) part ++ [(AB5 room q.1 part,q.2)]:=by
     unfold AAl
     rw [List.take_add_one,hq,List.map_append];rfl
    rw [e,List.foldl_append]
    rfl
   ·obtain ⟨v1,v2,v3,rfl⟩:=hI
    have:=h v1 v2 v3
    rw [List.take_of_length_le (Nat.le_refl _)]
    exact this
  ·obtain ⟨room,t,part,rfl,hs,h⟩:=h
   simp_arith [pRet]
   refine ⟨room,t,part,rfl,hs,fun x y z=>?_⟩
   simp_arith [pRet]
   have hf:=hs.few
   exact ⟨_,rfl,Nat.le_trans (AFK _) (by rw [ADM];exact hf),⟨_,AFL (AE1 room t part)⟩,h⟩
end
end K
namespace K
open PySem L2
section
variable {P':Program} {w:World} {K:PySem.W.Frag} {mg:Str→Option Value} {base:Heap}
def ADv:pF:=fun xs K=>xs=[.bag]∧∀ ns:List Str,1≤ns.length→ns.length≤6→ns.Nodup→(∀ x∈ns,ACX x)→PyProof.Rows.sortedS ns=true→K (nmP ns)
theorem AJI (D:AAM K mg "_law_questions" AAn) (T:TxtB mg) (Gf_law_pull:Fn P' w K mg base "_law_pull" 1 ["_law_bag_here","_law_many_here"] (spP AAj)) (Gf_law_names:Fn P' w K mg base "_law_names" 3 ["_law_bag_here","_law_many_here"] (spP AJF)):Fn P' w K mg base "_law_questions" 4 ["_law_bag_here"] (spP ADv):=by
 refine fnP D AEv (fun _ _ _ _ _ _ us hl=>ACP hl (fun _=>rfl)) (fun xs K h=>?_) (by decide) (fun fa cdv A outer s H E hr=>⟨_,(AAH (AAg (AAU (fun _=>AAu) ABt (fun _=>T.b_tuple) (by decide +kernel) (AAA (AAS (fun _=>(AB6 trivial)) AEi (fun _=>T.b_sorted) (by decide +kernel) (AAA (AAN (fun _=>Gf_law_names) (fun _=>hr.mono (by decide)) (AAA (qv 0) (AAA (ABe (fun _=>ABs) ADo AAF (AAN (fun _=>Gf_law_pull) (fun _=>hr.mono (by decide)) (AAA (qv 0) (AAA AAF AAB)))) AAB))) AAB)) AAB)))),fun xs K h=>?_⟩)
 ·obtain ⟨rfl,_⟩:=h;rfl
 ·obtain ⟨rfl,h⟩:=h
  simp_arith [AAj,AJF]
  refine ⟨by decide,by decide,fun r r0 r1=>⟨by lia,by lia,fun ns hn hg nd=>⟨by lia,fun ss hp hs=>?_⟩⟩⟩
  have hl:=hp.length_eq
  exact h ss (by lia) (by lia) (hp.nodup_iff.mpr nd) (fun x hx=>hg x (hp.mem_iff.mp hx)) hs
def ADK:pF:=fun xs K=>∃ ns,xs=[.bag,nmP ns]∧ns.length≤9∧∀ part:List Str,part.Sublist ns→K (nmP part)
def ptB:pS:=fun E ρ=>∃ ns m x,ρ=[.sh .bag,.sh (nmP ns),.sh (.int m),x,.emp]∧0≤m∧m≤1000∧E.nx [.sh .bag,.sh (nmP ns),.sh (.int (m * 2)),x,.emp]
def ptL:pS:=fun E ρ=>∃ ns,ρ=[.sh .bag,.sh (nmP ns),.sh (.int 1),.emp,.emp]∧ns.length≤9∧∀ x,E.nx [.sh .bag,.sh (nmP ns),.sh (.int ((2 ^ ns.length:Nat):Int)),x,.emp]
theorem pow9 {n:Nat} (h:n≤9):1≤2 ^ n∧2 ^ n≤512:=by
 refine ⟨Nat.one_le_two_pow,?_⟩
 exact Nat.pow_le_pow_right (by decide:0<2) h
theorem AOx (D:AAM K mg "_law_part" ABG) (T:TxtB mg) (Gf_law_pull:Fn P' w K mg base "_law_pull" 1 ["_law_bag_here","_law_many_here"] (spP AAj)):Fn P' w K mg base "_law_part" 2 ["_law_bag_here","_law_names_here"] (spP ADK):=by
 refine fnP D ABx (fun _ _ _ _ _ _ us hl=>ABf hl (fun _ _=>rfl)) (fun xs K h=>?_) (by decide) (fun fa cdv A outer s H E hr=>⟨_,(AAD (AAP (k:=2) (fun _=>ABx.nd) AAF)
 (AAD (QS.weak (m:=ptL) (AEG 1 (AB4 (fun _=>PassesOwn.never) (fun _=>rfl) (AFm (fun _=>rfl) (qv 1)) (ACF (k:=3) (fun _=>ABx.nd))
 (QSs.weak (m:=ptB) (AAH (AAP (k:=2) (fun _=>ABx.nd) (ABe (fun _=>ADP) AQX (qv 2) AAF))) ?body0))) ?loop0)
 (AAD (AAP (k:=4) (fun _=>ABx.nd) (AAN (fun _=>Gf_law_pull) (fun _=>hr.mono (by decide)) (AAA (qv 0) (AAA (qv 2) AAB))))
 (AAH (AAg (AAU (fun _=>AAu) ABt (fun _=>T.b_tuple) (by decide +kernel) (AAA (ABH (N:=["_law_bag_here","_law_names_here","_law_many_here","_law_name","_law_mask"]) (sc:=AAC ABG) (N':=["_law_at","_law_names_here","_law_mask"]) (pick:=[none,some 1,some 4]) ⟨rfl,by decide +kernel,by decide +kernel,by decide +kernel,by decide +kernel,rfl,by decide +kernel⟩ (by decide) (fun _=>rfl) (ABi (fun _=>T.b_range) (AAA (AAS (fun _=>AAh) ABp (fun _=>T.b_len) (by decide +kernel) (AAA (qv 1) AAB)) AAB)) (AA8 (k:=0) rfl (fun _=>show List.Nodup (["_law_at","_law_names_here","_law_mask"]:List Str) by decide +kernel)) (ADn (AAy (fun _=>(ABu hr)) r_eq (ABe (fun _=>ACu) AQY (ABe (fun _=>APF) AQa (qv 2) (qv 0)) AAF) AAF (AAc _))) (ABP (fun _=>ixA) r_ix (qv 1) (qv 0) (fun _ _=>rfl))) AAB))))))),fun xs K h=>?_⟩)
 case body0 =>
  rintro E ρ ⟨ns,m,x,rfl,m0,m1,h⟩
  simp_arith [CMul]
  exact ⟨.inl ⟨by lia,by lia⟩,h⟩
 case loop0 =>
  rintro E ρ ⟨ns,rfl,hl,h⟩
  simp_arith [pRet]
  refine ⟨fun i ρ=>i≤ns.length∧∃ x,ρ=[.sh .bag,.sh (nmP ns),.sh (.int ((2 ^ i:Nat):Int)),x,.emp],⟨Nat.zero_le _,_,rfl⟩,fun i ρ' x hx hI=>?_,fun ρ' hI=>?_⟩
  ·obtain ⟨hi,x,rfl⟩:=hI
   rw [List.getElem?_map] at hx
   obtain ⟨q,hq,rfl⟩:=Option.map_eq_some_iff.mp hx
   have hi2:i<ns.length:=(List.getElem?_eq_some_iff.mp hq).1
   have hp:=pow9 (n:=i) (by lia)
   simp_arith [pRet]
   refine ⟨ns,_,_,rfl,by lia,by lia,by lia,.sh (.str q),?_⟩
   rw [Nat.pow_succ,Int.natCast_mul]
   rfl
  ·obtain ⟨hi,x,rfl⟩:=hI
   exact h x
 ·obtain ⟨_,rfl,_⟩:=h;rfl
 ·obtain ⟨ns,rfl,hl,h⟩:=h
  simp_arith [pRet]
  refine ⟨ns,rfl,hl,fun x=>?_⟩
  have hp:=pow9 hl
  simp_arith [AAj]
  refine ⟨by lia,by lia,fun r r0 r1=>⟨by lia,by lia,by rw [AAW];lia,?_⟩⟩
  rw [AJG (by lia)]
  refine AAm.filter (fun k:Nat=>decide (r / 2 ^ k % 2=1)) (fun k=>P.str (ns.getD k ⟨#[]⟩)) (fun _ _ _=>rfl) (fun k hk M hM=>?_) ?_
  ·have hk2:k<ns.length:=by have:=List.mem_range.mp hk;lia
   simp_arith [Int.zero_add,Int.toNat_natCast]
   have hM:=hM .cl
   refine ⟨by lia,by decide,ite2 (fun z=>?_) (fun z=>?_)⟩
   ·rw [if_pos (by simpa using z)] at hM
    refine ⟨_,ABS (j:=k) (v:=.str (ns.getD k ⟨#[]⟩)) ?_,hM⟩
    rw [List.getElem?_map,List.getD_eq_getElem?_getD,List.getElem?_eq_getElem hk2];rfl
   ·rw [if_neg (by simpa using z)] at hM
    exact hM
  ·simp_arith [pRet]
   have e:ns=(List.range ns.length).map fun k=>ns.getD k ⟨#[]⟩:=by
    apply List.ext_getElem?
    intro i
    rw [List.getElem?_map]
    by_cases hi:i<ns.length
    ·rw [List.getElem?_range hi,List.getElem?_eq_getElem hi,Option.map_some,List.getD_eq_getElem?_getD,List.getElem?_eq_getElem hi];rfl
    ·rw [List.getElem?_eq_none (by lia),List.getElem?_eq_none (by rw [List.length_range];lia)];rfl
   have hs:(((List.range ns.length).filter fun k=>decide (r / 2 ^ k % 2=1)).map fun k=>ns.getD k ⟨#[]⟩).Sublist ns:=by
    have:=(List.filter_sublist (p:=fun k:Nat=>decide (r / 2 ^ k % 2=1)) (l:=List.range ns.length)).map fun k=>ns.getD k ⟨#[]⟩
    rw [←e] at this
    exact this
   have:=h _ hs
   rw [nmP,List.map_map] at this
   exact this
def AGO:pF:=fun xs K=>∃ room t,xs=[.bag,nmP room,tlP t]∧t≠[]∧t.length≤900∧room.length≤9∧Tal room.length t∧∀ t',Tal room.length t'→t'.length≤t.length + 1→K (tlP t')
theorem AMk {n:Nat} {t:Tl} {q:List Int×Int} {f:List Int} {m:Int} (h:Tal n t) (hl:t.length≤900) (hq:q∈t) (h1:1≤m) (h2:m≤q.2) (hf:f.length=n) :
  Tal n (AAZ (putT (putT t q.1 (q.2 - m)) f ((getT (putT t q.1 (q.2 - m)) f).getD 0 + m)))∧(AAZ (putT (putT t q.1 (q.2 - m)) f ((getT (putT t q.1 (q.2 - m)) f).getD 0 + m))).length≤t.length + 1:=by
 have l1:(putT t q.1 (q.2 - m)).length=t.length:=by
  unfold putT;rw [if_pos (List.mem_map_of_mem hq),List.length_map]
 have l2:=AC4 (putT t q.1 (q.2 - m)) f ((getT (putT t q.1 (q.2 - m)) f).getD 0 + m)
 have nn:∀ r,0≤(getT t r).getD 0:=fun r=>by
  by_cases z:r∈t.map (·.1)
  ·obtain ⟨p,hp,rfl⟩:=List.mem_map.mp z
   rw [AGq h.nd hp]
   exact Int.le_of_lt (h.pos p hp)
  ·rw [AHb z];simp
 have n2:∀ r,0≤(getT (putT t q.1 (q.2 - m)) r).getD 0:=fun r=>by
  rw [AFJ]
  split
  ·show 0≤q.2 - m;lia
  ·exact nn r
 refine ⟨ADs (by lia) (ACh (ACh h.rows (h.rows q hq)) hf) (ACk (ACk h.nd)) fun r=>?_,Nat.le_trans (ACM _) (by lia)⟩
 rw [AFJ]
 split
 ·have:=n2 f
  show 0≤(getT (putT t q.1 (q.2 - m)) f).getD 0 + m
  lia
 ·exact n2 r
theorem ANb (D:AAM K mg "_law_moved" ABN) (T:TxtB mg) (Gf_law_pull:Fn P' w K mg base "_law_pull" 1 ["_law_bag_here","_law_many_here"] (spP AAj)) (Gf_law_answers:Fn P' w K mg base "_law_answers" 2 ["_law_bag_here","_law_size","_law_base"] (spP AC5)) (Gf_law_settled:Fn P' w K mg base "_law_settled" 1 ["_law_counts"] (spP ACI)):Fn P' w K mg base "_law_moved" 3 ["_law_bag_here","_law_room","_law_rows"] (spP AGO):=by
 refine fnP D ABA (fun _ _ _ _ _ _ us hl=>ACE hl (fun _ _ _=>rfl)) (fun xs K h=>?_) (by decide) (fun fa cdv A outer s H E hr=>?_)
 ·obtain ⟨_,_,rfl,_⟩:=h;rfl
 ·have hu:=AFe hr
  refine ⟨_,(AAD (AAP (k:=3) (fun _=>ABA.nd) (AAN (fun _=>Gf_law_pull) (fun _=>hr.mono (by decide)) (AAA (qv 0) (AAA (AAS (fun _=>AAh) ABp (fun _=>T.b_len) (by decide +kernel) (AAA (qv 2) AAB)) AAB))))
 (AAD (APa (ABP (fun _=>ixA) r_ix (qv 2) (qv 3) (fun _ _=>rfl)) (AIT (ks:=[4,5]) (fun _=>rfl) (fun _=>rfl) (fun _=>(AA7 (AAf (i:=4) ABA.nd rfl (Or.inl rfl)) (AA7 (AAf (i:=5) ABA.nd rfl (Or.inl rfl)) ACo))) rfl))
 (AAD (AAP (k:=6) (fun _=>ABA.nd) (ABe (fun _=>ABs) ADo AAF (AAN (fun _=>Gf_law_pull) (fun _=>hr.mono (by decide)) (AAA (qv 0) (AAA (AAS (fun _=>(ALN rfl)) APj (fun _=>T.b_min) (by decide +kernel) (AAA (qv 5) (AAA AAF AAB))) AAB)))))
 (AAD (AAP (k:=7) (fun _=>ABA.nd) (AAU (fun _=>(AKk rfl hr)) AOZ (fun _=>T.b_dict) (by decide +kernel) (AAA (qv 2) AAB)))
 (AAD (AOY (k:=7) (fun _=>hu) (fun _=>ANG) (qv 4) (qv 6))
 (AAD (AAP (k:=8) (fun _=>ABA.nd) (AAN (fun _=>Gf_law_answers) (fun _=>hr.mono (by decide)) (AAA (qv 0) (AAA (AAS (fun _=>AAh) ABp (fun _=>T.b_len) (by decide +kernel) (AAA (qv 1) AAB)) (AAA AAF AAB)))))
 (AAD (AEl (k:=7) (fun _=>hu) (qv 8) (ABe (fun _=>ABs) ADo (AEI (fun _=>hu) (qv 7) (qv 8) AAF) (qv 6)))
 (AAH (AAg (AAN (fun _=>Gf_law_settled) (fun _=>hr.mono (by decide)) (AAA (qv 7) AAB))))))))))),fun xs K h=>?_⟩
  obtain ⟨room,t,rfl,ne,hl,hr9,ht,h⟩:=h
  have hp:0<t.length:=List.length_pos_iff.mpr ne
  simp_arith [AAj,AC5,ACI]
  refine ⟨by lia,by lia,fun r r0 r1=>?_⟩
  obtain ⟨n,rfl⟩:=Int.eq_ofNat_of_zero_le r0
  have hn:n<t.length:=by lia
  have hm:t[n]∈t:=List.getElem_mem hn
  have hc:=ht.pos _ hm
  refine ⟨prP t[n],ABS (by rw [List.getElem?_map,List.getElem?_eq_getElem hn];rfl),_,rfl,rfl,?_⟩
  have dg:AA6 (t.map (·.1)) (t.map fun q=>P.int q.2) t[n].1=some (.int t[n].2):=by rw [AEJ,AGq ht.nd hm];rfl
  simp_arith [AAj,AC5,ACI,ANM ht.nd,dg,AHy,AFN,get0]
  refine ⟨by split <;> lia,by split <;> lia,fun m m0 m1=>?_⟩
  have hm2:1 + m≤t[n].2:=by split at m1 <;> lia
  have l1:=AC4 t t[n].1 (t[n].2 - (1 + m))
  refine ⟨by lia,by lia,by lia,by lia,by decide,by decide,fun f hf hx=>⟨by lia,?_⟩⟩
  obtain ⟨a1,a2⟩:=AMk (f:=f) ht hl hm (by lia:1≤1 + m) hm2 (by lia)
  have l2:=AC4 (putT t t[n].1 (t[n].2 - (1 + m))) f ((getT (putT t t[n].1 (t[n].2 - (1 + m))) f).getD 0 + (1 + m))
  exact ⟨_,rfl,by lia,⟨room.length,ACh (ACh ht.rows (ht.rows _ hm)) (by lia)⟩,h _ a1 a2⟩
def AGz:pF:=fun xs K=>∃ one other,xs=[nmP one,nmP other]∧one.length≤20∧other.length≤20∧∀ ss:List Str,ss.Nodup→(∀ z,z∈ss ↔ z∈one∨z∈other)→SrtS ss→K (nmP ss)
theorem AP3 (D:AAM K mg "_law_all" ABr) (T:TxtB mg):Fn P' w K mg base "_law_all" 1 ["_law_one","_law_other"] (spP AGz):=by
 refine fnP D AJZ (fun _ _ _ _ _ _ us hl=>ABf hl (fun _ _=>rfl)) (fun xs K h=>?_) (by decide) (fun fa cdv A outer s H E hr=>⟨_,(AAH (AAg (AAU (fun _=>AAu) ABt (fun _=>T.b_tuple) (by decide +kernel) (AAA (AER (fun _=>⟨rfl,rfl⟩) (fun _=>rfl) (fun _=>T.b_sorted) (fun _=>T.b_set) (AAA (ABe (fun _=>AGc) AKV (AAU (fun _=>ABD) ACf (fun _=>T.b_list) (by decide +kernel) (AAA (qv 0) AAB)) (AAU (fun _=>ABD) ACf (fun _=>T.b_list) (by decide +kernel) (AAA (qv 1) AAB))) AAB)) AAB)))),fun xs K h=>?_⟩)
 ·obtain ⟨_,_,rfl,_⟩:=h;rfl
 ·obtain ⟨one,other,rfl,l1,l2,h⟩:=h
  simp_arith [pRet]
  exact ⟨by lia,one ++ other,.inl (by rw [List.map_append]),by rw [List.length_append];lia,fun ss nd hm hs=>h ss nd (fun z=>(hm z).trans List.mem_append) hs⟩
def fTruth:pF:=fun xs K=>∃ a b,xs=[.bl a,.bl b]∧K (.bl (decide (a=b)))
theorem ANc (D:AAM K mg "_law_truth" ABO) (T:TxtB mg):Fn P' w K mg base "_law_truth" 1 ["_law_found","_law_due"] (spP fTruth):=by
 refine fnP D AHp (fun _ _ _ _ _ _ us hl=>ABf hl (fun _ _=>rfl)) (fun xs K h=>?_) (by decide) (fun fa cdv A outer s H E hr=>⟨_,(AAH (AAg (ALg (ALi (n:="bool") (by simp) (fun _=>rfl) (fun _=>T.b_isinstance) (fun _=>T.b_bool) (by decide +kernel) (qv 0)) (ALe (AD8 (fun _=>(ABu hr)) r_eq (qv 0) (qv 1) (AAc _)))))),fun xs K h=>?_⟩)
 ·obtain ⟨_,_,rfl,_⟩:=h;rfl
 ·obtain ⟨a,b,rfl,h⟩:=h
  simp_arith [pRet]
  exact h
end
end K
namespace K
open PySem L2
section
variable {P':Program} {w:World} {K:PySem.W.Frag} {mg:Str→Option Value} {base:Heap}
noncomputable abbrev rmsP (rs:List (List Str)):P:=.lst (rs.map nmP)
def ALA:pF:=fun xs K=>∃ ns many,xs=[.bag,nmP ns,.int many]∧Nms ns∧0≤many∧many≤8∧∀ rs:List (List Str),(rs.length:Int)=many→(∀ r∈rs,Rm ns r)→K (rmsP rs)
noncomputable abbrev erR (ns:List Str) (many:Int) (fd:List (List Str)) (sp:List Str) (a b c d:S):List S:=[.sh .bag,.sh (nmP ns),.sh (.int many),.own (rmsP fd),.own (.lst (sp.map P.str)),a,b,c,d]
def erB1:pS:=fun E ρ=>∃ ns many fd sp a b fr d,ρ=erR ns many fd sp a b (.own (.lst (fr.map P.str))) d∧Er ns fd sp fr∧fr.length≤100∧sp.length≤9∧∀ sp' fr',Er ns fd sp' fr'→fr'.length≤fr.length + 1→sp'.length≤9→E.nx (erR ns many fd sp' a b (.own (.lst (fr'.map P.str))) d)
def erL1:pS:=fun E ρ=>∃ ns many fd sp a b d,ρ=erR ns many fd sp a b (.own (.lst [])) d∧Er ns fd sp []∧sp.length≤9∧∀ sp' fr' d',Er ns fd sp' fr'→fr'.length≤9→sp'.length≤9→E.nx (erR ns many fd sp' a b (.own (.lst (fr'.map P.str))) d')
def erM2:pS:=fun E ρ=>∃ ns many fd sp a part c d,ρ=erR ns many fd sp a (.sh (nmP part)) c d∧Er ns fd sp []∧fd.length≤8∧sp.length≤9∧(part=[]∨∃ r∈fd,part.Sublist r)∧part.length≤9∧∀ rm sp' b' c' d',Er ns (fd ++ [rm]) sp' []→sp'.length≤9→E.nx (erR ns many (fd ++ [rm]) sp' a b' c' d')
def erB:pS:=fun E ρ=>∃ ns many fd sp a b c d,ρ=erR ns many fd sp a b c d∧Nms ns∧Er ns fd sp []∧fd.length≤8∧sp.length≤9∧∀ rm sp' b' c' d',Er ns (fd ++ [rm]) sp' []→sp'.length≤9→E.nx (erR ns many (fd ++ [rm]) sp' a b' c' d')
def erL:pS:=fun E ρ=>∃ ns many,ρ=erR ns many [] ns .emp .emp .emp .emp∧Nms ns∧0≤many∧many≤8∧∀ fd sp a b c d,(fd.length:Int)=many→(∀ r∈fd,Rm ns r)→E.nx (erR ns many fd sp a b c d)
theorem AHf (rs:List (List Str)):eqP (rmsP rs) (.lst [])=decide (rs=[]):=by
 have hn:(rmsP rs).nb=true:=by rw [P.nb];exact ACG AHx rs
 rw [Bool.eq_iff_iff,ACT hn rfl,decide_eq_true_iff]
 constructor
 ·intro h
  have:=P.lst.inj h
  simpa using this
 ·intro h;rw [h];rfl
theorem ANd (l:List Str):eqP (.lst (l.map P.str)) (.lst [])=decide (l=[]):=by
 have hn:(P.lst (l.map P.str)).nb=true:=by rw [P.nb];exact ACG (fun _=>rfl) l
 rw [Bool.eq_iff_iff,ACT hn rfl,decide_eq_true_iff]
 constructor
 ·intro h
  have:=P.lst.inj h
  simpa using this
 ·intro h;rw [h];rfl
theorem ANe (rs:List (List Str)):P.imms (rs.map nmP)=true:=ACR (fun r=>by simp) rs
theorem AJJ (n:Nat) (rs:List (List Str)):(rs.map nmP).all (P.pl (n + 1))=true:=AEE (fun r=>by simp) rs
theorem AJK {rs:List (List Str)} {n:Nat} (h:n<rs.length):atI (rs.map nmP) (n:Int)=some (nmP rs[n]):=ABS (by rw [List.getElem?_map,List.getElem?_eq_getElem h];rfl)
theorem AEV {α β:Type} (f:α→β):∀ (l:List α) (n:Nat),(l.map f).eraseIdx n=(l.eraseIdx n).map f
 | [],_=>by simp
 | x :: r,0=>rfl
 | x :: r,n + 1=>by simp [AEV f r n]
theorem AOy (D:AAM K mg "_law_ears" ABc) (T:TxtB mg) (Gf_law_pull:Fn P' w K mg base "_law_pull" 1 ["_law_bag_here","_law_many_here"] (spP AAj)) (Gf_law_part:Fn P' w K mg base "_law_part" 2 ["_law_bag_here","_law_names_here"] (spP ADK)):Fn P' w K mg base "_law_ears" 3 ["_law_bag_here","_law_names_here","_law_many_here"] (spP ALA):=by
 refine fnP D AA3 (fun _ _ _ _ _ _ us hl=>ACE hl (fun _ _ _=>rfl)) (fun xs K h=>?_) (by decide) (fun fa cdv A outer s H E hr=>⟨_,(AAD (AAP (k:=3) (fun _=>AA3.nd) (ABB AAB))
 (AAD (AAP (k:=4) (fun _=>AA3.nd) (AAU (fun _=>ABD) ACf (fun _=>T.b_list) (by decide +kernel) (AAA (qv 1) AAB)))
 (AAD (QS.weak (m:=erL) (AB4 (fun _=>PassesOwn.never) (fun _=>rfl) (ABi (fun _=>T.b_range) (AAA (qv 2) AAB)) (ACF (k:=5) (fun _=>AA3.nd))
 (QSs.weak (m:=erB) (AAD (AAP (k:=6) (fun _=>AA3.nd) (AEB AAB))
 (AAD (ACZ (AAy (fun _=>(AC1 hr)) r_ne (qv 3) (ABB AAB) (AAc _))
 (AAH (AAP (k:=6) (fun _=>AA3.nd) (AAN (fun _=>Gf_law_part) (fun _=>hr.mono (by decide)) (AAA (qv 0) (AAA (ABP (fun _=>ixA) r_ix (qv 3) (AAN (fun _=>Gf_law_pull) (fun _=>hr.mono (by decide)) (AAA (qv 0) (AAA (AAS (fun _=>AAh) ABp (fun _=>T.b_len) (by decide +kernel) (AAA (qv 3) AAB)) AAB))) (fun _ _=>rfl)) AAB)))))
 ACS)
 (QSs.weak (m:=erM2) (AAD (AAP (k:=7) (fun _=>AA3.nd) (ABB AAB))
 (AAD (QS.weak (m:=erL1) (AB4 (fun _=>PassesOwn.never) (fun _=>rfl) (ABi (fun _=>T.b_range) (AAA (AAN (fun _=>Gf_law_pull) (fun _=>hr.mono (by decide)) (AAA (qv 0) (AAA AAF AAB))) AAB)) (ACF (k:=8) (fun _=>AA3.nd))
 (QSs.weak (m:=erB1) (AAH (ACZ (AAy (fun _=>(AC1 hr)) r_ne (qv 4) (ABB AAB) (AAc _))
 (AAH (AHP (k:=7) (j:=4) (fun _=>rfl) (AAN (fun _=>Gf_law_pull) (fun _=>hr.mono (by decide)) (AAA (qv 0) (AAA (AAS (fun _=>AAh) ABp (fun _=>T.b_len) (by decide +kernel) (AAA (qv 4) AAB)) AAB)))))
 ACS)) ?body1)) ?loop1)
 (AAH (ADH (k:=3) (fun _=>rfl) (AAU (fun _=>AAu) ABt (fun _=>T.b_tuple) (by decide +kernel) (AAA (AAS (fun _=>(AB6 trivial)) AEi (fun _=>T.b_sorted) (by decide +kernel) (AAA (ABe (fun _=>AGc) AKV (AAU (fun _=>ABD) ACf (fun _=>T.b_list) (by decide +kernel) (AAA (qv 6) AAB)) (qv 7)) AAB)) AAB)))))) ?cut2_2))) ?body0)) ?loop0)
 (AAH (AAg (qv 3)))))),fun xs K h=>?_⟩)
 case body1 =>
  rintro E ρ ⟨ns,many,fd,sp,a,b,fr,d,rfl,er,l1,l2,h⟩
  simp_arith [AAj,ANd,ADE]
  refine ite2 (fun z=>?_) (fun z=>h sp fr er (by lia) l2)
  have hp:0<sp.length:=List.length_pos_iff.mpr (by simpa using z)
  refine ⟨by lia,by lia,fun r r0 r1=>?_⟩
  obtain ⟨n,rfl⟩:=Int.eq_ofNat_of_zero_le r0
  have hn:n<sp.length:=by lia
  refine ⟨n,rfl,by lia,.str sp[n],by rw [List.getElem?_map,List.getElem?_eq_getElem hn];rfl,by lia,?_⟩
  have:=h (sp.eraseIdx n) (fr ++ [sp[n]]) (er.pop (List.getElem?_eq_getElem hn)) (by rw [List.length_append];exact Nat.le_refl _) (by rw [List.length_eraseIdx,if_pos hn];lia)
  rw [List.map_append] at this
  rw [AEV]
  exact ⟨by decide,this⟩
 case loop1 =>
  rintro E ρ ⟨ns,many,fd,sp,a,b,d,rfl,er,l2,h⟩
  simp_arith [AAj]
  refine ⟨by decide,by decide,fun r r0 r1=>⟨by lia,by lia,fun i ρ=>∃ sp' fr' d',ρ=erR ns many fd sp' a b (.own (.lst (fr'.map P.str))) d'∧Er ns fd sp' fr'∧fr'.length≤i∧sp'.length≤9,⟨sp,[],_,rfl,er,by simp,l2⟩,fun i ρ' x hx hI=>?_,fun ρ' hI=>?_⟩⟩
  ·obtain ⟨sp',fr',d',rfl,er',l3,l4⟩:=hI
   obtain ⟨hi,rfl⟩:=ABz hx
   simp_arith [pRet]
   exact ⟨ns,many,fd,sp',a,b,fr',_,rfl,er',by lia,l4,fun sp2 fr2 e2 l5 l6=>⟨sp2,fr2,⟨_,rfl⟩,e2,by lia,l6⟩⟩
  ·obtain ⟨sp',fr',d',rfl,er',l3,l4⟩:=hI
   rw [AAW] at l3
   exact h sp' fr' d' er' (by lia) l4
 case body0 =>
  rintro E ρ ⟨ns,many,fd,sp,a,b,c,d,rfl,nm,er,l1,l2,h⟩
  have hl:=nm.len
  simp_arith [AAj,ADK,AHf,AJJ]
  refine ite2 (fun z=>?_) (fun z=>⟨ns,many,fd,sp,a,[],c,d,rfl,er,l1,l2,.inl rfl,by simp,h⟩)
  have hp:0<fd.length:=List.length_pos_iff.mpr (by simpa using z)
  refine ⟨by lia,by lia,fun r r0 r1=>?_⟩
  obtain ⟨n,rfl⟩:=Int.eq_ofNat_of_zero_le r0
  have hn:n<fd.length:=by lia
  have hm:=List.getElem_mem hn
  have hrl:=(er.fnd _ hm).len
  refine ⟨_,AJK hn,fd[n],rfl,by lia,fun part hs=>⟨ns,many,fd,sp,a,part,c,d,rfl,er,l1,l2,.inr ⟨_,hm,hs⟩,by have:=hs.length_le;lia,h⟩⟩
 case cut2_2 =>
  rintro E ρ ⟨ns,many,fd,sp,a,part,c,d,rfl,er,l1,l2,hpart,l3,h⟩
  simp_arith [pRet]
  refine ⟨ns,many,fd,sp,a,_,d,rfl,er,l2,fun sp' fr' d' er' l4 l5=>?_⟩
  simp_arith [pRet]
  rw [←List.map_append]
  refine ⟨by lia,part ++ fr',rfl,by rw [List.length_append];lia,fun ss hp hs=>?_⟩
  refine ⟨by lia,?_⟩
  have:=h ss sp' (.sh (nmP part)) (.own (.lst (fr'.map P.str))) d' (er'.add hp hs hpart) l5
  have e:rmsP (fd ++ [ss])=.lst (fd.map nmP ++ [nmP ss]):=by show P.lst _=_;rw [List.map_append];rfl
  unfold erR at this
  rw [e] at this
  exact this
 case loop0 =>
  rintro E ρ ⟨ns,many,rfl,nm,m0,m8,h⟩
  simp_arith [pRet]
  refine ⟨by lia,by lia,fun i ρ=>∃ fd sp a b c d,ρ=erR ns many fd sp a b c d∧Er ns fd sp []∧fd.length=i∧sp.length≤9,⟨[],ns,_,_,_,_,rfl,⟨by simp,by simpa using nm.nd,by simp,by simp⟩,rfl,by have:=nm.len;lia⟩,fun i ρ' x hx hI=>?_,fun ρ' hI=>?_⟩
  ·obtain ⟨fd,sp,a,b,c,d,rfl,er,l3,l4⟩:=hI
   obtain ⟨hi,rfl⟩:=ABz hx
   simp_arith [pRet]
   exact ⟨ns,many,fd,sp,_,b,c,d,rfl,nm,er,by lia,l4,fun rm sp' b' c' d' e2 l5=>⟨fd ++ [rm],sp',⟨_,_,_,_,rfl⟩,e2,by simp [l3],l5⟩⟩
  ·obtain ⟨fd,sp,a,b,c,d,rfl,er,l3,l4⟩:=hI
   rw [AAW] at l3
   exact h fd sp a b c d (by lia) er.fnd
 ·obtain ⟨_,_,rfl,_⟩:=h;rfl
 ·obtain ⟨ns,many,rfl,nm,m0,m8,h⟩:=h
  simp_arith [pRet]
  refine ⟨ns,many,rfl,nm,m0,m8,fun fd sp a b c d h1 h2=>?_⟩
  simp_arith [pRet]
  exact h fd h1 h2
end
end K
namespace K
open PySem L2
section
variable {P':Program} {w:World} {K:PySem.W.Frag} {mg:Str→Option Value} {base:Heap}
def AFO:pF:=fun xs K=>∃ ns many,xs=[.bag,nmP ns,.int many]∧Nms ns∧3≤ns.length∧0≤many∧many≤8∧∀ rs:List (List Str),rs.length≤8→(∀ r∈rs,Rm ns r)→K (rmsP rs)
structure Kn (ns row:List Str):Prop where
 nd:row.Nodup
 sub:∀ n∈row,n∈ns
 lo:3≤row.length
 hi:row.length≤6
def knB0:pS:=fun E ρ=>∃ (ns:List Str) (many:Int) (row sp:List Str) (b:S),ρ=[.sh .bag,.sh (nmP ns),.sh (.int many),.own (.lst (row.map P.str)),.own (.lst (sp.map P.str)),b,.emp,.emp,.emp]∧0<sp.length∧sp.length≤9∧row.length≤9∧∀ m x,sp[m]?=some x→E.nx [.sh .bag,.sh (nmP ns),.sh (.int many),.own (.lst ((row ++ [x]).map P.str)),.own (.lst ((sp.eraseIdx m).map P.str)),b,.emp,.emp,.emp]
def knL0:pS:=fun E ρ=>∃ (ns:List Str) (many:Int),ρ=[.sh .bag,.sh (nmP ns),.sh (.int many),.own (.lst []),.own (.lst (ns.map P.str)),.emp,.emp,.emp,.emp]∧Nms ns∧3≤ns.length∧∀ row a b,Kn ns row→E.nx [.sh .bag,.sh (nmP ns),.sh (.int many),.own (.lst (row.map P.str)),a,b,.emp,.emp,.emp]
def knB1:pS:=fun E ρ=>∃ (ns:List Str) (many:Int) (row:List Str) (a b:S) (rs:List (List Str)) (k:Nat) (d:S),ρ=[.sh .bag,.sh (nmP ns),.sh (.int many),.own (.lst (row.map P.str)),a,b,.own (rmsP rs),.sh (.int k),d]∧Kn ns row∧k<row.length∧rs.length≤8∧∀ rm,Rm ns rm→E.nx [.sh .bag,.sh (nmP ns),.sh (.int many),.own (.lst (row.map P.str)),a,b,.own (rmsP (rs ++ [rm])),.sh (.int k),d]
def knL1:pS:=fun E ρ=>∃ (ns:List Str) (many:Int) (row:List Str) (a b c d:S),ρ=[.sh .bag,.sh (nmP ns),.sh (.int many),.own (.lst (row.map P.str)),a,b,.own (.lst []),c,d]∧Kn ns row∧∀ rs c',(∀ r∈rs,Rm ns r)→rs.length=row.length→E.nx [.sh .bag,.sh (nmP ns),.sh (.int many),.own (.lst (row.map P.str)),a,b,.own (rmsP rs),c',d]
def knB2:pS:=fun E ρ=>∃ (ns:List Str) (many:Int) (row:List Str) (a b:S) (rs:List (List Str)) (c:S) (z:Str),ρ=[.sh .bag,.sh (nmP ns),.sh (.int many),.fr (.lst (row.map P.str)),a,b,.own (rmsP rs),c,.sh (.str z)]∧Kn ns row∧rs.length≤8∧∀ rm,Rm ns rm→E.nx [.sh .bag,.sh (nmP ns),.sh (.int many),.fr (.lst (row.map P.str)),a,b,.own (rmsP (rs ++ [rm])),c,.sh (.str z)]
def knL2:pS:=fun E ρ=>∃ (ns:List Str) (many:Int) (row:List Str) (a b c d:S),ρ=[.sh .bag,.sh (nmP ns),.sh (.int many),.own (.lst (row.map P.str)),a,b,.own (.lst []),c,d]∧Kn ns row∧∀ rs d',(∀ r∈rs,Rm ns r)→rs.length=row.length→E.nx [.sh .bag,.sh (nmP ns),.sh (.int many),.fr (.lst (row.map P.str)),a,b,.own (rmsP rs),c,d']
def knM5:pS:=fun E ρ=>∃ (ns:List Str) (many:Int) (x a b:S) (rs:List (List Str)) (c d:S),ρ=[.sh .bag,.sh (nmP ns),.sh (.int many),x,a,b,.own (rmsP rs),c,d]∧Nms ns∧many≤8∧(∀ r∈rs,Rm ns r)∧1≤rs.length∧rs.length≤8∧∀ rs':List (List Str),rs'.length≤8→(∀ r∈rs',Rm ns r)→E.rt (rmsP rs')
theorem AFP (rs:List (List Str)) (r:List Str):rmsP (rs ++ [r])=.lst (rs.map nmP ++ [nmP r]):=by show P.lst _=_;rw [List.map_append];rfl
theorem AP4 {l:List Str} (h:0<l.length):atI (l.map P.str) (-1)=some (.str (l[l.length - 1]'(by lia))):=by
 unfold atI ixN
 rw [List.length_map,if_neg (by lia),if_pos (by lia)]
 simp only [Option.bind_some]
 rw [show (-1 + (l.length:Int)).toNat=l.length - 1 by lia,List.getElem?_map,List.getElem?_eq_getElem (by lia)];rfl
theorem AJ9 {l:List Str} {n:Nat} (h:n<l.length):atI (l.map P.str) (n:Int)=some (.str l[n]):=ABS (by rw [List.getElem?_map,List.getElem?_eq_getElem h];rfl)
theorem ALB (D:AAM K mg "_law_knotted" AAp) (T:TxtB mg) (Gf_law_pull:Fn P' w K mg base "_law_pull" 1 ["_law_bag_here","_law_many_here"] (spP AAj)) (Gf_law_part:Fn P' w K mg base "_law_part" 2 ["_law_bag_here","_law_names_here"] (spP ADK)):Fn P' w K mg base "_law_knotted" 3 ["_law_bag_here","_law_names_here","_law_many_here"] (spP AFO):=by
 refine fnP D AAv (fun _ _ _ _ _ _ us hl=>ACE hl (fun _ _ _=>rfl)) (fun xs K h=>?_) (by decide) (fun fa cdv A outer s H E hr=>⟨_,(AAD (AAP (k:=3) (fun _=>AAv.nd) (ABB AAB))
 (AAD (AAP (k:=4) (fun _=>AAv.nd) (AAU (fun _=>ABD) ACf (fun _=>T.b_list) (by decide +kernel) (AAA (qv 1) AAB)))
 (AAD (QS.weak (m:=knL0) (AB4 (fun _=>PassesOwn.never) (fun _=>rfl) (ABi (fun _=>T.b_range) (AAA (ABe (fun _=>ABs) ADo AAF (AAN (fun _=>Gf_law_pull) (fun _=>hr.mono (by decide)) (AAA (qv 0) (AAA (ABe (fun _=>AFV) ANu (AAS (fun _=>AAh) ABp (fun _=>T.b_len) (by decide +kernel) (AAA (qv 1) AAB)) AAF) AAB)))) AAB)) (ACF (k:=5) (fun _=>AAv.nd))
 (QSs.weak (m:=knB0) (AAH (AHP (k:=3) (j:=4) (fun _=>rfl) (AAN (fun _=>Gf_law_pull) (fun _=>hr.mono (by decide)) (AAA (qv 0) (AAA (AAS (fun _=>AAh) ABp (fun _=>T.b_len) (by decide +kernel) (AAA (qv 4) AAB)) AAB))))) ?body0)) ?loop0)
 (AAD (AAP (k:=6) (fun _=>AAv.nd) (ABB AAB))
 (AAD (ACZ (QW.pt (AFi (AAy (fun _=>AHr) r_gt (AAS (fun _=>AAh) ABp (fun _=>T.b_len) (by decide +kernel) (AAA (qv 3) AAB)) AAF (AAc _)) (AEf (AAy (fun _=>(ABu hr)) r_eq (AAN (fun _=>Gf_law_pull) (fun _=>hr.mono (by decide)) (AAA (qv 0) (AAA AAF AAB))) AAF (AAc _)))))
 (AAH (QS.weak (m:=knL1) (AB4 (fun _=>PassesOwn.never) (fun _=>rfl) (ABi (fun _=>T.b_range) (AAA (AAS (fun _=>AAh) ABp (fun _=>T.b_len) (by decide +kernel) (AAA (qv 3) AAB)) AAB)) (ACF (k:=7) (fun _=>AAv.nd))
 (QSs.weak (m:=knB1) (AAH (ADH (k:=6) (fun _=>rfl) (AAU (fun _=>AAu) ABt (fun _=>T.b_tuple) (by decide +kernel) (AAA (AAS (fun _=>(AB6 trivial)) AEi (fun _=>T.b_sorted) (by decide +kernel) (AAA (ABB (AAA (ABP (fun _=>ixA) r_ix (qv 3) (ABe (fun _=>AFV) ANu (qv 7) AAF) (fun _ _=>rfl)) (AAA (ABP (fun _=>ixA) r_ix (qv 3) (qv 7) (fun _ _=>rfl)) AAB))) AAB)) AAB)))) ?body1)) ?loop1))
 (AAH (QS.weak (m:=knL2) (AEG 3 (AB4 (fun _=>PassesOwn.never) (fun _=>rfl) (ABT (fun _=>rfl) (qv 3)) (ACF (k:=8) (fun _=>AAv.nd))
 (QSs.weak (m:=knB2) (AAH (ADH (k:=6) (fun _=>rfl) (AAU (fun _=>AAu) ABt (fun _=>T.b_tuple) (by decide +kernel) (AAA (AAS (fun _=>(AB6 trivial)) AEi (fun _=>T.b_sorted) (by decide +kernel) (AAA (ABH (N:=["_law_bag_here","_law_names_here","_law_many_here","_law_row","_law_spare","_law_k","_law_found","_law_at","_law_name"]) (sc:=AAC AAp) (N':=["_law_other","_law_name"]) (pick:=[none,some 8]) ⟨rfl,by decide +kernel,by decide +kernel,by decide +kernel,by decide +kernel,rfl,by decide +kernel⟩ (by decide) (fun _=>rfl) (ABT (fun _=>rfl) (qv 3)) (AA8 (k:=0) rfl (fun _=>show List.Nodup (["_law_other","_law_name"]:List Str) by decide +kernel)) (ADn (AAy (fun _=>(AC1 hr)) r_ne (qv 0) (qv 1) (AAc _))) (qv 0)) AAB)) AAB)))) ?body2))) ?loop2)))
 (QSs.weak (m:=knM5) (AAD (AM7 (fun _=>PassesOwn.never) (AAy (fun _=>ANl) r_lt (AAS (fun _=>AAh) ABp (fun _=>T.b_len) (by decide +kernel) (AAA (qv 6) AAB)) (qv 2) (AAc _))
 (AAH (ADH (k:=6) (fun _=>rfl) (AAN (fun _=>Gf_law_part) (fun _=>hr.mono (by decide)) (AAA (qv 0) (AAA (ABP (fun _=>ixA) r_ix (qv 6) (AAN (fun _=>Gf_law_pull) (fun _=>hr.mono (by decide)) (AAA (qv 0) (AAA (AAS (fun _=>AAh) ABp (fun _=>T.b_len) (by decide +kernel) (AAA (qv 6) AAB)) AAB))) (fun _ _=>rfl)) AAB))))))
 (AAH (AAg (qv 6)))) ?cut5)))))),fun xs K h=>?_⟩)
 case body0 =>
  rintro E ρ ⟨ns,many,row,sp,b,rfl,l0,l1,l2,h⟩
  simp_arith [AAj,ADE]
  refine ⟨by lia,by lia,fun r r0 r1=>?_⟩
  obtain ⟨n,rfl⟩:=Int.eq_ofNat_of_zero_le r0
  have hn:n<sp.length:=by lia
  refine ⟨n,rfl,by lia,.str sp[n],by rw [List.getElem?_map,List.getElem?_eq_getElem hn];rfl,by lia,by decide,?_⟩
  have:=h n _ (List.getElem?_eq_getElem hn)
  rw [List.map_append] at this
  rw [AEV]
  exact this
 case loop0 =>
  rintro E ρ ⟨ns,many,rfl,nm,n3,h⟩
  have hl:=nm.len
  simp_arith [AAj]
  refine ⟨by lia,by lia,fun r r0 r1=>⟨by lia,by lia,fun i ρ=>∃ (row sp:List Str) (b:S),ρ=[.sh .bag,.sh (nmP ns),.sh (.int many),.own (.lst (row.map P.str)),.own (.lst (sp.map P.str)),b,.emp,.emp,.emp]∧(sp ++ row).Perm ns∧row.length=i,⟨[],ns,_,rfl,by simp,rfl⟩,fun i ρ' x hx hI=>?_,fun ρ' hI=>?_⟩⟩
  ·obtain ⟨row,sp,b,rfl,hp,hi⟩:=hI
   obtain ⟨hlt,rfl⟩:=ABz hx
   have hpl:=hp.length_eq
   rw [List.length_append] at hpl
   simp_arith [pRet]
   refine ⟨ns,many,row,sp,_,rfl,by lia,by lia,by lia,fun m x e=>⟨row ++ [x],sp.eraseIdx m,⟨_,rfl⟩,?_,by rw [List.length_append,hi];rfl⟩⟩
   refine List.Perm.trans ?_ hp
   refine List.Perm.trans ?_ ((AGD e).append_right row)
   rw [List.append_assoc]
   exact List.Perm.append_left _ List.perm_append_comm
  ·obtain ⟨row,sp,b,rfl,hp,hi⟩:=hI
   rw [AAW] at hi
   have nd:=hp.nodup_iff.mpr nm.nd
   exact h row _ b ⟨(List.nodup_append.mp nd).2.1,fun n hn=>hp.mem_iff.mp (List.mem_append_right _ hn),by lia,by have:=hp.length_eq;rw [List.length_append] at this;lia⟩
 case body1 =>
  rintro E ρ ⟨ns,many,row,a,b,rs,k,d,rfl,kn,hk,l1,h⟩
  have h3:=kn.lo
  have key:∃ j,∃ hj:j<row.length,j≠k∧atI (row.map P.str) ((k:Int) - 1)=some (.str row[j]):=by
   by_cases z:k=0
   ·refine ⟨row.length - 1,by lia,by lia,?_⟩
    rw [z]
    exact AP4 (by lia)
   ·refine ⟨k - 1,by lia,by lia,?_⟩
    rw [show (k:Int) - 1=((k - 1:Nat):Int) by lia]
    exact AJ9 (by lia)
  obtain ⟨j,hj,ne,ej⟩:=key
  simp_arith [ej,AJ9 hk]
  have nd:[row[j],row[k]].Nodup:=by
   simp only [List.nodup_cons,List.mem_singleton,List.not_mem_nil,not_false_eq_true,List.nodup_nil,and_true]
   exact fun z=>ne ((List.getElem_inj kn.nd).mp z)
  refine ⟨[row[j],row[k]],rfl,by simp,fun ss hp hs=>⟨by lia,?_⟩⟩
  have rm:Rm ns ss:=Rm.of hp hs (fun n hn=>by
   rcases List.mem_cons.mp hn with rfl | hn
   ·exact kn.sub _ (List.getElem_mem hj)
   ·rw [List.mem_singleton.mp hn];exact kn.sub _ (List.getElem_mem hk)) nd
  have:=h ss rm
  rw [AFP] at this
  exact this
 case loop1 =>
  rintro E ρ ⟨ns,many,row,a,b,c,d,rfl,kn,h⟩
  have h6:=kn.hi
  simp_arith [pRet]
  refine ⟨by lia,by lia,fun i ρ=>∃ (rs:List (List Str)) (c':S),ρ=[.sh .bag,.sh (nmP ns),.sh (.int many),.own (.lst (row.map P.str)),a,b,.own (rmsP rs),c',d]∧(∀ r∈rs,Rm ns r)∧rs.length=i,⟨[],_,rfl,by simp,rfl⟩,fun i ρ' x hx hI=>?_,fun ρ' hI=>?_⟩
  ·obtain ⟨rs,c',rfl,hr,hi⟩:=hI
   obtain ⟨hlt,rfl⟩:=ABz hx
   simp_arith [pRet]
   refine ⟨ns,many,row,a,b,rs,i,d,by rw [Int.zero_add],kn,by lia,by lia,fun rm hrm=>⟨rs ++ [rm],⟨_,rfl⟩,fun r hr2=>?_,by rw [List.length_append,hi];rfl⟩⟩
   rcases List.mem_append.mp hr2 with z | z
   ·exact hr r z
   ·rw [List.mem_singleton.mp z];exact hrm
  ·obtain ⟨rs,c',rfl,hr,hi⟩:=hI
   rw [AAW] at hi
   exact h rs c' hr (by lia)
 case body2 =>
  rintro E ρ ⟨ns,many,row,a,b,rs,c,z,rfl,kn,l1,h⟩
  have h6:=kn.hi
  simp_arith [pRet]
  refine ⟨by lia,AAm.filter (fun o=>decide (o≠z)) P.str (fun _ _ _=>rfl) (fun o _ M hM=>?_) ?_⟩
  ·simp_arith [pRet]
   have hM:=hM .cl
   refine ite2 (fun q=>?_) (fun q=>?_)
   ·rw [if_pos (by simpa using q)] at hM;exact hM
   ·rw [if_neg (by simpa using q)] at hM;exact hM
  ·simp_arith [pRet]
   have hl':(row.filter fun o=>decide (o≠z)).length<64:=Nat.lt_of_le_of_lt (List.length_filter_le _ _) (by lia)
   refine ⟨hl',fun ss hp hs=>⟨by lia,?_⟩⟩
   have rm:Rm ns ss:=Rm.of hp hs (fun n hn=>kn.sub n (List.mem_filter.mp hn).1) (kn.nd.filter _)
   have:=h ss rm
   rw [AFP] at this
   exact this
 case loop2 =>
  rintro E ρ ⟨ns,many,row,a,b,c,d,rfl,kn,h⟩
  have h6:=kn.hi
  simp_arith [pRet]
  refine ⟨fun i ρ=>∃ (rs:List (List Str)) (d':S),ρ=[.sh .bag,.sh (nmP ns),.sh (.int many),.fr (.lst (row.map P.str)),a,b,.own (rmsP rs),c,d']∧(∀ r∈rs,Rm ns r)∧rs.length=i∧i≤row.length,⟨[],_,rfl,by simp,rfl,Nat.zero_le _⟩,fun i ρ' x hx hI=>?_,fun ρ' hI=>?_⟩
  ·obtain ⟨rs,d',rfl,hr,hi,hle⟩:=hI
   rw [List.getElem?_map] at hx
   obtain ⟨q,hq,rfl⟩:=Option.map_eq_some_iff.mp hx
   have hlt:=(List.getElem?_eq_some_iff.mp hq).1
   simp_arith [pRet]
   refine ⟨ns,many,row,a,b,rs,c,q,rfl,kn,by lia,fun rm hrm=>⟨rs ++ [rm],⟨_,rfl⟩,fun r hr2=>?_,by rw [List.length_append,hi];rfl,by lia⟩⟩
   rcases List.mem_append.mp hr2 with z | z
   ·exact hr r z
   ·rw [List.mem_singleton.mp z];exact hrm
  ·obtain ⟨rs,d',rfl,hr,hi,hle⟩:=hI
   exact h rs d' hr (by simpa using hi)
 case cut5 =>
  rintro E ρ ⟨ns,many,x,a,b,rs,c,d,rfl,nm,m8,hr,l1,l8,h⟩
  have hl:=nm.len
  simp_arith [AAj,ADK]
  refine ⟨fun m ρ'=>∃ rs:List (List Str),ρ'=[.sh .bag,.sh (nmP ns),.sh (.int many),x,a,b,.own (rmsP rs),c,d]∧(∀ r∈rs,Rm ns r)∧1≤rs.length∧rs.length≤8∧m=8 - rs.length,⟨_,rs,rfl,hr,l1,l8,rfl⟩,fun m ρ' hI=>?_⟩
  obtain ⟨rs,rfl,hr,l1,l8,rfl⟩:=hI
  simp_arith [AAj,ADK]
  refine ite2 (fun z=>?_) (fun z=>h rs l8 hr)
  refine ⟨fun ρ2=>∃ rs2:List (List Str),ρ2=[.sh .bag,.sh (nmP ns),.sh (.int many),x,a,b,.own (rmsP rs2),c,d]∧(∀ r∈rs2,Rm ns r)∧rs2.length=rs.length + 1,fun ρ2 h2=>?_,?_⟩
  ·obtain ⟨rs2,rfl,hr2,l2⟩:=h2
   exact ⟨8 - rs2.length,by lia,rs2,rfl,hr2,by lia,by lia,rfl⟩
  ·refine ⟨by lia,by lia,fun r r0 r1=>?_⟩
   obtain ⟨n,rfl⟩:=Int.eq_ofNat_of_zero_le r0
   have hn:n<rs.length:=by lia
   have hm:=List.getElem_mem hn
   have hrl:=(hr _ hm).len
   refine ⟨_,AJK hn,rs[n],rfl,by lia,fun part hs=>?_⟩
   simp_arith [pRet]
   refine ⟨by lia,rs ++ [part],?_,fun r hr2=>?_,by rw [List.length_append];rfl⟩
   ·rw [AFP]
   ·rcases List.mem_append.mp hr2 with z | z
    ·exact hr r z
    ·rw [List.mem_singleton.mp z];exact (hr _ hm).part hs
 ·obtain ⟨_,_,rfl,_⟩:=h;rfl
 ·obtain ⟨ns,many,rfl,nm,n3,m0,m8,h⟩:=h
  simp_arith [pRet]
  refine ⟨ns,many,rfl,nm,n3,fun row a b kn=>?_⟩
  have h6:=kn.hi
  have h3:=kn.lo
  simp_arith [AAj]
  have one:knL1 { nx:=knM5 { nx:=fun _=>K .non,rt:=K },rt:=K } [.sh .bag,.sh (nmP ns),.sh (.int many),.own (.lst (row.map P.str)),a,b,.own (.lst []),.emp,.emp]:=⟨ns,many,row,a,b,_,_,rfl,kn,fun rs c' hr hl=>⟨ns,many,_,a,b,rs,_,_,rfl,nm,m8,hr,by lia,by lia,h⟩⟩
  have two:knL2 { nx:=knM5 { nx:=fun _=>K .non,rt:=K },rt:=K } [.sh .bag,.sh (nmP ns),.sh (.int many),.own (.lst (row.map P.str)),a,b,.own (.lst []),.emp,.emp]:=⟨ns,many,row,a,b,_,_,rfl,kn,fun rs c' hr hl=>⟨ns,many,_,a,b,rs,_,_,rfl,nm,m8,hr,by lia,by lia,h⟩⟩
  exact ite2 (fun _=>⟨by decide,by decide,fun r _ _=>ite2 (fun _=>one) (fun _=>two)⟩) (fun _=>two)
end
end K
namespace K
open PySem L2
section
variable {P':Program} {w:World} {K:PySem.W.Frag} {mg:Str→Option Value} {base:Heap}
theorem AHg {n:Nat} {t:Tl} (h:Drawn n t):Tal n (AAZ t):=ADs (Nat.le_trans h.len (by decide)) h.rows h.nd fun r=>by
 by_cases z:r∈t.map (·.1)
 ·obtain ⟨p,hp,rfl⟩:=List.mem_map.mp z
  rw [AGq h.nd hp]
  have:=(h.cnt p hp).1
  show 0≤p.2
  lia
 ·rw [AHb z];simp
theorem atI0 {α:Type} (x:α) (r:List α):atI (x :: r) 0=some x:=ABS (j:=0) rfl
theorem atI1 {α:Type} (x y:α) (r:List α):atI (x :: y :: r) 1=some y:=ABS (j:=1) rfl
theorem AJL (t:Tl):eqP (tlP t) (.lst [])=decide (t=[]):=AIn t []
def AJM:pF:=fun xs K=>∃ ns,xs=[.bag,nmP ns]∧Nms ns∧∀ rs:List (List Str),rs.length≤8→(∀ r∈rs,Rm ns r)→K (rmsP rs)
def RmRt (ns:List Str) (E:PEnds):Prop:=∀ rs:List (List Str),rs.length≤8→(∀ r∈rs,Rm ns r)→E.rt (rmsP rs)
def rmM2:pS:=fun E ρ=>∃ (ns:List Str) (way many:Int),ρ=[.sh .bag,.sh (nmP ns),.sh (.int way),.sh (.int many),.emp,.emp]∧Nms ns∧0≤many∧many≤8∧RmRt ns E
def rmM3:pS:=fun E ρ=>∃ (ns:List Str) (way many:Int) (rs:List (List Str)),ρ=[.sh .bag,.sh (nmP ns),.sh (.int way),.sh (.int many),.own (rmsP rs),.emp]∧rs.length≤8∧(∀ r∈rs,Rm ns r)∧RmRt ns E
theorem AQ1 {a0 a1 a2 a3 a4 a5 a6 a7 a8:Int} {r:Int} (h0:0≤r) (h1:r<9):∃ c,atI [P.int a0,.int a1,.int a2,.int a3,.int a4,.int a5,.int a6,.int a7,.int a8] r=some (.int c)∧c∈[a0,a1,a2,a3,a4,a5,a6,a7,a8]:=by
 obtain ⟨n,rfl⟩:=Int.eq_ofNat_of_zero_le h0
 have h:n=0∨n=1∨n=2∨n=3∨n=4∨n=5∨n=6∨n=7∨n=8:=by lia
 rcases h with rfl | rfl | rfl | rfl | rfl | rfl | rfl | rfl | rfl <;> exact ⟨_,rfl,by simp⟩
theorem AOz {α β:Type} (f:α→β) (l:List α) (lo hi:Option Int):cut (l.map f) lo hi=(cut l lo hi).map f:=by
 unfold cut
 rw [List.length_map,List.map_take,List.map_drop]
theorem ANf {α:Type} (l:List α) {n:Nat} (h:n≤l.length):cut l (some (n:Int)) none=l.drop n:=by
 unfold cut
 rw [show HT.sIx l.length 0 (some (n:Int))=n by simp only [HT.sIx];rw [if_neg (by lia)];lia,show HT.sIx l.length l.length none=l.length by simp [HT.sIx]]
 exact List.take_of_length_le (by rw [List.length_drop];lia)
theorem AP5 {α:Type} (l:List α) {n:Nat} (h:n≤l.length):cut l none (some (n:Int))=l.take n:=by
 unfold cut
 rw [show HT.sIx l.length 0 none=0 by simp [HT.sIx],show HT.sIx l.length l.length (some (n:Int))=n by simp only [HT.sIx];rw [if_neg (by lia)];lia]
 simp
theorem ANg (D:AAM K mg "_law_rooms" AA4) (T:TxtB mg) (Gf_law_pull:Fn P' w K mg base "_law_pull" 1 ["_law_bag_here","_law_many_here"] (spP AAj)) (Gf_law_part:Fn P' w K mg base "_law_part" 2 ["_law_bag_here","_law_names_here"] (spP ADK)) (Gf_law_ears:Fn P' w K mg base "_law_ears" 3 ["_law_bag_here","_law_names_here","_law_many_here"] (spP ALA)) (Gf_law_knotted:Fn P' w K mg base "_law_knotted" 3 ["_law_bag_here","_law_names_here","_law_many_here"] (spP AFO)):Fn P' w K mg base "_law_rooms" 4 ["_law_bag_here","_law_names_here"] (spP AJM):=by
 refine fnP D AA9 (fun _ _ _ _ _ _ us hl=>ABf hl (fun _ _=>rfl)) (fun xs K h=>?_) (by decide) (fun fa cdv A outer s H E hr=>⟨_,(AAD (AAP (k:=2) (fun _=>AA9.nd) (AAN (fun _=>Gf_law_pull) (fun _=>hr.mono (by decide)) (AAA (qv 0) (AAA AAF AAB))))
 (AAD (AAP (k:=3) (fun _=>AA9.nd) (ABP (fun _=>ixA) r_ix (ABB (AAA AAF (AAA AAF (AAA AAF (AAA AAF (AAA AAF (AAA AAF (AAA AAF (AAA AAF (AAA AAF AAB)))))))))) (AAN (fun _=>Gf_law_pull) (fun _=>hr.mono (by decide)) (AAA (qv 0) (AAA AAF AAB))) (fun _ _=>rfl)))
 (QSs.weak (m:=rmM2) (AAD (ACZ (AAy (fun _=>(ABu hr)) r_eq (qv 2) AAF (AAc _))
 (AAH (AAP (k:=4) (fun _=>AA9.nd) (AAN (fun _=>Gf_law_ears) (fun _=>hr.mono (by decide)) (AAA (qv 0) (AAA (qv 1) (AAA (qv 3) AAB))))))
 (AAH (ACZ (QW.pt (AFi (AAy (fun _=>(ABu hr)) r_eq (qv 2) AAF (AAc _)) (AEf (AAy (fun _=>AHr) r_gt (AAS (fun _=>AAh) ABp (fun _=>T.b_len) (by decide +kernel) (AAA (qv 1) AAB)) AAF (AAc _)))))
 (AAH (AAP (k:=4) (fun _=>AA9.nd) (AAN (fun _=>Gf_law_knotted) (fun _=>hr.mono (by decide)) (AAA (qv 0) (AAA (qv 1) (AAA (qv 3) AAB))))))
 (AAH (AFo (k:=4) (fun _=>AA9.nd) (N:=["_law_bag_here","_law_names_here","_law_way","_law_many_here","_law_found","_law_turn"]) (sc:=AAC AA4) (N':=["_law_k","_law_bag_here","_law_names_here"]) (pick:=[none,some 0,some 1]) ⟨rfl,by decide +kernel,by decide +kernel,by decide +kernel,by decide +kernel,rfl,by decide +kernel⟩ (by decide) (fun _=>rfl) (ABi (fun _=>T.b_range) (AAA (qv 3) AAB)) (AA8 (k:=0) rfl (fun _=>show List.Nodup (["_law_k","_law_bag_here","_law_names_here"]:List Str) by decide +kernel)) ABJ (AAN (fun _=>Gf_law_part) (fun _=>hr.mono (by decide)) (AAA (qv 1) (AAA (qv 2) AAB))))))))
 (QSs.weak (m:=rmM3) (AAD (AAP (k:=5) (fun _=>AA9.nd) (AAN (fun _=>Gf_law_pull) (fun _=>hr.mono (by decide)) (AAA (qv 0) (AAA (AAS (fun _=>(ALM rfl)) APk (fun _=>T.b_max) (by decide +kernel) (AAA AAF (AAA (AAS (fun _=>AAh) ABp (fun _=>T.b_len) (by decide +kernel) (AAA (qv 4) AAB)) AAB))) AAB))))
 (AAH (AAg (ABe (fun _=>AGc) AKV (AIe (fun _=>rfl) (qv 4) (AJx (qv 5)) AJw) (AIe (fun _=>rfl) (qv 4) AJw (AJx (qv 5))))))) ?cut3)) ?cut2))),fun xs K h=>?_⟩)
 case cut2 =>
  rintro E ρ ⟨ns,way,many,rfl,nm,m0,m8,rt⟩
  have hl:=nm.len
  simp_arith [ALA,AFO,ADK]
  refine ite2 (fun _=>⟨nm,m0,m8,fun rs l hr=>⟨ns,way,many,rs,rfl,by lia,hr,rt⟩⟩) (fun _=>ite2 (fun _=>ite2 (fun _=>⟨nm,by lia,m0,m8,fun rs l hr=>⟨ns,way,many,rs,rfl,l,hr,rt⟩⟩) (fun _=>?_)) (fun _=>?_))
  all_goals
   refine ⟨by lia,by lia,by rw [AAW];lia,?_⟩
   rw [AJG m0]
   refine AAm.rel nmP (fun _ p=>p.Sublist ns) (fun k _ M hM=>⟨by lia,fun part hp=>hM part _ hp⟩) (fun p=>by simp) (fun bs he=>?_)
   have hbl:=he.length
   rw [List.length_range] at hbl
   simp_arith [pRet]
   exact ⟨ns,way,many,bs,rfl,by lia,fun r hr2=>let ⟨_,_,z⟩:=he.mem r hr2;nm.rm z,rt⟩
 case cut3 =>
  rintro E ρ ⟨ns,way,many,rs,rfl,l8,hr,rt⟩
  simp_arith [AAj,AOz]
  refine ⟨by split <;> lia,by split <;> lia,fun r r0 r1=>?_⟩
  obtain ⟨n,rfl⟩:=Int.eq_ofNat_of_zero_le r0
  have hn:n≤rs.length:=by split at r1 <;> lia
  simp only [ANf rs hn,AP5 rs hn]
  rw [←List.map_append]
  refine ⟨by rw [List.length_drop,List.length_take];lia,rt _ (by rw [List.length_append,List.length_drop,List.length_take];lia) fun r hr2=>hr r ?_⟩
  rcases List.mem_append.mp hr2 with z | z
  ·exact List.mem_of_mem_drop z
  ·exact List.mem_of_mem_take z
 ·obtain ⟨_,rfl,_⟩:=h;rfl
 ·obtain ⟨ns,rfl,nm,h⟩:=h
  simp_arith [AAj]
  refine ⟨by decide,by decide,fun way _ _=>⟨by decide,by decide,fun r r0 r1=>?_⟩⟩
  obtain ⟨m,hm,hmm⟩:=AQ1 (a0:=3) (a1:=4) (a2:=2) (a3:=5) (a4:=1) (a5:=6) (a6:=0) (a7:=7) (a8:=8) r0 r1
  have hm2:0≤m∧m≤8:=by simp at hmm;lia
  refine ⟨_,hm,?_⟩
  simp_arith [pRet]
  exact ⟨ns,way,m,rfl,nm,hm2.1,hm2.2,h⟩
end
end K
namespace K
open PySem L2
section
variable {P':Program} {w:World} {K:PySem.W.Frag} {mg:Str→Option Value} {base:Heap}
noncomputable abbrev rmsQ (rs:List (List Str)):P:=.lst (rs.map nmP)
def ALC:pF:=fun xs K=>∃ rs:List (List Str),xs=[rmsQ rs]∧rs.flatten.length≤60∧∀ ss:List Str,ss.Nodup→(∀ z,z∈ss ↔ z∈rs.flatten)→SrtS ss→K (nmP ss)
theorem AO0 (D:AAM K mg "all_questions" AAi) (T:TxtB mg):Fn P' w K mg base "all_questions" 1 ["rooms"] (spP ALC):=by
 refine fnP D AEu (fun _ _ _ _ _ _ us hl=>ACP hl (fun _=>rfl)) (fun xs K h=>?_) (by decide) (fun fa cdv A outer s H E hr=>⟨_,(AAH (AAg (AAU (fun _=>AAu) ABt (fun _=>T.b_tuple) (by decide +kernel) (AAA (AER (fun _=>⟨rfl,rfl⟩) (fun _=>rfl) (fun _=>T.b_sorted) (fun _=>T.b_set) (AAA (AOq (i1:=0) (i2:=1) (N:=["rooms"]) (sc:=AAC AAi) (N':=["room","name"]) (pick:=[none,none]) ⟨rfl,by decide +kernel,by decide +kernel,by decide +kernel,by decide +kernel,rfl,by decide +kernel⟩ (fun _=>rfl) (fun _=>rfl) rfl rfl (by decide) (ABT (fun _=>rfl) (qv 0)) (by decide +kernel) rfl rfl) AAB)) AAB)))),fun xs K h=>?_⟩)
 ·obtain ⟨_,rfl,_⟩:=h;rfl
 ·obtain ⟨rs,rfl,l1,h⟩:=h
  simp_arith [pRet]
  exact ⟨rs,rfl,by lia,rs.flatten,.inl rfl,by lia,h⟩
def Evr (rs:List (List Str)) (i:Nat) (ss:List Str):Prop:=ss.Nodup∧(∀ z,z∈ss ↔ z∈(rs.take i).flatten)∧SrtS ss
def AJN:pF:=fun xs K=>∃ (ns:List Str) (rs:List (List Str)),xs=[rmsQ rs]∧ns.length≤6∧rs.length≤100∧(∀ r∈rs,Rm ns r)∧∀ ss:List Str,Evr rs rs.length ss→K (nmP ss)
def evB:pS:=fun E ρ=>∃ (rs:List (List Str)) (ss r:List Str),ρ=[.sh (rmsQ rs),.sh (nmP ss),.sh (nmP r)]∧ss.length≤20∧r.length≤20∧∀ ss':List Str,ss'.Nodup→(∀ z,z∈ss' ↔ z∈ss∨z∈r)→SrtS ss'→E.nx [.sh (rmsQ rs),.sh (nmP ss'),.sh (nmP r)]
def evL:pS:=fun E ρ=>∃ (ns:List Str) (rs:List (List Str)),ρ=[.sh (rmsQ rs),.sh (nmP []),.emp]∧ns.length≤6∧rs.length≤100∧(∀ r∈rs,Rm ns r)∧∀ (ss:List Str) (x:S),Evr rs rs.length ss→E.nx [.sh (rmsQ rs),.sh (nmP ss),x]
theorem ANh (D:AAM K mg "_law_every" ABM) (T:TxtB mg) (Gf_law_all:Fn P' w K mg base "_law_all" 1 ["_law_one","_law_other"] (spP AGz)):Fn P' w K mg base "_law_every" 2 ["_law_rooms_here"] (spP AJN):=by
 refine fnP D ACB (fun _ _ _ _ _ _ us hl=>ACP hl (fun _=>rfl)) (fun xs K h=>?_) (by decide) (fun fa cdv A outer s H E hr=>⟨_,(AAD (AAP (k:=1) (fun _=>ACB.nd) (AEB AAB))
 (AAD (QS.weak (m:=evL) (AEG 0 (AB4 (fun _=>PassesOwn.never) (fun _=>rfl) (ABT (fun _=>rfl) (qv 0)) (ACF (k:=2) (fun _=>ACB.nd))
 (QSs.weak (m:=evB) (AAH (AAP (k:=1) (fun _=>ACB.nd) (AAN (fun _=>Gf_law_all) (fun _=>hr.mono (by decide)) (AAA (qv 1) (AAA (qv 2) AAB))))) ?body0))) ?loop0)
 (AAH (AAg (qv 1))))),fun xs K h=>?_⟩)
 case body0 =>
  rintro E ρ ⟨rs,ss,r,rfl,h1,h2,h⟩
  simp_arith [AGz]
  exact ⟨h1,h2,h⟩
 case loop0 =>
  rintro E ρ ⟨ns,rs,rfl,h0,h1,h2,h⟩
  simp_arith [pRet]
  refine ⟨fun i ρ=>i≤rs.length∧∃ ss x,ρ=[.sh (rmsQ rs),.sh (nmP ss),x]∧Evr rs i ss,⟨Nat.zero_le _,_,_,rfl,List.nodup_nil,by simp,List.Pairwise.nil⟩,fun i ρ' x hx hI=>?_,fun ρ' hI=>?_⟩
  ·obtain ⟨hi,ss,y,rfl,e1,e2,e3⟩:=hI
   rw [List.getElem?_map] at hx
   obtain ⟨r,hr,rfl⟩:=Option.map_eq_some_iff.mp hx
   obtain ⟨hi2,er⟩:=List.getElem?_eq_some_iff.mp hr
   have hl:ss.length≤ns.length:=e1.length_le_of_subset fun z hz=>by
    obtain ⟨q,hq,hz2⟩:=List.mem_flatten.mp ((e2 z).mp hz)
    exact (h2 q (List.mem_of_mem_take hq)).sub z hz2
   have hl2:=(h2 r (List.mem_of_getElem? hr)).len
   simp_arith [pRet]
   refine ⟨rs,ss,r,rfl,by lia,by lia,fun ss' a1 a2 a3=>⟨by lia,ss',⟨_,rfl⟩,a1,fun z=>?_,a3⟩⟩
   rw [a2,e2,AES hi2,List.mem_append,er]
  ·obtain ⟨hi,ss,y,rfl,e⟩:=hI
   exact h ss y (by simpa using e)
 ·obtain ⟨_,_,rfl,_⟩:=h;rfl
 ·obtain ⟨ns,rs,rfl,h0,h1,h2,h⟩:=h
  simp_arith [pRet]
  exact ⟨ns,rs,rfl,h0,h1,h2,fun ss x e=>by simp_arith [pRet];exact h ss e⟩
end
end K
namespace K
open PySem L2
section
variable {P':Program} {w:World} {K:PySem.W.Frag} {mg:Str→Option Value} {base:Heap}
structure Tls (rs:List (List Str)) (ts:List Tl) (n:Nat):Prop where
 len:ts.length=rs.length
 tal:∀ (i:Nat) (r:List Str) (t:Tl),rs[i]?=some r→ts[i]?=some t→Tal r.length t
 few:∀ t∈ts,t.length≤n
noncomputable abbrev tlsP (ts:List Tl):P:=.lst (ts.map tlP)
theorem Tls.mono {rs:List (List Str)} {ts:List Tl} {n m:Nat} (h:Tls rs ts n) (le:n≤m):Tls rs ts m:=⟨h.len,h.tal,fun t ht=>Nat.le_trans (h.few t ht) le⟩
theorem Tls.set {rs:List (List Str)} {ts:List Tl} {n i:Nat} {r:List Str} {t:Tl} (h:Tls rs ts n) (hi:rs[i]?=some r) (ht:Tal r.length t) (hl:t.length≤n + 1):Tls rs (ts.set i t) (n + 1):=by
 refine ⟨by rw [List.length_set];exact h.len,fun j r' t' e1 e2=>?_,fun t' ht'=>?_⟩
 ·by_cases z:i=j
  ·subst z
   rw [hi] at e1
   cases e1
   have hlt:=(List.getElem?_eq_some_iff.mp hi).1
   rw [List.getElem?_set_self (by rw [h.len];exact hlt)] at e2
   cases e2
   exact ht
  ·rw [List.getElem?_set_ne z] at e2
   exact h.tal j r' t' e1 e2
 ·rcases List.mem_or_eq_of_mem_set ht' with z | z
  ·exact Nat.le_succ_of_le (h.few t' z)
  ·rw [z];exact hl
theorem AP6 {ts:List Tl} {n:Nat} (h:n<ts.length):atI (ts.map tlP) (n:Int)=some (tlP ts[n]):=ABS (by rw [List.getElem?_map,List.getElem?_eq_getElem h];rfl)
theorem AP7 {m n:Nat} (h:m<n):ixN n (m:Int)=some m:=by
 unfold ixN
 rw [if_pos (by lia),if_pos (by lia)];rfl
theorem Evr.eq {rs:List (List Str)} {i:Nat} {a b:List Str} (x:Evr rs i a) (y:Evr rs i b):a=b:=AE3 ((List.perm_ext_iff_of_nodup x.1 y.1).mpr fun z=>(x.2.1 z).trans (y.2.1 z).symm) x.2.2 y.2.2
theorem AFQ:∀ (rs:List (List Str)) (ts:List Tl),List.zipWith ADI (rs.map nmP) (ts.map tlP)=(rs.zip ts).map fun q=>ADI (nmP q.1) (tlP q.2)
 | [],_=>rfl
 | _ :: _,[]=>rfl
 | r :: rs,t :: ts=>by
  simp only [List.map_cons,List.zipWith_cons_cons,List.zip_cons_cons]
  rw [AFQ rs ts]
noncomputable def AEW (ss:List Str) (t:Tl) (rs:List (List Str)) (ts:List Tl):Bool:=(rs.zip ts).all fun q=>decide (shT ss t q.1=q.2)
structure WhOk (ss:List Str) (t:Tl) (rs:List (List Str)) (ts:List Tl):Prop where
 ev:Evr rs rs.length ss
 fl:rs.flatten.length≤60
 l8:rs.length≤8
 sh:∀ r∈rs,Sh ss t r
 nn:∀ q∈t,0≤q.2
def AFR:pF:=fun xs K=>∃ ss t rs ts,xs=[rmsQ rs,tlsP ts,tlP t]∧WhOk ss t rs ts∧K (.bl (AEW ss t rs ts))
theorem ALD (D:AAM K mg "is_whole" ABE) (T:TxtB mg) (Gf_all_questions:Fn P' w K mg base "all_questions" 1 ["rooms"] (spP ALC)) (Gf_shared:Fn P' w K mg base "shared" 3 ["room","rows","part"] (spP AGy)):Fn P' w K mg base "is_whole" 4 ["rooms","tallies","rows"] (spP AFR):=by
 refine fnP D AET (fun _ _ _ _ _ _ us hl=>ACE hl (fun _ _ _=>rfl)) (fun xs K h=>?_) (by decide) (fun fa cdv A outer s H E hr=>⟨_,(AAD (AAP (k:=3) (fun _=>AET.nd) (AAN (fun _=>Gf_all_questions) (fun _=>hr.mono (by decide)) (AAA (qv 0) AAB)))
 (AAH (AAg (AAS (fun _=>(AE8 rfl)) AKW (fun _=>T.b_all) (by decide +kernel) (AAA (ABH (N:=["rooms","tallies","rows","questions"]) (sc:=AAC ABE) (N':=["room","tally","questions","rows"]) (pick:=[none,none,some 3,some 2]) ⟨rfl,by decide +kernel,by decide +kernel,by decide +kernel,by decide +kernel,rfl,by decide +kernel⟩ (by decide) (fun _=>rfl) (AJ6 (fun _=>rfl) (fun _=>T.b_zip) (qv 0) (qv 1)) (AGb (i:=0) (j:=1) rfl rfl (fun _=>rfl) (fun _=>rfl) (fun _=>(AA7 (AAf (i:=0) (show List.Nodup (["room","tally","questions","rows"]:List Str) by decide +kernel) rfl (Or.inl rfl)) (AA7 (AAf (i:=1) (show List.Nodup (["room","tally","questions","rows"]:List Str) by decide +kernel) rfl (Or.inl rfl)) ACo)))) ABJ (AD8 (fun _=>(ABu hr)) r_eq (AAN (fun _=>Gf_shared) (fun _=>hr.mono (by decide)) (AAA (qv 2) (AAA (qv 3) (AAA (qv 0) AAB)))) (qv 1) (AAc _))) AAB))))),fun xs K h=>?_⟩)
 ·obtain ⟨_,_,_,_,rfl,_⟩:=h;rfl
 ·obtain ⟨ss,t,rs,ts,rfl,ok,h⟩:=h
  simp_arith [ALC,AGy]
  refine ⟨rs,rfl,ok.fl,fun ss' a b c=>?_⟩
  have es:ss'=ss:=Evr.eq ⟨a,by rw [List.take_length];exact b,c⟩ ok.ev
  subst es
  have l8:=ok.l8
  rw [AFQ]
  refine ⟨AE9.mpr fun x hx=>by obtain ⟨r,_,rfl⟩:=List.mem_map.mp hx;simp,by rw [List.length_map,List.length_zip];lia,AAm.map (fun q=>.bl (decide (shT ss' t q.1=q.2))) (fun _ _=>rfl) (fun q hq M hM=>?_) ?_⟩
  ·refine ⟨_,rfl,rfl,?_⟩
   have hq1:=(List.of_mem_zip hq).1
   simp_arith [pRet]
   rw [AJV ok.nn]
   exact ⟨ok.sh _ hq1,hM _⟩
  ·simp_arith [pRet]
   refine ⟨(rs.zip ts).map fun q=>decide (shT ss' t q.1=q.2),by rw [List.map_map];rfl,?_⟩
   rw [List.all_map]
   exact h
end
end K
namespace K
open PySem L2
section
variable {P':Program} {w:World} {K:PySem.W.Frag} {mg:Str→Option Value} {base:Heap}
theorem AO1 {X:Cx} {s0:Stmt} {rest:List Stmt} {p:pS} {n:Nat} {a:Addr} {ns:List Int} {H:Hp} {Q:VK} (h0:PS X s0 (tAsg (AFY (AH4 K) [] E0 (ABy (tVar 0) tNil)) (ABU 1))) (hq:QSs (fun _:Unit=>X) rest p)
  (hp:p { nx:=fun _=>False,rt:=fun x=>x=.bl true } (.emp :: .sh .bag :: List.replicate n .emp)) (hS:SqL K H a (ns.map V.int)) (k:∀ H',Q (.bl true) H') :
  ∃ t,PSs X (s0 :: rest) t∧t { nx:=fun _ H'=>Q .non H',rt:=Q } (some (.ref a) :: none :: List.replicate n none) H:=by
 obtain ⟨t,h1,h2⟩:=AP0 (n:=n) h0 hq hp
 exact ⟨t,h1,h2 a ns H Q hS k⟩
noncomputable abbrev lwR (ns:List Str) (rs:List (List Str)) (c:Tl) (ts:List Tl) (ss:List Str) (a b d e f g h:S):List S:=[.emp,.sh .bag,.sh (nmP ns),.own (rmsP rs),.own (tlP c),.own (tlsP ts),.sh (nmP ss),a,b,d,e,f,g]
structure LwOk (ns:List Str) (rs:List (List Str)) (ts:List Tl) (ss:List Str) (t:Tl) (n m:Nat):Prop where
 nm:Nms ns
 l8:rs.length≤8
 rm:∀ r∈rs,Rm ns r
 tl:Tls rs ts n
 ev:Evr rs rs.length ss
 tt:Tal ss.length t
 tf:t.length≤m
theorem LwOk.sub {ns:List Str} {rs:List (List Str)} {ss:List Str} (rm:∀ r∈rs,Rm ns r) (ev:Evr rs rs.length ss):∀ z∈ss,z∈ns:=fun z hz=>by
 have:=(ev.2.1 z).mp hz
 rw [List.take_length] at this
 obtain ⟨r,hr,h⟩:=List.mem_flatten.mp this
 exact (rm r hr).sub z h
theorem LwOk.sl {ns:List Str} {rs:List (List Str)} {ts:List Tl} {ss:List Str} {t:Tl} {n m:Nat} (h:LwOk ns rs ts ss t n m):ss.length≤6:=Nat.le_trans (h.ev.1.length_le_of_subset (LwOk.sub h.rm h.ev)) h.nm.len
theorem AJO (m:Nat):∀ rs:List (List Str),(∀ r∈rs,r.length≤m)→rs.flatten.length≤rs.length * m
 | [],_=>by simp
 | r :: rs,h=>by
  have h1:=h r (by simp)
  have h2:=AJO m rs fun q hq=>h q (by simp [hq])
  rw [List.flatten_cons,List.length_append,List.length_cons,Nat.add_mul]
  lia
theorem LwOk.wh {ns:List Str} {rs:List (List Str)} {ts:List Tl} {ss:List Str} {t:Tl} {n m:Nat} (h:LwOk ns rs ts ss t n m) (hm:m≤1000):WhOk ss t rs ts:=by
 have h1:=AJO 6 rs fun r hr=>by
  have:=(h.rm r hr).len
  have:=h.nm.len
  lia
 have l8:=h.l8
 have tf:=h.tf
 refine ⟨h.ev,by lia,l8,fun r hr=>⟨?_,fun z hz=>?_,by lia,h.tt.rows⟩,AI3 h.tt⟩
 ·have:=(h.rm r hr).len
  have:=h.nm.len
  lia
 ·rw [h.ev.2.1,List.take_length]
  exact List.mem_flatten.mpr ⟨r,hr,hz⟩
theorem AP8 (ts:List Tl):(tlsP ts).nb=true:=by rw [P.nb];exact ACG AHw ts
theorem AP9 (rs:List (List Str)):(rmsP rs).nb=true:=by rw [P.nb];exact ACG AHx rs
theorem AMl (rs:List (List Str)) (ts:List Tl) (t:Tl):eqP (.lst [rmsP rs,tlsP ts,tlP t]) (.lst [rmsP rs,tlsP ts,tlP t])=true:=by
 have hn:(P.lst [rmsP rs,tlsP ts,tlP t]).nb=true:=by rw [P.nb,P.nbs,P.nbs,P.nbs,P.nbs,AP9,AP8,AHw];rfl
 exact (ACT hn hn).mpr rfl
theorem AQA (n:Nat) (ts:List Tl):(ts.map tlP).all (P.pl (n + 3))=true:=AEE (fun t=>by simp) ts
def lwM3:pS:=fun E ρ=>E.rt (.bl true)∧∃ ns rs c,Nms ns∧rs.length≤8∧(∀ r∈rs,Rm ns r)∧Tal ns.length c∧c.length≤40∧ρ=[.emp,.sh .bag,.sh (nmP ns),.own (rmsP rs),.own (tlP c),.emp,.emp,.emp,.emp,.emp,.emp,.emp,.emp]
def lwM4:pS:=fun E ρ=>E.rt (.bl true)∧∃ ns rs c ts,Nms ns∧rs.length≤8∧(∀ r∈rs,Rm ns r)∧Tal ns.length c∧c.length≤40∧Tls rs ts 40∧ρ=[.emp,.sh .bag,.sh (nmP ns),.own (rmsP rs),.own (tlP c),.own (tlsP ts),.emp,.emp,.emp,.emp,.emp,.emp,.emp]
def lwM7:pS:=fun E ρ=>E.rt (.bl true)∧∃ ns rs c ts ss t w,LwOk ns rs ts ss t 40 40∧ρ=lwR ns rs c ts ss (.own (tlP t)) (.sh (.int w)) .emp .emp .emp .emp .emp
def lwM8:pS:=fun E ρ=>E.rt (.bl true)∧∃ ns rs c ts ss t w,LwOk ns rs ts ss t 40 41∧ρ=lwR ns rs c ts ss (.own (tlP t)) (.sh (.int w)) .emp .emp .emp .emp .emp
def AN4:pS:=fun E ρ=>E.rt (.bl true)∧∃ ns rs c ts ss t w x,LwOk ns rs ts ss t 41 41∧ρ=lwR ns rs c ts ss (.own (tlP t)) (.sh (.int w)) x .emp .emp .emp .emp
def AQ2:pS:=fun E ρ=>E.rt (.bl true)∧∃ ns rs c ts ss t w x,LwOk ns rs ts ss t 41 41∧ρ=lwR ns rs c ts ss (.own (tlP t)) (.sh (.int w)) x (.sh (.bl (AEW ss t rs ts))) .emp .emp .emp
def AQ3:pS:=fun E ρ=>E.rt (.bl true)∧∃ ns rs c ts ss t w x,LwOk ns rs ts ss t 41 41∧ρ=lwR ns rs c ts ss (.own (tlP t)) (.sh (.int w)) x (.sh (.bl (AEW ss t rs ts))) (.own (.lst [rmsP rs,tlsP ts,tlP t])) .emp .emp
def AQ4:pS:=fun E ρ=>E.rt (.bl true)∧∃ ns rs c ts ss t w x,LwOk ns rs ts ss t 41 41∧ρ=lwR ns rs c ts ss (.own (tlP t)) (.sh (.int w)) x (.sh (.bl (AEW ss t rs ts))) (.own (.lst [rmsP rs,tlsP ts,tlP t])) (.sh (.bl (AEW ss t rs ts))) .emp
theorem AQB {f:Addr} {fd:FuncData} (F:Fun K "law" "law" ABZ f fd) (T:TxtB mg) (Gf_law_bag:Fn P' w K mg base "_law_bag" 1 ["_law_script"] (AH4 K)) (Gf_law_pull:Fn P' w K mg base "_law_pull" 1 ["_law_bag_here","_law_many_here"] (spP AAj)) (Gf_law_questions:Fn P' w K mg base "_law_questions" 4 ["_law_bag_here"] (spP ADv)) (Gf_law_rooms:Fn P' w K mg base "_law_rooms" 4 ["_law_bag_here","_law_names_here"] (spP AJM))
  (Gf_law_drawn:Fn P' w K mg base "_law_drawn" 3 ["_law_bag_here","_law_room"] (spP AF0)) (Gf_law_portion:Fn P' w K mg base "_law_portion" 2 ["_law_room","_law_rows","_law_part_here"] (spP AC9)) (Gf_law_moved:Fn P' w K mg base "_law_moved" 3 ["_law_bag_here","_law_room","_law_rows"] (spP AGO)) (Gf_law_every:Fn P' w K mg base "_law_every" 2 ["_law_rooms_here"] (spP AJN)) (Gf_is_whole:Fn P' w K mg base "is_whole" 4 ["rooms","tallies","rows"] (spP AFR)) (Gf_law_truth:Fn P' w K mg base "_law_truth" 1 ["_law_found","_law_due"] (spP fTruth)):FnOk P' w K mg base CX0 5 f fd ["_law_script"] (AH5 K):=by
 refine F.ok AA1 (fun vs H Q E h=>?_) (fun cdv A outer s H vs Q E hr h=>?_)
 ·obtain ⟨a,ns,rfl,_⟩:=h;rfl
 ·obtain ⟨a,ns,rfl,hS,k⟩:=h
  refine AO1 (n:=11) (ABI (i:=1) AA1.nd rfl (Or.inl rfl) (ADk Gf_law_bag (hr.mono (by decide)) (by rfl) (AAL (pv 0) AAY))) (AAD (AAP (k:=2) (fun _=>AA1.nd) (AAN (fun _=>Gf_law_questions) (fun _=>hr.mono (by decide)) (AAA (qv 1) AAB)))
 (AAD (AAP (k:=3) (fun _=>AA1.nd) (AAN (fun _=>Gf_law_rooms) (fun _=>hr.mono (by decide)) (AAA (qv 1) (AAA (qv 2) AAB))))
 (AAD (AAP (k:=4) (fun _=>AA1.nd) (AAN (fun _=>Gf_law_drawn) (fun _=>hr.mono (by decide)) (AAA (qv 1) (AAA (qv 2) AAB))))
 (QSs.weak (m:=lwM3) (AAD (AFo (k:=5) (fun _=>AA1.nd) (N:=["_law_script","_law_bag_here","_law_names_here","_law_rooms_here","_law_rows","_law_tallies","_law_every_here","_law_some","_law_way","_law_at","_law_due","_law_handed","_law_found"]) (sc:=AAC ABZ) (N':=["_law_room","_law_names_here","_law_rows"]) (pick:=[none,some 2,some 4]) ⟨rfl,by decide +kernel,by decide +kernel,by decide +kernel,by decide +kernel,rfl,by decide +kernel⟩ (by decide) (fun _=>rfl) (ABT (fun _=>rfl) (qv 3)) (AA8 (k:=0) rfl (fun _=>show List.Nodup (["_law_room","_law_names_here","_law_rows"]:List Str) by decide +kernel)) ABJ (AAN (fun _=>Gf_law_portion) (fun _=>hr.mono (by decide)) (AAA (qv 1) (AAA (qv 2) (AAA (qv 0) AAB)))))
 (QSs.weak (m:=lwM4) (AAD (AAP (k:=6) (fun _=>AA1.nd) (AAN (fun _=>Gf_law_every) (fun _=>hr.mono (by decide)) (AAA (qv 3) AAB)))
 (AAD (AAP (k:=7) (fun _=>AA1.nd) (AAN (fun _=>Gf_law_portion) (fun _=>hr.mono (by decide)) (AAA (qv 2) (AAA (qv 4) (AAA (qv 6) AAB)))))
 (AAD (AAP (k:=8) (fun _=>AA1.nd) (AAN (fun _=>Gf_law_pull) (fun _=>hr.mono (by decide)) (AAA (qv 1) (AAA AAF AAB))))
 (QSs.weak (m:=lwM7) (AAD (ACZ (QW.pt (AFi (AAy (fun _=>(ABu hr)) r_eq (qv 8) AAF (AAc _)) (AEf (AAy (fun _=>(AC1 hr)) r_ne (qv 7) (ABB AAB) (AAc _)))))
 (AAH (AAP (k:=7) (fun _=>AA1.nd) (AAN (fun _=>Gf_law_moved) (fun _=>hr.mono (by decide)) (AAA (qv 1) (AAA (qv 6) (AAA (qv 7) AAB))))))
 ACS)
 (QSs.weak (m:=lwM8) (AAD (ACZ (AAy (fun _=>(ABu hr)) r_eq (qv 8) AAF (AAc _))
 (AAH (AAP (k:=7) (fun _=>AA1.nd) (AAN (fun _=>Gf_law_drawn) (fun _=>hr.mono (by decide)) (AAA (qv 1) (AAA (qv 6) AAB)))))
 ACS)
 (QSs.weak (m:=lwM8) (AAD (ACZ (QW.pt (AFi (AAy (fun _=>(ABu hr)) r_eq (qv 8) AAF (AAc _)) (AEf (AAy (fun _=>(AC1 hr)) r_ne (qv 3) (ABB AAB) (AAc _)))))
 (AAD (AAP (k:=9) (fun _=>AA1.nd) (AAN (fun _=>Gf_law_pull) (fun _=>hr.mono (by decide)) (AAA (qv 1) (AAA (AAS (fun _=>AAh) ABp (fun _=>T.b_len) (by decide +kernel) (AAA (qv 3) AAB)) AAB))))
 (AAH (ACZ (AAy (fun _=>(AC1 hr)) r_ne (ABP (fun _=>ixA) r_ix (qv 5) (qv 9) (fun _ _=>rfl)) (ABB AAB) (AAc _))
 (AAH (ANC (k:=5) (qv 9) (AAN (fun _=>Gf_law_moved) (fun _=>hr.mono (by decide)) (AAA (qv 1) (AAA (ABP (fun _=>ixA) r_ix (qv 3) (qv 9) (fun _ _=>rfl)) (AAA (ABP (fun _=>ixA) r_ix (qv 5) (qv 9) (fun _ _=>rfl)) AAB))))))
 ACS)))
 ACS)
 (QSs.weak (m:=AN4) (AAD (AAP (k:=10) (fun _=>AA1.nd) (AAS (fun _=>(AE8 rfl)) AKW (fun _=>T.b_all) (by decide +kernel) (AAA (ABH (N:=["_law_script","_law_bag_here","_law_names_here","_law_rooms_here","_law_rows","_law_tallies","_law_every_here","_law_some","_law_way","_law_at","_law_due","_law_handed","_law_found"]) (sc:=AAC ABZ) (N':=["_law_room","_law_tally","_law_every_here","_law_some"]) (pick:=[none,none,some 6,some 7]) ⟨rfl,by decide +kernel,by decide +kernel,by decide +kernel,by decide +kernel,rfl,by decide +kernel⟩ (by decide) (fun _=>rfl) (AJ6 (fun _=>rfl) (fun _=>T.b_zip) (qv 3) (qv 5)) (AGb (i:=0) (j:=1) rfl rfl (fun _=>rfl) (fun _=>rfl) (fun _=>(AA7 (AAf (i:=0) (show List.Nodup (["_law_room","_law_tally","_law_every_here","_law_some"]:List Str) by decide +kernel) rfl (Or.inl rfl)) (AA7 (AAf (i:=1) (show List.Nodup (["_law_room","_law_tally","_law_every_here","_law_some"]:List Str) by decide +kernel) rfl (Or.inl rfl)) ACo)))) ABJ (AD8 (fun _=>(ABu hr)) r_eq (AAN (fun _=>Gf_law_portion) (fun _=>hr.mono (by decide)) (AAA (qv 2) (AAA (qv 3) (AAA (qv 0) AAB)))) (qv 1) (AAc _))) AAB)))
 (QSs.weak (m:=AQ2) (AAD (AAP (k:=11) (fun _=>AA1.nd) (ABB (by exact (AAA (AAU (fun _=>ABD) ACf (fun _=>T.b_list) (by decide +kernel) (AAA (qv 3) AAB)) (AAA (ABH (N:=["_law_script","_law_bag_here","_law_names_here","_law_rooms_here","_law_rows","_law_tallies","_law_every_here","_law_some","_law_way","_law_at","_law_due","_law_handed","_law_found"]) (sc:=AAC ABZ) (N':=["_law_tally"]) (pick:=[none]) ⟨rfl,by decide +kernel,by decide +kernel,by decide +kernel,by decide +kernel,rfl,by decide +kernel⟩ (by decide) (fun _=>rfl) (ABT (fun _=>rfl) (qv 5)) (AA8 (k:=0) rfl (fun _=>show List.Nodup (["_law_tally"]:List Str) by decide +kernel)) ABJ (AAU (fun _=>ABD) ACf (fun _=>T.b_list) (by decide +kernel) (AAA (qv 0) AAB))) (AAA (AAU (fun _=>ABD) ACf (fun _=>T.b_list) (by decide +kernel) (AAA (qv 7) AAB)) AAB))))))
 (QSs.weak (m:=AQ3) (AAD (AAP (k:=12) (fun _=>AA1.nd) (AAN (fun _=>Gf_is_whole) (fun _=>hr.mono (by decide)) (AAA (ABP (fun _=>ixA) r_ix (qv 11) AAF (fun _ _=>rfl)) (AAA (ABP (fun _=>ixA) r_ix (qv 11) AAF (fun _ _=>rfl)) (AAA (ABP (fun _=>ixA) r_ix (qv 11) AAF (fun _ _=>rfl)) AAB)))))
 (QSs.weak (m:=AQ4) (AAH (AAg (ALg (AAN (fun _=>Gf_law_truth) (fun _=>hr.mono (by decide)) (AAA (qv 12) (AAA (qv 10) AAB))) (ALe (AD8 (fun _=>(ABu hr)) r_eq (qv 11) (ABB (AAA (qv 3) (AAA (qv 5) (AAA (qv 7) AAB)))) (AAc _)))))) ?cut13)) ?cut12)) ?cut11)) ?cut10)) ?cut9)) ?cut8)) ?cut7)))) ?cut4)) ?cut3)))) ?main hS k
  case main =>
   simp_arith [ADv,AJM,AF0]
   intro ns n1 n6 nd _ hs
   have nm:Nms ns:=⟨n1,n6,nd,AGr hs⟩
   exact ⟨nm,fun rs l8 hr=>⟨by lia,fun t hd=>⟨rfl,ns,rs,AAZ t,nm,l8,hr,AHg hd,Nat.le_trans (ACM t) hd.len,rfl⟩⟩⟩
  case cut3 =>
   rintro E ρ ⟨rt,ns,rs,c,nm,l8,hr,tc,lc,rfl⟩
   have hl:=nm.len
   simp_arith [pRet]
   refine ⟨by lia,AAm.new (fun room=>tlP (shT ns c room)) (fun room hm M hM=>?_) ?_⟩
   ·have rm:=hr room hm
    simp_arith [AC9]
    exact ⟨⟨by have:=rm.len;lia,rm.sub,by lia,tc.rows⟩,hM⟩
   ·simp_arith [pRet]
    refine ⟨rt,ns,rs,c,rs.map fun r=>shT ns c r,nm,l8,hr,tc,lc,⟨by rw [List.length_map],fun i r t e1 e2=>?_,fun t ht=>?_⟩,by rw [tlsP,List.map_map];rfl⟩
    ·rw [List.getElem?_map,e1] at e2
     cases e2
     exact AJ3 (AI3 tc) (by lia)
    ·obtain ⟨r,_,rfl⟩:=List.mem_map.mp ht
     exact Nat.le_trans (AJ4 _ _ _) lc
  case cut4 =>
   rintro E ρ ⟨rt,ns,rs,c,ts,nm,l8,hr,tc,lc,tl,rfl⟩
   have hl:=nm.len
   simp_arith [AJN,AC9,AAj]
   refine ⟨ns,rs,rfl,hl,by lia,hr,fun ss ev=>?_⟩
   have sb:=LwOk.sub hr ev
   have sl:ss.length≤6:=Nat.le_trans (ev.1.length_le_of_subset sb) hl
   exact ⟨⟨by lia,sb,by lia,tc.rows⟩,by decide,by decide,fun r _ _=>⟨rt,ns,rs,c,ts,ss,shT ns c ss,r,⟨nm,l8,hr,tl,ev,AJ3 (AI3 tc) (by lia),Nat.le_trans (AJ4 _ _ _) lc⟩,rfl⟩⟩
  case cut7 =>
   rintro E ρ ⟨rt,ns,rs,c,ts,ss,t,w,ok,rfl⟩
   simp_arith [AGO,AJL]
   have same:lwM8 E (lwR ns rs c ts ss (.own (tlP t)) (.sh (.int w)) .emp .emp .emp .emp .emp):=⟨rt,ns,rs,c,ts,ss,t,w,⟨ok.nm,ok.l8,ok.rm,ok.tl,ok.ev,ok.tt,Nat.le_succ_of_le ok.tf⟩,rfl⟩
   have sl:=ok.sl
   have tf:=ok.tf
   exact ite2 (fun _=>ite2 (fun z=>⟨z,by lia,by lia,ok.tt,fun t' a b=>⟨rt,ns,rs,c,ts,ss,t',w,⟨ok.nm,ok.l8,ok.rm,ok.tl,ok.ev,a,by lia⟩,rfl⟩⟩) (fun _=>same)) (fun _=>same)
  case cut8 =>
   rintro E ρ ⟨rt,ns,rs,c,ts,ss,t,w,ok,rfl⟩
   simp_arith [AF0]
   have sl:=ok.sl
   exact ite2 (fun _=>⟨by lia,fun t' hd=>⟨rt,ns,rs,c,ts,ss,AAZ t',w,⟨ok.nm,ok.l8,ok.rm,ok.tl,ok.ev,AHg hd,by have:=hd.len;have:=ACM t';lia⟩,rfl⟩⟩) (fun _=>⟨rt,ns,rs,c,ts,ss,t,w,ok,rfl⟩)
  case cut9 =>
   rintro E ρ ⟨rt,ns,rs,c,ts,ss,t,w,ok,rfl⟩
   simp_arith [AAj,AGO,AHf,AJJ]
   have same:∀ x,AN4 E (lwR ns rs c ts ss (.own (tlP t)) (.sh (.int w)) x .emp .emp .emp .emp):=fun x=>⟨rt,ns,rs,c,ts,ss,t,w,x,⟨ok.nm,ok.l8,ok.rm,ok.tl.mono (by decide),ok.ev,ok.tt,ok.tf⟩,rfl⟩
   have l8:=ok.l8
   refine ite2 (fun _=>ite2 (fun z=>⟨by have:=List.length_pos_iff.mpr z;lia,by lia,fun r r0 r1=>?_⟩) (fun _=>same _)) (fun _=>same _)
   obtain ⟨i,rfl⟩:=Int.eq_ofNat_of_zero_le r0
   have hi:i<rs.length:=by lia
   have hi2:i<ts.length:=by rw [ok.tl.len];exact hi
   have ti:=ok.tl.tal i _ _ (List.getElem?_eq_getElem hi) (List.getElem?_eq_getElem hi2)
   have tf:=ok.tl.few _ (List.getElem_mem hi2)
   have rl:=(ok.rm _ (List.getElem_mem hi)).len
   have nl:=ok.nm.len
   simp only [AP6 hi2,AJK hi,AP7 hi2,pRet,AQQ,AEd,AKP,pNil,AFn,AIV,AIU,APb,AGa,AOQ,pVar,pK,pOp,AFh,pAnd,pOr,pNot,AKS,pOrV,AQO,pIf,APX,pIfS,pSeq,AKT,AIQ,AQP,pAsg,pSet,AKU,pFn,p1,pLen,AFq,AHv,pII,CT,L2.ST,pSS,pIsN,AQc,P.isNon,pIx,pCat,AGd,isTy,tyN,pEq,pNe,pInG,AId,AGf,AKd,ADX,AOS,AEF,APf,AQh,ADY,ANF,pAug,pFrz,frzS,stF,AKQ,AKR,AB7,AAb,Fl.join,Fl.el,Fl.top,topF,retF,ACe,AB8,pAll,AFr,APh,AEm,AKf,AGh,AIi,APg,AFw,AQb,pTT,AIu,AHz,AH0,AF2,APl,AF9,AEs,AF3,pSum,AQo,AQj,ADW,AFj,pFor,AIX,AQs,pFmt,pJ0,pJ1,AQt,AQu,AQv,APq,pFnX,pFn0,AQw,AQx,APr,APs,pHd0,pHd,pTry,AC8,AOm,pIsB,pAny,AQy,AH3,APx,AK3,List.replicate,List.map_cons,List.map_nil,List.length_cons,List.length_nil,List.cons_append,List.nil_append,List.getElem?_cons_zero,List.getElem?_cons_succ,List.set_cons_zero,List.set_cons_succ,List.getElem?_nil,Option.getD_some,Option.getD_none,Nat.reduceAdd,Nat.reduceSub,Nat.sub_self,Nat.zero_add,if_true,if_false,Bool.false_eq_true,exists_eq_left,exists_eq_left',ite_self,exists_and_left,exists_and_right,exists_eq,exists_eq',exists_const,and_true,true_and,Option.some.injEq,P.int.injEq,P.str.injEq,P.bl.injEq,P.tup.injEq,P.lst.injEq,List.cons.injEq,Prod.mk.injEq,ne_eq,reduceCtorEq,not_false_eq_true,decide_true,decide_false,Bool.true_or,Bool.or_true,Bool.false_or,Bool.or_false,Bool.and_true,Bool.true_and,Bool.and_false,Bool.false_and,Bool.not_true,Bool.not_false,AJj,AJk,ALX,AJl,AJm,AJn,ALY,ALZ,AJo,AIN,ADD,AD7,ADE,AIO,AIj,AFy,AGk,AFx,AJp,ALa,ALb,AJq,AHE,AHF,AIb,AIc,ANy,ALr,ALs,ALt,AJu,AJv,AL2,AKi,AL1,List.all_cons,List.all_nil,AHR,AL3,AL4,AL5,AL7,AIn,AL8,Bool.not_eq_true',decide_eq_false_iff_not,decide_eq_true_eq,AIr,AIs,AJz,AIt,List.length_map,exists_prop,and_assoc,forall_const,forall_eq,forall_eq_apply_imp_iff,AJL]
   refine ite2 (fun z=>⟨z,by lia,by lia,ti,fun t' a b=>?_⟩) (fun _=>same _)
   rw [←List.map_set]
   exact ⟨rt,ns,rs,c,ts.set i t',ss,t,w,_,⟨ok.nm,ok.l8,ok.rm,ok.tl.set (List.getElem?_eq_getElem hi) a (by lia),ok.ev,ok.tt,ok.tf⟩,rfl⟩
  case cut10 =>
   rintro E ρ ⟨rt,ns,rs,c,ts,ss,t,w,x,ok,rfl⟩
   simp_arith [pRet]
   have l8:=ok.l8
   rw [AFQ]
   refine ⟨ANe rs,by rw [List.length_map,List.length_zip];lia,AAm.map (fun q=>.bl (decide (shT ss t q.1=q.2))) (fun _ _=>rfl) (fun q hq M hM=>?_) ?_⟩
   ·refine ⟨_,rfl,rfl,?_⟩
    have hq1:=(List.of_mem_zip hq).1
    simp_arith [AC9]
    exact ⟨(ok.wh (by decide)).sh _ hq1,hM _⟩
   ·simp_arith [pRet]
    refine ⟨(rs.zip ts).map fun q=>decide (shT ss t q.1=q.2),by rw [List.map_map];rfl,?_⟩
    rw [List.all_map]
    exact ⟨rt,ns,rs,c,ts,ss,t,w,x,ok,rfl⟩
  case cut11 =>
   rintro E ρ ⟨rt,ns,rs,c,ts,ss,t,w,x,ok,rfl⟩
   simp_arith [pRet]
   have l8:=ok.l8
   have tl:=ok.tl.len
   refine ⟨by lia,AAm.new (fun t=>tlP t) (fun t _ M hM=>?_) ?_⟩
   ·simp_arith [pRet]
    exact hM
   ·simp_arith [pRet]
    exact ⟨rt,ns,rs,c,ts,ss,t,w,x,ok,rfl⟩
  case cut12 =>
   rintro E ρ ⟨rt,ns,rs,c,ts,ss,t,w,x,ok,rfl⟩
   simp_arith [AFR]
   exact ⟨_,atI0 _ _,_,atI1 _ _ _,_,show atI _ ((2:Nat):Int)=some _ from ABS (j:=2) rfl,ss,t,rs,rfl,ts,rfl,rfl,ok.wh (by decide),rt,ns,rs,c,ts,ss,t,w,x,ok,rfl⟩
  case cut13 =>
   rintro E ρ ⟨rt,ns,rs,c,ts,ss,t,w,x,ok,rfl⟩
   simp_arith [fTruth,AMl]
   rw [AJJ,AQA]
   exact ⟨rfl,rfl,rt⟩
end
theorem all_mk {l:PySem.W.OpenLaw} {w:World} {K:PySem.W.Frag} {h:Heap} {mg:Str→Option Value} {fa:Addr} (X:K.In h) (G:h.Ns mainGlobals mg) (hfa:mg "law"=some (.ref fa))
  {odf_within anf_within:Option Addr} {slf_within:Array (Option Value)} {ocf_within kVf_within dcf_within pmf_within cdf_within ctf_within:Value} {af_within:Addr}
  {odf_places anf_places:Option Addr} {slf_places:Array (Option Value)} {ocf_places kVf_places dcf_places pmf_places cdf_places ctf_places:Value} {af_places:Addr}
  {odf_picked anf_picked:Option Addr} {slf_picked:Array (Option Value)} {ocf_picked kVf_picked dcf_picked pmf_picked cdf_picked ctf_picked:Value} {af_picked:Addr}
  {odf_summed anf_summed:Option Addr} {slf_summed:Array (Option Value)} {ocf_summed kVf_summed dcf_summed pmf_summed cdf_summed ctf_summed:Value} {af_summed:Addr}
  {odf_shared anf_shared:Option Addr} {slf_shared:Array (Option Value)} {ocf_shared kVf_shared dcf_shared pmf_shared cdf_shared ctf_shared:Value} {af_shared:Addr}
  {odf_all_questions anf_all_questions:Option Addr} {slf_all_questions:Array (Option Value)} {ocf_all_questions kVf_all_questions dcf_all_questions pmf_all_questions cdf_all_questions ctf_all_questions:Value} {af_all_questions:Addr}
  {odf_is_whole anf_is_whole:Option Addr} {slf_is_whole:Array (Option Value)} {ocf_is_whole kVf_is_whole dcf_is_whole pmf_is_whole cdf_is_whole ctf_is_whole:Value} {af_is_whole:Addr}
  {odf_law_bag anf_law_bag:Option Addr} {slf_law_bag:Array (Option Value)} {ocf_law_bag kVf_law_bag dcf_law_bag pmf_law_bag cdf_law_bag ctf_law_bag:Value} {af_law_bag:Addr}
  {odf_law_pull anf_law_pull:Option Addr} {slf_law_pull:Array (Option Value)} {ocf_law_pull kVf_law_pull dcf_law_pull pmf_law_pull cdf_law_pull ctf_law_pull:Value} {af_law_pull:Addr}
  {odf_law_word anf_law_word:Option Addr} {slf_law_word:Array (Option Value)} {ocf_law_word kVf_law_word dcf_law_word pmf_law_word cdf_law_word ctf_law_word:Value} {af_law_word:Addr}
  {odf_law_names anf_law_names:Option Addr} {slf_law_names:Array (Option Value)} {ocf_law_names kVf_law_names dcf_law_names pmf_law_names cdf_law_names ctf_law_names:Value} {af_law_names:Addr}
  {odf_law_questions anf_law_questions:Option Addr} {slf_law_questions:Array (Option Value)} {ocf_law_questions kVf_law_questions dcf_law_questions pmf_law_questions cdf_law_questions ctf_law_questions:Value} {af_law_questions:Addr}
  {odf_law_part anf_law_part:Option Addr} {slf_law_part:Array (Option Value)} {ocf_law_part kVf_law_part dcf_law_part pmf_law_part cdf_law_part ctf_law_part:Value} {af_law_part:Addr}
  {odf_law_ears anf_law_ears:Option Addr} {slf_law_ears:Array (Option Value)} {ocf_law_ears kVf_law_ears dcf_law_ears pmf_law_ears cdf_law_ears ctf_law_ears:Value} {af_law_ears:Addr}
  {odf_law_knotted anf_law_knotted:Option Addr} {slf_law_knotted:Array (Option Value)} {ocf_law_knotted kVf_law_knotted dcf_law_knotted pmf_law_knotted cdf_law_knotted ctf_law_knotted:Value} {af_law_knotted:Addr}
  {odf_law_rooms anf_law_rooms:Option Addr} {slf_law_rooms:Array (Option Value)} {ocf_law_rooms kVf_law_rooms dcf_law_rooms pmf_law_rooms cdf_law_rooms ctf_law_rooms:Value} {af_law_rooms:Addr}
  {odf_law_answers anf_law_answers:Option Addr} {slf_law_answers:Array (Option Value)} {ocf_law_answers kVf_law_answers dcf_law_answers pmf_law_answers cdf_law_answers ctf_law_answers:Value} {af_law_answers:Addr}
  {odf_law_many anf_law_many:Option Addr} {slf_law_many:Array (Option Value)} {ocf_law_many kVf_law_many dcf_law_many pmf_law_many cdf_law_many ctf_law_many:Value} {af_law_many:Addr}
  {odf_law_settled anf_law_settled:Option Addr} {slf_law_settled:Array (Option Value)} {ocf_law_settled kVf_law_settled dcf_law_settled pmf_law_settled cdf_law_settled ctf_law_settled:Value} {af_law_settled:Addr}
  {odf_law_drawn anf_law_drawn:Option Addr} {slf_law_drawn:Array (Option Value)} {ocf_law_drawn kVf_law_drawn dcf_law_drawn pmf_law_drawn cdf_law_drawn ctf_law_drawn:Value} {af_law_drawn:Addr}
  {odf_law_row_of anf_law_row_of:Option Addr} {slf_law_row_of:Array (Option Value)} {ocf_law_row_of kVf_law_row_of dcf_law_row_of pmf_law_row_of cdf_law_row_of ctf_law_row_of:Value} {af_law_row_of:Addr}
  {odf_law_portion anf_law_portion:Option Addr} {slf_law_portion:Array (Option Value)} {ocf_law_portion kVf_law_portion dcf_law_portion pmf_law_portion cdf_law_portion ctf_law_portion:Value} {af_law_portion:Addr}
  {odf_law_all anf_law_all:Option Addr} {slf_law_all:Array (Option Value)} {ocf_law_all kVf_law_all dcf_law_all pmf_law_all cdf_law_all ctf_law_all:Value} {af_law_all:Addr}
  {odf_law_every anf_law_every:Option Addr} {slf_law_every:Array (Option Value)} {ocf_law_every kVf_law_every dcf_law_every pmf_law_every cdf_law_every ctf_law_every:Value} {af_law_every:Addr}
  {odf_law_moved anf_law_moved:Option Addr} {slf_law_moved:Array (Option Value)} {ocf_law_moved kVf_law_moved dcf_law_moved pmf_law_moved cdf_law_moved ctf_law_moved:Value} {af_law_moved:Addr}
  {odf_law_truth anf_law_truth:Option Addr} {slf_law_truth:Array (Option Value)} {ocf_law_truth kVf_law_truth dcf_law_truth pmf_law_truth cdf_law_truth ctf_law_truth:Value} {af_law_truth:Addr}
  {odf_law anf_law:Option Addr} {slf_law:Array (Option Value)} {ocf_law kVf_law dcf_law pmf_law cdf_law ctf_law:Value} {af_law:Addr}
  (h1f_within:PySem.W.nsIn K mainGlobals "within"=some (some (.ref af_within))) (h2f_within:K.lookup af_within=some ⟨ocf_within,odf_within,.func (PySem.W.fnOf "within" "within" (AAQ ABj) (AAO ABj) (AAC ABj) .none kVf_within dcf_within pmf_within anf_within cdf_within ctf_within),slf_within⟩) (h3f_within:PySem.W.codeIn K cdf_within "within"=true) (h4f_within:PySem.W.keepIn K (.ref af_within)=true)
  (h1f_places:PySem.W.nsIn K mainGlobals "places"=some (some (.ref af_places))) (h2f_places:K.lookup af_places=some ⟨ocf_places,odf_places,.func (PySem.W.fnOf "places" "places" (AAQ ABk) (AAO ABk) (AAC ABk) .none kVf_places dcf_places pmf_places anf_places cdf_places ctf_places),slf_places⟩) (h3f_places:PySem.W.codeIn K cdf_places "places"=true) (h4f_places:PySem.W.keepIn K (.ref af_places)=true)
  (h1f_picked:PySem.W.nsIn K mainGlobals "picked"=some (some (.ref af_picked))) (h2f_picked:K.lookup af_picked=some ⟨ocf_picked,odf_picked,.func (PySem.W.fnOf "picked" "picked" (AAQ ABl) (AAO ABl) (AAC ABl) .none kVf_picked dcf_picked pmf_picked anf_picked cdf_picked ctf_picked),slf_picked⟩) (h3f_picked:PySem.W.codeIn K cdf_picked "picked"=true) (h4f_picked:PySem.W.keepIn K (.ref af_picked)=true)
  (h1f_summed:PySem.W.nsIn K mainGlobals "summed"=some (some (.ref af_summed))) (h2f_summed:K.lookup af_summed=some ⟨ocf_summed,odf_summed,.func (PySem.W.fnOf "summed" "summed" (AAQ ABm) (AAO ABm) (AAC ABm) .none kVf_summed dcf_summed pmf_summed anf_summed cdf_summed ctf_summed),slf_summed⟩) (h3f_summed:PySem.W.codeIn K cdf_summed "summed"=true) (h4f_summed:PySem.W.keepIn K (.ref af_summed)=true)
  (h1f_shared:PySem.W.nsIn K mainGlobals "shared"=some (some (.ref af_shared))) (h2f_shared:K.lookup af_shared=some ⟨ocf_shared,odf_shared,.func (PySem.W.fnOf "shared" "shared" (AAQ ABn) (AAO ABn) (AAC ABn) .none kVf_shared dcf_shared pmf_shared anf_shared cdf_shared ctf_shared),slf_shared⟩) (h3f_shared:PySem.W.codeIn K cdf_shared "shared"=true) (h4f_shared:PySem.W.keepIn K (.ref af_shared)=true)
  (h1f_all_questions:PySem.W.nsIn K mainGlobals "all_questions"=some (some (.ref af_all_questions))) (h2f_all_questions:K.lookup af_all_questions=some ⟨ocf_all_questions,odf_all_questions,.func (PySem.W.fnOf "all_questions" "all_questions" (AAQ AAi) (AAO AAi) (AAC AAi) .none kVf_all_questions dcf_all_questions pmf_all_questions anf_all_questions cdf_all_questions ctf_all_questions),slf_all_questions⟩) (h3f_all_questions:PySem.W.codeIn K cdf_all_questions "all_questions"=true) (h4f_all_questions:PySem.W.keepIn K (.ref af_all_questions)=true)
  (h1f_is_whole:PySem.W.nsIn K mainGlobals "is_whole"=some (some (.ref af_is_whole))) (h2f_is_whole:K.lookup af_is_whole=some ⟨ocf_is_whole,odf_is_whole,.func (PySem.W.fnOf "is_whole" "is_whole" (AAQ ABE) (AAO ABE) (AAC ABE) .none kVf_is_whole dcf_is_whole pmf_is_whole anf_is_whole cdf_is_whole ctf_is_whole),slf_is_whole⟩) (h3f_is_whole:PySem.W.codeIn K cdf_is_whole "is_whole"=true) (h4f_is_whole:PySem.W.keepIn K (.ref af_is_whole)=true)
  (h1f_law_bag:PySem.W.nsIn K mainGlobals "_law_bag"=some (some (.ref af_law_bag))) (h2f_law_bag:K.lookup af_law_bag=some ⟨ocf_law_bag,odf_law_bag,.func (PySem.W.fnOf "_law_bag" "_law_bag" (AAQ ABq) (AAO ABq) (AAC ABq) .none kVf_law_bag dcf_law_bag pmf_law_bag anf_law_bag cdf_law_bag ctf_law_bag),slf_law_bag⟩) (h3f_law_bag:PySem.W.codeIn K cdf_law_bag "_law_bag"=true) (h4f_law_bag:PySem.W.keepIn K (.ref af_law_bag)=true)
  (h1f_law_pull:PySem.W.nsIn K mainGlobals "_law_pull"=some (some (.ref af_law_pull))) (h2f_law_pull:K.lookup af_law_pull=some ⟨ocf_law_pull,odf_law_pull,.func (PySem.W.fnOf "_law_pull" "_law_pull" (AAQ ABb) (AAO ABb) (AAC ABb) .none kVf_law_pull dcf_law_pull pmf_law_pull anf_law_pull cdf_law_pull ctf_law_pull),slf_law_pull⟩) (h3f_law_pull:PySem.W.codeIn K cdf_law_pull "_law_pull"=true) (h4f_law_pull:PySem.W.keepIn K (.ref af_law_pull)=true)
  (h1f_law_word:PySem.W.nsIn K mainGlobals "_law_word"=some (some (.ref af_law_word))) (h2f_law_word:K.lookup af_law_word=some ⟨ocf_law_word,odf_law_word,.func (PySem.W.fnOf "_law_word" "_law_word" (AAQ ABF) (AAO ABF) (AAC ABF) .none kVf_law_word dcf_law_word pmf_law_word anf_law_word cdf_law_word ctf_law_word),slf_law_word⟩) (h3f_law_word:PySem.W.codeIn K cdf_law_word "_law_word"=true) (h4f_law_word:PySem.W.keepIn K (.ref af_law_word)=true)
  (h1f_law_names:PySem.W.nsIn K mainGlobals "_law_names"=some (some (.ref af_law_names))) (h2f_law_names:K.lookup af_law_names=some ⟨ocf_law_names,odf_law_names,.func (PySem.W.fnOf "_law_names" "_law_names" (AAQ ABK) (AAO ABK) (AAC ABK) .none kVf_law_names dcf_law_names pmf_law_names anf_law_names cdf_law_names ctf_law_names),slf_law_names⟩) (h3f_law_names:PySem.W.codeIn K cdf_law_names "_law_names"=true) (h4f_law_names:PySem.W.keepIn K (.ref af_law_names)=true)
  (h1f_law_questions:PySem.W.nsIn K mainGlobals "_law_questions"=some (some (.ref af_law_questions))) (h2f_law_questions:K.lookup af_law_questions=some ⟨ocf_law_questions,odf_law_questions,.func (PySem.W.fnOf "_law_questions" "_law_questions" (AAQ AAn) (AAO AAn) (AAC AAn) .none kVf_law_questions dcf_law_questions pmf_law_questions anf_law_questions cdf_law_questions ctf_law_questions),slf_law_questions⟩) (h3f_law_questions:PySem.W.codeIn K cdf_law_questions "_law_questions"=true) (h4f_law_questions:PySem.W.keepIn K (.ref af_law_questions)=true)
  (h1f_law_part:PySem.W.nsIn K mainGlobals "_law_part"=some (some (.ref af_law_part))) (h2f_law_part:K.lookup af_law_part=some ⟨ocf_law_part,odf_law_part,.func (PySem.W.fnOf "_law_part" "_law_part" (AAQ ABG) (AAO ABG) (AAC ABG) .none kVf_law_part dcf_law_part pmf_law_part anf_law_part cdf_law_part ctf_law_part),slf_law_part⟩) (h3f_law_part:PySem.W.codeIn K cdf_law_part "_law_part"=true) (h4f_law_part:PySem.W.keepIn K (.ref af_law_part)=true)
  (h1f_law_ears:PySem.W.nsIn K mainGlobals "_law_ears"=some (some (.ref af_law_ears))) (h2f_law_ears:K.lookup af_law_ears=some ⟨ocf_law_ears,odf_law_ears,.func (PySem.W.fnOf "_law_ears" "_law_ears" (AAQ ABc) (AAO ABc) (AAC ABc) .none kVf_law_ears dcf_law_ears pmf_law_ears anf_law_ears cdf_law_ears ctf_law_ears),slf_law_ears⟩) (h3f_law_ears:PySem.W.codeIn K cdf_law_ears "_law_ears"=true) (h4f_law_ears:PySem.W.keepIn K (.ref af_law_ears)=true)
  (h1f_law_knotted:PySem.W.nsIn K mainGlobals "_law_knotted"=some (some (.ref af_law_knotted))) (h2f_law_knotted:K.lookup af_law_knotted=some ⟨ocf_law_knotted,odf_law_knotted,.func (PySem.W.fnOf "_law_knotted" "_law_knotted" (AAQ AAp) (AAO AAp) (AAC AAp) .none kVf_law_knotted dcf_law_knotted pmf_law_knotted anf_law_knotted cdf_law_knotted ctf_law_knotted),slf_law_knotted⟩) (h3f_law_knotted:PySem.W.codeIn K cdf_law_knotted "_law_knotted"=true) (h4f_law_knotted:PySem.W.keepIn K (.ref af_law_knotted)=true)
  (h1f_law_rooms:PySem.W.nsIn K mainGlobals "_law_rooms"=some (some (.ref af_law_rooms))) (h2f_law_rooms:K.lookup af_law_rooms=some ⟨ocf_law_rooms,odf_law_rooms,.func (PySem.W.fnOf "_law_rooms" "_law_rooms" (AAQ AA4) (AAO AA4) (AAC AA4) .none kVf_law_rooms dcf_law_rooms pmf_law_rooms anf_law_rooms cdf_law_rooms ctf_law_rooms),slf_law_rooms⟩) (h3f_law_rooms:PySem.W.codeIn K cdf_law_rooms "_law_rooms"=true) (h4f_law_rooms:PySem.W.keepIn K (.ref af_law_rooms)=true)
  (h1f_law_answers:PySem.W.nsIn K mainGlobals "_law_answers"=some (some (.ref af_law_answers))) (h2f_law_answers:K.lookup af_law_answers=some ⟨ocf_law_answers,odf_law_answers,.func (PySem.W.fnOf "_law_answers" "_law_answers" (AAQ AAq) (AAO AAq) (AAC AAq) .none kVf_law_answers dcf_law_answers pmf_law_answers anf_law_answers cdf_law_answers ctf_law_answers),slf_law_answers⟩) (h3f_law_answers:PySem.W.codeIn K cdf_law_answers "_law_answers"=true) (h4f_law_answers:PySem.W.keepIn K (.ref af_law_answers)=true)
  (h1f_law_many:PySem.W.nsIn K mainGlobals "_law_many"=some (some (.ref af_law_many))) (h2f_law_many:K.lookup af_law_many=some ⟨ocf_law_many,odf_law_many,.func (PySem.W.fnOf "_law_many" "_law_many" (AAQ ABd) (AAO ABd) (AAC ABd) .none kVf_law_many dcf_law_many pmf_law_many anf_law_many cdf_law_many ctf_law_many),slf_law_many⟩) (h3f_law_many:PySem.W.codeIn K cdf_law_many "_law_many"=true) (h4f_law_many:PySem.W.keepIn K (.ref af_law_many)=true)
  (h1f_law_settled:PySem.W.nsIn K mainGlobals "_law_settled"=some (some (.ref af_law_settled))) (h2f_law_settled:K.lookup af_law_settled=some ⟨ocf_law_settled,odf_law_settled,.func (PySem.W.fnOf "_law_settled" "_law_settled" (AAQ AAr) (AAO AAr) (AAC AAr) .none kVf_law_settled dcf_law_settled pmf_law_settled anf_law_settled cdf_law_settled ctf_law_settled),slf_law_settled⟩) (h3f_law_settled:PySem.W.codeIn K cdf_law_settled "_law_settled"=true) (h4f_law_settled:PySem.W.keepIn K (.ref af_law_settled)=true)
  (h1f_law_drawn:PySem.W.nsIn K mainGlobals "_law_drawn"=some (some (.ref af_law_drawn))) (h2f_law_drawn:K.lookup af_law_drawn=some ⟨ocf_law_drawn,odf_law_drawn,.func (PySem.W.fnOf "_law_drawn" "_law_drawn" (AAQ ABL) (AAO ABL) (AAC ABL) .none kVf_law_drawn dcf_law_drawn pmf_law_drawn anf_law_drawn cdf_law_drawn ctf_law_drawn),slf_law_drawn⟩) (h3f_law_drawn:PySem.W.codeIn K cdf_law_drawn "_law_drawn"=true) (h4f_law_drawn:PySem.W.keepIn K (.ref af_law_drawn)=true)
  (h1f_law_row_of:PySem.W.nsIn K mainGlobals "_law_row_of"=some (some (.ref af_law_row_of))) (h2f_law_row_of:K.lookup af_law_row_of=some ⟨ocf_law_row_of,odf_law_row_of,.func (PySem.W.fnOf "_law_row_of" "_law_row_of" (AAQ AAx) (AAO AAx) (AAC AAx) .none kVf_law_row_of dcf_law_row_of pmf_law_row_of anf_law_row_of cdf_law_row_of ctf_law_row_of),slf_law_row_of⟩) (h3f_law_row_of:PySem.W.codeIn K cdf_law_row_of "_law_row_of"=true) (h4f_law_row_of:PySem.W.keepIn K (.ref af_law_row_of)=true)
  (h1f_law_portion:PySem.W.nsIn K mainGlobals "_law_portion"=some (some (.ref af_law_portion))) (h2f_law_portion:K.lookup af_law_portion=some ⟨ocf_law_portion,odf_law_portion,.func (PySem.W.fnOf "_law_portion" "_law_portion" (AAQ AA0) (AAO AA0) (AAC AA0) .none kVf_law_portion dcf_law_portion pmf_law_portion anf_law_portion cdf_law_portion ctf_law_portion),slf_law_portion⟩) (h3f_law_portion:PySem.W.codeIn K cdf_law_portion "_law_portion"=true) (h4f_law_portion:PySem.W.keepIn K (.ref af_law_portion)=true)
  (h1f_law_all:PySem.W.nsIn K mainGlobals "_law_all"=some (some (.ref af_law_all))) (h2f_law_all:K.lookup af_law_all=some ⟨ocf_law_all,odf_law_all,.func (PySem.W.fnOf "_law_all" "_law_all" (AAQ ABr) (AAO ABr) (AAC ABr) .none kVf_law_all dcf_law_all pmf_law_all anf_law_all cdf_law_all ctf_law_all),slf_law_all⟩) (h3f_law_all:PySem.W.codeIn K cdf_law_all "_law_all"=true) (h4f_law_all:PySem.W.keepIn K (.ref af_law_all)=true)
  (h1f_law_every:PySem.W.nsIn K mainGlobals "_law_every"=some (some (.ref af_law_every))) (h2f_law_every:K.lookup af_law_every=some ⟨ocf_law_every,odf_law_every,.func (PySem.W.fnOf "_law_every" "_law_every" (AAQ ABM) (AAO ABM) (AAC ABM) .none kVf_law_every dcf_law_every pmf_law_every anf_law_every cdf_law_every ctf_law_every),slf_law_every⟩) (h3f_law_every:PySem.W.codeIn K cdf_law_every "_law_every"=true) (h4f_law_every:PySem.W.keepIn K (.ref af_law_every)=true)
  (h1f_law_moved:PySem.W.nsIn K mainGlobals "_law_moved"=some (some (.ref af_law_moved))) (h2f_law_moved:K.lookup af_law_moved=some ⟨ocf_law_moved,odf_law_moved,.func (PySem.W.fnOf "_law_moved" "_law_moved" (AAQ ABN) (AAO ABN) (AAC ABN) .none kVf_law_moved dcf_law_moved pmf_law_moved anf_law_moved cdf_law_moved ctf_law_moved),slf_law_moved⟩) (h3f_law_moved:PySem.W.codeIn K cdf_law_moved "_law_moved"=true) (h4f_law_moved:PySem.W.keepIn K (.ref af_law_moved)=true)
  (h1f_law_truth:PySem.W.nsIn K mainGlobals "_law_truth"=some (some (.ref af_law_truth))) (h2f_law_truth:K.lookup af_law_truth=some ⟨ocf_law_truth,odf_law_truth,.func (PySem.W.fnOf "_law_truth" "_law_truth" (AAQ ABO) (AAO ABO) (AAC ABO) .none kVf_law_truth dcf_law_truth pmf_law_truth anf_law_truth cdf_law_truth ctf_law_truth),slf_law_truth⟩) (h3f_law_truth:PySem.W.codeIn K cdf_law_truth "_law_truth"=true) (h4f_law_truth:PySem.W.keepIn K (.ref af_law_truth)=true)
  (h1f_law:PySem.W.nsIn K mainGlobals "law"=some (some (.ref af_law))) (h2f_law:K.lookup af_law=some ⟨ocf_law,odf_law,.func (PySem.W.fnOf "law" "law" (AAQ ABZ) (AAO ABZ) (AAC ABZ) .none kVf_law dcf_law pmf_law anf_law cdf_law ctf_law),slf_law⟩) (h3f_law:PySem.W.codeIn K cdf_law "law"=true) (h4f_law:PySem.W.keepIn K (.ref af_law)=true)
  (hb_len:PySem.W.nsIn K mainGlobals "len"=some none)
  (hb_list:PySem.W.nsIn K mainGlobals "list"=some none)
  (hb_range:PySem.W.nsIn K mainGlobals "range"=some none)
  (hb_isinstance:PySem.W.nsIn K mainGlobals "isinstance"=some none)
  (hb_bool:PySem.W.nsIn K mainGlobals "bool"=some none)
  (hb_int:PySem.W.nsIn K mainGlobals "int"=some none)
  (hb_tuple:PySem.W.nsIn K mainGlobals "tuple"=some none)
  (hb_all:PySem.W.nsIn K mainGlobals "all"=some none)
  (hb_any:PySem.W.nsIn K mainGlobals "any"=some none)
  (hb_sorted:PySem.W.nsIn K mainGlobals "sorted"=some none)
  (hb_set:PySem.W.nsIn K mainGlobals "set"=some none)
  (hb_sum:PySem.W.nsIn K mainGlobals "sum"=some none)
  (hb_dict:PySem.W.nsIn K mainGlobals "dict"=some none)
  (hb_zip:PySem.W.nsIn K mainGlobals "zip"=some none)
  (hb_min:PySem.W.nsIn K mainGlobals "min"=some none)
  (hb_max:PySem.W.nsIn K mainGlobals "max"=some none) :
  ∃ fd:FuncData,(∀ (s:Shared) (v:Value),BindsTo s fd ⟨[v],[]⟩ [("_law_script",v)])∧∀ base:Heap,K.In base→base.Ns mainGlobals mg→FnOk l.prog w K mg base CX0 5 fa fd ["_law_script"] (AH5 K):=by
 have Df_within:AAM K mg "within" ABj:=⟨_,_,AAV (st:=ABj) h2f_within h3f_within h4f_within,PySem.W.mg_of X G h1f_within⟩
 have Df_places:AAM K mg "places" ABk:=⟨_,_,AAV (st:=ABk) h2f_places h3f_places h4f_places,PySem.W.mg_of X G h1f_places⟩
 have Df_picked:AAM K mg "picked" ABl:=⟨_,_,AAV (st:=ABl) h2f_picked h3f_picked h4f_picked,PySem.W.mg_of X G h1f_picked⟩
 have Df_summed:AAM K mg "summed" ABm:=⟨_,_,AAV (st:=ABm) h2f_summed h3f_summed h4f_summed,PySem.W.mg_of X G h1f_summed⟩
 have Df_shared:AAM K mg "shared" ABn:=⟨_,_,AAV (st:=ABn) h2f_shared h3f_shared h4f_shared,PySem.W.mg_of X G h1f_shared⟩
 have Df_all_questions:AAM K mg "all_questions" AAi:=⟨_,_,AAV (st:=AAi) h2f_all_questions h3f_all_questions h4f_all_questions,PySem.W.mg_of X G h1f_all_questions⟩
 have Df_is_whole:AAM K mg "is_whole" ABE:=⟨_,_,AAV (st:=ABE) h2f_is_whole h3f_is_whole h4f_is_whole,PySem.W.mg_of X G h1f_is_whole⟩
 have Df_law_bag:AAM K mg "_law_bag" ABq:=⟨_,_,AAV (st:=ABq) h2f_law_bag h3f_law_bag h4f_law_bag,PySem.W.mg_of X G h1f_law_bag⟩
 have Df_law_pull:AAM K mg "_law_pull" ABb:=⟨_,_,AAV (st:=ABb) h2f_law_pull h3f_law_pull h4f_law_pull,PySem.W.mg_of X G h1f_law_pull⟩
 have Df_law_word:AAM K mg "_law_word" ABF:=⟨_,_,AAV (st:=ABF) h2f_law_word h3f_law_word h4f_law_word,PySem.W.mg_of X G h1f_law_word⟩
 have Df_law_names:AAM K mg "_law_names" ABK:=⟨_,_,AAV (st:=ABK) h2f_law_names h3f_law_names h4f_law_names,PySem.W.mg_of X G h1f_law_names⟩
 have Df_law_questions:AAM K mg "_law_questions" AAn:=⟨_,_,AAV (st:=AAn) h2f_law_questions h3f_law_questions h4f_law_questions,PySem.W.mg_of X G h1f_law_questions⟩
 have Df_law_part:AAM K mg "_law_part" ABG:=⟨_,_,AAV (st:=ABG) h2f_law_part h3f_law_part h4f_law_part,PySem.W.mg_of X G h1f_law_part⟩
 have Df_law_ears:AAM K mg "_law_ears" ABc:=⟨_,_,AAV (st:=ABc) h2f_law_ears h3f_law_ears h4f_law_ears,PySem.W.mg_of X G h1f_law_ears⟩
 have Df_law_knotted:AAM K mg "_law_knotted" AAp:=⟨_,_,AAV (st:=AAp) h2f_law_knotted h3f_law_knotted h4f_law_knotted,PySem.W.mg_of X G h1f_law_knotted⟩
 have Df_law_rooms:AAM K mg "_law_rooms" AA4:=⟨_,_,AAV (st:=AA4) h2f_law_rooms h3f_law_rooms h4f_law_rooms,PySem.W.mg_of X G h1f_law_rooms⟩
 have Df_law_answers:AAM K mg "_law_answers" AAq:=⟨_,_,AAV (st:=AAq) h2f_law_answers h3f_law_answers h4f_law_answers,PySem.W.mg_of X G h1f_law_answers⟩
 have Df_law_many:AAM K mg "_law_many" ABd:=⟨_,_,AAV (st:=ABd) h2f_law_many h3f_law_many h4f_law_many,PySem.W.mg_of X G h1f_law_many⟩
 have Df_law_settled:AAM K mg "_law_settled" AAr:=⟨_,_,AAV (st:=AAr) h2f_law_settled h3f_law_settled h4f_law_settled,PySem.W.mg_of X G h1f_law_settled⟩
 have Df_law_drawn:AAM K mg "_law_drawn" ABL:=⟨_,_,AAV (st:=ABL) h2f_law_drawn h3f_law_drawn h4f_law_drawn,PySem.W.mg_of X G h1f_law_drawn⟩
 have Df_law_row_of:AAM K mg "_law_row_of" AAx:=⟨_,_,AAV (st:=AAx) h2f_law_row_of h3f_law_row_of h4f_law_row_of,PySem.W.mg_of X G h1f_law_row_of⟩
 have Df_law_portion:AAM K mg "_law_portion" AA0:=⟨_,_,AAV (st:=AA0) h2f_law_portion h3f_law_portion h4f_law_portion,PySem.W.mg_of X G h1f_law_portion⟩
 have Df_law_all:AAM K mg "_law_all" ABr:=⟨_,_,AAV (st:=ABr) h2f_law_all h3f_law_all h4f_law_all,PySem.W.mg_of X G h1f_law_all⟩
 have Df_law_every:AAM K mg "_law_every" ABM:=⟨_,_,AAV (st:=ABM) h2f_law_every h3f_law_every h4f_law_every,PySem.W.mg_of X G h1f_law_every⟩
 have Df_law_moved:AAM K mg "_law_moved" ABN:=⟨_,_,AAV (st:=ABN) h2f_law_moved h3f_law_moved h4f_law_moved,PySem.W.mg_of X G h1f_law_moved⟩
 have Df_law_truth:AAM K mg "_law_truth" ABO:=⟨_,_,AAV (st:=ABO) h2f_law_truth h3f_law_truth h4f_law_truth,PySem.W.mg_of X G h1f_law_truth⟩
 have Df_law:AAM K mg "law" ABZ:=⟨_,_,AAV (st:=ABZ) h2f_law h3f_law h4f_law,PySem.W.mg_of X G h1f_law⟩
 have B_len:mg "len"=none:=PySem.W.mg_none_of X G hb_len
 have B_list:mg "list"=none:=PySem.W.mg_none_of X G hb_list
 have B_range:mg "range"=none:=PySem.W.mg_none_of X G hb_range
 have B_isinstance:mg "isinstance"=none:=PySem.W.mg_none_of X G hb_isinstance
 have B_bool:mg "bool"=none:=PySem.W.mg_none_of X G hb_bool
 have B_int:mg "int"=none:=PySem.W.mg_none_of X G hb_int
 have B_tuple:mg "tuple"=none:=PySem.W.mg_none_of X G hb_tuple
 have B_all:mg "all"=none:=PySem.W.mg_none_of X G hb_all
 have B_any:mg "any"=none:=PySem.W.mg_none_of X G hb_any
 have B_sorted:mg "sorted"=none:=PySem.W.mg_none_of X G hb_sorted
 have B_set:mg "set"=none:=PySem.W.mg_none_of X G hb_set
 have B_sum:mg "sum"=none:=PySem.W.mg_none_of X G hb_sum
 have B_dict:mg "dict"=none:=PySem.W.mg_none_of X G hb_dict
 have B_zip:mg "zip"=none:=PySem.W.mg_none_of X G hb_zip
 have B_min:mg "min"=none:=PySem.W.mg_none_of X G hb_min
 have B_max:mg "max"=none:=PySem.W.mg_none_of X G hb_max
 have e:=hfa.symm.trans (PySem.W.mg_of X G h1f_law)
 cases e
 have T:TxtB mg:={ b_len:=B_len,b_list:=B_list,b_range:=B_range,b_isinstance:=B_isinstance,b_bool:=B_bool,b_int:=B_int,b_tuple:=B_tuple,b_all:=B_all,b_any:=B_any,b_sorted:=B_sorted,b_set:=B_set,b_sum:=B_sum,b_dict:=B_dict,b_zip:=B_zip,b_min:=B_min,b_max:=B_max }
 refine ⟨PySem.W.fnOf "law" "law" (AAQ ABZ) (AAO ABZ) (AAC ABZ) .none kVf_law dcf_law pmf_law anf_law cdf_law ctf_law,fun s v=>.of_eq rfl,fun base _ _=>?_⟩
 have Gpull:=AOr (P:=l.prog) (w:=w) (base:=base) Df_law_pull T
 have GpullP:=APz Gpull
 have Gans:=AK7 Df_law_answers T GpullP
 have Gset:=AK8 (P':=l.prog) (w:=w) (base:=base) Df_law_settled T
 have Gq:=AJI Df_law_questions T GpullP (AOu (ANZ Df_law_names T Gpull (AOs Df_law_word T Gpull)))
 have Gpart:=AOx Df_law_part T GpullP
 have Grooms:=ANg Df_law_rooms T GpullP Gpart (AOy Df_law_ears T GpullP Gpart) (ALB Df_law_knotted T GpullP Gpart)
 have Gdrawn:=ANa Df_law_drawn T GpullP Gans (AOw Df_law_many T GpullP) Gset
 have Gpor:=AK9 Df_law_portion T (AMf (P':=l.prog) (w:=w) (base:=base) Df_law_row_of T) Gset
 have Gmov:=ANb Df_law_moved T GpullP Gans Gset
 have Gpl:=AMg Df_places T (AMe (P':=l.prog) (w:=w) (base:=base) Df_within T)
 have Gsh:=AMj Df_shared T Gpl (AMh Df_picked T) (AMi Df_summed T)
 exact AQB (AAV (st:=ABZ) h2f_law h3f_law h4f_law) T (APy Df_law_bag T) GpullP Gq Grooms Gdrawn Gpor Gmov (ANh Df_law_every T (AP3 Df_law_all T)) (ALD Df_is_whole T (AO0 Df_all_questions T) Gsh) (ANc Df_law_truth T)
theorem walk {l:PySem.W.OpenLaw} {q:Program} {loose:List Str} {XP:(Str→Option Value)→Heap→Prop} {YP:World→Heap→Prop} {d:DefRec} {K:Params→PySem.W.Frag} (hn:l.most=some 63) (hdf:d.params.defaults=[])
  (hY:∀ (w:World) (h:Heap),YP w h→(K w.params).In h)
  (F:∀ (w:World) (mg:Str→Option Value) (fa:Addr) (h:Heap),(K w.params).In h→h.Ns mainGlobals mg→mg d.name=some (.ref fa) →
   ∃ fd:FuncData,(∀ (s:Shared) (u:Value),BindsTo s fd ⟨[u],[]⟩ [("_law_script",u)])∧∀ base:Heap,(K w.params).In base→base.Ns mainGlobals mg→FnOk l.prog w (K w.params) mg base CX0 5 fa fd ["_law_script"] (AH5 (K w.params))) :
  PySem.W.WalkO q loose XP YP l.row.toRowW d [] (fun f vs=>PySem.call f vs) :=
 L2.walk_of (n:=63) (k:=5) (x:="_law_script") (CX:=fun _=>CX0) (sp:=fun w=>AH5 (K w.params)) hn (by decide) hdf ⟨rfl,by decide,by decide⟩ hY F (fun _ _ a ns hl _ hS=>⟨a,ns,rfl,hS,fun _=>rfl⟩) fun _ _ _ _ _ z=>z
end K
structure PySem.W.Fast:Prop where(tw10006245381737286221 tw10128478075006212354 tw10139954674405835425 tw10252466041775815976 tw10597050651736453554 tw10767985920173127708 tw10814586628495357962 tw10817563098248856120 tw10824211938478585214 tw10860438259506303287 tw10924592439098908323 tw10951653256967096667 tw11044015584858574253 tw11122259354160187371 tw11320723381874620718 tw11339344484328682619 tw11368317233501139366 tw11426049924259233374 tw11526188827130723587 tw11589134434316485755 tw11846209936226909182 tw11847158745466201005 tw11854674875881029755 tw11898868478843073081 tw12015918923181412742 tw12187759859550924335 tw12188190481133759560 tw12329879578730273352 tw12398412921273899744 tw12488633929734580787 tw12617045877395649760 tw12720408811461979103 tw12722441267807738176 tw12895542059797363710 tw13017934885338761393 tw1311942957835620846 tw13230956570732991045 tw13259199593741399814 tw13329993011078287514 tw13415524580108442403 tw13420085293511397282 tw13449944362647144193 tw13461939444400110958 tw134875245996846699 tw13552882283047605606 tw13617578547521479731 tw13643558233387919851 tw13702760697646604782 tw13757041000394044424 tw13808466395304384525 tw1389815161350903377 tw1391959828689461637 tw14014331946846548537 tw14167964626510899571 tw14257724065939926717 tw14761025184520726295 tw14817100393701014711 tw14826045559023644248 tw150404226279951322 tw15069693368218380004 tw15304359329782347139 tw15328725428971693002 tw15368332247231886411 tw15402229808089284630 tw15605348651848050740 tw15665391999681457205 tw1567059439887251588 tw15862881197052722559 tw15888239597895082281 tw15946288578330491124 tw16012458906499725825 tw16074461343139974957 tw16116388460923686718 tw16136683481407723481 tw16275368235943334343 tw16308219625913877804 tw16344055786887674205 tw16643862938815826672 tw16816220148964549272 tw16822137479250816229 tw16829816524210428969 tw16834973763809231312 tw16836454015443875766 tw16973672144119137213 tw1701190789559623694 tw17024482390765405607 tw17061032340083817922 tw1718547910976645637 tw17211970116281660235 tw17326284408150408043 tw1734957395537735551 tw17457408189111220302 tw17498639618305531135 tw17518305185114807475 tw17564503190951293289 tw17624127913255682772 tw17698889810182583117 tw17845172987825725204 tw17972355059489106233 tw17998178114128340312 tw18323934738704864729 tw1872801088069194348 tw1931654704627351864 tw2001619659643675245 tw2231874991571095892 tw2397503033259737495 tw2481578283432029202 tw2584375462656351429 tw2630233841576370569 tw2774305670453620423 tw2781375866212505809 tw2838315291992371290 tw2934939821543544418 tw3055748720347678886 tw3413333364819031709 tw3540755166157940980 tw3647368775431841839 tw3687988007544795715 tw3938468479882262886 tw399960052662646686 tw4029734947584280275 tw4144848161533151260 tw4170470799899398794 tw4462445723021941703 tw4580915920796508751 tw4616944504194360673 tw4672387966776129650 tw4776086823742535211 tw4836555564612285896 tw4896735433499429167 tw4923824048357855006 tw4956298918390859891 tw5264041571558321083 tw5475918435388991480 tw5608056949896988338 tw5836303696895743224 tw5858184658399634981 tw5937489376582717135 tw6046939010295821076 tw6327422716984805773 tw6513950074081164727 tw6691749546413072955 tw670852159897492891 tw6729061238413049134 tw6747847252361722671 tw6785909901013118708 tw6950307873967145078 tw6963148229547832745 tw6972464642121006889 tw6974919926533678807 tw7211539864191648625 tw7277615659300281630 tw7429991696871951971 tw7471115357390922972 tw7524288027550716443 tw7587147986185059150 tw7641572411408983967 tw7835265830609916578 tw7922070903822714804 tw8154413236174677155 tw8249190677820810998 tw8349787103767781942 tw846351590935635484 tw847363770666845423 tw8521142274447014021 tw8571459103459095644 tw8662175825810773696 tw8790612514213753282 tw8796219298124043208 tw8837741071695376200 tw9073479543281974140 tw931257026196519163 tw9315743073521399484 tw9327051682361683902 tw9396550042901066527 tw9427842620161882553 tw9483228392243427401 tw9497103440389420499 tw9544760829506328868:True)
open PySem PySem.W PyProof.Rows
set_option maxRecDepth 100000 in
set_option maxHeartbeats 0 in
theorem PySem.Challenge.cw_roomtally_k21_whole_counts_judged_holds : PySem.Challenge.rw_roomtally_k21_whole_counts_judged.Holds := by
  w_on; o_law; k_head; (case hw => w_witness2)
  k_fill
  refine K.walk (l := PySem.Challenge.rw_roomtally_k21_whole_counts_judged) rfl rfl (fun w h Y => PySem.W.kIn_of Y) ?F
  case F =>
    intro w mg fa h KX G hmg
    refine' K.all_mk KX G hmg ?h1f_within ?h2f_within ?h3f_within ?h4f_within ?h1f_places ?h2f_places ?h3f_places ?h4f_places ?h1f_picked ?h2f_picked ?h3f_picked ?h4f_picked ?h1f_summed ?h2f_summed ?h3f_summed ?h4f_summed ?h1f_shared ?h2f_shared ?h3f_shared ?h4f_shared ?h1f_all_questions ?h2f_all_questions ?h3f_all_questions ?h4f_all_questions ?h1f_is_whole ?h2f_is_whole ?h3f_is_whole ?h4f_is_whole ?h1f_law_bag ?h2f_law_bag ?h3f_law_bag ?h4f_law_bag ?h1f_law_pull ?h2f_law_pull ?h3f_law_pull ?h4f_law_pull ?h1f_law_word ?h2f_law_word ?h3f_law_word ?h4f_law_word ?h1f_law_names ?h2f_law_names ?h3f_law_names ?h4f_law_names ?h1f_law_questions ?h2f_law_questions ?h3f_law_questions ?h4f_law_questions ?h1f_law_part ?h2f_law_part ?h3f_law_part ?h4f_law_part ?h1f_law_ears ?h2f_law_ears ?h3f_law_ears ?h4f_law_ears ?h1f_law_knotted ?h2f_law_knotted ?h3f_law_knotted ?h4f_law_knotted ?h1f_law_rooms ?h2f_law_rooms ?h3f_law_rooms ?h4f_law_rooms ?h1f_law_answers ?h2f_law_answers ?h3f_law_answers ?h4f_law_answers ?h1f_law_many ?h2f_law_many ?h3f_law_many ?h4f_law_many ?h1f_law_settled ?h2f_law_settled ?h3f_law_settled ?h4f_law_settled ?h1f_law_drawn ?h2f_law_drawn ?h3f_law_drawn ?h4f_law_drawn ?h1f_law_row_of ?h2f_law_row_of ?h3f_law_row_of ?h4f_law_row_of ?h1f_law_portion ?h2f_law_portion ?h3f_law_portion ?h4f_law_portion ?h1f_law_all ?h2f_law_all ?h3f_law_all ?h4f_law_all ?h1f_law_every ?h2f_law_every ?h3f_law_every ?h4f_law_every ?h1f_law_moved ?h2f_law_moved ?h3f_law_moved ?h4f_law_moved ?h1f_law_truth ?h2f_law_truth ?h3f_law_truth ?h4f_law_truth ?h1f_law ?h2f_law ?h3f_law ?h4f_law ?hb_len ?hb_list ?hb_range ?hb_isinstance ?hb_bool ?hb_int ?hb_tuple ?hb_all ?hb_any ?hb_sorted ?hb_set ?hb_sum ?hb_dict ?hb_zip ?hb_min ?hb_max
    (case h1f_within => k_is)
    (case h2f_within => k_is)
    (case h3f_within => k_is)
    (case h4f_within => k_is)
    (case h1f_places => k_is)
    (case h2f_places => k_is)
    (case h3f_places => k_is)
    (case h4f_places => k_is)
    (case h1f_picked => k_is)
    (case h2f_picked => k_is)
    (case h3f_picked => k_is)
    (case h4f_picked => k_is)
    (case h1f_summed => k_is)
    (case h2f_summed => k_is)
    (case h3f_summed => k_is)
    (case h4f_summed => k_is)
    (case h1f_shared => k_is)
    (case h2f_shared => k_is)
    (case h3f_shared => k_is)
    (case h4f_shared => k_is)
    (case h1f_all_questions => k_is)
    (case h2f_all_questions => k_is)
    (case h3f_all_questions => k_is)
    (case h4f_all_questions => k_is)
    (case h1f_is_whole => k_is)
    (case h2f_is_whole => k_is)
    (case h3f_is_whole => k_is)
    (case h4f_is_whole => k_is)
    (case h1f_law_bag => k_is)
    (case h2f_law_bag => k_is)
    (case h3f_law_bag => k_is)
    (case h4f_law_bag => k_is)
    (case h1f_law_pull => k_is)
    (case h2f_law_pull => k_is)
    (case h3f_law_pull => k_is)
    (case h4f_law_pull => k_is)
    (case h1f_law_word => k_is)
    (case h2f_law_word => k_is)
    (case h3f_law_word => k_is)
    (case h4f_law_word => k_is)
    (case h1f_law_names => k_is)
    (case h2f_law_names => k_is)
    (case h3f_law_names => k_is)
    (case h4f_law_names => k_is)
    (case h1f_law_questions => k_is)
    (case h2f_law_questions => k_is)
    (case h3f_law_questions => k_is)
    (case h4f_law_questions => k_is)
    (case h1f_law_part => k_is)
    (case h2f_law_part => k_is)
    (case h3f_law_part => k_is)
    (case h4f_law_part => k_is)
    (case h1f_law_ears => k_is)
    (case h2f_law_ears => k_is)
    (case h3f_law_ears => k_is)
    (case h4f_law_ears => k_is)
    (case h1f_law_knotted => k_is)
    (case h2f_law_knotted => k_is)
    (case h3f_law_knotted => k_is)
    (case h4f_law_knotted => k_is)
    (case h1f_law_rooms => k_is)
    (case h2f_law_rooms => k_is)
    (case h3f_law_rooms => k_is)
    (case h4f_law_rooms => k_is)
    (case h1f_law_answers => k_is)
    (case h2f_law_answers => k_is)
    (case h3f_law_answers => k_is)
    (case h4f_law_answers => k_is)
    (case h1f_law_many => k_is)
    (case h2f_law_many => k_is)
    (case h3f_law_many => k_is)
    (case h4f_law_many => k_is)
    (case h1f_law_settled => k_is)
    (case h2f_law_settled => k_is)
    (case h3f_law_settled => k_is)
    (case h4f_law_settled => k_is)
    (case h1f_law_drawn => k_is)
    (case h2f_law_drawn => k_is)
    (case h3f_law_drawn => k_is)
    (case h4f_law_drawn => k_is)
    (case h1f_law_row_of => k_is)
    (case h2f_law_row_of => k_is)
    (case h3f_law_row_of => k_is)
    (case h4f_law_row_of => k_is)
    (case h1f_law_portion => k_is)
    (case h2f_law_portion => k_is)
    (case h3f_law_portion => k_is)
    (case h4f_law_portion => k_is)
    (case h1f_law_all => k_is)
    (case h2f_law_all => k_is)
    (case h3f_law_all => k_is)
    (case h4f_law_all => k_is)
    (case h1f_law_every => k_is)
    (case h2f_law_every => k_is)
    (case h3f_law_every => k_is)
    (case h4f_law_every => k_is)
    (case h1f_law_moved => k_is)
    (case h2f_law_moved => k_is)
    (case h3f_law_moved => k_is)
    (case h4f_law_moved => k_is)
    (case h1f_law_truth => k_is)
    (case h2f_law_truth => k_is)
    (case h3f_law_truth => k_is)
    (case h4f_law_truth => k_is)
    (case h1f_law => k_is)
    (case h2f_law => k_is)
    (case h3f_law => k_is)
    (case h4f_law => k_is)
    (case hb_len => k_is)
    (case hb_list => k_is)
    (case hb_range => k_is)
    (case hb_isinstance => k_is)
    (case hb_bool => k_is)
    (case hb_int => k_is)
    (case hb_tuple => k_is)
    (case hb_all => k_is)
    (case hb_any => k_is)
    (case hb_sorted => k_is)
    (case hb_set => k_is)
    (case hb_sum => k_is)
    (case hb_dict => k_is)
    (case hb_zip => k_is)
    (case hb_min => k_is)
    (case hb_max => k_is)
