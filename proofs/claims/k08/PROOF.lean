import PyProof.Rows.All
import Wide.All
import OpenK.AllK
import Wide.FinOn
import Lean
import PyProof.EqAt
import PyProof.EqKinds
import PyProof.TupleCall
import PyProof.NeKinds
import PyProof.Draws
import PyProof.ZipIter
import KE.KSortTup
import PyProof.DictWalks
import KE.KDictList
import KE.KDictSum
import PyProof.AttrMissSeq
import PyProof.MinMaxWalk
import PyProof.Rows.SortRuns
import PyProof.Rows.SortKey
import PyProof.ExcBaseAll.ValueError
import OpenK.KOwn
import PyProof.InstStoreFacts
import PyProof.ExcInit
import PyProof.RulesDel
import PyProof.RulesAs
import KE.KItemsList
import PyProof.SetRoads
import PyProof.WalksMore
import PyProof.Rows.SetFrom
import PyProof.IsRules
import PyProof.Cells
import PyProof.ListRange
import PySem.Challenge.RW_roomtally_k08_tallies_added_and_taken
set_option Elab.async false
set_option linter.all false
set_option compiler.extract_closed false
set_option maxRecDepth 100000
local macro_rules
 | `(tactic| trivial)=>`(tactic| first | exact .inl rfl | exact .inr rfl | exact .inr (.inl rfl) | exact .inr (.inr rfl) | assumption)
namespace L2
open PySem PySem.Spec PyProof.Rows
theorem of_len1 {fd:FuncData} {ps:List Str} {us:List Value} (h:us.length=1) (k:∀ a,bindArgs fd ⟨[a],[]⟩=pure (ps.zip [a])):bindArgs fd ⟨us,[]⟩=pure (ps.zip us):=by
 cases us with
 | nil=>cases h
 | cons a l=>cases l with
  | nil=>exact k a
  | cons _ _=>cases h
theorem of_len2 {fd:FuncData} {ps:List Str} {us:List Value} (h:us.length=2) (k:∀ a b,bindArgs fd ⟨[a,b],[]⟩=pure (ps.zip [a,b])):bindArgs fd ⟨us,[]⟩=pure (ps.zip us):=by
 rcases us with _ | ⟨a,_ | ⟨b,_ | ⟨_,_⟩⟩⟩ <;> first | exact k _ _ | cases h
theorem of_len3 {fd:FuncData} {ps:List Str} {us:List Value} (h:us.length=3) (k:∀ a b c,bindArgs fd ⟨[a,b,c],[]⟩=pure (ps.zip [a,b,c])):bindArgs fd ⟨us,[]⟩=pure (ps.zip us):=by
 rcases us with _ | ⟨a,_ | ⟨b,_ | ⟨c,_ | ⟨_,_⟩⟩⟩⟩ <;> first | exact k _ _ _ | cases h
theorem of_len4 {fd:FuncData} {ps:List Str} {us:List Value} (h:us.length=4) (k:∀ a b c d,bindArgs fd ⟨[a,b,c,d],[]⟩=pure (ps.zip [a,b,c,d])):bindArgs fd ⟨us,[]⟩=pure (ps.zip us):=by
 rcases us with _ | ⟨a,_ | ⟨b,_ | ⟨c,_ | ⟨d,_ | ⟨_,_⟩⟩⟩⟩⟩ <;> first | exact k _ _ _ _ | cases h
noncomputable abbrev Key:=Sum Int Str
noncomputable def keyIs:Key→Value→Bool
 | .inl k,v=>Value.isInt k v
 | .inr x,v=>Value.isStrOf x v
noncomputable def keyH (w:World):Key→Int
 | .inl k=>hashInt k
 | .inr x=>hashStr w x
theorem keyIs_shape:∀ {k:Key} {v:Value},keyIs k v=true→(∃ i t,k=Sum.inl i∧v=Value.int i t)∨(∃ x t,k=Sum.inr x∧v=Value.str x t)
 | .inl i,v,h=>by
  obtain ⟨t,e⟩:=Value.isInt_shape (k:=i) (v:=v) h
  exact .inl ⟨i,t,rfl,e⟩
 | .inr x,v,h=>by
  obtain ⟨t,e⟩:=Value.isStrOf_shape (x:=x) (v:=v) h
  exact .inr ⟨x,t,rfl,e⟩
theorem keyIs_int (i:Int) (t:Tok):keyIs (.inl i) (.int i t)=true:=by simp [keyIs,Value.isInt]
theorem keyIs_str (x:Str) (t:Tok):keyIs (.inr x) (.str x t)=true:=by simp [keyIs,Value.isStrOf]
theorem key_ll (a b:Int):decide ((Sum.inl a:Key)=Sum.inl b)=(a == b):=by
 by_cases e:a=b
 ·subst e;simp
 ·have h:¬ (Sum.inl a:Key)=Sum.inl b:=fun q=>e (Sum.inl.inj q)
  rw [decide_eq_false h]
  exact (beq_eq_false_iff_ne.mpr e).symm
theorem key_rr (a b:Str):decide ((Sum.inr a:Key)=Sum.inr b)=decide (a=b):=by
 by_cases e:a=b
 ·subst e;simp
 ·have h:¬ (Sum.inr a:Key)=Sum.inr b:=fun q=>e (Sum.inr.inj q)
  rw [decide_eq_false h,decide_eq_false e]
theorem key_lr (a:Int) (b:Str):decide ((Sum.inl a:Key)=Sum.inr b)=false:=decide_eq_false (fun q=>nomatch q)
theorem key_rl (a:Str) (b:Int):decide ((Sum.inr a:Key)=Sum.inl b)=false:=decide_eq_false (fun q=>nomatch q)
noncomputable def mixKind (prog:Program) (w:World):PySem.KeyKind prog w Key where
 is:=keyIs
 hash:=keyH w
 inj:=fun v a b ha hb=>by
  rcases keyIs_shape ha with ⟨i,t,rfl,rfl⟩ | ⟨x,t,rfl,rfl⟩
  ·rcases keyIs_shape hb with ⟨j,u,rfl,e⟩ | ⟨y,u,rfl,e⟩
   ·injection e with e1 _;rw [e1]
   ·exact nomatch e
  ·rcases keyIs_shape hb with ⟨j,u,rfl,e⟩ | ⟨y,u,rfl,e⟩
   ·exact nomatch e
   ·injection e with e1 _;rw [e1]
 byValue:=fun k v h=>by
  rcases keyIs_shape h with ⟨i,t,rfl,rfl⟩ | ⟨x,t,rfl,rfl⟩ <;> rfl
 pyHash:=fun hv h=>by
  rcases keyIs_shape hv with ⟨i,t,rfl,rfl⟩ | ⟨x,t,rfl,rfl⟩
  ·exact wpAny_pyHash_int h
  ·exact wpAny_pyHash_str h
 eqBool:=fun hu hv h=>by
  rcases keyIs_shape hu with ⟨i,t,rfl,rfl⟩ | ⟨x,t,rfl,rfl⟩
  ·rcases keyIs_shape hv with ⟨j,u,rfl,rfl⟩ | ⟨y,u,rfl,rfl⟩
   ·rw [key_ll] at h;exact wpAny_eqBool_int h
   ·rw [key_lr] at h;exact SeqAt.EqAt.int_str i t y u _ _ _ _ h
  ·rcases keyIs_shape hv with ⟨j,u,rfl,rfl⟩ | ⟨y,u,rfl,rfl⟩
   ·rw [key_rl] at h;exact SeqAt.EqAt.str_int x t j u _ _ _ _ h
   ·rw [key_rr] at h;exact wpAny_eqBool_str h
 «strs»:=fun k x t v h=>by
  rcases keyIs_shape h with ⟨i,u,rfl,e⟩ | ⟨y,u,rfl,e⟩
  ·exact nomatch e
  ·injection e with e1 _
   subst e1
   cases v <;> rfl
theorem mixKind_int (prog:Program) (w:World) (i:Int) (t:Tok):(mixKind prog w).is (.inl i) (.int i t)=true:=keyIs_int i t
theorem mixKind_str (prog:Program) (w:World) (x:Str) (t:Tok):(mixKind prog w).is (.inr x) (.str x t)=true:=keyIs_str x t
end L2
namespace L2
open PySem PySem.Spec PyProof.Rows
inductive V where
 | non | bl (b:Bool) | int (i:Int) | str (x:Str) | byt (b:Array UInt8) | flt (b:UInt64) | ref (a:Addr) | ty (n:String)
 deriving DecidableEq
noncomputable def RelV:V→Value→Prop
 | .non,u=>u=Value.none
 | .bl b,u=>u=Value.bool b
 | .int i,u=>∃ t,u=Value.int i t
 | .str x,u=>∃ t,u=Value.str x t
 | .byt b,u=>∃ t,u=Value.bytes b t
 | .flt b,u=>∃ t,u=Value.float b t
 | .ref a,u=>u=Value.ref a
 | .ty n,u=>u=Value.type n
noncomputable abbrev Vals:List V→List Value→Prop:=Paired RelV
theorem Vals.length {xs:List V} {us:List Value} (r:Vals xs us):xs.length=us.length:=Paired.length r
theorem Vals.get:∀ {xs:List V} {us:List Value} {i:Nat} {x:V},Vals xs us→xs[i]?=some x→∃ u,us[i]?=some u∧RelV x u
 | _,_,_,_,.nil,e=>by simp at e
 | _,_,0,_,.cons r _,e=>by simp at e;subst e;exact ⟨_,rfl,r⟩
 | _,_,i + 1,x,.cons _ t,e=>by
  obtain ⟨u,h1,h2⟩:=Vals.get (i:=i) (x:=x) t (by simpa using e)
  exact ⟨u,by simpa using h1,h2⟩
theorem Vals.set {x:V} {u:Value} (r:RelV x u):∀ {xs:List V} {us:List Value} (i:Nat),Vals xs us→Vals (xs.set i x) (us.set i u)
 | _,_,_,.nil=>.nil
 | _,_,0,.cons _ t=>.cons r t
 | _,_,i + 1,.cons q t=>.cons q (Vals.set r i t)
theorem Vals.append:∀ {xs ys:List V} {us ws:List Value},Vals xs us→Vals ys ws→Vals (xs ++ ys) (us ++ ws)
 | _,_,_,_,.nil,s=>s
 | _,_,_,_,.cons r t,s=>.cons r (Vals.append t s)
theorem Vals.take:∀ {xs:List V} {us:List Value} (n:Nat),Vals xs us→Vals (xs.take n) (us.take n)
 | _,_,0,_=>.nil
 | _,_,_ + 1,.nil=>.nil
 | _,_,n + 1,.cons r t=>.cons r (Vals.take n t)
theorem Vals.drop:∀ {xs:List V} {us:List Value} (n:Nat),Vals xs us→Vals (xs.drop n) (us.drop n)
 | _,_,0,r=>r
 | _,_,_ + 1,.nil=>.nil
 | _,_,n + 1,.cons _ t=>Vals.drop n t
noncomputable def RelO:Option V→Option Value→Prop
 | some v,some u=>RelV v u
 | none,none=>True
 | _,_=>False
noncomputable def KV {κ:Type}:List (κ×V)→List (κ×Value)→Prop:=Paired fun (p:κ×V) (q:κ×Value)=>p.1=q.1∧RelV p.2 q.2
noncomputable def kV:Key→V
 | .inl i=>.int i
 | .inr x=>.str x
inductive HO where
 /-- a list -/
 | lst (xs:List V)
 /-- a tuple (never changes) -/
 | tup (xs:List V)
 /-- a dict whose keys are ints and texts;one whose keys are tuples of ints and texts (the empty one is both) -/
 | dK (kvs:List (Key×V)) | dT (kvs:List (List Key×V))
 /-- a set of ints: its members,its size -/
 | set (S:Int→Bool) (n:Nat)
 /-- an instance of the class at C,its dict at dx,its attributes -/
 | ins (C dx:Addr) (fs:List (Str×V))
 /-- the dict of the instance at x -/
 | own (x:Addr)
 /-- the dict of an exception -/
 | xd (fs:List (Str×V))
 /-- a bound method,f of x -/
 | met (f x:Addr)
 /-- a range object lo,lo + 1,.. below hi -/
 | rng (lo hi:Int)
 /-- a thing that is known to the object (the script;a dict while a loop walks it): read,never written while it is so -/
 | frz (o:Obj) (u:HO)
 /-- a code object's table -/
 | tbl (ps:Array Value)
 /-- any other thing,by what is true of its one object (a def of one's own: SetO a S n:=HO.ext fun h=>..) -/
 | ext (φ:Heap→Prop)
noncomputable abbrev Hp:=Addr→Option HO
noncomputable def upd (H:Hp) (a:Addr) (o:HO):Hp:=fun b=>if b=a then some o else H b
theorem upd_same {H:Hp} {a:Addr} {o:HO}:upd H a o a=some o:=by unfold upd;rw [if_pos rfl]
theorem upd_ne {H:Hp} {a b:Addr} {o:HO} (h:b≠a):upd H a o b=H b:=by unfold upd;rw [if_neg h]
theorem upd_upd {H:Hp} {a:Addr} {o u:HO}:upd (upd H a o) a u=upd H a u:=by
 funext b;unfold upd;split <;> rfl
theorem ne_of {H:Hp} {a b:Addr} {o u:HO} (h:H a=some o) (h':H b=some u) (d:o≠u):a≠b:=by
 intro e;subst e;rw [h] at h';exact d (Option.some.inj h')
theorem ne_of_none {H:Hp} {a b:Addr} {o:HO} (h:H a=some o) (h':H b=none):a≠b:=by
 intro e;subst e;rw [h] at h';cases h'
noncomputable def TupO (h:Heap) (a:Addr) (items:Array Value):Prop:=∃ o,h.get? a=some o∧o.cls=.type "tuple"∧(∃ n,o.data=.seq items n)∧o.dict=none
theorem TupO.tup {h:Heap} {a:Addr} {items:Array Value} (x:TupO h a items):IsTup h a items:=let ⟨o,e,c,d,_⟩:=x;⟨o,e,c,d⟩
theorem TupO.new (h:Heap) (items:Array Value):TupO (h.push { cls:=.type "tuple",data:=.seq items }) h.objs.size items:=⟨_,Heap.get?_push_size _ rfl,rfl,⟨_,rfl⟩,rfl⟩
section
variable (P:Program) (w:World)
noncomputable def ObjOk (H:Hp) (h:Heap) (a:Addr):HO→Prop
 | .lst xs=>xs.length≤sizeLine∧∃ (its:List Value) (n:Nat),Vals xs its∧h.get? a=some { cls:=.type "list",data:=.seq its.toArray n }
 | .tup xs=>xs.length≤sizeLine∧∃ its:List Value,Vals xs its∧TupO h a its.toArray
 | .dK kvs=>kvs.length≤sizeLine∧(a == sysModules)=false∧∃ vs,KV kvs vs∧h.DictOf (mixKind P w) a vs
 | .dT kvs=>kvs.length≤sizeLine∧(a == sysModules)=false∧∃ xs:List (List Key×Addr×Value),
   Paired (fun (p:List Key×V) (q:List Key×Addr×Value)=>p.1=q.1∧H q.2.1=some (.tup (p.1.map kV))∧RelV p.2 q.2.2) kvs xs ∧
   ∃ o es ep,h.get? a=some o∧o.ExactDict∧o.data=.dict es ep∧es.toList=xs.map (entryOfKey (tupleKind (mixKind P w)))∧(xs.map (·.1)).Nodup
 | .set S n=>h.SetOf (intKind P w) a S n
 | .ins C dx fs=>H dx=some (.own a)∧fs.length≤1000∧dx≠a∧h.get? a=some (PySem.W.instObj C dx) ∧
   ∃ mA,h.Ns1 dx mA∧(∀ f,RelO (fs.lookup f) (mA f))∧PySem.Within mA (fs.map (·.1))
 | .own _=>∃ o,h.get? a=some o
 | .xd fs=>∃ mA,h.Ns1 a mA∧∀ f,RelO (fs.lookup f) (mA f)
 | .rng lo hi=>∃ t u v,h.get? a=some { cls:=.type "range",data:=.fields #[.int lo t,.int hi u,.int 1 v] }
 | .frz o u=>h.get? a=some o∧ObjOk H h a u
 | .tbl ps=>h.get? a=some { cls:=.none,data:=.fields ps }
 | .met f x=>h.get? a=some (PySem.W.methodObj (.ref f) (.ref x))
 | .ext φ=>φ h∧(∃ o,h.get? a=some o)∧∀ h1 h2:Heap,φ h1→(∀ o,h1.get? a=some o→h2.get? a=some o)→φ h2
noncomputable def HOk (H:Hp) (h:Heap):Prop:=∀ a o,H a=some o→ObjOk P w H h a o
end
section
variable {P:Program} {w:World} {H H':Hp} {h h':Heap} {a:Addr} {o:HO}
theorem ObjOk.lt (x:ObjOk P w H h a o):a<h.objs.size:=by
 cases o with
 | lst xs=>obtain ⟨_,_,_,_,e⟩:=x;exact Heap.lt_size e
 | tup xs=>obtain ⟨_,_,_,p⟩:=x;exact p.tup.lt
 | dK kvs=>obtain ⟨_,_,_,_,o,_,_,e,_⟩:=x;exact Heap.lt_size e
 | dT kvs=>obtain ⟨_,_,_,_,o,_,_,e,_⟩:=x;exact Heap.lt_size e
 | set S n=>obtain ⟨o,_,_,_,e,_⟩:=x;exact Heap.lt_size e
 | ins C dx fs=>obtain ⟨_,_,_,e,_⟩:=x;exact Heap.lt_size e
 | own y=>obtain ⟨_,e⟩:=x;exact Heap.lt_size e
 | xd fs=>obtain ⟨_,⟨_,_,_,e,_⟩,_⟩:=x;exact Heap.lt_size e
 | rng lo hi=>obtain ⟨_,_,_,e⟩:=x;exact Heap.lt_size e
 | frz ob u=>obtain ⟨e,_⟩:=x;exact Heap.lt_size e
 | tbl ps=>exact Heap.lt_size (show h.get? a=some _ from x)
 | met f y=>exact Heap.lt_size (show h.get? a=some _ from x)
 | ext φ=>obtain ⟨_,⟨_,e⟩,_⟩:=x;exact Heap.lt_size e
theorem Paired.mapP {α β:Type} {F G:α→β→Prop}:∀ {l₁:List α} {l₂:List β},Paired F l₁ l₂→(∀ a b,F a b→G a b)→Paired G l₁ l₂
 | _,_,.nil,_=>.nil
 | _,_,.cons r t,f=>.cons (f _ _ r) (Paired.mapP t f)
theorem ObjOk.stay (x:ObjOk P w H h a o) (k:∀ b u,(b=a∨H b=some (.own a))→h.get? b=some u→h'.get? b=some u)
  (ho:∀ b,H b=some (.own a)→H' b=some (.own a)) (ht:∀ b xs,H b=some (.tup xs)→H' b=some (.tup xs)):ObjOk P w H' h' a o:=by
 induction o with
 | lst xs=>obtain ⟨z,its,n,r,e⟩:=x;exact ⟨z,its,n,r,k _ _ (.inl rfl) e⟩
 | tup xs=>obtain ⟨z,its,r,ob,e,c⟩:=x;exact ⟨z,its,r,ob,k _ _ (.inl rfl) e,c⟩
 | dK kvs=>obtain ⟨z,y,vs,r,ob,es,ep,e,c⟩:=x;exact ⟨z,y,vs,r,ob,es,ep,k _ _ (.inl rfl) e,c⟩
 | dT kvs =>
  obtain ⟨z,y,xs,r,ob,es,ep,e,c⟩:=x
  exact ⟨z,y,xs,Paired.mapP r fun p q z=>⟨z.1,ht _ _ z.2.1,z.2.2⟩,ob,es,ep,k _ _ (.inl rfl) e,c⟩
 | set S n=>obtain ⟨ob,es,ep,t,e,c⟩:=x;exact ⟨ob,es,ep,t,k _ _ (.inl rfl) e,c⟩
 | ins C dx fs =>
  obtain ⟨d,z,ne,e,mA,⟨od,es,ep,e2,c⟩,r⟩:=x
  exact ⟨ho _ d,z,ne,k _ _ (.inl rfl) e,mA,⟨od,es,ep,k _ _ (.inr d) e2,c⟩,r⟩
 | own y=>obtain ⟨ob,e⟩:=x;exact ⟨ob,k _ _ (.inl rfl) e⟩
 | xd fs=>obtain ⟨mA,⟨od,es,ep,e,c⟩,r⟩:=x;exact ⟨mA,⟨od,es,ep,k _ _ (.inl rfl) e,c⟩,r⟩
 | rng lo hi=>obtain ⟨t,u,v,e⟩:=x;exact ⟨t,u,v,k _ _ (.inl rfl) e⟩
 | frz ob u ih=>obtain ⟨e,q⟩:=x;exact ⟨k _ _ (.inl rfl) e,ih q⟩
 | tbl ps =>
  have e:h.get? a=some { cls:=.none,data:=.fields ps }:=x
  show h'.get? a=some { cls:=.none,data:=.fields ps }
  exact k a _ (.inl rfl) e
 | met f y =>
  have e:h.get? a=some (PySem.W.methodObj (.ref f) (.ref y)):=x
  show h'.get? a=some (PySem.W.methodObj (.ref f) (.ref y))
  exact k a _ (.inl rfl) e
 | ext φ=>obtain ⟨p,⟨o,e⟩,st⟩:=x;exact ⟨st _ _ p fun o q=>k _ _ (.inl rfl) q,⟨o,k _ _ (.inl rfl) e⟩,st⟩
theorem HOk.lt (x:HOk P w H h) (e:H a=some o):a<h.objs.size:=(x a o e).lt
theorem HOk.fresh (x:HOk P w H h) (e:h.objs.size≤a):H a=none:=by
 cases q:H a with
 | none=>rfl
 | some u=>exact absurd (Nat.lt_of_lt_of_le (x.lt q) e) (Nat.lt_irrefl _)
theorem HOk.kept (x:HOk P w H h) (k:∀ b u,h.get? b=some u→h'.get? b=some u):HOk P w H h':=fun a o e =>
 (x a o e).stay (fun b u _ q=>k b u q) (fun _ q=>q) fun _ _ q=>q
theorem HOk.laid (x:HOk P w H h) (k:∀ b u,h.get? b=some u→h'.get? b=some u) (hp:h.objs.size≤a) (new:ObjOk P w (upd H a o) h' a o):HOk P w (upd H a o) h':=fun b u e=>by
 have hn:=x.fresh hp
 by_cases hb:b=a
 ·subst hb;rw [upd_same] at e;cases e;exact new
 ·rw [upd_ne hb] at e
  exact (x b u e).stay (fun c v _ q=>k c v q) (fun c q=>by rw [upd_ne (ne_of_none q hn)];exact q) fun c xs q=>by rw [upd_ne (ne_of_none q hn)];exact q
end
noncomputable def Rd (H:Hp) (a:Addr) (u:HO):Prop:=H a=some u∨∃ o,H a=some (.frz o u)
theorem Rd.of {H:Hp} {a:Addr} {u:HO} (h:H a=some u):Rd H a u:=.inl h
theorem Rd.ok {P:Program} {w:World} {H:Hp} {h:Heap} {a:Addr} {u:HO} (r:Rd H a u) (x:HOk P w H h):ObjOk P w H h a u:=by
 rcases r with r | ⟨o,r⟩
 ·exact x a u r
 ·obtain ⟨_,q⟩:=x a _ r
  exact q
noncomputable def Mut:Option HO→Prop
 | some (.lst _)=>True
 | some (.dK _)=>True
 | some (.dT _)=>True
 | some (.set _ _)=>True
 | some (.ins _ _ _)=>True
 | some (.ext _)=>True
 | _=>False
section
variable {P:Program} {w:World} {H:Hp} {h h':Heap} {x e:Addr} {o':HO}
theorem HOk.write (ok:HOk P w H h) (mu:Mut (H x)) (he:e=x∨H e=some (.own x)) (k:∀ b u,b≠e→h.get? b=some u→h'.get? b=some u) (heo:∃ u,h'.get? e=some u)
  (new:ObjOk P w (upd H x o') h' x o'):HOk P w (upd H x o') h':=fun b u q=>by
 have nown:∀ c y,H c=some (.own y)→c≠x:=fun c y r z=>by subst z;rw [r] at mu;exact mu
 have ntup:∀ c xs,H c=some (.tup xs)→c≠x:=fun c xs r z=>by subst z;rw [r] at mu;exact mu
 by_cases hb:b=x
 ·subst hb;rw [upd_same] at q;cases q;exact new
 ·rw [upd_ne hb] at q
  by_cases hbe:b=e
  ·have q':H b=some (.own x):=by
    rcases he with z | z
    ·exact absurd (hbe.trans z) hb
    ·rw [hbe];exact z
   rw [q] at q';cases q'
   obtain ⟨v,hv⟩:=heo
   exact ⟨v,by rw [hbe];exact hv⟩
  ·refine (ok b u q).stay (fun c v hc r=>k c v ?_ r) (fun c r=>by rw [upd_ne (nown c b r)];exact r) fun c xs r=>by rw [upd_ne (ntup c xs r)];exact r
   rcases hc with rfl | hc
   ·exact hbe
   ·rintro rfl
    rcases he with z | z
    ·exact nown c b hc z
    ·rw [hc] at z;cases z;exact hb rfl
end
structure Un (fs ex:List Addr) (H H':Hp) (h h':Heap):Prop where
 keep:∀ b o,h.get? b=some o→H b=none→b ∉ fs→b ∉ ex→h'.get? b=some o
 slot:∀ b o,h.get? b=some o→H b=none→b∈fs→b ∉ ex→∃ sl,h'.get? b=some { o with slots:=sl }
 free:∀ b o,h.get? b=some o→H b=none→b ∉ ex→H' b=none
 there:∀ b o,h.get? b=some o→b ∉ ex→∃ o',h'.get? b=some o'
 tups:∀ b xs,H b=some (.tup xs)→H' b=some (.tup xs)
 frzs:∀ b o u,H b=some (.frz o u)→H' b=some (.frz o u)
 tbls:∀ b ps,H b=some (.tbl ps)→∃ more,H' b=some (.tbl (ps ++ more))
section
variable {fs fs' ex ex':List Addr} {H H1 H2:Hp} {h h1 h2 h':Heap} {a x e:Addr} {o:HO}
theorem Un.any (u:Un fs ex H H1 h h1) {b:Addr} {ob:Obj} (q:h.get? b=some ob) (n:H b=none) (hx:b ∉ ex):∃ sl,h1.get? b=some { ob with slots:=sl }:=by
 by_cases hb:b∈fs
 ·exact u.slot b ob q n hb hx
 ·exact ⟨ob.slots,u.keep b ob q n hb hx⟩
theorem Un.trans (a:Un fs ex H H1 h h1) (b:Un fs ex H1 H2 h1 h2):Un fs ex H H2 h h2 where
 keep:=fun c ob q n hc hx=>b.keep c ob (a.keep c ob q n hc hx) (a.free c ob q n hx) hc hx
 slot:=fun c ob q n hc hx=>by
  obtain ⟨sl,e1⟩:=a.slot c ob q n hc hx
  obtain ⟨sl',e2⟩:=b.slot c _ e1 (a.free c ob q n hx) hc hx
  exact ⟨sl',e2⟩
 free:=fun c ob q n hx=>by
  obtain ⟨o',e1⟩:=a.there c ob q hx
  exact b.free c o' e1 (a.free c ob q n hx) hx
 there:=fun c ob q hx=>by
  obtain ⟨o',e1⟩:=a.there c ob q hx
  exact b.there c o' e1 hx
 tups:=fun c xs q=>b.tups c xs (a.tups c xs q)
 frzs:=fun c ob xs q=>b.frzs c ob xs (a.frzs c ob xs q)
 tbls:=fun c ps q=>by
  obtain ⟨m1,e1⟩:=a.tbls c ps q
  obtain ⟨m2,e2⟩:=b.tbls c _ e1
  exact ⟨m1 ++ m2,by rw [e2,Array.append_assoc]⟩
theorem Un.kept (k:∀ b u,h.get? b=some u→h'.get? b=some u):Un fs ex H H h h' :=
 ⟨fun b ob q _ _ _=>k b ob q,fun b ob q _ _ _=>⟨ob.slots,k b ob q⟩,fun _ _ _ n _=>n,fun b ob q _=>⟨ob,k b ob q⟩,fun _ _ q=>q,fun _ _ _ q=>q,fun _ ps q=>⟨#[],by rw [q];simp⟩⟩
theorem Un.refl:Un fs ex H H h h:=Un.kept fun _ _ q=>q
theorem Un.laid (k:∀ b u,h.get? b=some u→h'.get? b=some u) (hp:h.objs.size≤a) (hn:H a=none):Un fs ex H (upd H a o) h h' where
 keep:=fun b u q _ _ _=>k b u q
 slot:=fun b u q _ _ _=>⟨u.slots,k b u q⟩
 free:=fun b u q n _=>by rw [upd_ne (Nat.ne_of_lt (Nat.lt_of_lt_of_le (Heap.lt_size q) hp))];exact n
 there:=fun b u q _=>⟨u,k b u q⟩
 tups:=fun b xs q=>by rw [upd_ne (ne_of_none q hn)];exact q
 frzs:=fun b u xs q=>by rw [upd_ne (ne_of_none q hn)];exact q
 tbls:=fun b ps q=>⟨#[],by rw [upd_ne (ne_of_none q hn),q];simp⟩
theorem Un.write (mu:Mut (H x)) (he:e=x∨H e=some (.own x)) (k:∀ b u,b≠e→h.get? b=some u→h'.get? b=some u) (heo:∃ u,h'.get? e=some u):Un fs ex H (upd H x o) h h':=by
 have hx:∀ b,H b=none→b≠x:=fun b n z=>by subst z;rw [n] at mu;exact mu
 have hb:∀ b,H b=none→b≠e:=fun b n z=>by
  subst z
  rcases he with r | r
  ·exact hx b n r
  ·rw [n] at r;cases r
 have hm:∀ b u,H b=some u→¬ Mut (some u)→b≠x:=fun b u q nm z=>by subst z;rw [q] at mu;exact nm mu
 refine ⟨fun b u q n _ _=>k b u (hb b n) q,fun b u q n _ _=>⟨u.slots,k b u (hb b n) q⟩,fun b u q n _=>by rw [upd_ne (hx b n)];exact n,fun b u q _=>?_,
  fun b xs q=>by rw [upd_ne (hm b _ q fun z=>z)];exact q,fun b u xs q=>by rw [upd_ne (hm b _ q fun z=>z)];exact q,fun b ps q=>⟨#[],by rw [upd_ne (hm b _ q fun z=>z),q];simp⟩⟩
 by_cases hbe:b=e
 ·subst hbe;exact heo
 ·exact ⟨u,k b u hbe q⟩
end
noncomputable def trk (h:Heap) (H:Hp):List Addr:=(List.range h.objs.size).filter fun a=>(H a).isSome
noncomputable def hidT (h:Heap) (H:Hp):Heap:=PySem.W.hideAll h (trk h H)
theorem hidT_size (h:Heap) (H:Hp):(hidT h H).objs.size=h.objs.size:=PySem.W.hideAll_size _ _
theorem hidT_get {h:Heap} {H:Hp} {b:Addr} {o:Obj} (e:h.get? b=some o) (n:H b=none):(hidT h H).get? b=some o :=
 PySem.W.hideAll_get _ e fun hm=>by
  have q:(H b).isSome=true:=(List.mem_filter.mp hm).2
  rw [n] at q;simp at q
theorem of_hidT {h:Heap} {H:Hp} {b:Addr} {o:Obj} (e:(hidT h H).get? b=some o):h.get? b=some o∧H b=none:=by
 have e':h.get? b=some o:=PySem.W.of_hideAll (trk h H) e
 refine ⟨e',?_⟩
 cases q:H b with
 | none=>rfl
 | some x =>
  have hm:b∈trk h H:=List.mem_filter.mpr ⟨List.mem_range.mpr (Heap.lt_size e'),by simp [q]⟩
  have z:(hidT h H).get? b=none:=PySem.W.hideAll_none (trk h H) hm
  rw [z] at e;cases e
noncomputable def allNews (g h:Heap) (L:Addr):List (Addr×Obj):=(List.range h.objs.size).filterMap fun a=>if a=L∨(g.get? a).isSome=true then none else (h.get? a).map fun o=>(a,o)
theorem mem_allNews {g h:Heap} {L a:Addr} {o:Obj} (h1:a≠L) (h2:g.get? a=none) (h3:h.get? a=some o):(a,o)∈allNews g h L :=
 List.mem_filterMap.mpr ⟨a,List.mem_range.mpr (Heap.lt_size h3),by simp [h1,h2,h3]⟩
theorem of_mem_allNews {g h:Heap} {L:Addr} {p:Addr×Obj} (hp:p∈allNews g h L):p.1≠L∧g.get? p.1=none∧h.get? p.1=some p.2:=by
 obtain ⟨b,_,e⟩:=List.mem_filterMap.mp hp
 split at e
 ·cases e
 ·rename_i hn
  cases q:h.get? b with
  | none=>rw [q] at e;simp at e
  | some u =>
   rw [q] at e
   simp only [Option.map_some,Option.some.injEq] at e
   subst e
   refine ⟨fun z=>hn (.inl z),?_,q⟩
   show g.get? b=none
   cases r:g.get? b with
   | none=>rfl
   | some v=>exact (hn (.inr (by simp [r]))).elim
noncomputable def rest (g h:Heap) (L d:Addr):List (Addr×Obj):=(allNews g h L).filter fun p=>decide (p.1≠d)
theorem news_all {g h:Heap} {L:Addr}:News g L h (allNews g h L):=fun p hp=>let ⟨a,b,c⟩:=of_mem_allNews hp;⟨c,a,b⟩
end L2
namespace L2
open PySem PySem.Spec PyProof.Rows
structure Mod (K:PySem.W.Frag) (mg:Str→Option Value) (base:Heap):Prop where
 kin:K.In base
 glob:base.Ns mainGlobals mg
 blt:∃ mb,base.Ns builtinsNs mb∧∀ x:Str,x≠"__name__"→mb x=bootBuiltins x
 nolimit:base.NoLimit
structure Cx where
 prog:Program
 w:World
 K:PySem.W.Frag
 mg:Str→Option Value
 base:Heap
 A:Around
 N:List Str
 s₀:Shared
 H₀:Hp
 env:Env
 outer:List Env
 stack:List Env
 ex:List Addr
 fn:Str→Bool
 calm:Bool
 pn:List (Addr×Obj)
 xe:Value→Shared→Prop
noncomputable def frs (l:List Env):List Addr:=l.filterMap (·.frame)
noncomputable abbrev Cx.fs (X:Cx):List Addr:=frs X.outer
noncomputable def Vis (sc:Scope) (x:Str):Prop:=sc.names.lookup x=some .local∨sc.names.lookup x=some .cell∨sc.names.lookup x=some .free
noncomputable def Loc (sc:Scope) (x:Str):Prop:=sc.names.lookup x=some .local∨sc.names.lookup x=some .cell
noncomputable def Look (env:Env) (h:Heap) (m:Str→Option Value) (x:Str) (u:Value):Prop :=
 (env.kindOf x=some .local∧m x=some u)∨((env.kindOf x=some .cell∨env.kindOf x=some .free)∧∃ c,env.cells.lookup x=some c∧h.IsCell c (some u))
structure Cx.Ok (X:Cx):Prop where
 mod:Mod X.K X.mg X.base
 kind:X.env.scope.kind=.function
 glob:X.env.globals=mainGlobals
 blt:X.env.builtins=builtinsNs
 above:X.s₀.heap.objs.size≤X.env.locals
 inj:∀ x y c,X.env.cells.lookup x=some c→X.env.cells.lookup y=some c→x=y
 has:∀ x,(X.env.kindOf x=some .cell∨X.env.kindOf x=some .free)→∃ c,X.env.cells.lookup x=some c
 cab:∀ x c,X.fn x=true→X.env.cells.lookup x=some c→X.s₀.heap.objs.size≤c
 hd:X.calm=true→X.A.handled=none
 frames:X.A.frames=some X.stack
 stk:X.stack=X.outer∨(X.stack=X.env :: X.outer∧X.env.frame=some X.env.locals)
 exf:∀ b∈X.ex,b≠X.env.locals∧∀ x c,X.env.cells.lookup x=some c→c≠b
 bs:∀ b o,X.base.get? b=some o→X.s₀.heap.get? b=some o∧X.H₀ b=none
 bsz:X.base.objs.size≤X.s₀.heap.objs.size
 noex:∀ b o,X.base.get? b=some o→b ∉ X.ex
 exfs:∀ b∈X.ex,b ∉ X.fs
 funs:X.s₀.heap.FunFrames X.base X.outer
 frf:∀ b∈X.fs,X.H₀ b=none
structure Inv (X:Cx) (pins:List (Addr×Obj)) (σ:List (Option V)) (H:Hp) (s:Shared):Prop where
 ok:X.Ok
 os:s.os=X.s₀.os
 bare:AllBare s.gens
 base:Un X.fs X.ex X.H₀ H X.s₀.heap s.heap
 loc:∃ m,s.heap.Ns X.env.locals m∧∀ (i:Nat) (x:Str) (v:V),X.N[i]?=some x→σ[i]?=some (some v)→Vis X.env.scope x→∃ u,RelV v u∧Look X.env s.heap m x u
 cell:∀ x c,X.env.cells.lookup x=some c→∃ v,s.heap.IsCell c v
 free:H X.env.locals=none
 freeC:∀ x c,X.env.cells.lookup x=some c→H c=none
 pin:∀ p∈X.pn ++ pins,s.heap.get? p.1=some p.2∧H p.1=none∧p.1≠X.env.locals∧p.1 ∉ X.fs∧∀ v,p.2.data≠.cell v
 hok:HOk X.prog X.w H s.heap
 len:σ.length=X.N.length
section
variable {X:Cx} {pins:List (Addr×Obj)} {σ:List (Option V)} {H H':Hp} {s:Shared} {h':Heap}
theorem Cx.Ok.nofr (ok:X.Ok) {b:Addr} {o:Obj} (e:X.base.get? b=some o):b ∉ X.fs:=fun hb=>by
 have:=(ok.funs.mem hb).1
 rw [e] at this;cases this
theorem Inv.bs (I:Inv X pins σ H s):∀ b o,X.base.get? b=some o→s.heap.get? b=some o∧H b=none:=fun b o e =>
 ⟨I.base.keep b o (I.ok.bs b o e).1 (I.ok.bs b o e).2 (I.ok.nofr e) (I.ok.noex b o e),I.base.free b o (I.ok.bs b o e).1 (I.ok.bs b o e).2 (I.ok.noex b o e)⟩
theorem Inv.bk (I:Inv X pins σ H s):∀ b o,X.base.get? b=some o→s.heap.get? b=some o:=fun b o e=>(I.bs b o e).1
theorem Inv.mod (I:Inv X pins σ H s):Mod X.K X.mg X.base:=I.ok.mod
theorem Inv.kIn (I:Inv X pins σ H s):X.K.In s.heap:=I.ok.mod.kin.keeps I.bk
theorem Inv.nolimit (I:Inv X pins σ H s):s.heap.NoLimit:=I.ok.mod.nolimit.keeps I.bk
theorem Inv.lt (I:Inv X pins σ H s):X.env.locals<s.heap.objs.size:=let ⟨_,hn,_⟩:=I.loc;hn.lt
theorem Inv.sz (I:Inv X pins σ H s):X.s₀.heap.objs.size≤s.heap.objs.size:=Nat.le_trans I.ok.above (Nat.le_of_lt I.lt)
theorem Inv.nofs (I:Inv X pins σ H s) {a:Addr} (h:s.heap.objs.size≤a):a ∉ X.fs:=fun hb=>by
 obtain ⟨_,o,ho,_⟩:=I.ok.funs.mem hb
 exact absurd (Nat.lt_of_lt_of_le (Heap.lt_size ho) (Nat.le_trans I.sz h)) (Nat.lt_irrefl _)
theorem Inv.cne (I:Inv X pins σ H s):∀ x c,X.env.cells.lookup x=some c→c≠X.env.locals:=fun x c e z=>by
 obtain ⟨v,o,ho,hd⟩:=I.cell x c e
 obtain ⟨m,⟨o',es,ep,ho',hd',_⟩,_⟩:=I.loc
 rw [z,ho'] at ho;cases ho;rw [hd'] at hd;cases hd
theorem Inv.funs (I:Inv X pins σ H s):s.heap.FunFrames X.base X.outer:=by
 have all:∀ (l:List Env),(∀ b∈frs l,b∈X.fs)→X.s₀.heap.FunFrames X.base l→s.heap.FunFrames X.base l:=by
  intro l
  induction l with
  | nil=>intro _ _;trivial
  | cons env r ih =>
   intro hs hl
   obtain ⟨hk,⟨L,o,hf,hn,ho,hd⟩,hr⟩:=hl
   have hL:L∈X.fs:=hs L (by unfold frs;rw [List.filterMap_cons,hf];exact List.mem_cons_self)
   obtain ⟨sl,e⟩:=I.base.slot L o ho (I.ok.frf L hL) hL fun z=>I.ok.exfs L z hL
   exact ⟨hk,⟨L,_,hf,hn,e,hd⟩,ih (fun b hb=>hs b (by unfold frs;rw [List.filterMap_cons,hf];exact List.mem_cons_of_mem _ hb)) hr⟩
 exact all X.outer (fun _ hb=>hb) I.ok.funs
theorem Inv.stack (I:Inv X pins σ H s):s.heap.FunFrames X.base X.stack:=by
 rcases I.ok.stk with e | ⟨e,hf⟩
 ·rw [e];exact I.funs
 ·rw [e]
  obtain ⟨m,hn,_⟩:=I.loc
  refine .cons (by rw [I.ok.kind];decide) hf hn ?_ I.funs
  exact Heap.get?_none_of_le (Nat.le_trans I.ok.bsz I.ok.above)
theorem Inv.stkSub (I:Inv X pins σ H s):∀ b∈frs X.stack,b∈X.env.locals :: X.fs:=fun b hb=>by
 rcases I.ok.stk with e | ⟨e,hf⟩
 ·rw [e] at hb;exact List.mem_cons_of_mem _ hb
 ·rw [e] at hb
  unfold frs at hb
  rw [List.filterMap_cons,hf] at hb
  exact hb
theorem Inv.stkFree (I:Inv X pins σ H s):∀ b∈frs X.stack,H b=none:=fun b hb=>by
 rcases List.mem_cons.mp (I.stkSub b hb) with e | hb
 ·rw [e];exact I.free
 ·obtain ⟨_,o,ho,_⟩:=I.ok.funs.mem hb
  exact I.base.free b o ho (I.ok.frf b hb) fun z=>I.ok.exfs b z hb
theorem Inv.step {g':Array GenState} {t':Nat} {d':Drawn} {ch:List Addr} (I:Inv X pins σ H s)
  (hch:∀ b∈ch,(b∈X.ex∨X.s₀.heap.objs.size≤b)∧b≠X.env.locals∧(∀ x c,X.env.cells.lookup x=some c→c≠b)∧∀ p∈X.pn ++ pins,p.1≠b)
  (keep:∀ b o,b≠X.env.locals→b ∉ X.fs→b ∉ ch→s.heap.get? b=some o→H b=none→h'.get? b=some o)
  (slot:∀ b o,b≠X.env.locals→b∈X.fs→b ∉ ch→s.heap.get? b=some o→H b=none→∃ sl,h'.get? b=some { o with slots:=sl }) (free:∀ b o,b ∉ ch→s.heap.get? b=some o→H b=none→H' b=none)
  (there:∀ b o,b ∉ ch→s.heap.get? b=some o→∃ o',h'.get? b=some o')
  (tups:∀ b xs,H b=some (.tup xs)→H' b=some (.tup xs)) (frzs:∀ b o u,H b=some (.frz o u)→H' b=some (.frz o u)) (tbls:∀ b ps,H b=some (.tbl ps)→∃ more,H' b=some (.tbl (ps ++ more)))
  (ns:∀ m,s.heap.Ns X.env.locals m→h'.Ns X.env.locals m) (hok:HOk X.prog X.w H' h') (hg:AllBare g') :
  Inv X pins σ H' { s with heap:=h',gens:=g',drawn:=d',toks:=t' }:=by
 have neL:∀ b o,X.s₀.heap.get? b=some o→b≠X.env.locals:=fun b o e=>Nat.ne_of_lt (Nat.lt_of_lt_of_le (Heap.lt_size e) I.ok.above)
 have neC:∀ b o,X.s₀.heap.get? b=some o→b ∉ X.ex→b ∉ ch:=fun b o e hx hb=>by
  rcases (hch b hb).1 with z | z
  ·exact hx z
  ·exact absurd (Nat.lt_of_lt_of_le (Heap.lt_size e) z) (Nat.lt_irrefl _)
 have cellK:∀ x c,X.env.cells.lookup x=some c→∀ v,s.heap.IsCell c v→h'.IsCell c v:=fun x c e v ⟨o,ho,hd⟩=>by
  have nch:c ∉ ch:=fun z=>(hch c z).2.2.1 x c e rfl
  by_cases hc:c∈X.fs
  ·obtain ⟨sl,q⟩:=slot c o (I.cne x c e) hc nch ho (I.freeC x c e)
   exact ⟨_,q,hd⟩
  ·exact ⟨o,keep c o (I.cne x c e) hc nch ho (I.freeC x c e),hd⟩
 refine ⟨I.ok,I.os,hg,⟨fun b o e n hb hx=>?_,fun b o e n hb hx=>?_,fun b o e n hx=>?_,fun b o e hx=>?_,fun b xs e=>tups b xs (I.base.tups b xs e),fun b o xs e=>frzs b o xs (I.base.frzs b o xs e),fun b ps e=>?_⟩,?_,fun x c e=>?_,?_,fun x c e=>?_,fun p hp=>?_,hok,I.len⟩
 ·exact keep b o (neL b o e) hb (neC b o e hx) (I.base.keep b o e n hb hx) (I.base.free b o e n hx)
 ·obtain ⟨sl,e1⟩:=I.base.slot b o e n hb hx
  obtain ⟨sl',e2⟩:=slot b _ (neL b o e) hb (neC b o e hx) e1 (I.base.free b o e n hx)
  exact ⟨sl',e2⟩
 ·obtain ⟨o',e1⟩:=I.base.there b o e hx
  exact free b o' (neC b o e hx) e1 (I.base.free b o e n hx)
 ·obtain ⟨o',e1⟩:=I.base.there b o e hx
  exact there b o' (neC b o e hx) e1
 ·obtain ⟨m1,e1⟩:=I.base.tbls b ps e
  obtain ⟨m2,e2⟩:=tbls b _ e1
  exact ⟨m1 ++ m2,by rw [e2,Array.append_assoc]⟩
 ·obtain ⟨m,hn,hl⟩:=I.loc
  refine ⟨m,ns m hn,fun i x v e1 e2 e3=>?_⟩
  obtain ⟨u,r,l⟩:=hl i x v e1 e2 e3
  refine ⟨u,r,?_⟩
  rcases l with l | ⟨k,c,e,z⟩
  ·exact .inl l
  ·exact .inr ⟨k,c,e,cellK x c e _ z⟩
 ·obtain ⟨v,z⟩:=I.cell x c e
  exact ⟨v,cellK x c e v z⟩
 ·obtain ⟨m,⟨o,_,_,ho,_⟩,_⟩:=I.loc
  exact free _ o (fun z=>(hch _ z).2.1 rfl) ho I.free
 ·obtain ⟨v,o,ho,hd⟩:=I.cell x c e
  exact free c o (fun z=>(hch c z).2.2.1 x c e rfl) ho (I.freeC x c e)
 ·obtain ⟨e,n,ne,nf,d⟩:=I.pin p hp
  have nch:p.1 ∉ ch:=fun z=>(hch p.1 z).2.2.2 p hp rfl
  exact ⟨keep p.1 p.2 ne nf nch e n,free p.1 p.2 nch e n,ne,nf,d⟩
theorem Inv.un {t':Nat} (I:Inv X pins σ H s) (u:Un X.fs [] H H' s.heap h') (hok:HOk X.prog X.w H' h'):Inv X pins σ H' { s with heap:=h',toks:=t' }:=by
 obtain ⟨m,⟨o,es,ep,ho,r⟩,_⟩:=id I.loc
 obtain ⟨sl,hL⟩:=u.any ho I.free (by simp)
 exact I.step (g':=s.gens) (d':=s.drawn) (ch:=[]) (fun _ z=>nomatch z) (fun b o _ hb _ e n=>u.keep b o e n hb (by simp)) (fun b o _ hb _ e n=>u.slot b o e n hb (by simp)) (fun b o _ e n=>u.free b o e n (by simp)) (fun b o _ e=>u.there b o e (by simp)) u.tups u.frzs u.tbls (fun m' hm=>by
  obtain ⟨o',es',ep',ho',r'⟩:=hm
  rw [ho] at ho';cases ho'
  exact ⟨_,es',ep',hL,r'⟩) hok I.bare
theorem Inv.call {g':Array GenState} {t':Nat} {d':Drawn} {ch:List Addr} (I:Inv X pins σ H s) (u:Un (frs X.stack) ch H H' s.heap h') (hok:HOk X.prog X.w H' h') (hg:AllBare g')
  (hch:∀ b∈ch,(b∈X.ex∨X.s₀.heap.objs.size≤b)∧b≠X.env.locals∧(∀ x c,X.env.cells.lookup x=some c→c≠b)∧∀ p∈X.pn ++ pins,p.1≠b) :
  Inv X pins σ H' { s with heap:=h',gens:=g',drawn:=d',toks:=t' }:=by
 obtain ⟨m,⟨o,es,ep,ho,r⟩,_⟩:=id I.loc
 obtain ⟨sl,hL⟩:=u.any ho I.free fun z=>(hch _ z).2.1 rfl
 exact I.step (ch:=ch) hch (fun b o hL hb hc e n=>u.keep b o e n (fun z=>(List.mem_cons.mp (I.stkSub b z)).elim hL hb) hc) (fun b o _ _ hc e n=>u.any e n hc) (fun b o hc e n=>u.free b o e n hc) (fun b o hc e=>u.there b o e hc) u.tups u.frzs u.tbls (fun m' hm=>by
  obtain ⟨o',es',ep',ho',r'⟩:=hm
  rw [ho] at ho';cases ho'
  exact ⟨_,es',ep',hL,r'⟩) hok hg
theorem Inv.turned {t':Nat} {it:Addr} (I:Inv X pins σ H s) (k:∀ b o,b≠it→s.heap.get? b=some o→h'.get? b=some o) (hn:H it=none) (hL:it≠X.env.locals)
  (h1:it∈X.ex∨X.s₀.heap.objs.size≤it) (h2:∀ x c,X.env.cells.lookup x=some c→c≠it) (h3:∀ p∈X.pn ++ pins,p.1≠it):Inv X pins σ H { s with heap:=h',toks:=t' }:=by
 have nit:∀ b u,H b=some u→b≠it:=fun b u e z=>by rw [z,hn] at e;cases e
 refine I.step (g':=s.gens) (d':=s.drawn) (ch:=[it]) (fun b hb=>?_) (fun b o _ _ hc e _=>k b o (fun z=>hc (by simp [z])) e) (fun b o _ _ hc e _=>⟨o.slots,k b o (fun z=>hc (by simp [z])) e⟩) (fun _ _ _ _ n=>n)
  (fun b o hc e=>⟨o,k b o (fun z=>hc (by simp [z])) e⟩) (fun _ _ e=>e) (fun _ _ _ e=>e) (fun b ps e=>⟨#[],by rw [e];simp⟩) (fun m hm=>?_) (fun b u e=>?_) I.bare
 ·have e:b=it:=by simpa using hb
  subst e
  exact ⟨h1,hL,h2,h3⟩
 ·obtain ⟨o,es,ep,ho,r⟩:=hm
  exact ⟨o,es,ep,k _ o (Ne.symm hL) ho,r⟩
 ·refine (I.hok b u e).stay (fun c v hc q=>k c v ?_ q) (fun _ q=>q) fun _ _ q=>q
  rcases hc with z | z
  ·rw [z];exact nit b u e
  ·exact nit c _ z
theorem Inv.tok (I:Inv X pins σ H s) (t:Nat):Inv X pins σ H { s with toks:=t }:=I.un (h':=s.heap) (t':=t) Un.refl I.hok
theorem Inv.kept {t':Nat} (I:Inv X pins σ H s) (k:∀ b u,s.heap.get? b=some u→h'.get? b=some u):Inv X pins σ H { s with heap:=h',toks:=t' }:=I.un (Un.kept k) (I.hok.kept k)
theorem Inv.laid {a:Addr} {o:HO} {t':Nat} (I:Inv X pins σ H s) (k:∀ b u,s.heap.get? b=some u→h'.get? b=some u) (hp:s.heap.objs.size≤a) (new:ObjOk X.prog X.w (upd H a o) h' a o) :
  Inv X pins σ (upd H a o) { s with heap:=h',toks:=t' }:=I.un (Un.laid k hp (I.hok.fresh hp)) (I.hok.laid k hp new)
theorem Inv.write {x e:Addr} {o:HO} {t':Nat} (I:Inv X pins σ H s) (mu:Mut (H x)) (he:e=x∨H e=some (.own x)) (k:∀ b u,b≠e→s.heap.get? b=some u→h'.get? b=some u) (heo:∃ u,h'.get? e=some u)
  (new:ObjOk X.prog X.w (upd H x o) h' x o):Inv X pins σ (upd H x o) { s with heap:=h',toks:=t' }:=I.un (Un.write mu he k heo) (I.hok.write mu he k heo new)
theorem Inv.weak {σ':List (Option V)} (I:Inv X pins σ H s) (hl:σ'.length=σ.length) (w:∀ (i:Nat) v,σ'[i]?=some (some v)→σ[i]?=some (some v)):Inv X pins σ' H s :=
 ⟨I.ok,I.os,I.bare,I.base,let ⟨m,hn,hl'⟩:=I.loc;⟨m,hn,fun i x v e1 e2 e3=>hl' i x v e1 (w i v e2) e3⟩,I.cell,I.free,I.freeC,I.pin,I.hok,hl.trans I.len⟩
theorem Inv.pins_of {pins':List (Addr×Obj)} (I:Inv X pins σ H s) (h:∀ p∈pins',s.heap.get? p.1=some p.2∧H p.1=none∧p.1≠X.env.locals∧p.1 ∉ X.fs∧∀ v,p.2.data≠.cell v):Inv X pins' σ H s :=
 ⟨I.ok,I.os,I.bare,I.base,I.loc,I.cell,I.free,I.freeC,fun p hp=>(List.mem_append.mp hp).elim (fun z=>I.pin p (List.mem_append_left _ z)) (h p),I.hok,I.len⟩
theorem nodup_ix {N:List Str} (hN:N.Nodup) {i j:Nat} {x:Str} (a:N[i]?=some x) (b:N[j]?=some x):i=j:=by
 obtain ⟨h1,e1⟩:=List.getElem?_eq_some_iff.mp a
 obtain ⟨h2,e2⟩:=List.getElem?_eq_some_iff.mp b
 exact (List.getElem_inj hN).mp (e1.trans e2.symm)
theorem store_ok2 {M:Model} {A:Around} {E:Value→Shared→Prop} {i:Nat} {x:Str} {v:V} {u:Value} {Q:Unit→Shared→Prop} (I:Inv X pins σ H s) (hN:X.N.Nodup) (hi:X.N[i]?=some x) (hx:Loc X.env.scope x) (r:RelV v u)
  (h:∀ s',Inv X pins (σ.set i (some v)) H s'→(∃ a,Heap.SameBut a s.heap s'.heap∧(a=X.env.locals∨X.env.cells.lookup x=some a))→Q () s') (hf:X.fn x=true∨X.env.scope.names.lookup x=some .local:=by trivial):wpAny M A (storeName X.env x u) Q E s:=by
 obtain ⟨m,hn,hl⟩:=id I.loc
 have hcls:(X.env.scope.kind == .class || (X.env.scope.kind == .module && X.env.locals != X.env.globals))=false:=by rw [I.ok.kind];rfl
 have hiσ:i<σ.length:=by rw [I.len];exact (List.getElem?_eq_some_iff.mp hi).1
 have cne:=I.cne
 have tracked:∀ {a:Addr} {h':Heap},(∃ o,s.heap.get? a=some o∧H a=none)→Heap.SameBut a s.heap h'→HOk X.prog X.w H h':=fun {a h'} ha hs b ob e=>by
  obtain ⟨_,_,hfree⟩:=ha
  refine (I.hok b ob e).stay (fun c w' hc q=>(hs.2 c ?_).trans q) (fun _ q=>q) fun _ _ q=>q
  rintro rfl
  rcases hc with rfl | hc
  ·rw [hfree] at e;cases e
  ·rw [hfree] at hc;cases hc
 rcases hx with hk | hk
 ·refine wpAny_storeName_local hk hn (fun h' hn' hs=>?_) hcls
  obtain ⟨oL,_,_,hoL,_⟩:=id hn
  refine h _ ⟨I.ok,I.os,I.bare,⟨fun b o e n hb hx=>?_,fun b o e n hb hx=>?_,I.base.free,fun b o e hx=>?_,I.base.tups,I.base.frzs,I.base.tbls⟩,⟨_,hn',fun j y v' e1 e2 e3=>?_⟩,fun y c e=>?_,I.free,I.freeC,fun p hp=>?_,tracked ⟨oL,hoL,I.free⟩ hs,by simpa using I.len⟩ ⟨_,hs,.inl rfl⟩
  ·exact (hs.2 b (Nat.ne_of_lt (Nat.lt_of_lt_of_le (Heap.lt_size e) I.ok.above))).trans (I.base.keep b o e n hb hx)
  ·obtain ⟨sl,e1⟩:=I.base.slot b o e n hb hx
   exact ⟨sl,(hs.2 b (Nat.ne_of_lt (Nat.lt_of_lt_of_le (Heap.lt_size e) I.ok.above))).trans e1⟩
  ·obtain ⟨o',e1⟩:=I.base.there b o e hx
   exact ⟨o',(hs.2 b (Nat.ne_of_lt (Nat.lt_of_lt_of_le (Heap.lt_size e) I.ok.above))).trans e1⟩
  ·by_cases hj:j=i
   ·subst hj
    rw [hi] at e1;cases e1
    rw [List.getElem?_set_self hiσ] at e2
    cases e2
    exact ⟨u,r,.inl ⟨hk,by simp⟩⟩
   ·rw [List.getElem?_set_ne (Ne.symm hj)] at e2
    obtain ⟨u',r',q⟩:=hl j y v' e1 e2 e3
    refine ⟨u',r',?_⟩
    rcases q with ⟨k,e⟩ | ⟨k,c,e,z⟩
    ·refine .inl ⟨k,?_⟩
     have:y≠x:=fun e=>hj (nodup_ix hN e1 (e ▸ hi))
     simp [this,e]
    ·exact .inr ⟨k,c,e,z.sameBut hs (cne y c e)⟩
  ·obtain ⟨w',z⟩:=I.cell y c e
   exact ⟨w',z.sameBut hs (cne y c e)⟩
  ·obtain ⟨e,n,ne,nf,d⟩:=I.pin p hp
   exact ⟨(hs.2 p.1 ne).trans e,n,ne,nf,d⟩
 ·have hfn:X.fn x=true:=by
   rcases hf with z | z
   ·exact z
   ·rw [z] at hk;cases hk
  obtain ⟨c,hc⟩:=I.ok.has x (.inl hk)
  obtain ⟨w',z⟩:=I.cell x c hc
  refine wpAny_storeName_cell I.ok.kind hk hc z (fun h' hc' hs=>?_)
  obtain ⟨oc,hoc,hocd⟩:=id z
  refine h { s with heap:=h' } ⟨I.ok,I.os,I.bare,⟨fun b o e n hb hx=>?_,fun b o e n hb hx=>?_,I.base.free,fun b o e hx=>?_,I.base.tups,I.base.frzs,I.base.tbls⟩,⟨m,hn.sameBut hs (Ne.symm (cne x c hc)),fun j y v' e1 e2 e3=>?_⟩,fun y c' e=>?_,I.free,I.freeC,fun p hp=>?_,tracked ⟨oc,hoc,I.freeC x c hc⟩ hs,by simpa using I.len⟩ ⟨c,hs,.inr hc⟩
  ·exact (hs.2 b (Nat.ne_of_lt (Nat.lt_of_lt_of_le (Heap.lt_size e) (I.ok.cab x c hfn hc)))).trans (I.base.keep b o e n hb hx)
  ·obtain ⟨sl,e1⟩:=I.base.slot b o e n hb hx
   exact ⟨sl,(hs.2 b (Nat.ne_of_lt (Nat.lt_of_lt_of_le (Heap.lt_size e) (I.ok.cab x c hfn hc)))).trans e1⟩
  ·obtain ⟨o',e1⟩:=I.base.there b o e hx
   exact ⟨o',(hs.2 b (Nat.ne_of_lt (Nat.lt_of_lt_of_le (Heap.lt_size e) (I.ok.cab x c hfn hc)))).trans e1⟩
  ·by_cases hj:j=i
   ·subst hj
    rw [hi] at e1;cases e1
    rw [List.getElem?_set_self hiσ] at e2
    cases e2
    exact ⟨u,r,.inr ⟨.inl hk,c,hc,hc'⟩⟩
   ·rw [List.getElem?_set_ne (Ne.symm hj)] at e2
    obtain ⟨u',r',q⟩:=hl j y v' e1 e2 e3
    refine ⟨u',r',?_⟩
    rcases q with q | ⟨k,c',e,z'⟩
    ·exact .inl q
    ·refine .inr ⟨k,c',e,z'.sameBut hs ?_⟩
     rintro rfl
     exact hj (nodup_ix hN e1 (I.ok.inj _ _ _ e hc ▸ hi))
  ·by_cases hcc:c'=c
   ·subst hcc;exact ⟨_,hc'⟩
   ·obtain ⟨w2,z2⟩:=I.cell y c' e
    exact ⟨w2,z2.sameBut hs hcc⟩
  ·obtain ⟨e,n,ne,nf,d⟩:=I.pin p hp
   refine ⟨(hs.2 p.1 ?_).trans e,n,ne,nf,d⟩
   intro q
   rw [q,hoc] at e
   have q':oc=p.2:=Option.some.inj e
   exact d w' (by rw [←q'];exact hocd)
theorem store_ok {M:Model} {A:Around} {E:Value→Shared→Prop} {i:Nat} {x:Str} {v:V} {u:Value} {Q:Unit→Shared→Prop} (I:Inv X pins σ H s) (hN:X.N.Nodup) (hi:X.N[i]?=some x) (hx:Loc X.env.scope x) (r:RelV v u)
  (h:∀ s',Inv X pins (σ.set i (some v)) H s'→Q () s') (hf:X.fn x=true∨X.env.scope.names.lookup x=some .local:=by trivial):wpAny M A (storeName X.env x u) Q E s :=
 store_ok2 I hN hi hx r (fun s' I' _=>h s' I') hf
theorem Inv.call' {s':Shared} {ch:List Addr} (I:Inv X pins σ H s) (ho:s'.os=s.os) (u:Un (frs X.stack) ch H H' s.heap s'.heap) (hok:HOk X.prog X.w H' s'.heap) (hg:AllBare s'.gens)
  (hch:∀ b∈ch,(b∈X.ex∨X.s₀.heap.objs.size≤b)∧b≠X.env.locals∧(∀ x c,X.env.cells.lookup x=some c→c≠b)∧∀ p∈X.pn ++ pins,p.1≠b):Inv X pins σ H' s':=by
 obtain ⟨h',g',d',t',o'⟩:=s'
 have e:o'=s.os:=ho
 subst e
 exact I.call (g':=g') (t':=t') (d':=d') u hok hg hch
end
noncomputable abbrev XK:=Value→Option Addr→Hp→Prop
noncomputable abbrev St:=List (Option V)
noncomputable abbrev VK:=V→Hp→Prop
noncomputable abbrev TE:=St→Hp→VK→Prop
noncomputable abbrev TT:=St→Hp→(Bool→Hp→Prop)→Prop
noncomputable abbrev TA:=St→Hp→(List V→Hp→Prop)→Prop
structure Ends where
 nx:St→Hp→Prop
 rt:VK
 bk:St→Hp→Prop:=fun _ _=>False
 ct:St→Hp→Prop:=fun _ _=>False
noncomputable abbrev TS:=Ends→St→Hp→Prop
noncomputable def EP (X:Cx) (pins:List (Addr×Obj)) (σ:St) (Q:VK) (u:Value) (s':Shared):Prop:=∃ v H',Inv X pins σ H' s'∧RelV v u∧Q v H'
noncomputable def TP (X:Cx) (pins:List (Addr×Obj)) (σ:St) (Q:Bool→Hp→Prop) (b:Bool) (s':Shared):Prop:=∃ H',Inv X pins σ H' s'∧Q b H'
noncomputable def AP (X:Cx) (pins:List (Addr×Obj)) (σ:St) (Q:List V→Hp→Prop) (us:List Value) (s':Shared):Prop:=∃ vs H',Inv X pins σ H' s'∧Vals vs us∧Q vs H'
noncomputable def SP (X:Cx) (pins:List (Addr×Obj)) (D:Ends) (f:Flow) (s':Shared):Prop :=
 match f with
 | .next=>∃ σ' H',Inv X pins σ' H' s'∧D.nx σ' H'
 | .brk=>∃ σ' H',Inv X pins σ' H' s'∧D.bk σ' H'
 | .cont=>∃ σ' H',Inv X pins σ' H' s'∧D.ct σ' H'
 | .ret u=>∃ v σ' H',Inv X pins σ' H' s'∧RelV v u∧D.rt v H'
noncomputable def PE (X:Cx) (e:Expr) (t:TE):Prop :=
 ∀ (pins:List (Addr×Obj)) (s:Shared) (σ:St) (H:Hp) (Q:VK),Inv X pins σ H s→t σ H Q→wpAny (model X.prog X.w) X.A (eval e X.env) (EP X pins σ Q) X.xe s
noncomputable def PT (X:Cx) (e:Expr) (t:TT):Prop :=
 ∀ (pins:List (Addr×Obj)) (s:Shared) (σ:St) (H:Hp) (Q:Bool→Hp→Prop),Inv X pins σ H s→t σ H Q→wpAny (model X.prog X.w) X.A (isTrue e X.env (eval e X.env)) (TP X pins σ Q) X.xe s
noncomputable def PW (X:Cx) (e:Expr) (t:TT):Prop :=
 ∀ (whole:Sem Value) (pins:List (Addr×Obj)) (s:Shared) (σ:St) (H:Hp) (Q:Bool→Hp→Prop),Inv X pins σ H s→t σ H Q→wpAny (model X.prog X.w) X.A (isTrue e X.env whole) (TP X pins σ Q) X.xe s
theorem PW.pt {X:Cx} {e:Expr} {t:TT} (h:PW X e t):PT X e t:=h _
noncomputable def PA (X:Cx) (es:List Expr) (t:TA):Prop :=
 ∀ (pos:Pos) (pins:List (Addr×Obj)) (s:Shared) (σ:St) (H:Hp) (Q:List V→Hp→Prop),Inv X pins σ H s→t σ H Q→wpAny (model X.prog X.w) X.A (spliced (backTo pos (starEach es X.env))) (AP X pins σ Q) X.xe s
noncomputable def PS (X:Cx) (st:Stmt) (t:TS):Prop :=
 ∀ (pins:List (Addr×Obj)) (s:Shared) (σ:St) (H:Hp) (D:Ends),Inv X pins σ H s→t D σ H→wpAny (model X.prog X.w) X.A (exec st X.env) (SP X pins D) X.xe s
noncomputable def PSs (X:Cx) (st:List Stmt) (t:TS):Prop :=
 ∀ (pins:List (Addr×Obj)) (s:Shared) (σ:St) (H:Hp) (D:Ends),Inv X pins σ H s→t D σ H→wpAny (model X.prog X.w) X.A (execs st X.env) (SP X pins D) X.xe s
theorem thn {α:Type} {t:Sem α} {Q Q':α→Shared→Prop} {M:Model} {A:Around} {E:Value→Shared→Prop} {s:Shared} (h:wpAny M A t Q E s) (hQ:∀ a s,Q a s→Q' a s):wpAny M A t Q' E s:=wpAny_mono h hQ fun _ _ x=>x
end L2
namespace L2
open PySem PySem.Spec PyProof.Rows
section
variable {X:Cx}
noncomputable def tVar (i:Nat):TE:=fun σ H Q=>∃ v,σ[i]?=some (some v)∧Q v H
noncomputable def tC (v:V):TE:=fun _ H Q=>Q v H
theorem pe_var {i:Nat} {x:Str} {pos:Pos} (hN:X.N[i]?=some x) (hv:Vis X.env.scope x) (hd:(x == ("__debug__":Str))=false:=by decide) (hcd:(x == ("__classdict__":Str))=false:=by decide):PE X (.Name x pos) (tVar i):=by
 intro pins s σ H Q I h
 obtain ⟨v,e,h⟩:=h
 obtain ⟨m,hn,hl⟩:=I.loc
 obtain ⟨u,r,l⟩:=hl i x v hN e hv
 have fin:EP X pins σ Q u s:=⟨v,H,I,r,h⟩
 rcases l with ⟨hk,hm⟩ | ⟨hk,c,hc,hcell⟩
 ·exact wpAny_Name (wpAny_loadName_local I.ok.kind hk hn hm fin) hd
 ·rcases hk with hk | hk
  ·exact wpAny_Name (wpAny_loadName_cell I.ok.kind hk hc hcell fin) hd
  ·exact wpAny_Name (wpAny_loadName_free I.ok.kind hk hc hcell fin hcd) hd
theorem pe_int {i j pos}:PE X (.Constant (.int i) j pos) (tC (.int i)):=fun _ _ _ H _ I h=>wpAny_Constant_int ⟨.int i,H,I.tok _,⟨_,rfl⟩,h⟩
theorem pe_bl {b j pos}:PE X (.Constant (.bool b) j pos) (tC (.bl b)):=fun _ _ _ H _ I h=>Constant_bool ⟨.bl b,H,I,rfl,h⟩
theorem pe_str {x j pos}:PE X (.Constant (.str x) j pos) (tC (.str x)):=fun _ _ _ H _ I h=>Calls.Constant_str ⟨.str x,H,I.tok _,⟨_,rfl⟩,h⟩
noncomputable def Gl (X:Cx) (x:Str):Prop:=X.env.kindOf x=some .globalImplicit
theorem ld_glob {E:Value→Shared→Prop} {pins:List (Addr×Obj)} {s:Shared} {σ:St} {H:Hp} {x:Str} {u:Value} {pos:Pos} {Q:Value→Shared→Prop} (I:Inv X pins σ H s) (hg:Gl X x) (hm:X.mg x=some u) (h:Q u s)
  (hd:(x == ("__debug__":Str))=false:=by decide):wpAny (model X.prog X.w) X.A (eval (.Name x pos) X.env) Q E s :=
 Calls.Name_function_global I.ok.kind hg (Calls.loadGlobal_global (by rw [I.ok.glob];exact I.mod.glob.keeps I.bk) hm h) hd
theorem ld_blt {E:Value→Shared→Prop} {pins:List (Addr×Obj)} {s:Shared} {σ:St} {H:Hp} {x:Str} {u:Value} {pos:Pos} {Q:Value→Shared→Prop} (I:Inv X pins σ H s) (hg:Gl X x) (hm:X.mg x=none) (hv:bootBuiltins x=some u) (h:Q u s)
  (hn:x≠"__name__":=by decide) (hd:(x == ("__debug__":Str))=false:=by decide):wpAny (model X.prog X.w) X.A (eval (.Name x pos) X.env) Q E s:=by
 obtain ⟨mb,h1,h2⟩:=I.mod.blt
 exact Calls.Name_function_global I.ok.kind hg (Calls.loadGlobal_builtin (by rw [I.ok.glob];exact I.mod.glob.keeps I.bk) hm (by rw [I.ok.blt];exact h1.keeps I.bk) ((h2 x hn).trans hv) h) hd
theorem pe_bltn {x:Str} {v:V} {u:Value} {pos:Pos} (hg:Gl X x) (hm:X.mg x=none) (hv:bootBuiltins x=some u) (r:RelV v u) (hn:x≠"__name__":=by decide) (hd:(x == ("__debug__":Str))=false:=by decide):PE X (.Name x pos) (tC v) :=
 fun _ _ _ H _ I h=>ld_blt I hg hm hv ⟨v,H,I,r,h⟩ hn hd
variable {a b:Expr} {ta tb:TE} {pos:Pos}
noncomputable def tB (t:TE):TT:=fun σ H Q=>t σ H fun x H1=>∃ c,x=.bl c∧Q c H1
theorem pt_val {e:Expr} {t:TE} (h:PE X e t) (he:∀ whole,isTrue e X.env whole=(do let v ←whole;standAt e.pos;holding [v] (truthy v)):=by intro _;rfl):PT X e (tB t):=by
 intro pins s σ H Q I hw
 refine isTrue_plain (thn (h pins s σ H _ I hw) fun v s1 ⟨x,H1,I1,r1,q1⟩=>?_) (he _)
 obtain ⟨d,rfl,q⟩:=q1
 cases r1
 exact wpAny_truthy_bool ⟨H1,I1,q⟩
variable {tA tB':TT} {rest:List Expr}
noncomputable def tOr (t u:TT):TT:=fun σ H Q=>t σ H fun c H1=>if c=true then Q true H1 else u σ H1 Q
noncomputable def tNot (t:TT):TT:=fun σ H Q=>t σ H fun c H1=>Q (!c) H1
theorem pw_or1 (ha:PT X a tA):PW X (.BoolOp .Or [a] pos) tA:=by
 intro wh pins s σ H Q I h
 refine isTrue_or (thn (ha pins s σ H Q I h) fun c s1 e=>?_)
 cases c with
 | false=>exact isTrue_or_nil e
 | true=>exact e
theorem pw_or (ha:PT X a tA) (hb:PW X (.BoolOp .Or (b :: rest) pos) tB'):PW X (.BoolOp .Or (a :: b :: rest) pos) (tOr tA tB'):=by
 intro wh pins s σ H Q I h
 refine isTrue_or (thn (ha pins s σ H _ I h) fun c s1 ⟨H1,I1,q1⟩=>?_)
 cases c with
 | true=>exact ⟨H1,I1,q1⟩
 | false=>exact hb wh pins s1 σ H1 Q I1 q1
theorem pt_not (ha:PT X a tA):PT X (.UnaryOp .Not a pos) (tNot tA):=by
 intro pins s σ H Q I h
 exact isTrue_not (ha pins s σ H (fun c H1=>Q (!c) H1) I h)
noncomputable def tAndV (ta tb:TE):TE:=fun σ H Q=>ta σ H fun x H1=>∃ c,x=.bl c∧if c=true then tb σ H1 Q else Q (.bl false) H1
noncomputable def tNotV (ta:TE):TE:=fun σ H Q=>ta σ H fun x H1=>∃ c,x=.bl c∧Q (.bl (!c)) H1
theorem pe_one {op} {t:TE} (h:PE X a t):PE X (.BoolOp op [a] pos) t:=fun pins s σ H Q I hw=>BoolOp_one (h pins s σ H Q I hw)
theorem pe_and (ha:PE X a ta) (hb:PE X (.BoolOp .And (b :: rest) pos) tb):PE X (.BoolOp .And (a :: b :: rest) pos) (tAndV ta tb):=by
 intro pins s σ H Q I h
 refine BoolOp_and (thn (ha pins s σ H _ I h) fun v s1 ⟨x,H1,I1,r1,q1⟩=>?_)
 obtain ⟨c,rfl,q1⟩:=q1
 cases r1
 refine wpAny_truthy_bool ?_
 cases c with
 | true=>exact hb pins s1 σ H1 Q I1 q1
 | false=>exact ⟨.bl false,H1,I1,rfl,q1⟩
theorem pe_not (ha:PE X a ta):PE X (.UnaryOp .Not a pos) (tNotV ta):=by
 intro pins s σ H Q I h
 refine UnaryOp_ (thn (ha pins s σ H _ I h) fun v s1 ⟨x,H1,I1,r1,q1⟩=>?_)
 obtain ⟨c,rfl,q1⟩:=q1
 cases r1
 exact not_of (wpAny_truthy_bool ⟨.bl (!c),H1,I1,rfl,q1⟩)
end
end L2
namespace L2
open PySem PySem.Spec PyProof.Rows
noncomputable def SqL (K:PySem.W.Frag) (H:Hp) (a:Addr) (xs:List V):Prop :=
 Rd H a (.lst xs) ∨
  ∃ (o:Obj) (its:Array Value) (n:Nat),K.lookup a=some o∧o.cls=.type "list"∧o.dict=none∧o.data=.seq its n∧its.size≤sizeLine∧Vals xs its.toList
noncomputable def SqT (K:PySem.W.Frag) (H:Hp) (a:Addr) (xs:List V):Prop :=
 Rd H a (.tup xs) ∨
  ∃ (o:Obj) (its:Array Value) (n:Nat),K.lookup a=some o∧o.cls=.type "tuple"∧o.data=.seq its n∧its.size≤sizeLine∧Vals xs its.toList
noncomputable def absV:Value→Option V
 | .none=>some .non
 | .bool b=>some (.bl b)
 | .int i _=>some (.int i)
 | .str x _=>some (.str x)
 | .bytes b _=>some (.byt b)
 | .float b _=>some (.flt b)
 | .ref a=>some (.ref a)
 | .type n=>some (.ty n)
 | _=>none
theorem RelV.abs {x:V} {u:Value} (r:RelV x u):absV u=some x:=by
 cases x with
 | non=>cases r;rfl
 | bl _=>cases r;rfl
 | int _=>obtain ⟨t,rfl⟩:=r;rfl
 | str _=>obtain ⟨t,rfl⟩:=r;rfl
 | byt _=>obtain ⟨t,rfl⟩:=r;rfl
 | flt _=>obtain ⟨t,rfl⟩:=r;rfl
 | ref _=>cases r;rfl
 | ty _=>cases r;rfl
theorem RelV.inj {x y:V} {u:Value} (r:RelV x u) (q:RelV y u):x=y:=Option.some.inj (r.abs.symm.trans q.abs)
theorem Vals.inj:∀ {xs ys:List V} {us:List Value},Vals xs us→Vals ys us→xs=ys
 | _,_,_,.nil,.nil=>rfl
 | _,_,_,.cons r t,.cons r' t'=>by rw [r.inj r',Vals.inj t t']
section
variable {X:Cx} {pins:List (Addr×Obj)} {σ:St} {H:Hp} {s:Shared} {a:Addr} {xs ys:List V}
theorem SqL.of {K:PySem.W.Frag} (h:H a=some (.lst xs)):SqL K H a xs:=.inl (.inl h)
theorem SqT.of {K:PySem.W.Frag} (h:H a=some (.tup xs)):SqT K H a xs:=.inl (.inl h)
theorem Inv.list (I:Inv X pins σ H s) (h:SqL X.K H a xs):∃ its:List Value,Vals xs its∧PlainL s.heap a its.toArray∧xs.length≤sizeLine:=by
 rcases h with h | ⟨o,its,n,hk,hc,hd,hs,hz,r⟩
 ·obtain ⟨z,its,n,r,e⟩:=h.ok I.hok
  exact ⟨its,r,⟨_,n,e,rfl,rfl,rfl⟩,z⟩
 ·refine ⟨its.toList,r,⟨o,n,I.kIn a o hk,hc,hd,by simpa using hs⟩,?_⟩
  have e:=r.length
  simp only [Array.length_toList] at e
  lia
theorem Inv.tuple (I:Inv X pins σ H s) (h:SqT X.K H a xs):∃ its:List Value,Vals xs its∧IsTup s.heap a its.toArray∧xs.length≤sizeLine:=by
 rcases h with h | ⟨o,its,n,hk,hc,hs,hz,r⟩
 ·obtain ⟨z,its,r,p⟩:=h.ok I.hok
  exact ⟨its,r,p.tup,z⟩
 ·refine ⟨its.toList,r,⟨o,I.kIn a o hk,hc,n,by simpa using hs⟩,?_⟩
  have e:=r.length
  simp only [Array.length_toList] at e
  lia
theorem Inv.list_inj (I:Inv X pins σ H s) (h:SqL X.K H a xs) (h':SqL X.K H a ys):xs=ys:=by
 obtain ⟨its,r,⟨o,n,e,_,_,d⟩,_⟩:=I.list h
 obtain ⟨its',r',⟨o',n',e',_,_,d'⟩,_⟩:=I.list h'
 rw [e] at e';cases e'
 rw [d] at d'
 injection d' with d1 _
 have:its=its':=by simpa using congrArg Array.toList d1
 subst this
 exact r.inj r'
theorem Inv.tuple_inj (I:Inv X pins σ H s) (h:SqT X.K H a xs) (h':SqT X.K H a ys):xs=ys:=by
 obtain ⟨its,r,⟨o,e,_,n,d⟩,_⟩:=I.tuple h
 obtain ⟨its',r',⟨o',e',_,n',d'⟩,_⟩:=I.tuple h'
 rw [e] at e';cases e'
 rw [d] at d'
 injection d' with d1 _
 have:its=its':=by simpa using congrArg Array.toList d1
 subst this
 exact r.inj r'
end
noncomputable abbrev Cx.wish (X:Cx) (E:Value→Shared→Prop):Cx:={ X with xe:=E }
noncomputable abbrev Cx.nox (X:Cx):Cx:=X.wish fun _ _=>False
theorem Cx.Ok.wish {X:Cx} (ok:X.Ok) (E:Value→Shared→Prop):(X.wish E).Ok :=
 ⟨ok.mod,ok.kind,ok.glob,ok.blt,ok.above,ok.inj,ok.has,ok.cab,ok.hd,ok.frames,ok.stk,ok.exf,ok.bs,ok.bsz,ok.noex,ok.exfs,ok.funs,ok.frf⟩
theorem Cx.Ok.unwish {X:Cx} {E:Value→Shared→Prop} (ok:(X.wish E).Ok):X.Ok :=
 ⟨ok.mod,ok.kind,ok.glob,ok.blt,ok.above,ok.inj,ok.has,ok.cab,ok.hd,ok.frames,ok.stk,ok.exf,ok.bs,ok.bsz,ok.noex,ok.exfs,ok.funs,ok.frf⟩
section
variable {X:Cx} {pins:List (Addr×Obj)} {σ:St} {H:Hp} {s:Shared} {E:Value→Shared→Prop}
theorem Inv.wish (I:Inv X pins σ H s) (E:Value→Shared→Prop):Inv (X.wish E) pins σ H s:=⟨I.ok.wish E,I.os,I.bare,I.base,I.loc,I.cell,I.free,I.freeC,I.pin,I.hok,I.len⟩
theorem Inv.unwish (I:Inv (X.wish E) pins σ H s):Inv X pins σ H s:=⟨I.ok.unwish,I.os,I.bare,I.base,I.loc,I.cell,I.free,I.freeC,I.pin,I.hok,I.len⟩
theorem SP.unwish {D:Ends} {f:Flow} {s':Shared} (h:SP (X.wish E) pins D f s'):SP X pins D f s':=by
 cases f with
 | next=>obtain ⟨σ',H',I,q⟩:=h;exact ⟨σ',H',I.unwish,q⟩
 | brk=>obtain ⟨σ',H',I,q⟩:=h;exact ⟨σ',H',I.unwish,q⟩
 | cont=>obtain ⟨σ',H',I,q⟩:=h;exact ⟨σ',H',I.unwish,q⟩
 | ret u=>obtain ⟨v,σ',H',I,r,q⟩:=h;exact ⟨v,σ',H',I.unwish,r,q⟩
theorem PSs.nox {st:List Stmt} {t:TS} (h:PSs X.nox st t):PSs X st t:=fun pins s σ H D I hw =>
 wpAny_mono (h pins s σ H D (I.wish _) hw) (fun _ _ q=>q.unwish) fun _ _ z=>False.elim z
end
section
variable {X:Cx} {st:Stmt} {rest:List Stmt} {t u:TS} {e:Expr} {te:TE} {pos:Pos}
noncomputable def tNext:TS:=fun D σ H=>D.nx σ H
noncomputable def tSeq (t u:TS):TS:=fun D σ H=>t { D with nx:=u D } σ H
theorem pss_nil:PSs X [] tNext:=fun _ _ σ H _ I h=>wpAny_execs_nil ⟨σ,H,I,h⟩
theorem pss_cons (h1:PS X st t) (h2:PSs X rest u):PSs X (st :: rest) (tSeq t u):=by
 intro pins s σ H D I h
 refine wpAny_execs_cons (thn (h1 pins s σ H { D with nx:=u D } I h) fun f s1 q=>?_)
 cases f with
 | next =>
  obtain ⟨σ',H',I',q⟩:=q
  exact h2 pins s1 σ' H' D I' q
 | ret v=>exact q
 | brk=>exact q
 | cont=>exact q
theorem pss_one (h1:PS X st t):PSs X [st] t:=by
 intro pins s σ H D I h
 refine wpAny_execs_cons (thn (h1 pins s σ H D I h) fun f s1 q=>?_)
 cases f with
 | next=>exact wpAny_execs_nil q
 | ret v=>exact q
 | brk=>exact q
 | cont=>exact q
theorem Inv.quiet {pins:List (Addr×Obj)} {σ:St} {H:Hp} {s:Shared} (I:Inv X pins σ H s):interactive X.env=false:=by simp [interactive,I.ok.kind]
noncomputable def tDrop (te:TE):TS:=fun D σ H=>te σ H fun _ H1=>D.nx σ H1
theorem ps_expr (he:PE X e te) (hs:swapsWith e none pos.line X.env=pure false:=by rfl):PS X (.Expr e pos) (tDrop te):=by
 intro pins s σ H D I h
 exact wpAny_Expr_any (thn (he pins s σ H _ I h) fun v s1 ⟨x,H1,I1,r1,q1⟩=>⟨σ,H1,I1,q1⟩) I.quiet hs
noncomputable def tRet (te:TE):TS:=fun D σ H=>te σ H D.rt
theorem ps_ret (he:PE X e te):PS X (.Return (some e) pos) (tRet te):=by
 intro pins s σ H D I h
 exact wpAny_Return_some (thn (he pins s σ H _ I h) fun v s1 ⟨x,H1,I1,r1,q1⟩=>⟨x,σ,H1,I1,r1,q1⟩)
noncomputable def tIfS (c:TT) (t u:TS):TS:=fun D σ H=>c σ H fun b H1=>if b=true then t D σ H1 else u D σ H1
theorem ps_if {c:Expr} {a b:List Stmt} {tc:TT} (hc:PT X c tc) (ha:PSs X a t) (hb:PSs X b u):PS X (.If c a b pos) (tIfS tc t u):=by
 intro pins s σ H D I h
 refine wpAny_If (thn (hc pins s σ H _ I h) fun d s1 ⟨H1,I1,q1⟩=>?_)
 cases d with
 | true=>exact ha pins s1 σ H1 D I1 q1
 | false=>exact hb pins s1 σ H1 D I1 q1
noncomputable def tNever:TS:=fun _ _ _=>False
theorem ps_never:PS X st tNever:=fun _ _ _ _ _ _ h=>h.elim
end
noncomputable abbrev TG:=V→St→Hp→(St→Hp→Prop)→Prop
noncomputable abbrev TGs:=List V→St→Hp→(St→Hp→Prop)→Prop
noncomputable def PG (X:Cx) (target:Expr) (t:TG):Prop :=
 ∀ (pins:List (Addr×Obj)) (s:Shared) (σ:St) (H:Hp) (v:V) (u:Value) (Q:St→Hp→Prop),Inv X pins σ H s→RelV v u→t v σ H Q →
  wpAny (model X.prog X.w) X.A (assign target X.env u) (fun _ s'=>∃ σ' H',Inv X pins σ' H' s'∧Q σ' H') X.xe s
noncomputable def PGs (X:Cx) (ts:List Expr) (t:TGs):Prop :=
 ∀ (pins:List (Addr×Obj)) (s:Shared) (σ:St) (H:Hp) (vs:List V) (us:List Value) (Q:St→Hp→Prop),Inv X pins σ H s→Vals vs us→t vs σ H Q →
  wpAny (model X.prog X.w) X.A (assignInOrder ((assignEach ts X.env).map (·.2)) us) (fun _ s'=>∃ σ' H',Inv X pins σ' H' s'∧Q σ' H') X.xe s
noncomputable abbrev TSet:=V→V→V→Hp→(Hp→Prop)→Prop
noncomputable def PSet (X:Cx) (t:TSet):Prop :=
 ∀ (pins:List (Addr×Obj)) (s:Shared) (σ:St) (H:Hp) (o i v:V) (ov iv u:Value) (Q:Hp→Prop),Inv X pins σ H s→RelV o ov→RelV i iv→RelV v u→t o i v H Q →
  wpAny (model X.prog X.w) X.A (setItem ov iv u) (fun _ s'=>∃ H',Inv X pins σ H' s'∧Q H') X.xe s
noncomputable abbrev TIp:=V→V→Hp→VK→Prop
noncomputable def PIp (X:Cx) (op:Operator) (t:TIp):Prop :=
 ∀ (pins:List (Addr×Obj)) (s:Shared) (σ:St) (H:Hp) (x y:V) (v u:Value) (Q:VK),Inv X pins σ H s→RelV x v→RelV y u→t x y H Q →
  wpAny (model X.prog X.w) X.A (inplaceOp op v u) (EP X pins σ Q) X.xe s
section
variable {X:Cx} {pos:Pos}
noncomputable def gName (i:Nat):TG:=fun v σ H Q=>Q (σ.set i (some v)) H
theorem pg_name {i:Nat} {x:Str} (hN:X.N.Nodup) (hi:X.N[i]?=some x) (hx:Loc X.env.scope x) (hf:X.fn x=true∨X.env.scope.names.lookup x=some .local:=by trivial):PG X (.Name x pos) (gName i):=by
 intro pins s σ H v u Q I r h
 exact wpAny_assign_Name (store_ok I hN hi hx r (fun s' I'=>⟨_,H,I',h⟩) hf)
noncomputable def gNil:TGs:=fun vs σ H Q=>vs=[]∧Q σ H
noncomputable def gCons (t:TG) (u:TGs):TGs:=fun vs σ H Q=>∃ v r,vs=v :: r∧t v σ H fun σ' H'=>u r σ' H' Q
theorem pgs_nil:PGs X [] gNil:=by
 intro pins s σ H vs us Q I r h
 obtain ⟨e,h⟩:=h
 subst e
 cases r
 exact assignInOrder_nil ⟨σ,H,I,h⟩
theorem pgs_cons {e:Expr} {es:List Expr} {t:TG} {u:TGs} (h1:PG X e t) (h2:PGs X es u)
  (hs:(assignEach (e :: es) X.env).map (·.2)=assign e X.env :: (assignEach es X.env).map (·.2):=by rfl):PGs X (e :: es) (gCons t u):=by
 intro pins s σ H vs us Q I r h
 obtain ⟨v,vr,e1,h⟩:=h
 subst e1
 cases r with
 | cons r rr =>
  rw [hs]
  refine assignInOrder_cons (thn (h1 pins s σ H _ _ _ I r h) fun _ s1 ⟨σ1,H1,I1,q1⟩=>?_)
  exact h2 pins s1 σ1 H1 _ _ Q I1 rr q1
noncomputable def gTup (K:PySem.W.Frag) (n:Nat) (t:TGs):TG:=fun v σ H Q=>∃ a xs,v=.ref a∧SqT K H a xs∧xs.length=n∧t xs σ H Q
theorem pg_tup {es:List Expr} {k:Nat} {t:TGs} {n:Nat} (hc:X.calm=true) (h:PGs X es t)
  (hn:(assignEach es X.env).length=n:=by rfl) (hst:(assignEach es X.env).findIdx? (·.1)=none:=by rfl):PG X (.Tuple es k pos) (gTup X.K n t):=by
 intro pins s σ H v u Q I r hw
 obtain ⟨a,xs,e1,hq,hl,hw⟩:=hw
 subst e1
 cases r
 obtain ⟨its,rv,ht,hz⟩:=I.tuple hq
 refine assign_Tuple_tuple (I.ok.hd hc) ht (by simp [hn,←hl,rv.length]) hst fun h' hx=>?_
 have I1:Inv X pins σ H { s with heap:=h' }:=I.kept (t':=s.toks) fun b o e=>hx b o (Nat.ne_of_lt (Heap.lt_size e)) e
 exact h pins _ σ H xs _ Q I1 (by simpa using rv) hw
noncomputable def gSub (to ti:TE) (t:TSet):TG:=fun v σ H Q=>to σ H fun o H1=>ti σ H1 fun i H2=>t o i v H2 fun H3=>Q σ H3
theorem pg_sub {o i:Expr} {to ti:TE} {t:TSet} (ho:PE X o to) (hi:PE X i ti) (hs:PSet X t)
  (ha:∀ v,assign (.Subscript o i pos) X.env v=(do
   let ov ←holding [v] (eval o X.env)
   let iv ←holding [v,ov] (eval i X.env)
   standAt pos
   holding [v,ov,iv] (setItem ov iv v)
   release [v,ov,iv] []):=by intro _;rfl):PG X (.Subscript o i pos) (gSub to ti t):=by
 intro pins s σ H v u Q I r h
 rw [ha]
 refine wpAny_bind (wpAny_holding (thn (ho pins s σ H _ I h) fun ov s1 ⟨x,H1,I1,r1,q1⟩=>?_))
 refine wpAny_bind (wpAny_holding (thn (hi pins s1 σ H1 _ I1 q1) fun iv s2 ⟨y,H2,I2,r2,q2⟩=>?_))
 refine wpAny_bind (wpAny_standAt (wpAny_bind (wpAny_holding (thn (hs pins s2 σ H2 x y v ov iv u _ I2 r1 r2 r q2) fun _ s3 ⟨H3,I3,q3⟩=>?_))))
 exact wpAny_release ⟨σ,H3,I3,q3⟩
noncomputable def tAsg (te:TE) (g:TG):TS:=fun D σ H=>te σ H fun x H1=>g x σ H1 D.nx
theorem ps_asg {tg e:Expr} {te:TE} {g:TG} (he:PE X e te) (hg:PG X tg g) (hs:swapsWithSole [tg] e pos.line X.env=pure false:=by rfl) (hw:swappedStores [tg] e X.env=pure none:=by rfl)
  (h1:(assignEach [tg] X.env).map (·.2)=[assign tg X.env]:=by rfl):PS X (.Assign [tg] e pos) (tAsg te g):=by
 intro pins s σ H D I h
 refine wpAny_Assign_stores (thn (he pins s σ H _ I h) fun v s1 ⟨x,H1,I1,r1,q1⟩=>?_) hs hw
 rw [h1]
 exact thn (hg pins s1 σ H1 x v _ I1 r1 q1) fun _ s2 q=>q
theorem ps_set {i:Nat} {x:Str} {e:Expr} {te:TE} {pos':Pos} (hN:X.N.Nodup) (hi:X.N[i]?=some x) (hx:Loc X.env.scope x) (he:PE X e te) (hs:swapsWith e (some (.Name x pos')) pos.line X.env=pure false:=by rfl) (hf:X.fn x=true∨X.env.scope.names.lookup x=some .local:=by trivial) :
  PS X (.Assign [.Name x pos'] e pos) (tAsg te (gName i)):=by
 intro pins s σ H D I h
 refine wpAny_Assign_Name (thn (he pins s σ H _ I h) fun v s1 ⟨y,H1,I1,r1,q1⟩=>?_) hs
 exact store_ok I1 hN hi hx r1 (fun s2 I2=>⟨_,H1,I2,q1⟩) hf
noncomputable def tAugS (to ti te:TE) (tget:V→V→Hp→VK→Prop) (tip:TIp) (tset:TSet):TS:=fun D σ H=>to σ H fun o H1=>ti σ H1 fun i H2=>tget o i H2 fun x H3=>te σ H3 fun y H4=>tip x y H4 fun z H5=>tset o i z H5 fun H6=>D.nx σ H6
noncomputable def PGet (X:Cx) (t:V→V→Hp→VK→Prop):Prop :=
 ∀ (pins:List (Addr×Obj)) (s:Shared) (σ:St) (H:Hp) (o i:V) (ov iv:Value) (Q:VK),Inv X pins σ H s→RelV o ov→RelV i iv→t o i H Q →
  wpAny (model X.prog X.w) X.A (getItem ov iv) (EP X pins σ Q) X.xe s
theorem ps_augS {o i e:Expr} {to ti te:TE} {tget:V→V→Hp→VK→Prop} {tip:TIp} {tset:TSet} {op:Operator} {tpos:Pos} (ho:PE X o to) (hi:PE X i ti) (hg:PGet X tget) (he:PE X e te) (hp:PIp X op tip) (hs:PSet X tset)
  (ha:∀ ov iv new,augStore i ov iv new=(do holding [new,ov,iv] (setItem ov iv new);release [new,ov,iv] [];pure .next):=by intros;rfl):PS X (.AugAssign (.Subscript o i tpos) op e pos) (tAugS to ti te tget tip tset):=by
 intro pins s σ H D I h
 refine wpAny_AugAssign_SubscriptAny (thn (ho pins s σ H _ I h) fun ov s1 ⟨x1,H1,I1,r1,q1⟩=>?_) ha
 refine thn (hi pins s1 σ H1 _ I1 q1) fun iv s2 ⟨x2,H2,I2,r2,q2⟩=>?_
 refine thn (hg pins s2 σ H2 x1 x2 ov iv _ I2 r1 r2 q2) fun old s3 ⟨x3,H3,I3,r3,q3⟩=>?_
 refine thn (he pins s3 σ H3 _ I3 q3) fun v s4 ⟨x4,H4,I4,r4,q4⟩=>?_
 refine thn (hp pins s4 σ H4 x3 x4 old v _ I4 r3 r4 q4) fun new s5 ⟨x5,H5,I5,r5,q5⟩=>?_
 exact thn (hs pins s5 σ H5 x1 x2 x5 ov iv new _ I5 r1 r2 r5 q5) fun _ s6 ⟨H6,I6,q6⟩=>⟨σ,H6,I6,q6⟩
noncomputable def ipI (f:Int→Int→Int):TIp:=fun x y H Q=>∃ i j,x=.int i∧y=.int j∧Q (.int (f i j)) H
theorem ip_add:PIp X .Add (ipI fun i j=>i + j):=by
 intro pins s σ H x y v u Q I r1 r2 h
 obtain ⟨i,j,e1,e2,q⟩:=h
 subst e1;subst e2
 obtain ⟨t,rfl⟩:=r1
 obtain ⟨t',rfl⟩:=r2
 exact iadd_int ⟨.int _,H,I.tok _,⟨_,rfl⟩,q⟩
end
section
variable {X:Cx} {pos:Pos}
end
structure It where
 go:Nat→Hp→Prop
 yld:Nat→Hp→V→Hp→Prop
 stop:Nat→Hp→Prop
noncomputable def FpOk (X:Cx) (pins:List (Addr×Obj)) (H:Hp) (b:Addr):Prop :=
 H b=none∧b≠X.env.locals∧b ∉ X.fs∧(b∈X.ex∨X.s₀.heap.objs.size≤b)∧(∀ x c,X.env.cells.lookup x=some c→c≠b)∧∀ p∈X.pn ++ pins,p.1≠b
theorem Inv.fpOk {X:Cx} {pins:List (Addr×Obj)} {σ:St} {H H':Hp} {s:Shared} {b:Addr} (I:Inv X pins σ H s) (hb:s.heap.objs.size≤b) (hn:H' b=none):FpOk X pins H' b:=by
 refine ⟨hn,Nat.ne_of_gt (Nat.lt_of_lt_of_le I.lt hb),I.nofs hb,.inr (Nat.le_trans I.sz hb),fun x c e z=>?_,fun p hp z=>?_⟩
 ·obtain ⟨v,q⟩:=I.cell x c e
  exact absurd (Nat.lt_of_lt_of_le q.lt (by rw [z];exact hb)) (Nat.lt_irrefl _)
 ·exact absurd (Nat.lt_of_lt_of_le (Heap.lt_size (I.pin p hp).1) (by rw [z];exact hb)) (Nat.lt_irrefl _)
structure Turn (P:Program) (w:World) (K:PySem.W.Frag) (tg:Expr) (J:It) (fp:List Addr) (it:Addr) (tn:Nat→Heap→Prop):Prop where
 mem:it∈fp
 obj:∀ i h,tn i h→∀ b∈fp,∃ o,h.get? b=some o∧∀ v,o.data≠.cell v
 keep:∀ i h h',tn i h→(∀ b∈fp,∀ o,h.get? b=some o→h'.get? b=some o)→tn i h'
 item:∀ (X:Cx),X.prog=P→X.w=w→X.K=K→X.calm=true→∀ (i:Nat) (pins:List (Addr×Obj)) (s:Shared) (σ:St) (H:Hp) (E:Value→Shared→Prop),Inv X pins σ H s→(∀ b∈fp,FpOk X pins H b)→tn i s.heap→J.go i H →
  wpAny (model P w) X.A (pyNext (.ref it)) (fun r s1=>∃ u,r=some u ∧
   wpAny (model P w) X.A (letOwnedTupleGo tg (.ref it) u) (fun _ s2=>∃ x H',Inv X pins σ H' s2∧RelV x u∧J.yld i H x H'∧tn (i + 1) s2.heap∧∀ b∈fp,H' b=none) E s1) E s
 done:∀ (X:Cx),X.prog=P→X.w=w→X.K=K→X.calm=true→∀ (i:Nat) (pins:List (Addr×Obj)) (s:Shared) (σ:St) (H:Hp) (E:Value→Shared→Prop),Inv X pins σ H s→(∀ b∈fp,FpOk X pins H b)→tn i s.heap→J.stop i H →
  wpAny (model P w) X.A (pyNext (.ref it)) (fun r s1=>r=none∧Inv X pins σ H s1) E s
 self:∀ (A:Around) (i:Nat) (s:Shared) (Q:Value→Shared→Prop) (E:Value→Shared→Prop),tn i s.heap→Q (.ref it) s→wpAny (model P w) A (pyIter (.ref it)) Q E s
noncomputable abbrev TI:=St→Hp→(It→Hp→Prop)→Prop
noncomputable def PIE (X:Cx) (pins:List (Addr×Obj)) (σ:St) (tg:Expr) (R:It→Hp→Prop) (itv:Value) (s2:Shared):Prop :=
 ∃ (it:Addr) (fp:List Addr) (tn:Nat→Heap→Prop) (J:It) (H':Hp),itv=.ref it∧Inv X pins σ H' s2∧Turn X.prog X.w X.K tg J fp it tn∧tn 0 s2.heap∧(∀ b∈fp,FpOk X pins H' b)∧R J H'
noncomputable def PI (X:Cx) (tg iter:Expr) (wi:TI):Prop :=
 ∀ (pins:List (Addr×Obj)) (s:Shared) (σ:St) (H:Hp) (R:It→Hp→Prop),Inv X pins σ H s→wi σ H R →
  wpAny (model X.prog X.w) X.A (eval iter X.env) (fun v s1=>wpAny (model X.prog X.w) X.A (pyIter v) (PIE X pins σ tg R) X.xe s1) X.xe s
theorem go_of {M : Model} {A : Around} {E : Value → Shared → Prop} {s : Shared} {tg : Expr} {it : Addr} {u : Value} {o : Obj} {n : String} {vs : Array Value} {Q : Unit → Shared → Prop} (ho : s.heap.get? it = some o) (hc : o.cls = .type n) (hd : o.data = .fields vs)
    (hn : ["enumerate", "zip", "dict_itemiterator", "dict_reverseitemiterator", "odict_iterator", "itertools.zip_longest", "itertools.pairwise"].contains n = false) (hQ : Q () s) : wpAny M A (letOwnedTupleGo tg (.ref it) u) Q E s := by
  unfold letOwnedTupleGo
  cases tg <;> first
    | exact wpAny_pure hQ
    | (cases u <;> first
        | exact wpAny_pure hQ
        | (refine wpAny_bind (wpAny_load ho ?_)
           rw [hc, hd]
           show wpAny M A (if (["enumerate", "zip", "dict_itemiterator", "dict_reverseitemiterator", "odict_iterator", "itertools.zip_longest", "itertools.pairwise"].contains n && vs[0]? == some (rawInt _)) = true then _ else _) Q E s
           rw [if_neg (by intro h; rw [hn, Bool.false_and] at h; cases h)]
           exact wpAny_pure hQ))
noncomputable def Itl (K:PySem.W.Frag) (a:Addr):It :=
 ⟨fun i H=>∃ xs x,SqL K H a xs∧xs[i]?=some x,fun i H x H'=>H'=H∧∀ xs,SqL K H a xs→xs[i]?=some x,fun i H=>∃ xs,SqL K H a xs∧xs.length≤i⟩
noncomputable def Itt (K:PySem.W.Frag) (a:Addr):It :=
 ⟨fun i H=>∃ xs x,SqT K H a xs∧xs[i]?=some x,fun i H x H'=>H'=H∧∀ xs,SqT K H a xs→xs[i]?=some x,fun i H=>∃ xs,SqT K H a xs∧xs.length≤i⟩
noncomputable def Itr (lo:Int) (n:Nat):It:=⟨fun i _=>i<n,fun i H x H'=>H'=H∧x=.int (lo + i),fun i _=>n≤i⟩
theorem turn_list {P:Program} {w:World} {K:PySem.W.Frag} {tg:Expr} (a it:Addr):Turn P w K tg (Itl K a) [it] it (fun i h=>h.IsListIter it a i) where
 mem:=by simp
 obj:=fun i h st b hb=>by
  have e:b=it:=by simpa using hb
  subst e
  obtain ⟨o,e,c,d⟩:=st
  exact ⟨o,e,fun v z=>by rw [d] at z;cases z⟩
 keep:=fun i h h' st k=>st.at fun o e=>k it (by simp) o e
 item:=by
  intro X hP hw hK hc i pins s σ H E I hf st hg
  subst hP hw hK
  obtain ⟨xs,x,hq,hx⟩:=hg
  obtain ⟨its,rv,p,hz⟩:=I.list hq
  obtain ⟨u,hu,ru⟩:=rv.get hx
  obtain ⟨f0,f1,f2,f3,f4,f5⟩:=hf it (by simp)
  refine wpAny_pyNext_list_item st p.isList (x:=u) (by simpa using hu) fun h' st' sb=>?_
  have I1:Inv X pins σ H { s with heap:=h' }:=I.turned (t':=s.toks) (fun b o hb e=>(sb.2 b hb).trans e) f0 f1 f3 f4 f5
  obtain ⟨o,e,c,d⟩:=id st'
  exact ⟨u,rfl,go_of (s:={ s with heap:=h' }) e c d (by decide) ⟨x,H,I1,ru,⟨rfl,fun ys hy=>by rw [I.list_inj hy hq];exact hx⟩,st',fun b hb=>(hf b hb).1⟩⟩
 done:=by
  intro X hP hw hK hc i pins s σ H E I hf st hg
  subst hP hw hK
  obtain ⟨xs,hq,hx⟩:=hg
  obtain ⟨its,rv,p,hz⟩:=I.list hq
  obtain ⟨f0,f1,f2,f3,f4,f5⟩:=hf it (by simp)
  have hl:=rv.length
  exact wpAny_pyNext_list_end (I.ok.hd hc) st p.isList (by simp;lia) fun h' eb=>⟨rfl,I.turned (t':=s.toks) (fun b o hb e=>eb b o hb e) f0 f1 f3 f4 f5⟩
 self:=fun _ _ _ _ _ st h=>wpAny_pyIter_listiter st h
theorem turn_tuple {P:Program} {w:World} {K:PySem.W.Frag} {tg:Expr} (a it:Addr):Turn P w K tg (Itt K a) [it] it (fun i h=>h.IsTupleIter it a i) where
 mem:=by simp
 obj:=fun i h st b hb=>by
  have e:b=it:=by simpa using hb
  subst e
  obtain ⟨o,e,c,d⟩:=st
  exact ⟨o,e,fun v z=>by rw [d] at z;cases z⟩
 keep:=fun i h h' st k=>st.at fun o e=>k it (by simp) o e
 item:=by
  intro X hP hw hK hc i pins s σ H E I hf st hg
  subst hP hw hK
  obtain ⟨xs,x,hq,hx⟩:=hg
  obtain ⟨its,rv,p,hz⟩:=I.tuple hq
  obtain ⟨u,hu,ru⟩:=rv.get hx
  obtain ⟨f0,f1,f2,f3,f4,f5⟩:=hf it (by simp)
  refine wpAny_pyNext_tuple_item st (show s.heap.IsTuple a its.toArray from p) (x:=u) (by simpa using hu) fun h' st' sb=>?_
  have I1:Inv X pins σ H { s with heap:=h' }:=I.turned (t':=s.toks) (fun b o hb e=>(sb.2 b hb).trans e) f0 f1 f3 f4 f5
  obtain ⟨o,e,c,d⟩:=id st'
  exact ⟨u,rfl,go_of (s:={ s with heap:=h' }) e c d (by decide) ⟨x,H,I1,ru,⟨rfl,fun ys hy=>by rw [I.tuple_inj hy hq];exact hx⟩,st',fun b hb=>(hf b hb).1⟩⟩
 done:=by
  intro X hP hw hK hc i pins s σ H E I hf st hg
  subst hP hw hK
  obtain ⟨xs,hq,hx⟩:=hg
  obtain ⟨its,rv,p,hz⟩:=I.tuple hq
  obtain ⟨f0,f1,f2,f3,f4,f5⟩:=hf it (by simp)
  have hl:=rv.length
  exact wpAny_pyNext_tuple_end (I.ok.hd hc) st (show s.heap.IsTuple a its.toArray from p) (by simp;lia) fun h' eb=>⟨rfl,I.turned (t':=s.toks) (fun b o hb e=>eb b o hb e) f0 f1 f3 f4 f5⟩
 self:=fun _ _ _ _ _ st h=>wpAny_pyIter_tupleiter st h
theorem turn_range {P:Program} {w:World} {K:PySem.W.Frag} {tg:Expr} (it:Addr) (lo:Int) (n:Nat):Turn P w K tg (Itr lo n) [it] it (fun i h=>IsRangeIter h it (lo + (i:Nat) * 1) ((n:Int) - (i:Nat)) 1) where
 mem:=by simp
 obj:=fun i h st b hb=>by
  have e:b=it:=by simpa using hb
  subst e
  exact ⟨_,st,fun v z=>by
   have z':Data.fields _=Data.cell v:=z
   cases z'⟩
 keep:=fun i h h' st k=>k it (by simp) _ st
 item:=by
  intro X hP hw hK hc i pins s σ H E I hf st hg
  subst hP hw hK
  obtain ⟨f0,f1,f2,f3,f4,f5⟩:=hf it (by simp)
  have W:=Walks.range (prog:=X.prog) (w:=X.w) (I.ok.hd hc) it lo 1 n
  refine W.item i s _ _ hg st fun v h' tk hv st' kk=>?_
  obtain ⟨t,rfl⟩:=hv
  have I1:Inv X pins σ H { s with heap:=h',toks:=tk }:=I.turned (fun b o hb e=>kk b o (by simpa using hb) e) f0 f1 f3 f4 f5
  refine ⟨_,rfl,go_of (s:={ s with heap:=h',toks:=tk }) (n:="range_iterator") st' rfl rfl (by decide) ⟨.int (lo + i),H,I1,⟨t,?_⟩,⟨rfl,rfl⟩,st',fun b hb=>(hf b hb).1⟩⟩
  rw [Int.mul_one]
 done:=by
  intro X hP hw hK hc i pins s σ H E I hf st hg
  subst hP hw hK
  obtain ⟨f0,f1,f2,f3,f4,f5⟩:=hf it (by simp)
  exact wpAny_pyNext_range_end (I.ok.hd hc) st (by have:n≤i:=hg;lia) fun h' eb=>⟨rfl,I.turned (t':=s.toks) (fun b o hb e=>eb b o hb e) f0 f1 f3 f4 f5⟩
 self:=fun _ _ _ _ _ st h=>wpAny_pyIter_rangeiter st h
end L2
namespace L2
open PySem PySem.Spec PyProof.Rows
section
variable {X:Cx} {tg:Expr}
noncomputable def iList (K:PySem.W.Frag) (tl:TE):TI:=fun σ H R=>tl σ H fun x H1=>∃ a,x=.ref a∧(∃ xs,SqL K H1 a xs)∧R (Itl K a) H1
noncomputable def iTup (K:PySem.W.Frag) (tl:TE):TI:=fun σ H R=>tl σ H fun x H1=>∃ a,x=.ref a∧(∃ xs,SqT K H1 a xs)∧R (Itt K a) H1
theorem pi_list {l:Expr} {tl:TE} (hl:PE X l tl):PI X tg l (iList X.K tl):=by
 intro pins s σ H R I h
 refine thn (hl pins s σ H _ I h) fun v s1 ⟨x,H1,I1,r1,q1⟩=>?_
 obtain ⟨a,e,⟨xs,hq⟩,q⟩:=q1
 subst e
 cases r1
 obtain ⟨its,rv,p,hz⟩:=I1.list hq
 refine wpAny_pyIter_list p.isList ?_
 refine ⟨s1.heap.objs.size,[s1.heap.objs.size],_,_,H1,rfl,I1.kept (t':=s1.toks) fun b o e=>Heap.get?_push_of_some _ e,turn_list a _,⟨_,Heap.get?_push_size _ rfl,rfl,rfl⟩,fun b hb=>?_,q⟩
 have e:b=s1.heap.objs.size:=by simpa using hb
 subst e
 exact I1.fpOk (Nat.le_refl _) (I1.hok.fresh (Nat.le_refl _))
theorem pi_tup {l:Expr} {tl:TE} (hl:PE X l tl):PI X tg l (iTup X.K tl):=by
 intro pins s σ H R I h
 refine thn (hl pins s σ H _ I h) fun v s1 ⟨x,H1,I1,r1,q1⟩=>?_
 obtain ⟨a,e,⟨xs,hq⟩,q⟩:=q1
 subst e
 cases r1
 obtain ⟨its,rv,p,hz⟩:=I1.tuple hq
 refine wpAny_pyIter_tuple (show s1.heap.IsTuple a its.toArray from p) ?_
 refine ⟨s1.heap.objs.size,[s1.heap.objs.size],_,_,H1,rfl,I1.kept (t':=s1.toks) fun b o e=>Heap.get?_push_of_some _ e,turn_tuple a _,⟨_,Heap.get?_push_size _ rfl,rfl,rfl⟩,fun b hb=>?_,q⟩
 have e:b=s1.heap.objs.size:=by simpa using hb
 subst e
 exact I1.fpOk (Nat.le_refl _) (I1.hok.fresh (Nat.le_refl _))
theorem range_it {pins:List (Addr×Obj)} {σ:St} {H:Hp} {s:Shared} {R:It→Hp→Prop} {E:Value→Shared→Prop} {lo hi:Int} {t u v:Tok} {tk:Nat} (I:Inv X pins σ H s) (h1:-(2 ^ 62)≤lo) (h2:lo<2 ^ 62) (h3:-(2 ^ 62)≤hi) (h4:hi<2 ^ 62)
  (q:R (Itr lo (hi - lo).toNat) H):wpAny (model X.prog X.w) X.A (pyIter (.ref s.heap.objs.size)) (PIE X pins σ tg R) E { s with heap:=s.heap.push { cls:=.type "range",data:=.fields #[.int lo t,.int hi u,.int 1 v] },toks:=tk }:=by
 refine wpAny_pyIter_range (IsRange.new ..) (small_one h1 h2 h3 h4) ?_
 have I1:Inv X pins σ H { s with heap:=s.heap.push { cls:=.type "range",data:=.fields #[.int lo t,.int hi u,.int 1 v] },toks:=tk }:=I.kept fun b o e=>Heap.get?_push_of_some _ e
 refine ⟨(s.heap.push { cls:=.type "range",data:=.fields #[.int lo t,.int hi u,.int 1 v] }).objs.size,[(s.heap.push { cls:=.type "range",data:=.fields #[.int lo t,.int hi u,.int 1 v] }).objs.size],_,_,H,rfl,
  I1.kept (t':=tk) fun b o e=>Heap.get?_push_of_some _ e,turn_range _ lo (hi - lo).toNat,?_,fun b hb=>?_,q⟩
 ·have e1:lo + ((0:Nat):Int) * 1=lo:=by simp
  have e2:(((hi - lo).toNat:Nat):Int) - ((0:Nat):Int)=Builtin.Range.rangeSize lo hi 1:=by rw [rangeSize_one];split <;> lia
  show IsRangeIter _ _ (lo + ((0:Nat):Int) * 1) ((((hi - lo).toNat:Nat):Int) - ((0:Nat):Int)) 1
  rw [e1,e2]
  exact Heap.get?_push_size _ rfl
 ·have e:b=(s.heap.push { cls:=.type "range",data:=.fields #[.int lo t,.int hi u,.int 1 v] }).objs.size:=by simpa using hb
  subst e
  exact I1.fpOk (Nat.le_refl _) (I1.hok.fresh (Nat.le_refl _))
noncomputable def iRng1 (ta:TA):TI:=fun σ H R=>ta σ H fun vs H1=>∃ j:Int,vs=[.int j]∧-(2 ^ 62)≤j∧j<2 ^ 62∧R (Itr 0 j.toNat) H1
theorem pi_range1 {a:Expr} {ta:TA} {p pos:Pos} (hg:Gl X "range") (hm:X.mg "range"=none) (ha:PA X [a] ta) (hs:starEach [a] X.env=[(false,eval a X.env)]:=by rfl):PI X tg (.Call (.Name "range" p) [a] [] pos) (iRng1 ta):=by
 intro pins s σ H R I h
 refine Call_ (ld_blt I hg hm boot_range (PyProof.Rows.callWith_type1 (thn (ha pos pins s σ H _ I h) fun us s1 ⟨vs,H1,I1,r1,q1⟩=>?_) hs rfl))
 obtain ⟨j,e,q1,q2,q⟩:=q1
 subst e
 cases r1 with
 | cons r rr =>
  cases rr
  obtain ⟨t,rfl⟩:=r
  exact call_range_1 (range_it I1 (by lia) (by lia) q1 q2 (by simpa using q))
noncomputable def tFor (wi:TI) (g:TG) (tb:TS):TS:=fun D σ H=>wi σ H fun J H1=>∃ W:Nat→Nat→St→Hp→Prop,(∃ m,W 0 m σ H1)∧∀ i m σ H,W i m σ H →
 (J.stop i H∧D.nx σ H)∨(J.go i H∧∃ N:St→Hp→Prop,(∀ σ' H',N σ' H'→∃ m',m'<m∧W (i + 1) m' σ' H')∧∀ x H',J.yld i H x H'→g x σ H' fun σ2 H2=>tb { D with nx:=N,ct:=N,bk:=D.nx } σ2 H2)
noncomputable def pinsAt (fp:List Addr) (h:Heap):List (Addr×Obj):=fp.filterMap fun b=>(h.get? b).map fun o=>(b,o)
theorem mem_pinsAt {fp:List Addr} {h:Heap} {b:Addr} {o:Obj} (hb:b∈fp) (e:h.get? b=some o):(b,o)∈pinsAt fp h:=List.mem_filterMap.mpr ⟨b,hb,by rw [e];rfl⟩
theorem of_pinsAt {fp:List Addr} {h:Heap} {p:Addr×Obj} (hp:p∈pinsAt fp h):p.1∈fp∧h.get? p.1=some p.2:=by
 obtain ⟨b,hb,e⟩:=List.mem_filterMap.mp hp
 cases q:h.get? b with
 | none=>rw [q] at e;cases e
 | some o =>
  rw [q] at e
  have e':(b,o)=p:=Option.some.inj e
  subst e'
  exact ⟨hb,q⟩
theorem Inv.pinned {pins:List (Addr×Obj)} {σ:St} {H:Hp} {s:Shared} {fp:List Addr} (I:Inv X pins σ H s) (hf:∀ b∈fp,FpOk X pins H b) (ho:∀ b∈fp,∃ o,s.heap.get? b=some o∧∀ v,o.data≠.cell v):Inv X (pins ++ pinsAt fp s.heap) σ H s :=
 I.pins_of fun p hp=>(List.mem_append.mp hp).elim (fun z=>I.pin p (List.mem_append_right _ z)) fun z=>by
  obtain ⟨hb,e⟩:=of_pinsAt z
  obtain ⟨f0,f1,f2,_⟩:=hf p.1 hb
  obtain ⟨o,e',d⟩:=ho p.1 hb
  rw [e] at e';cases e'
  exact ⟨e,f0,f1,f2,d⟩
theorem Inv.unpinned {pins pl:List (Addr×Obj)} {σ:St} {H:Hp} {s:Shared} (I:Inv X (pins ++ pl) σ H s):Inv X pins σ H s:=I.pins_of fun p hp=>I.pin p (List.mem_append_right _ (List.mem_append_left _ hp))
theorem ps_for {iter:Expr} {body:List Stmt} {wi:TI} {g:TG} {tb:TS} {pos:Pos} (hp:PassesOwn (model X.prog X.w) X.A X.env X.xe) (hc:X.calm=true) (hi:PI X tg iter wi) (hg:PG X tg g) (hb:PSs X body tb)
  (hs:∀ x,foldedSetIterable iter X.env x=pure x:=by intro _;rfl):PS X (.For tg iter body [] pos) (tFor wi g tb):=by
 intro pins s σ H D I h
 refine wpAny_For (thn (hi pins s σ H _ I h) fun v s1 h1=>thn h1 fun itv s2 h2=>?_) hs
 obtain ⟨it,fp,tn,J,H2,e,I2,T,st2,f2,W,⟨m0,w0⟩,turn⟩:=h2
 subst e
 -- what stays true of the iterator's objects through the loop
 have stat:∀ {H':Hp},(∀ b∈fp,H' b=none)→∀ b∈fp,FpOk X pins H' b:=fun hn b hb=>⟨hn b hb,(f2 b hb).2⟩
 refine codeAny_forLoop_any (fun n s'=>∃ i σ' H',Inv X pins σ' H' s'∧tn i s'.heap∧(∀ b∈fp,H' b=none)∧W i n σ' H') ?_ m0 ⟨0,σ,H2,I2,st2,fun b hb=>(f2 b hb).1,w0⟩
 rintro n s3 ⟨i,σ3,H3,I3,st3,fr3,w3⟩
 rcases turn i n σ3 H3 w3 with ⟨stop,qn⟩ | ⟨go,N,hN,step⟩
 ·refine wpAny_passesOwn hp (thn (T.done X rfl rfl rfl hc i pins s3 σ3 H3 X.xe I3 (stat fr3) st3 stop) fun r s4 ⟨hr,I4⟩=>?_)
  subst hr
  exact wpAny_execs_nil ⟨σ3,H3,I4,qn⟩
 ·refine wpAny_passesOwn hp (thn (T.item X rfl rfl rfl hc i pins s3 σ3 H3 X.xe I3 (stat fr3) st3 go) fun r s4 ⟨u,hr,h4⟩=>?_)
  subst hr
  refine wpAny_passesOwn hp (thn h4 fun _ s5 ⟨x,H5,I5,r5,y5,st5,fr5⟩=>?_)
  have I5':=I5.pinned (stat fr5) (T.obj _ _ st5)
  refine wpAny_passesOwn hp (thn (hg _ s5 σ3 H5 x u _ I5' r5 (step x H5 y5)) fun _ s6 ⟨σ6,H6,I6,q6⟩=>?_)
  refine wpAny_passesOwn hp (thn (hb _ s6 σ6 H6 _ I6 q6) fun f s7 q7=>?_)
  have again:∀ {σ7:St} {H7:Hp},Inv X (pins ++ pinsAt fp s5.heap) σ7 H7 s7→N σ7 H7→∃ m,m<n∧∃ i σ' H',Inv X pins σ' H' s7∧tn i s7.heap∧(∀ b∈fp,H' b=none)∧W i m σ' H':=fun {σ7 H7} I7 n7=>by
   obtain ⟨m',hm,w7⟩:=hN σ7 H7 n7
   refine ⟨m',hm,i + 1,σ7,H7,I7.unpinned,T.keep _ _ _ st5 fun b hb o e=>(I7.pin (b,o) (List.mem_append_right _ (List.mem_append_right _ (mem_pinsAt hb e)))).1,fun b hb=>?_,w7⟩
   obtain ⟨o,e,d⟩:=T.obj _ _ st5 b hb
   exact (I7.pin (b,o) (List.mem_append_right _ (List.mem_append_right _ (mem_pinsAt hb e)))).2.1
  cases f with
  | next=>obtain ⟨σ7,H7,I7,n7⟩:=q7;exact again I7 n7
  | cont=>obtain ⟨σ7,H7,I7,n7⟩:=q7;exact again I7 n7
  | brk=>obtain ⟨σ7,H7,I7,q7⟩:=q7;exact ⟨σ7,H7,I7.unpinned,q7⟩
  | ret v=>obtain ⟨x7,σ7,H7,I7,r7,q7⟩:=q7;exact ⟨x7,σ7,H7,I7.unpinned,r7,q7⟩
end
theorem for_list {K:PySem.W.Frag} {a:Addr} {xs:List V} {g:TG} {tb:TS} {D:Ends} {σ:St} {H:Hp} (Pv:Nat→St→Hp→Prop) (h0:Pv 0 σ H) (hl:∀ i σ H,i≤xs.length→Pv i σ H→SqL K H a xs)
  (hs:∀ i x σ H,xs[i]?=some x→Pv i σ H→g x σ H fun σ2 H2=>tb { D with nx:=Pv (i + 1),ct:=Pv (i + 1),bk:=D.nx } σ2 H2) (hd:∀ σ H,Pv xs.length σ H→D.nx σ H) :
  ∃ W:Nat→Nat→St→Hp→Prop,(∃ m,W 0 m σ H)∧∀ i m σ H,W i m σ H →
   ((Itl K a).stop i H∧D.nx σ H)∨((Itl K a).go i H∧∃ N:St→Hp→Prop,(∀ σ' H',N σ' H'→∃ m',m'<m∧W (i + 1) m' σ' H')∧∀ x H',(Itl K a).yld i H x H'→g x σ H' fun σ2 H2=>tb { D with nx:=N,ct:=N,bk:=D.nx } σ2 H2):=by
 refine ⟨fun i m σ H=>m=xs.length - i∧i≤xs.length∧Pv i σ H,⟨xs.length,by simp,Nat.zero_le _,h0⟩,?_⟩
 rintro i m σ H ⟨rfl,hi,p⟩
 have q:=hl i σ H hi p
 by_cases hlt:i<xs.length
 ·refine .inr ⟨⟨xs,xs[i],q,by simp [hlt]⟩,Pv (i + 1),fun σ' H' p'=>⟨xs.length - (i + 1),by lia,rfl,hlt,p'⟩,fun x H' y=>?_⟩
  obtain ⟨e,y⟩:=y
  subst e
  exact hs i x σ _ (y xs q) p
 ·have e:i=xs.length:=by lia
  subst e
  exact .inl ⟨⟨xs,q,Nat.le_refl _⟩,hd σ H p⟩
theorem for_range {lo:Int} {n:Nat} {g:TG} {tb:TS} {D:Ends} {σ:St} {H:Hp} (Pv:Nat→St→Hp→Prop) (h0:Pv 0 σ H)
  (hs:∀ i σ H,i<n→Pv i σ H→g (.int (lo + i)) σ H fun σ2 H2=>tb { D with nx:=Pv (i + 1),ct:=Pv (i + 1),bk:=D.nx } σ2 H2) (hd:∀ σ H,Pv n σ H→D.nx σ H) :
  ∃ W:Nat→Nat→St→Hp→Prop,(∃ m,W 0 m σ H)∧∀ i m σ H,W i m σ H →
   ((Itr lo n).stop i H∧D.nx σ H)∨((Itr lo n).go i H∧∃ N:St→Hp→Prop,(∀ σ' H',N σ' H'→∃ m',m'<m∧W (i + 1) m' σ' H')∧∀ x H',(Itr lo n).yld i H x H'→g x σ H' fun σ2 H2=>tb { D with nx:=N,ct:=N,bk:=D.nx } σ2 H2):=by
 refine ⟨fun i m σ H=>m=n - i∧i≤n∧Pv i σ H,⟨n,by simp,Nat.zero_le _,h0⟩,?_⟩
 rintro i m σ H ⟨rfl,hi,p⟩
 by_cases hlt:i<n
 ·refine .inr ⟨hlt,Pv (i + 1),fun σ' H' p'=>⟨n - (i + 1),by lia,rfl,hlt,p'⟩,fun x H' y=>?_⟩
  obtain ⟨e,y⟩:=y
  subst e y
  exact hs i σ _ hlt p
 ·have e:i=n:=by lia
  subst e
  exact .inl ⟨Nat.le_refl _,hd σ H p⟩
end L2
namespace L2
open PySem PySem.Spec PyProof.Rows
noncomputable abbrev R2:=V→V→Hp→VK→Prop
noncomputable def OpR (X:Cx) (f:Value→Value→Sem Value) (r:R2):Prop :=
 ∀ (pins:List (Addr×Obj)) (s:Shared) (σ:St) (H:Hp) (x y:V) (v u:Value) (Q:VK),Inv X pins σ H s→RelV x v→RelV y u→r x y H Q →
  wpAny (model X.prog X.w) X.A (f v u) (EP X pins σ Q) X.xe s
noncomputable def UnR (X:Cx) (f:Value→Sem Value) (r:V→Hp→VK→Prop):Prop :=
 ∀ (pins:List (Addr×Obj)) (s:Shared) (σ:St) (H:Hp) (x:V) (v:Value) (Q:VK),Inv X pins σ H s→RelV x v→r x H Q →
  wpAny (model X.prog X.w) X.A (f v) (EP X pins σ Q) X.xe s
noncomputable def CallR (X:Cx) (f:Value) (r:List V→Hp→VK→Prop):Prop :=
 ∀ (pins:List (Addr×Obj)) (s:Shared) (σ:St) (H:Hp) (xs:List V) (us:List Value) (Q:VK),Inv X pins σ H s→Vals xs us→r xs H Q →
  wpAny (model X.prog X.w) X.A (call f us) (EP X pins σ Q) X.xe s
noncomputable def tOp (r:R2) (ta tb:TE):TE:=fun σ H Q=>ta σ H fun x H1=>tb σ H1 fun y H2=>r x y H2 Q
noncomputable def tUn (r:V→Hp→VK→Prop) (ta:TE):TE:=fun σ H Q=>ta σ H fun x H1=>r x H1 Q
noncomputable def rI (C:Int→Int→Prop) (g:Int→Int→V):R2:=fun x y H Q=>∃ i j,x=.int i∧y=.int j∧C i j∧Q (g i j) H
noncomputable def rI0 (g:Int→Int→V):R2:=fun x y H Q=>∃ i j,x=.int i∧y=.int j∧Q (g i j) H
noncomputable def rU (g:Int→V):V→Hp→VK→Prop:=fun x H Q=>∃ i,x=.int i∧Q (g i) H
section
variable {X:Cx} {a b c:Expr} {ta tb tc:TE} {pos:Pos}
theorem binT (ha:PE X a ta) (hb:PE X b tb) {pins:List (Addr×Obj)} {s:Shared} {σ:St} {H:Hp} {R:V→V→Hp→Prop} (I:Inv X pins σ H s)
  (h:ta σ H fun x H1=>tb σ H1 fun y H2=>R x y H2) {Q:Value→Shared→Prop} {f:Value→Value→Sem Value}
  (hf:∀ v u s2 x y H2,Inv X pins σ H2 s2→RelV x v→RelV y u→R x y H2→wpAny (model X.prog X.w) X.A (f v u) Q X.xe s2) :
  wpAny (model X.prog X.w) X.A (eval a X.env) (fun v s₁=>wpAny (model X.prog X.w) X.A (eval b X.env) (fun u s₂=>wpAny (model X.prog X.w) X.A (f v u) Q X.xe s₂) X.xe s₁) X.xe s:=by
 refine thn (ha pins s σ H _ I h) fun v s1 ⟨x,H1,I1,r1,q1⟩=>?_
 refine thn (hb pins s1 σ H1 _ I1 q1) fun u s2 ⟨y,H2,I2,r2,q2⟩=>?_
 exact hf v u s2 x y H2 I2 r1 r2 q2
theorem pe_op {op:Operator} {r:R2} (ho:OpR X (binaryOp op) r) (ha:PE X a ta) (hb:PE X b tb):PE X (.BinOp a op b pos) (tOp r ta tb):=by
 intro pins s σ H Q I h
 exact wpAny_BinOp (binT ha hb I h fun v u s2 x y H2 I2 rx ry q=>ho pins s2 σ H2 x y v u Q I2 rx ry q)
theorem pe_un {op:UnaryOp} {r:V→Hp→VK→Prop} (ho:UnR X (unaryOp op) r) (ha:PE X a ta):PE X (.UnaryOp op a pos) (tUn r ta):=by
 intro pins s σ H Q I h
 exact UnaryOp_ (thn (ha pins s σ H _ I h) fun v s1 ⟨x,H1,I1,r1,q1⟩=>ho pins s1 σ H1 x v Q I1 r1 q1)
theorem opI {f:Value→Value→Sem Value} {C:Int→Int→Prop} {g:Int→Int→Int}
  (rule:∀ (i j:Int) (t u:Tok) (s:Shared) (Q:Value→Shared→Prop) (E:Value→Shared→Prop),C i j→Q (.int (g i j) s.toks) { s with toks:=s.toks + 1 }→wpAny (model X.prog X.w) X.A (f (.int i t) (.int j u)) Q E s) :
  OpR X f (rI C fun i j=>.int (g i j)):=by
 intro pins s σ H x y v u Q I rx ry h
 obtain ⟨i,j,rfl,rfl,hc,q⟩:=h
 obtain ⟨t,rfl⟩:=rx
 obtain ⟨t',rfl⟩:=ry
 exact rule i j t t' s _ _ hc ⟨.int (g i j),H,I.tok _,⟨_,rfl⟩,q⟩
theorem opI0 {f:Value→Value→Sem Value} {g:Int→Int→Int}
  (rule:∀ (i j:Int) (t u:Tok) (s:Shared) (Q:Value→Shared→Prop) (E:Value→Shared→Prop),Q (.int (g i j) s.toks) { s with toks:=s.toks + 1 }→wpAny (model X.prog X.w) X.A (f (.int i t) (.int j u)) Q E s) :
  OpR X f (rI0 fun i j=>.int (g i j)):=by
 intro pins s σ H x y v u Q I rx ry h
 obtain ⟨i,j,rfl,rfl,q⟩:=h
 obtain ⟨t,rfl⟩:=rx
 obtain ⟨t',rfl⟩:=ry
 exact rule i j t t' s _ _ ⟨.int (g i j),H,I.tok _,⟨_,rfl⟩,q⟩
theorem opB0 {f:Value→Value→Sem Value} {g:Int→Int→Bool}
  (rule:∀ (i j:Int) (t u:Tok) (s:Shared) (Q:Value→Shared→Prop) (E:Value→Shared→Prop),Q (.bool (g i j)) s→wpAny (model X.prog X.w) X.A (f (.int i t) (.int j u)) Q E s) :
  OpR X f (rI0 fun i j=>.bl (g i j)):=by
 intro pins s σ H x y v u Q I rx ry h
 obtain ⟨i,j,rfl,rfl,q⟩:=h
 obtain ⟨t,rfl⟩:=rx
 obtain ⟨t',rfl⟩:=ry
 exact rule i j t t' s _ _ ⟨.bl (g i j),H,I,rfl,q⟩
noncomputable def CPow (i j:Int):Prop:=0≤j∧j≤1000000∧i.natAbs<2 ^ 64
noncomputable def CMul (i j:Int):Prop:=(-(2 ^ 64)<i∧i<2 ^ 64)∨(-(2 ^ 64)<j∧j<2 ^ 64)
theorem CMul.ok {i j:Int} (h:CMul i j):IntMulOk i j:=by
 rcases h with ⟨h1,h2⟩ | ⟨h1,h2⟩
 ·exact .of_left (intBits_le_64 h1 h2)
 ·exact .of_right (intBits_le_64 h1 h2)
theorem op_add:OpR X (binaryOp .Add) (rI0 fun i j=>.int (i + j)):=opI0 fun _ _ _ _ _ _ _ q=>add_int q
theorem op_sub:OpR X (binaryOp .Sub) (rI0 fun i j=>.int (i - j)):=opI0 fun _ _ _ _ _ _ _ q=>sub_int q
theorem op_mul:OpR X (binaryOp .Mult) (rI CMul fun i j=>.int (i * j)):=opI fun _ _ _ _ _ _ _ hc q=>mul_int q hc.ok
theorem op_mod:OpR X (binaryOp .Mod) (rI (fun _ j=>0<j) fun i j=>.int (i % j)):=opI fun i j _ _ _ _ _ hc q=>by
 have h1:(0:Int)<j:=hc
 exact mod_int' (by lia) (by rw [Int.fmod_eq_emod_of_nonneg i (by lia)];exact q)
theorem op_pow:OpR X (binaryOp .Pow) (rI CPow fun i j=>.int (i ^ j.toNat)):=opI fun _ _ _ _ _ _ _ hc q=>pow_int_small hc.1 hc.2.1 hc.2.2 q
theorem unI {f:Value→Sem Value} {g:Int→Int}
  (rule:∀ (i:Int) (t:Tok) (s:Shared) (Q:Value→Shared→Prop) (E:Value→Shared→Prop),Q (.int (g i) s.toks) { s with toks:=s.toks + 1 }→wpAny (model X.prog X.w) X.A (f (.int i t)) Q E s) :
  UnR X f (rU fun i=>.int (g i)):=by
 intro pins s σ H x v Q I rx h
 obtain ⟨i,rfl,q⟩:=h
 obtain ⟨t,rfl⟩:=rx
 exact rule i t s _ _ ⟨.int (g i),H,I.tok _,⟨_,rfl⟩,q⟩
theorem un_neg:UnR X (unaryOp .USub) (rU fun i=>.int (-i)):=unI fun _ _ _ _ _ q=>neg_int q
end
section
variable {X:Cx} {a b c:Expr} {ta tb tc:TE} {pos:Pos}
theorem op_lt:OpR X (compareOp .Lt) (rI0 fun i j=>.bl (decide (i<j))):=opB0 fun _ _ _ _ _ _ _ q=>lt_int q
theorem op_le:OpR X (compareOp .LtE) (rI0 fun i j=>.bl (decide (i≤j))):=opB0 fun _ _ _ _ _ _ _ q=>le_int q
theorem op_gt:OpR X (compareOp .Gt) (rI0 fun i j=>.bl (decide (j<i))):=opB0 fun _ _ _ _ _ _ _ q=>gt_int q
theorem nomark (b:Expr) {op:CmpOp} (h:op≠.In:=by decide) (h2:op≠.NotIn:=by decide):behindInMarks op b=false:=by
 have e1:(op == CmpOp.In)=false:=by cases op <;> first | rfl | exact absurd rfl h
 have e2:(op == CmpOp.NotIn)=false:=by cases op <;> first | rfl | exact absurd rfl h2
 cases b <;> simp [behindInMarks,e1,e2]
theorem pe_cmpR {op:CmpOp} {r:R2} (ho:OpR X (compareOp op) r) (ha:PE X a ta) (hb:PE X b tb) (hm:behindInMarks op b=false):PE X (.Compare a [op] [b] pos) (tOp r ta tb):=by
 intro pins s σ H Q I h
 exact wpAny_Compare1 (binT ha hb I h fun v u s2 x y H2 I2 rx ry q=>ho pins s2 σ H2 x y v u Q I2 rx ry q) hm
noncomputable def tTest (t:TE):TT:=fun σ H Q=>t σ H fun x H'=>∃ k,x=.bl k∧Q k H'
theorem pt_cmpR {op:CmpOp} {r:R2} (ho:OpR X (compareOp op) r) (ha:PE X a ta) (hb:PE X b tb) (hm:behindInMarks op b=false):PT X (.Compare a [op] [b] pos) (tTest (tOp r ta tb)):=by
 intro pins s σ H Q I h
 refine wpAny_isTrue_Compare1 (thn (ha pins s σ H _ I h) fun v s1 ⟨x,H1,I1,r1,q1⟩=>thn (hb pins s1 σ H1 _ I1 q1) fun u s2 ⟨y,H2,I2,r2,q2⟩ =>
  thn (ho pins s2 σ H2 x y v u _ I2 r1 r2 q2) fun c s3 ⟨z,H3,I3,r3,k,e,q3⟩=>?_) hm
 subst e
 cases r3
 exact wpAny_truthy_bool ⟨H3,I3,q3⟩
theorem line63:(sizeLine:Nat)<2 ^ 63:=by rw [sizeLine_eq];decide
theorem op_add_str:OpR X (binaryOp .Add) (fun x y H Q=>∃ i j,x=.str i∧y=.str j∧i.length + j.length≤sizeLine∧Q (.str (i ++ j)) H):=by
 intro pins s σ H x y v u Q I rx ry h
 obtain ⟨i,j,rfl,rfl,hz,q⟩:=h
 obtain ⟨t,rfl⟩:=rx
 obtain ⟨t',rfl⟩:=ry
 exact add_str (fun t' tk=>⟨.str (i ++ j),H,I.tok _,⟨_,rfl⟩,q⟩) hz
theorem vals1 {x:V} {us:List Value} (r:Vals [x] us):∃ u,us=[u]∧RelV x u:=by
 cases r with
 | cons r1 r2=>cases r2;exact ⟨_,rfl,r1⟩
theorem vals2 {x y:V} {us:List Value} (r:Vals [x,y] us):∃ u w',us=[u,w']∧RelV x u∧RelV y w':=by
 cases r with
 | cons r1 r2 =>
  cases r2 with
  | cons r3 r4=>cases r4;exact ⟨_,_,rfl,r1,r3⟩
end
end L2
namespace L2
open PySem PySem.Spec PyProof.Rows
structure ObjM (h:Heap) (x dx C:Addr) (mA:Str→Option Value):Prop where
 obj:h.get? x=some (PySem.W.instObj C dx)
 ns:h.Ns1 dx mA
 ne:dx≠x
theorem lookIn_ns {h:Heap} {dx:Addr} {mA:Str→Option Value} (n:h.Ns1 dx mA):∃ od,h.get? dx=some od∧∀ name,PySem.W.lookIn name od=some (mA name):=by
 obtain ⟨o,es,ep,ho,hd,hk,_,hm⟩:=n
 refine ⟨o,ho,fun name=>?_⟩
 have e:=hm name
 unfold nsFind findBy at e
 rw [←Array.find?_toList] at e
 unfold PySem.W.lookIn
 rw [hd]
 dsimp only
 split
 ·rename_i y q
  rw [q] at e
  exact congrArg some e
 ·rename_i q
  rw [q] at e
  have a:es.toList.any (·.refKey)=false:=by
   rw [List.any_eq_false]
   intro y hy
   obtain ⟨z,t,hkey⟩:=hk y (Array.mem_toList_iff.mp hy)
   simp [DictEntry.refKey,hkey]
  have a':¬ es.toList.any (·.refKey)=true:=by rw [a];exact Bool.false_ne_true
  rw [if_neg a']
  exact congrArg some e
theorem ObjM.look {h:Heap} {x dx C:Addr} {mA:Str→Option Value} (I:ObjM h x dx C mA):∃ od,PySem.W.InstAt h x (PySem.W.instObj C dx) C (some od)∧∀ name,PySem.W.lookIn name od=some (mA name) :=
 let ⟨od,ho,hl⟩:=lookIn_ns I.ns
 ⟨od,⟨I.obj,rfl,rfl,ho⟩,hl⟩
section
variable {prog:Program} {w:World} {A:Around} {E:Value→Shared→Prop} {s:Shared} {K:PySem.W.Frag} {x dx C f:Addr} {mA:Str→Option Value} {name:Str} {v:Value}
end
theorem RelO.some_of {v:V} {o:Option Value} (r:RelO (some v) o):∃ u,o=some u∧RelV v u:=by
 cases o with
 | none=>exact (show False from r).elim
 | some u=>exact ⟨u,rfl,r⟩
theorem handed_of {v:V} {u:Value} (r:RelV v u):PySem.W.handedIn u=true:=by
 cases v with
 | non=>cases (show u=Value.none from r);rfl
 | bl b=>cases (show u=Value.bool b from r);rfl
 | int i=>obtain ⟨t,e⟩:=(show ∃ t,u=Value.int i t from r);cases e;rfl
 | str x=>obtain ⟨t,e⟩:=(show ∃ t,u=Value.str x t from r);cases e;rfl
 | byt b=>obtain ⟨t,e⟩:=(show ∃ t,u=Value.bytes b t from r);cases e;rfl
 | flt b=>obtain ⟨t,e⟩:=(show ∃ t,u=Value.float b t from r);cases e;rfl
 | ref a=>cases (show u=Value.ref a from r);rfl
 | ty n=>cases (show u=Value.type n from r);rfl
section
variable {P:Program} {w:World} {H H':Hp} {h h':Heap} {a C dx:Addr} {fs fs':List (Str×V)}
theorem ins_get (hok:HOk P w H h) (e:H a=some (.ins C dx fs)):∃ mA,ObjM h a dx C mA∧(∀ f,RelO (fs.lookup f) (mA f))∧PySem.Within mA (fs.map (·.1))∧fs.length≤1000∧H dx=some (.own a):=by
 obtain ⟨d,z,ne,ob,mA,n,r,q⟩:=(show ObjOk P w H h a (.ins C dx fs) from hok a _ e)
 exact ⟨mA,⟨ob,n,ne⟩,r,q,z,d⟩
end
structure Cls (K:PySem.W.Frag) (C:Addr):Prop where
 pg:PySem.W.plainGet K C Str.empty=true
 hd:PySem.W.hasDictIn K C=true
 po:PySem.W.plainOver K C=true
 sa:PySem.W.findIn K (.ref C) "__setattr__"=some (some (.builtin "object.__setattr__"))
theorem Cls.get {K:PySem.W.Frag} {C:Addr} (c:Cls K C) (f:Str):PySem.W.plainGet K C f=true:=c.pg
structure Con (K:PySem.W.Frag) (C:Addr) (f:Str) (v:V) (u:Value):Prop where
 at_:PySem.W.findIn K (.ref C) f=some (some u)
 rel:RelV v u
 get:PySem.W.specialIn K u "__get__"=some none
 cp:PySem.W.copiedNames.contains f=false
structure Meth (K:PySem.W.Frag) (C:Addr) (m:Str) (f:Addr):Prop where
 at_:PySem.W.findIn K (.ref C) m=some (some (.ref f))
 fn:PySem.W.isFn K (.ref f)=true
 kp:PySem.W.keepIn K (.ref f)=true
section
variable {X:Cx} {pins:List (Addr×Obj)} {σ:St} {H:Hp} {s:Shared} {a C dx:Addr} {fs:List (Str×V)} {f:Str} {v:V} {A:Around} {E:Value→Shared→Prop}
theorem attr_of {prog:Program} {w:World} {env:Env} {e:Expr} {f:Str} {pos:Pos} {s:Shared} {Q:Value→Shared→Prop} (hb:attributeBase e f env (eval e env)=eval e env)
  (h:wpAny (model prog w) A (eval e env) (fun o s₁=>wpAny (model prog w) A (getAttr o f true) Q E s₁) E s):wpAny (model prog w) A (eval (.Attribute e f pos) env) Q E s :=
 Attribute_any_ h (by rw [arm_eval_Attribute,hb])
end
noncomputable def InOp (X:Cx) (op:Operator) (rd:V→V→Hp→VK→Prop):Prop :=
 ∀ (pins:List (Addr×Obj)) (s:Shared) (σ:St) (H:Hp) (x y:V) (u v:Value) (Q:VK),Inv X pins σ H s→RelV x u→RelV y v→rd x y H Q→wpAny (model X.prog X.w) X.A (inplaceOp op u v) (EP X pins σ Q) X.xe s
section
variable {X:Cx} {o e value:Expr} {f:Str} {pos pos' tpos:Pos} {ta tv:TE}
noncomputable def rSub:V→V→Hp→VK→Prop:=fun x y H Q=>∃ i j,x=.int i∧y=.int j∧Q (.int (i - j)) H
theorem in_sub:InOp X .Sub rSub:=by
 rintro pins s σ H x y u v Q I rx ry ⟨i,j,rfl,rfl,q⟩
 obtain ⟨t,rfl⟩:=(show ∃ t,u=Value.int i t from rx)
 obtain ⟨t',rfl⟩:=(show ∃ t',v=Value.int j t' from ry)
 exact PyProof.Rows.isub_int ⟨.int (i - j),H,I.tok _,⟨_,rfl⟩,q⟩
end
section
variable {X:Cx} {pins:List (Addr×Obj)} {σ:St} {H:Hp} {s:Shared} {A:Around} {E:Value→Shared→Prop} {Q:Value→Shared→Prop} {c:Value} {b:Bool}
inductive TyOf (K:PySem.W.Frag) (H:Hp):V→Value→Prop where
 | non:TyOf K H .non (.type "NoneType")
 | bl (x:Bool):TyOf K H (.bl x) (.type "bool")
 | int (i:Int):TyOf K H (.int i) (.type "int")
 | str (x:Str):TyOf K H (.str x) (.type "str")
 | flt (x:UInt64):TyOf K H (.flt x) (.type "float")
 | lst {a:Addr} {xs:List V} (e:H a=some (.lst xs)):TyOf K H (.ref a) (.type "list")
 | frz {a:Addr} {o:Obj} {xs:List V} (e:H a=some (.frz o (.lst xs))):TyOf K H (.ref a) (.type "list")
 | tup {a:Addr} {xs:List V} (e:H a=some (.tup xs)):TyOf K H (.ref a) (.type "tuple")
 | dK {a:Addr} {kvs:List (Key×V)} (e:H a=some (.dK kvs)):TyOf K H (.ref a) (.type "dict")
 | dT {a:Addr} {kvs:List (List Key×V)} (e:H a=some (.dT kvs)):TyOf K H (.ref a) (.type "dict")
 | ins {a C dx:Addr} {fs:List (Str×V)} (e:H a=some (.ins C dx fs)) (cl:Cls K C) (ha:PySem.W.findIn K (.ref C) "__class__"=some (some (.builtin "object.__class__")))
   (hn:PySem.W.specialIn K (.builtin "object.__class__") "__get__"=some (some (.builtin "getset_descriptor.__get__"))) (htk:PySem.W.takesIn K (.builtin "object.__class__")=some true)
   (hm:PySem.W.mroIn K C (.type "object")=some true):TyOf K H (.ref a) (.ref C)
theorem isinst_ok {x:V} {u t:Value} (I:Inv X pins σ H s) (rx:RelV x u) (ty:TyOf X.K H x t) (e:PySem.W.kitOne X.K t c=some b) (h:∀ tk,Q (.bool b) { s with toks:=tk }) :
  wpAny (model X.prog X.w) A (call (.builtin "isinstance") [u,c]) Q E s:=by
 cases ty with
 | non=>cases (show u=Value.none from rx);exact PySem.W.kia_one PySem.W.kitx_none I.kIn True.intro e (fun z=>nomatch z) h
 | bl y=>cases (show u=Value.bool y from rx);exact PySem.W.kia_one PySem.W.kitx_bool I.kIn True.intro e (fun z=>nomatch z) h
 | int i=>obtain ⟨t,q⟩:=(show ∃ t,u=Value.int i t from rx);cases q;exact PySem.W.kia_one PySem.W.kitx_int I.kIn True.intro e (fun z=>nomatch z) h
 | str y=>obtain ⟨t,q⟩:=(show ∃ t,u=Value.str y t from rx);cases q;exact PySem.W.kia_one PySem.W.kitx_str I.kIn True.intro e (fun z=>nomatch z) h
 | flt y=>obtain ⟨t,q⟩:=(show ∃ t,u=Value.float y t from rx);cases q;exact PySem.W.kia_one PySem.W.kitx_float I.kIn True.intro e (fun z=>nomatch z) h
 | @lst a xs ea =>
  cases (show u=Value.ref a from rx)
  obtain ⟨_,_,n,_,h1⟩:=(show ObjOk X.prog X.w H s.heap a (.lst xs) from I.hok a _ ea)
  exact PySem.W.kia_one PySem.W.kitx_list I.kIn ⟨_,h1,rfl⟩ e (fun z=>nomatch z) h
 | @frz a ob xs ea =>
  cases (show u=Value.ref a from rx)
  obtain ⟨_,_,_,n,_,h1⟩:=(show ObjOk X.prog X.w H s.heap a (.frz ob (.lst xs)) from I.hok a _ ea)
  exact PySem.W.kia_one PySem.W.kitx_list I.kIn ⟨_,h1,rfl⟩ e (fun z=>nomatch z) h
 | @tup a xs ea =>
  cases (show u=Value.ref a from rx)
  obtain ⟨_,_,_,p⟩:=(show ObjOk X.prog X.w H s.heap a (.tup xs) from I.hok a _ ea)
  obtain ⟨o,h1,h2,_⟩:=p
  exact PySem.W.kia_one PySem.W.kitx_tuple I.kIn ⟨o,h1,h2⟩ e (fun z=>nomatch z) h
 | @dK a kvs ea =>
  cases (show u=Value.ref a from rx)
  obtain ⟨_,_,vs,_,p⟩:=(show ObjOk X.prog X.w H s.heap a (.dK kvs) from I.hok a _ ea)
  obtain ⟨o,es,ep,h1,h2,_⟩:=p
  exact PySem.W.kia_one PySem.W.kitx_dict I.kIn ⟨o,h1,h2.1⟩ e (fun z=>nomatch z) h
 | @dT a kvs ea =>
  cases (show u=Value.ref a from rx)
  obtain ⟨_,_,xs,_,o,es,ep,h1,h2,_⟩:=(show ObjOk X.prog X.w H s.heap a (.dT kvs) from I.hok a _ ea)
  exact PySem.W.kia_one PySem.W.kitx_dict I.kIn ⟨o,h1,h2.1⟩ e (fun z=>nomatch z) h
 | @ins a C dx fs ea cl ha hn htk hm =>
  cases (show u=Value.ref a from rx)
  obtain ⟨mA,O,_⟩:=ins_get I.hok ea
  obtain ⟨od,J,_⟩:=O.look
  exact PySem.W.kia_one (PySem.W.kitx_own (cl.get _) cl.hd ha hn htk hm) I.kIn J e (fun z=>nomatch z) h
end
end L2
namespace L2
open PySem PySem.Spec PyProof.Rows
structure Room (k:Nat) (A:Around):Prop where
 hd:A.handled=none
 dp:A.depth + 3 * k + 5<recursionLimit
 un:A.units + 16 * k + 200<cLine
theorem Room.mono {j k:Nat} {A:Around} (r:Room k A) (h:j≤k):Room j A:=⟨r.hd,by have:=r.dp;lia,by have:=r.un;lia⟩
theorem Room.deeper {k:Nat} {A:Around} (r:Room (k + 1) A) (env:Env):Room k (A.deeper env) :=
 ⟨r.hd,by have:=r.dp;show A.depth + 1 + 3 * k + 5<_;lia,by have:=r.un;show A.units + 3 + 16 * k + 200<_;lia⟩
theorem make_depth {A:Around} {C:Addr} {us:List Value} {kw:List (Str×Value)}:(A.under (.builtin "type.__call__" ⟨.ref C :: us,kw⟩)).depth=A.depth + 1:=by
 first | rfl | simp [Around.under,Code.weight,Code.isCreation,Code.isGuard,Code.isCaller,Code.frames,Code.isFrame,guardIds]
theorem make_units {A:Around} {C:Addr} {us:List Value} {kw:List (Str×Value)}:(A.under (.builtin "type.__call__" ⟨.ref C :: us,kw⟩)).units=A.units + 1:=by
 first | rfl | simp [Around.under,Code.cUnits,Code.frames,Code.isFrame]
theorem Room.make {k:Nat} {A:Around} (r:Room (k + 1) A) (C:Addr) (us:List Value) (kw:List (Str×Value)):Room k (A.under (.builtin "type.__call__" ⟨.ref C :: us,kw⟩)) :=
 ⟨r.hd,by have:=r.dp;rw [make_depth];lia,by have:=r.un;rw [make_units];lia⟩
theorem Room.depth {k:Nat} {A:Around} (r:Room k A):A.depth<recursionLimit:=by have:=r.dp;lia
theorem Room.units {k:Nat} {A:Around} (r:Room k A):A.units + 64<cLine:=by have:=r.un;lia
noncomputable def tNil:TA:=fun _ H Q=>Q [] H
noncomputable def tCons (ta:TE) (tr:TA):TA:=fun σ H Q=>ta σ H fun x H1=>tr σ H1 fun xs H2=>Q (x :: xs) H2
section
variable {X:Cx} {e:Expr} {es:List Expr} {te:TE} {t:TA} {pos:Pos}
theorem pa_nil:PA X [] tNil:=fun _ _ _ _ H Q I h=>Calls.spliced_nil ⟨[],H,I,.nil,h⟩
theorem pa_cons (ha:PE X e te) (hr:PA X es t) (hs:starEach (e :: es) X.env=(false,eval e X.env) :: starEach es X.env:=by rfl):PA X (e :: es) (tCons te t):=by
 intro pos pins s σ H Q I h
 rw [hs]
 show wpAny _ _ (spliced ((false,eval e X.env) :: backTo pos (starEach es X.env))) _ _ s
 refine Calls.spliced_cons (thn (ha pins s σ H _ I h) fun u s1 ⟨x,H1,I1,r1,q1⟩=>?_)
 exact thn (hr pos pins s1 σ H1 _ I1 q1) fun us s2 ⟨xs,H2,I2,r2,q2⟩=>⟨x :: xs,H2,I2,.cons r1 r2,q2⟩
noncomputable def tTup (t:TA):TE:=fun σ H Q=>t σ H fun xs H1=>xs.length≤sizeLine∧∀ p,H1 p=none→Q (.ref p) (upd H1 p (.tup xs))
noncomputable def tLst (t:TA):TE:=fun σ H Q=>t σ H fun xs H1=>xs.length≤sizeLine∧∀ p,H1 p=none→Q (.ref p) (upd H1 p (.lst xs))
theorem pe_tup {x1} (h:PA X es t):PE X (.Tuple es x1 pos) (tTup t):=by
 intro pins s σ H Q I hq
 refine wpAny_Tuple_spliced (thn (h pos pins s σ H _ I hq) fun us s1 ⟨xs,H1,I1,r,z,q⟩=>⟨by rw [←r.length];exact z,?_⟩)
 have hf:H1 s1.heap.objs.size=none:=I1.hok.fresh (Nat.le_refl _)
 refine ⟨.ref s1.heap.objs.size,upd H1 s1.heap.objs.size (.tup xs),I1.laid (t':=s1.toks) (fun b u e=>Heap.get?_push_of_some _ e) (Nat.le_refl _) ?_,rfl,q _ hf⟩
 exact ⟨z,us,r,TupO.new _ _⟩
theorem pe_lst (h:PA X es t):PE X (.List es pos) (tLst t):=by
 intro pins s σ H Q I hq
 refine wpAny_List_spliced (thn (h pos pins s σ H _ I hq) fun us s1 ⟨xs,H1,I1,r,z,q⟩=>⟨by rw [←r.length];exact z,?_⟩)
 have hf:H1 s1.heap.objs.size=none:=I1.hok.fresh (Nat.le_refl _)
 refine ⟨.ref s1.heap.objs.size,upd H1 s1.heap.objs.size (.lst xs),I1.laid (t':=s1.toks) (fun b u e=>Heap.get?_push_of_some _ e) (Nat.le_refl _) ?_,rfl,q _ hf⟩
 exact ⟨z,us,0,r,Heap.get?_push_size _ rfl⟩
end
noncomputable abbrev Sp:=List V→Hp→VK→XK→Prop
noncomputable abbrev CXT:=List Env→Hp→Shared→XK→Value→Shared→Prop
structure Env0 (P:Program) (w:World) (K:PySem.W.Frag) (mg:Str→Option Value) (base:Heap) (A:Around) (outer:List Env) (s:Shared) (H:Hp):Prop where
 frames:A.frames=some outer
 mod:Mod K mg base
 bs:∀ b o,base.get? b=some o→s.heap.get? b=some o∧H b=none
 bsz:base.objs.size≤s.heap.objs.size
 funs:s.heap.FunFrames base outer
 frf:∀ b∈frs outer,H b=none
 hok:HOk P w H s.heap
 bare:AllBare s.gens
noncomputable def CE (outer:List Env) (P:Program) (w:World) (H:Hp) (s:Shared) (Q:VK) (u:Value) (s':Shared):Prop :=
 ∃ v H',s'.os=s.os∧AllBare s'.gens∧Un (frs outer) [] H H' s.heap s'.heap∧HOk P w H' s'.heap∧RelV v u∧Q v H'
noncomputable def CR (CX:CXT) (outer:List Env) (P:Program) (w:World) (H:Hp) (s:Shared) (Q:VK) (E:XK) (r:Result) (s':Shared):Prop :=
 match r with
 | .ok (.ret u)=>CE outer P w H s Q u s'
 | .ok _=>False
 | .error e=>CX outer H s E e s'
structure FnOk (P:Program) (w:World) (K:PySem.W.Frag) (mg:Str→Option Value) (base:Heap) (CX:CXT) (k:Nat) (f:Addr) (fd:FuncData) (ps:List Str) (sp:Sp):Prop where
 len:∀ vs H Q E,sp vs H Q E→vs.length=ps.length
 run:∀ (A:Around) (outer:List Env) (s:Shared) (H:Hp) (args:Args) (us:List Value) (vs:List V) (Q:VK) (E:XK),Room k A→Env0 P w K mg base A outer s H→BindsTo s fd args (ps.zip us)→Vals vs us→sp vs H Q E →
  codeAny (model P w) A (.call (.ref f) args) (CR CX outer P w H s Q E) s
theorem FnOk.imp {P:Program} {w:World} {K:PySem.W.Frag} {mg:Str→Option Value} {base:Heap} {CX:CXT} {k:Nat} {f:Addr} {fd:FuncData} {ps:List Str} {sp sp':Sp} (F:FnOk P w K mg base CX k f fd ps sp)
  (h:∀ vs H Q E,sp' vs H Q E→sp vs H Q E):FnOk P w K mg base CX k f fd ps sp' :=
 ⟨fun vs H Q E q=>F.len vs H Q E (h _ _ _ _ q),fun A outer s H args us vs Q E hr he hb hv hs=>F.run A outer s H args us vs Q E hr he hb hv (h _ _ _ _ hs)⟩
theorem Env0.make {P:Program} {w:World} {K:PySem.W.Frag} {mg:Str→Option Value} {base:Heap} {A:Around} {outer:List Env} {s:Shared} {H:Hp} (e:Env0 P w K mg base A outer s H) (C:Addr) (us:List Value) (kw:List (Str×Value)) :
  Env0 P w K mg base (A.under (.builtin "type.__call__" ⟨.ref C :: us,kw⟩)) outer s H:=⟨by first | exact e.frames | (simpa [Around.under,Code.envs,Code.isFrame,pushEnvs] using e.frames),e.mod,e.bs,e.bsz,e.funs,e.frf,e.hok,e.bare⟩
section
variable {X:Cx} {pins:List (Addr×Obj)} {σ:St} {H:Hp} {s s':Shared}
theorem Inv.env0 (I:Inv X pins σ H s):Env0 X.prog X.w X.K X.mg X.base X.A X.stack s H :=
 ⟨I.ok.frames,I.ok.mod,I.bs,Nat.le_trans I.ok.bsz I.sz,I.stack,I.stkFree,I.hok,I.bare⟩
theorem Inv.after {Q:VK} {u:Value} (I:Inv X pins σ H s) (h:CE X.stack X.prog X.w H s Q u s'):EP X pins σ Q u s':=by
 obtain ⟨v,H',os,bare,un,hok,r,q⟩:=h
 obtain ⟨hh,g,d,t,os'⟩:=s'
 obtain rfl:os'=s.os:=os
 exact ⟨v,H',I.call (h':=hh) (g':=g) (d':=d) (t':=t) (ch:=[]) un hok bare (fun b z=>absurd z (by simp)),r,q⟩
end
noncomputable def tCall (sp:Sp) (dvs:List V) (E:XK) (t:TA):TE:=fun σ H Q=>t σ H fun vs H1=>sp (vs ++ dvs) H1 Q E
noncomputable def Binds (K:PySem.W.Frag) (fd:FuncData) (ps:List Str) (ds:List Value):Prop :=
 ∀ (s:Shared) (us:List Value),K.In s.heap→(us ++ ds).length=ps.length→BindsTo s fd ⟨us,[]⟩ (ps.zip (us ++ ds))
theorem Binds.all {K:PySem.W.Frag} {fd:FuncData} {ps:List Str} (h:∀ us:List Value,us.length=ps.length→bindArgs fd ⟨us,[]⟩=pure (ps.zip us)):Binds K fd ps []:=fun s us _ hl=>by
 rw [List.append_nil] at hl ⊢
 exact .of_eq (h us hl)
noncomputable def Passes (CX:CXT) (X:Cx) (E:XK):Prop:=∀ (pins:List (Addr×Obj)) (σ:St) (H:Hp) (s:Shared) (e:Value) (s':Shared),Inv X pins σ H s→CX X.stack H s E e s'→X.xe e s'
section
variable {X:Cx} {CX:CXT} {k:Nat} {f C:Addr} {fd:FuncData} {ps:List Str} {sp:Sp} {dvs:List V} {ds:List Value} {E:XK} {x m:Str} {p pos apos:Pos} {e o:Expr} {es:List Expr} {ta:TE} {t:TA}
theorem run_fn {pins:List (Addr×Obj)} {σ:St} {H:Hp} {s:Shared} {Q:VK} {us:List Value} {vs:List V} (F:FnOk X.prog X.w X.K X.mg X.base CX k f fd ps sp) (hr:Room k X.A) (hb:Binds X.K fd ps ds) (hd:Vals dvs ds) (hx:Passes CX X E)
  (I:Inv X pins σ H s) (r:Vals vs us) (h:sp (vs ++ dvs) H Q E):wpAny (model X.prog X.w) X.A (call (.ref f) us) (EP X pins σ Q) X.xe s:=by
 have r2:Vals (vs ++ dvs) (us ++ ds):=r.append hd
 have hl:(us ++ ds).length=ps.length:=by rw [←r2.length];exact F.len _ _ _ _ h
 refine wpAny_call (codeAny_mono (F.run X.A X.stack s H ⟨us,[]⟩ (us ++ ds) (vs ++ dvs) Q E hr I.env0 (hb s us I.kIn hl) r2 h) fun r s' hq=>?_)
 cases r with
 | error e=>exact hx pins σ H s e s' I hq
 | ok fl =>
  cases fl with
  | ret u=>exact I.after hq
  | next=>exact False.elim hq
  | brk=>exact False.elim hq
  | cont=>exact False.elim hq
theorem pe_call (F:FnOk X.prog X.w X.K X.mg X.base CX k f fd ps sp) (hr:Room k X.A) (hg:Gl X x) (hm:X.mg x=some (.ref f)) (hk:PySem.W.keepIn X.K (.ref f)=true) (hb:Binds X.K fd ps ds) (hd:Vals dvs ds) (hx:Passes CX X E)
  (ha:PA X (e :: es) t) (hdb:(x == ("__debug__":Str))=false:=by decide) (he:starEach (e :: es) X.env=(false,eval e X.env) :: starEach es X.env:=by rfl) (hpl:(backTo pos (starEach es X.env)).any (·.1)=false:=by rfl) :
  PE X (.Call (.Name x p) (e :: es) [] pos) (tCall sp dvs E t):=by
 intro pins s σ H Q I h
 refine wpAny_Call_Name_kw (ld_glob I hg hm ?_ hdb)
 refine PySem.W.callWith_K (h₀:=X.base) I.ok.mod.kin hk (thn (ha pos pins s σ H _ I h) fun us s1 ⟨vs,H1,I1,r,q⟩=>⟨I1.kIn,?_⟩) he hpl
 exact run_fn F hr hb hd hx I1 r q
structure Mk (K:PySem.W.Frag) (C f:Addr):Prop where
 makes:PySem.W.makesIn K C=true
 init:PySem.W.findIn K (.ref C) "__init__"=some (some (.ref f))
 fn:PySem.W.isFn K (.ref f)=true
 kp:PySem.W.keepIn K (.ref C)=true
end
section
variable {X:Cx} {CX:CXT} {k:Nat} {f C:Addr} {fd:FuncData} {ps ks:List Str} {sp:Sp} {E:XK} {x m:Str} {p pos apos kpos:Pos} {e o:Expr} {es:List Expr} {kws:List Keyword} {te ta:TE} {t tk:TA} {nm:Option Str}
structure KBinds (K:PySem.W.Frag) (fd:FuncData) (ps ks:List Str) (g:List Value→List Value→List Value) (gV:List V→List V→List V):Prop where
 to:∀ (s:Shared) (us ws:List Value),K.In s.heap→(g us ws).length=ps.length→BindsTo s fd ⟨us,ks.zip ws⟩ (ps.zip (g us ws))
 rel:∀ {vs:List V} {us:List Value} {zs:List V} {ws:List Value},Vals vs us→Vals zs ws→Vals (gV vs zs) (g us ws)
variable {g:List Value→List Value→List Value} {gV:List V→List V→List V}
end
structure FnScope (N P:List Str) (sc:Scope):Prop where
 kind:sc.kind=.function
 co:sc.isCoroutine=false
 gen:sc.isGenerator=false
 nd:N.Nodup
 pre:N.take P.length=P
 par:∀ x∈P,sc.names.lookup x=some .local∨sc.names.lookup x=some .cell
 nofree:∀ y∈sc.names,y.2≠.free
theorem bindL_out {kindOf:Str→Option NameKind} {x:Str}:∀ {binds:List (Str×Value)} {m:Str→Option Value},(∀ v,(x,v) ∉ binds)→bindL kindOf binds m x=m x
 | [],_,_=>rfl
 | (n,v) :: r,m,h=>by
  unfold bindL
  rw [bindL_out fun w hw=>h w (List.mem_cons_of_mem _ hw)]
  split
  ·have:x≠n:=by rintro rfl;exact h v List.mem_cons_self
   simp [this]
  ·rfl
theorem bindC_out {kindOf:Str→Option NameKind} {x:Str}:∀ {binds:List (Str×Value)} {m:Str→Option Value},(∀ v,(x,v) ∉ binds)→bindC kindOf binds m x=m x
 | [],_,_=>rfl
 | (n,v) :: r,m,h=>by
  unfold bindC
  rw [bindC_out fun w hw=>h w (List.mem_cons_of_mem _ hw)]
  split
  ·rfl
  ·have:x≠n:=by rintro rfl;exact h v List.mem_cons_self
   simp [this]
theorem bindL_get {kindOf:Str→Option NameKind} {x:Str} {v:Value}:∀ {P:List Str} {vs:List Value} {i:Nat} {m:Str→Option Value},P.Nodup→P[i]?=some x→vs[i]?=some v→kindOf x=some .local →
  bindL kindOf (P.zip vs) m x=some v
 | [],_,_,_,_,h,_,_=>by simp at h
 | _ :: _,[],_,_,_,_,h,_=>by simp at h
 | p :: P,w :: vs,0,m,nd,h1,h2,hk=>by
  simp at h1 h2;subst h1;subst h2
  show bindL kindOf ((p,w) :: P.zip vs) m p=_
  unfold bindL
  rw [bindL_out fun v hv=>(List.nodup_cons.mp nd).1 (List.of_mem_zip hv).1,if_pos hk]
  simp
 | p :: P,w :: vs,i + 1,m,nd,h1,h2,hk=>by
  show bindL kindOf ((p,w) :: P.zip vs) m x=_
  unfold bindL
  exact bindL_get (i:=i) (List.nodup_cons.mp nd).2 (by simpa using h1) (by simpa using h2) hk
theorem bindC_get {kindOf:Str→Option NameKind} {x:Str} {v:Value}:∀ {P:List Str} {vs:List Value} {i:Nat} {m:Str→Option Value},P.Nodup→P[i]?=some x→vs[i]?=some v→kindOf x≠some .local →
  bindC kindOf (P.zip vs) m x=some v
 | [],_,_,_,_,h,_,_=>by simp at h
 | _ :: _,[],_,_,_,_,h,_=>by simp at h
 | p :: P,w :: vs,0,m,nd,h1,h2,hk=>by
  simp at h1 h2;subst h1;subst h2
  show bindC kindOf ((p,w) :: P.zip vs) m p=_
  unfold bindC
  rw [bindC_out fun v hv=>(List.nodup_cons.mp nd).1 (List.of_mem_zip hv).1,if_neg hk]
  simp
 | p :: P,w :: vs,i + 1,m,nd,h1,h2,hk=>by
  show bindC kindOf ((p,w) :: P.zip vs) m x=_
  unfold bindC
  exact bindC_get (i:=i) (List.nodup_cons.mp nd).2 (by simpa using h1) (by simpa using h2) hk
noncomputable def start (N:List Str) (vs:List V):St:=vs.map some ++ List.replicate (N.length - vs.length) none
noncomputable def cxOf (CX:CXT) (P:Program) (w:World) (K:PySem.W.Frag) (mg:Str→Option Value) (base:Heap) (N:List Str) (qual:Str) (scope:Scope) (f:Addr) (cd:Value) (A:Around) (outer:List Env) (s:Shared) (H:Hp) (E:XK):Cx where
 prog:=P
 w:=w
 K:=K
 mg:=mg
 base:=base
 A:=A.deeper (envOfC qual scope s.heap.objs.size f cd)
 N:=N
 s₀:=s
 H₀:=H
 env:=envOfC qual scope s.heap.objs.size f cd
 outer:=outer
 stack:=envOfC qual scope s.heap.objs.size f cd :: outer
 ex:=[]
 calm:=true
 fn:=fun _=>true
 pn:=[]
 xe:=fun e s'=>wpAny (model P w) (A.deeper (envOfC qual scope s.heap.objs.size f cd)) (leaving (envOfC qual scope s.heap.objs.size f cd) e) (fun _ s''=>CX outer H s E e s'') (fun e' s''=>CX outer H s E e' s'') s'
theorem cell_has {sc:Scope} {n:Nat} {x:Str} (h:sc.names.lookup x=some .cell):∃ c,(cellsFrom n sc.names []).lookup x=some c:=by
 have q:=PySem.W.cellsFrom_some sc.names n [] (.inl h)
 exact Option.isSome_iff_exists.mp q
theorem inv_start {CX:CXT} {P:Program} {w:World} {K:PySem.W.Frag} {mg:Str→Option Value} {base:Heap} {N ps:List Str} {qual:Str} {scope:Scope} {f:Addr} {cd:Value} {A:Around} {outer:List Env} {s s1:Shared} {H:Hp} {E:XK} {us:List Value} {vs:List V}
  (S:FnScope N ps scope) (hd:A.handled=none) (e0:Env0 P w K mg base A outer s H) (hl:vs.length=ps.length) (r:Vals vs us)
  (x:InCallC s s.heap.objs.size (bindL (envOfC qual scope s.heap.objs.size f cd).kindOf (ps.zip us) fun _=>none) (cellsFrom (s.heap.objs.size + 1) scope.names []) (bindC (envOfC qual scope s.heap.objs.size f cd).kindOf (ps.zip us) fun _=>none) s1) :
  Inv (cxOf CX P w K mg base N qual scope f cd A outer s H E) [] (start N vs) H s1:=by
 have hpl:ps.length≤N.length:=by have:=congrArg List.length S.pre;rw [List.length_take] at this;lia
 obtain ⟨h1,tk,rfl,hk⟩:=x.done
 have noA:∀ b:Addr,b ∉ (cxOf CX P w K mg base N qual scope f cd A outer s H E).ex:=fun b z=>absurd (show b∈([]:List Addr) from z) (by simp)
 refine ⟨⟨e0.mod,S.kind,rfl,rfl,Nat.le_refl _,fun y z c h1 h2=>?_,fun y hy=>?_,fun y c _ h=>?_,fun _=>hd,Around.frames_deeper e0.frames,.inr ⟨rfl,rfl⟩,fun b z=>absurd z (noA b),e0.bs,e0.bsz,fun b _ _=>noA b,fun b z=>absurd z (noA b),e0.funs,e0.frf⟩,
  rfl,e0.bare,Un.kept hk,⟨_,x.toInCall.ns,fun i y v h1 h2 h3=>?_⟩,fun y c h=>⟨_,x.cell y c h⟩,e0.hok.fresh (Nat.le_refl _),fun y c h=>?_,fun p hp=>absurd (show p∈([]:List (Addr×Obj)) from hp) (by simp),e0.hok.kept hk,?_⟩
 ·exact name_of_addr x.apart (PySem.mem_of_lookup h1) (PySem.mem_of_lookup h2)
 ·have hy:scope.names.lookup y=some .cell∨scope.names.lookup y=some .free:=hy
  rcases hy with hy | hy
  ·exact cell_has hy
  ·exact absurd rfl (S.nofree _ (PySem.mem_of_lookup hy))
 ·exact Nat.le_of_lt (x.above y c (PySem.mem_of_lookup h))
 ·have hi:i<vs.length:=by
   unfold start at h2
   by_cases hi:i<vs.length
   ·exact hi
   ·rw [List.getElem?_append_right (by simpa using hi)] at h2
    rw [List.getElem?_replicate] at h2
    split at h2 <;> cases h2
  have ha:vs[i]?=some v:=by
   unfold start at h2
   rw [List.getElem?_append_left (by simpa using hi),List.getElem?_map] at h2
   cases e:vs[i]? with
   | none=>rw [e] at h2;cases h2
   | some a=>rw [e] at h2;cases h2;rfl
  obtain ⟨u,hu,rv⟩:=r.get ha
  have hp:ps[i]?=some y:=by
   rw [←S.pre,List.getElem?_take_of_lt (by lia)];exact h1
  have ndP:ps.Nodup:=by rw [←S.pre];exact S.nd.sublist (List.take_sublist _ _)
  refine ⟨u,rv,?_⟩
  rcases S.par y (List.mem_of_getElem? hp) with k | k
  ·exact .inl ⟨k,bindL_get ndP hp hu k⟩
  ·obtain ⟨c,e⟩:=cell_has (n:=s.heap.objs.size + 1) k
   refine .inr ⟨.inl k,c,e,?_⟩
   have q:=x.cell y c e
   rw [bindC_get ndP hp hu (by show scope.names.lookup y≠_;rw [k];decide)] at q
   exact q
 ·exact e0.hok.fresh (Nat.le_of_lt (x.above y c (PySem.mem_of_lookup h)))
 ·unfold start
  show _=N.length
  rw [List.length_append,List.length_map,List.length_replicate]
  lia
theorem fn_of {CX:CXT} {P:Program} {w:World} {K:PySem.W.Frag} {mg:Str→Option Value} {base:Heap} {k:Nat} {f:Addr} {name qual:Str} {params:Arguments} {body:List Stmt} {scope:Scope} {dV kV doc pm cdv ct oc:Value} {an od:Option Addr}
  {osl:Array (Option Value)} {N ps:List Str} {sp:Sp} (lk:K.lookup f=some ⟨oc,od,.func (PySem.W.fnOf name qual params body scope dV kV doc pm an cdv ct),osl⟩) (hcd:PySem.W.codeIn K cdv qual=true) (S:FnScope N ps scope)
  (len:∀ vs H Q E,sp vs H Q E→vs.length=ps.length)
  (hbody:∀ (A:Around) (outer:List Env) (s:Shared) (H:Hp) (vs:List V) (Q:VK) (E:XK),Room k (A.deeper (envOfC qual scope s.heap.objs.size f cdv))→sp vs H Q E →
   ∃ t,PSs (cxOf CX P w K mg base N qual scope f cdv A outer s H E) body t∧t { nx:=fun _ H'=>Q .non H',rt:=Q } (start N vs) H) :
  FnOk P w K mg base CX (k + 1) f (PySem.W.fnOf name qual params body scope dV kV doc pm an cdv ct) ps sp:=by
 refine ⟨len,fun A outer s H args us vs Q E hr e0 hb r hsp=>?_⟩
 have hl:=len _ _ _ _ hsp
 have KX:K.In s.heap:=e0.mod.kin.keeps fun b o e=>(e0.bs b o e).1
 have lim:s.heap.NoLimit:=e0.mod.nolimit.keeps fun b o e=>(e0.bs b o e).1
 have hkind:∀ y∈ps.zip us,scope.names.lookup y.1=some .local∨(scope.names.lookup y.1=some .cell∧((cellsFrom (s.heap.objs.size + 1) scope.names []).lookup y.1).isSome=true):=fun ⟨n,v⟩ hy=>by
  rcases S.par n (List.of_mem_zip hy).1 with q | q
  ·exact .inl q
  ·exact .inr ⟨q,PySem.W.cellsFrom_some _ _ _ (.inl q)⟩
 refine codeAny_call_function hr.depth (KX _ _ lk) rfl S.co S.gen rfl (PySem.W.codeRec_of KX hcd) (hb _ _ _ _ ?_)
 refine wpAny_newFunctionEnv_cells S.kind hkind fun env he s1 x=>?_
 subst he
 refine ⟨lim.keeps x.toInCall.keep,codeAny_func ?_⟩
 obtain ⟨t,ht,hq⟩:=hbody A outer s H vs Q E (hr.deeper _) hsp
 have I:Inv (cxOf CX P w K mg base N qual scope f cdv A outer s H E) [] (start N vs) H s1:=inv_start S hr.hd e0 hl r x
 refine wpAny_mono (ht [] s1 (start N vs) H _ I hq) (fun fl s' hs=>?_) fun e s' hs=>hs
 have fin:∀ {σ':St} {H':Hp} {v:V} {u:Value},Inv (cxOf CX P w K mg base N qual scope f cdv A outer s H E) [] σ' H' s'→RelV v u→Q v H'→CE outer P w H s Q u s' :=
  fun {σ' H' v u} J rv q=>⟨v,H',J.os,J.bare,J.base,J.hok,rv,q⟩
 cases fl with
 | ret u =>
  obtain ⟨v,σ',H',J,rv,q⟩:=hs
  exact fin J rv q
 | next =>
  obtain ⟨σ',H',J,q⟩:=hs
  exact fin (v:=V.non) (u:=Value.none) J rfl q
 | brk =>
  obtain ⟨_,_,_,q⟩:=hs
  exact False.elim q
 | cont =>
  obtain ⟨_,_,_,q⟩:=hs
  exact False.elim q
end L2
namespace L2
open PySem PySem.Spec PyProof.Rows
section
variable {X:Cx} {x:Str} {p pos:Pos} {e:Expr} {es:List Expr} {t:TA} {id T:String} {r:List V→Hp→VK→Prop}
noncomputable def tCB (r:List V→Hp→VK→Prop) (t:TA):TE:=fun σ H Q=>t σ H fun vs H1=>r vs H1 Q
theorem pe_callB (hc:CallR X (.builtin id) r) (hg:Gl X x) (hm:X.mg x=none) (hv:bootBuiltins x=some (.builtin id)) (ha:PA X (e :: es) t) (hn:x≠"__name__":=by decide) (hdb:(x == ("__debug__":Str))=false:=by decide)
  (he:starEach (e :: es) X.env=(false,eval e X.env) :: starEach es X.env:=by rfl) (hpl:(backTo pos (starEach es X.env)).any (·.1)=false:=by rfl):PE X (.Call (.Name x p) (e :: es) [] pos) (tCB r t):=by
 intro pins s σ H Q I h
 refine wpAny_Call_Name_kw (ld_blt I hg hm hv ?_ hn hdb)
 exact PyProof.Rows.callWith_builtin1 (thn (ha pos pins s σ H _ I h) fun us s1 ⟨vs,H1,I1,r1,q1⟩=>hc pins s1 σ H1 vs us Q I1 r1 q1) he hpl
theorem pe_callTy (hc:CallR X (.type T) r) (hg:Gl X x) (hm:X.mg x=none) (hv:bootBuiltins x=some (.type T)) (ha:PA X (e :: es) t) (hn:x≠"__name__":=by decide) (hdb:(x == ("__debug__":Str))=false:=by decide)
  (he:starEach (e :: es) X.env=(false,eval e X.env) :: starEach es X.env:=by rfl) (hpl:(backTo pos (starEach es X.env)).any (·.1)=false:=by rfl):PE X (.Call (.Name x p) (e :: es) [] pos) (tCB r t):=by
 intro pins s σ H Q I h
 refine wpAny_Call_Name_kw (ld_blt I hg hm hv ?_ hn hdb)
 exact PyProof.Rows.callWith_type1 (thn (ha pos pins s σ H _ I h) fun us s1 ⟨vs,H1,I1,r1,q1⟩=>hc pins s1 σ H1 vs us Q I1 r1 q1) he hpl
end
end L2
namespace HT
open PySem PyProof.Rows
noncomputable def lexLt:List Int→List Int→Bool
 | [],[]=>false
 | [],_ :: _=>true
 | _ :: _,[]=>false
 | x :: xs,y :: ys=>if x=y then lexLt xs ys else decide (x<y)
theorem lexLt_cons (x y:Int) (xs ys:List Int):lexLt (x :: xs) (y :: ys)=if x=y then lexLt xs ys else decide (x<y):=rfl
theorem lexLt_nil_nil:lexLt [] []=false:=rfl
theorem lexLt_nil_cons (y:Int) (ys:List Int):lexLt [] (y :: ys)=true:=rfl
theorem lexLt_cons_nil (x:Int) (xs:List Int):lexLt (x :: xs) []=false:=rfl
theorem eqAt_int (A:Around) (s:Shared) (a:Int) (t:Tok) (c:Int) (u:Tok):∃ e,SeqAt.EqAt A s (.int a t) (.int c u) e∧(e=true ↔ a=c) :=
 ⟨(a == c),SeqAt.EqAt.int_int a t c u,by simp⟩
theorem rcLt_int (A:Around) (s:Shared) (a:Int) (t:Tok) (c:Int) (u:Tok) (prog:Program) (w:World) (E:Value→Shared→Prop) (Q:Value→Shared→Prop) (h:Q (.bool (decide (a<c))) s) :
  wpAny (model prog w) A (richCompare .Lt (.int a t) (.int c u)) Q E s :=
 (PyProof.Rows.lt_int h:wpAny (model prog w) A (compareOp .Lt (.int a t) (.int c u)) Q E s)
section
open PySem.SeqAt
open PySem.AutoSeq1 (wpAny_loadPart')
open PySem.MeetsSeq PySem.MeetsSeq2 PySem.MeetsSeq3
theorem tuple_lt_ints (l b:Addr) (items items2:Array Value) (n n2:Nat) (dd dd2:Option Addr) (sl sl2:Array (Option Value)) (ns ms:List Int) (hi:IntsAre items.toList ns) (hj:IntsAre items2.toList ms) :
  Meets (Builtin.«tuple.__lt__» ⟨[.ref l,.ref b],[]⟩)
   (fun _ R s=>s.heap.get? l=some { cls:=.type "tuple",dict:=dd,data:=.seq items n,slots:=sl }∧s.heap.get? b=some { cls:=.type "tuple",dict:=dd2,data:=.seq items2 n2,slots:=sl2 } ∧
    R (.ok (.ret (.bool (lexLt ns ms)))) s) :=
 .of_wp fun prog w A R s h=>by
  obtain ⟨hp,g,d,tk,os⟩:=s;obtain ⟨hl,hb,h⟩:=h
  have f2:=AutoSeq1.sub_tuple_tuple
  have z1:items.size=ns.length:=by rw [←hi.length];simp
  have z2:items2.size=ms.length:=by rw [←hj.length];simp
  wp_walk using wpAny_loadPart' hl,wpAny_loadPart' hb,wpAny_forIn_list _ (fun rest b s'=>b.1=none∧s'=⟨hp,g,d,tk,os⟩∧∃ (vs ws:List Value) (ns' ms':List Int),rest=vs.zip ws ∧
   IntsAre vs ns'∧IntsAre ws ms'∧ns'.length + items2.size=ms'.length + items.size∧R (.ok (.ret (.bool (lexLt ns' ms')))) ⟨hp,g,d,tk,os⟩) _
  case turn =>
   rintro ⟨y,x⟩ rest b s' ⟨hb',rfl,vs,ws,ns',ms',hz,hvi,hwi,hlen,hR⟩
   cases hvi with
   | nil=>rw [List.zip_nil_left] at hz;cases hz
   | cons a t hvi' =>
    cases hwi with
    | nil=>rw [List.zip_nil_right] at hz;cases hz
    | cons c u hwi' =>
     rw [List.zip_cons_cons] at hz
     injection hz with hyx hrest
     injection hyx with hy hx
     subst hy hx
     rw [lexLt_cons] at hR
     simp only [List.length_cons] at hlen
     obtain ⟨e,he,hiff⟩:=eqAt_int A.in1 ⟨hp,g,d,tk,os⟩ a t c u
     refine wpAny_bind (he prog w _ _ ?_)
     cases e with
     | true =>
      rw [if_pos (hiff.mp rfl)] at hR
      wp_walk
      exact ⟨rfl,rfl,_,_,_,_,hrest,hvi',hwi',by lia,hR⟩
     | false =>
      rw [if_neg (fun q=>absurd (hiff.mpr q) Bool.false_ne_true)] at hR
      have hri:=rcLt_int A.in1 ⟨hp,g,d,tk,os⟩ a t c u prog w
      wp_walk using hri
      exact ⟨_,rfl,by simpa using hR⟩
  case fin =>
   rintro ⟨b1,b2⟩ s' ⟨hb',rfl,vs,ws,ns',ms',hz,hvi,hwi,hlen,hR⟩
   simp only at hb'
   subst hb'
   have hv:lexLt ns' ms'=decide (items.size<items2.size):=by
    cases hvi with
    | nil =>
     cases hwi with
     | nil =>
      simp only [List.length_nil] at hlen
      rw [lexLt_nil_nil]
      exact (decide_eq_false (by lia)).symm
     | cons c u hw =>
      simp only [List.length_nil,List.length_cons] at hlen
      rw [lexLt_nil_cons]
      exact (decide_eq_true (by lia)).symm
    | cons a t hv =>
     cases hwi with
     | nil =>
      simp only [List.length_nil,List.length_cons] at hlen
      rw [lexLt_cons_nil]
      exact (decide_eq_false (by lia)).symm
     | cons c u hw =>
      rw [List.zip_cons_cons] at hz
      cases hz
   rw [hv] at hR
   wp_walk
   exact ⟨_,rfl,by simpa [Builtin.Tuple.tupleCompareSizes] using hR⟩
  case h =>
   exact ⟨rfl,rfl,items.toList,items2.toList,ns,ms,rfl,hi,hj,by lia,h⟩
end
section
variable {prog:Program} {w:World} {A:Around} {E:Value→Shared→Prop} {s:Shared}
theorem cat_tup {t b:Addr} {vs ws:List Value} {Q:Value→Shared→Prop} (ht:IsTup s.heap t vs.toArray) (hb:IsTup s.heap b ws.toArray) (hv:vs≠[])
  (h1:ws=[]→Q (.ref t) s) (h2:ws≠[]→Q (.ref s.heap.objs.size) { s with heap:=s.heap.push { cls:=.type "tuple",data:=.seq (vs ++ ws).toArray } })
  (hsz:vs.length + ws.length≤sizeLine):wpAny (model prog w) A (binaryOp .Add (.ref t) (.ref b)) Q E s:=by
 obtain ⟨⟨cls,dd,data,sl⟩,ho,hc,n,hd⟩:=id ht
 obtain ⟨⟨cls2,dd2,data2,sl2⟩,ho2,hc2,n2,hd2⟩:=id hb
 simp only at hc hd hc2 hd2
 subst hc hd hc2 hd2
 have e:vs.toArray ++ ws.toArray=(vs ++ ws).toArray:=by simp
 by_cases hw:ws=[]
 ·exact concat_meets ⟨_,ho,rfl⟩ ⟨_,ho2,rfl⟩ noFill_tuple_add seq_tuple_add PySem.F.slot_tuple_add PySem.F.entry_tuple_add (PySem.F.args_tuple_add_2 _ _)
   (tuple_addW1 t b vs.toArray ws.toArray n n2 dd dd2 sl sl2 (by simpa using hv) (by simp [hw])) ⟨ho,ho2,h1 hw⟩
 ·refine concat_meets ⟨_,ho,rfl⟩ ⟨_,ho2,rfl⟩ noFill_tuple_add seq_tuple_add PySem.F.slot_tuple_add PySem.F.entry_tuple_add (PySem.F.args_tuple_add_2 _ _)
   (tuple_addW2 t b vs.toArray ws.toArray n n2 dd dd2 sl sl2 (by simpa using hv) (by simpa using hw) (by rw [List.size_toArray,List.size_toArray];exact hsz)) ⟨ho,ho2,?_⟩
  rw [e]
  exact h2 hw
noncomputable def sIx (n d:Nat):Option Int→Nat
 | none=>d
 | some v=>if v<0 then (v + (n:Int)).toNat else min v.toNat n
end
end HT
namespace L2
open PySem PySem.Spec PyProof.Rows
noncomputable abbrev TO:=St→Hp→(Option Int→Hp→Prop)→Prop
noncomputable def PO (X:Cx) (e:Option Expr) (t:TO):Prop :=
 ∀ (pins:List (Addr×Obj)) (s:Shared) (σ:St) (H:Hp) (Q:Option Int→Hp→Prop),Inv X pins σ H s→t σ H Q →
  wpAny (model X.prog X.w) X.A (evalPart e X.env) (fun u s'=>∃ o H',Inv X pins σ H' s'∧IsPart u o∧Q o H') X.xe s
noncomputable def tNoPart:TO:=fun _ H Q=>Q none H
noncomputable def tPart (t:TE):TO:=fun σ H Q=>t σ H fun x H1=>∃ i,x=.int i∧Q (some i) H1
theorem intsAre_of {ns:List Int}:∀ {us:List Value},Vals (ns.map V.int) us→IntsAre us ns:=by
 induction ns with
 | nil=>intro us r;rw [List.map_nil] at r;cases r;exact .nil
 | cons n ns ih =>
  intro us r
  rw [List.map_cons] at r
  cases r with
  | cons r1 r2 =>
   obtain ⟨t,e⟩:=r1
   subst e
   exact .cons n t (ih r2)
section
variable {X:Cx} {e:Expr} {te:TE} {lo hi:Option Expr} {tl th:TO} {pos p2:Pos}
theorem po_none:PO X none tNoPart:=by
 intro pins s σ H Q I h
 rw [evalPart_none]
 exact wpAny_pure ⟨none,H,I,.none,h⟩
theorem po_some (h:PE X e te):PO X (some e) (tPart te):=by
 intro pins s σ H Q I hw
 rw [evalPart_some]
 refine thn (h pins s σ H _ I hw) fun u s1 ⟨x,H1,I1,r1,q1⟩=>?_
 obtain ⟨i,rfl,q⟩:=q1
 obtain ⟨t,rfl⟩:=r1
 exact ⟨some i,H1,I1,.int i t,q⟩
noncomputable def SlR (X:Cx) (r:V→Option Int→Option Int→Hp→VK→Prop):Prop :=
 ∀ (pins:List (Addr×Obj)) (s:Shared) (σ:St) (H:Hp) (x:V) (v vl vu:Value) (lo hi:Option Int) (sl:Addr) (Q:VK),Inv X pins σ H s→RelV x v→s.heap.IsSliceOf sl vl vu .none→IsPart vl lo→IsPart vu hi→r x lo hi H Q →
  ∃ T id,typeLookup (.type T) "__getitem__"=pure (some (.builtin id))∧s.TypeIs v T∧wpAny (model X.prog X.w) X.A (getItem v (.ref sl)) (EP X pins σ Q) X.xe s
noncomputable def tSl (r:V→Option Int→Option Int→Hp→VK→Prop) (te:TE) (tl th:TO):TE:=fun σ H Q=>te σ H fun x H1=>tl σ H1 fun l H2=>th σ H2 fun u H3=>r x l u H3 Q
theorem pe_slice {r:V→Option Int→Option Int→Hp→VK→Prop} (hr:SlR X r) (he:PE X e te) (hl:PO X lo tl) (hu:PO X hi th):PE X (.Subscript e (.Slice lo hi none p2) pos) (tSl r te tl th):=by
 intro pins s σ H Q I h
 refine Subscript_ (thn (he pins s σ H _ I h) fun v s1 ⟨x,H1,I1,r1,q1⟩=>?_)
 refine wpAny_Slice (thn (hl pins s1 σ H1 _ I1 q1) fun vl s2 ⟨l,H2,I2,pl,q2⟩=>thn (hu pins s2 σ H2 _ I2 q2) fun vu s3 ⟨u,H3,I3,pu,q3⟩=>?_)
 rw [evalPart_none]
 refine wpAny_pure ?_
 have I4:Inv X pins σ H3 { s3 with heap:=s3.heap.push { cls:=.type "slice",data:=.fields #[vl,vu,.none] } }:=I3.kept (t':=s3.toks) fun b ob q=>Heap.get?_push_of_some _ q
 obtain ⟨T,id,hT,ht,hg⟩:=hr pins { s3 with heap:=s3.heap.push { cls:=.type "slice",data:=.fields #[vl,vu,.none] } } σ H3 x v vl vu l u s3.heap.objs.size Q I4 r1 (Heap.IsSliceOf.new ..) pl pu q3
 show wpAny (model X.prog X.w) X.A (subscriptTail e (.Slice lo hi none p2) v (.ref s3.heap.objs.size)) (EP X pins σ Q) X.xe { s3 with heap:=s3.heap.push { cls:=.type "slice",data:=.fields #[vl,vu,.none] } }
 exact tail_any (ops:=[.ref s3.heap.objs.size,v]) ht hT hg (by with_unfolding_all rfl)
noncomputable def cutV (xs:List V) (lo hi:Option Int):List V:=(xs.drop (HT.sIx xs.length 0 lo)).take (HT.sIx xs.length xs.length hi - HT.sIx xs.length 0 lo)
theorem cutV_length (xs:List V) (lo hi:Option Int):(cutV xs lo hi).length≤xs.length:=by
 unfold cutV
 rw [List.length_take,List.length_drop]
 lia
noncomputable def rCatT (K:PySem.W.Frag):R2:=fun x y H Q=>∃ a b xs ys,x=.ref a∧y=.ref b∧SqT K H a xs∧SqT K H b ys∧xs≠[]∧xs.length + ys.length≤sizeLine ∧
 (ys=[]→Q (.ref a) H)∧(ys≠[]→∀ p,H p=none→Q (.ref p) (upd H p (.tup (xs ++ ys))))
theorem Vals.nil_iff {xs:List V} {us:List Value} (r:Vals xs us):us=[] ↔ xs=[]:=by
 cases r with
 | nil=>simp
 | cons _ _=>simp
theorem op_catT:OpR X (binaryOp .Add) (rCatT X.K):=by
 intro pins s σ H x y v u Q I rx ry h
 obtain ⟨a,b,xs,ys,rfl,rfl,ha,hb,hx,hz,q1,q2⟩:=h
 cases rx
 cases ry
 obtain ⟨its,r1,p1,_⟩:=I.tuple ha
 obtain ⟨its2,r2,p2,_⟩:=I.tuple hb
 refine HT.cat_tup p1 p2 (fun z=>hx (r1.nil_iff.mp z)) (fun z=>⟨.ref a,H,I,rfl,q1 (r2.nil_iff.mp z)⟩) (fun z=>?_) (by rw [←r1.length,←r2.length];exact hz)
 refine ⟨.ref s.heap.objs.size,_,I.laid (t':=s.toks) (o:=.tup (xs ++ ys)) (fun b ob q=>Heap.get?_push_of_some _ q) (Nat.le_refl _) ?_,rfl,q2 (fun w=>z (r2.nil_iff.mpr w)) _ (I.hok.fresh (Nat.le_refl _))⟩
 exact ⟨by rw [List.length_append];exact hz,_,r1.append r2,TupO.new _ _⟩
end
end L2
namespace L2
open PySem PySem.Spec PyProof.Rows
noncomputable def ixN (n:Nat) (i:Int):Option Nat:=if 0≤i then (if i<n then some i.toNat else none) else if -(n:Int)≤i then some (i + n).toNat else none
noncomputable def atI {α:Type} (xs:List α) (i:Int):Option α:=(ixN xs.length i).bind fun j=>xs[j]?
theorem ixN_seq {n:Nat} {i:Int} {j:Nat} (h:ixN n i=some j):seqIndex? i n=some j∧j<n∧-(n:Int)≤i∧i<n:=by
 unfold ixN at h
 by_cases h0:0≤i
 ·rw [if_pos h0] at h
  by_cases h1:i<n
  ·rw [if_pos h1] at h
   have e:i.toNat=j:=Option.some.inj h
   exact ⟨by rw [seqIndex_of h0 h1,e],by lia,by lia,h1⟩
  ·rw [if_neg h1] at h;cases h
 ·rw [if_neg h0] at h
  by_cases h1:-(n:Int)≤i
  ·rw [if_pos h1] at h
   have e:(i + n).toNat=j:=Option.some.inj h
   exact ⟨by rw [seqIndex_neg (by lia) h1,e],by lia,h1,by lia⟩
  ·rw [if_neg h1] at h;cases h
theorem atI_get {α:Type} {xs:List α} {i:Int} {v:α} (h:atI xs i=some v):∃ j,seqIndex? i xs.length=some j∧xs[j]?=some v∧j<xs.length∧-(xs.length:Int)≤i∧i<xs.length:=by
 unfold atI at h
 cases e:ixN xs.length i with
 | none=>rw [e] at h;cases h
 | some j =>
  rw [e] at h
  obtain ⟨h1,h2,h3,h4⟩:=ixN_seq e
  exact ⟨j,h1,h,h2,h3,h4⟩
theorem atI_nat {α:Type} {xs:List α} {j:Nat} {v:α} (h:xs[j]?=some v):atI xs (j:Int)=some v:=by
 have hj:j<xs.length:=(List.getElem?_eq_some_iff.mp h).1
 have e:ixN xs.length (j:Int)=some j:=by
  unfold ixN
  rw [if_pos (by lia),if_pos (by lia)];simp
 unfold atI;rw [e];exact h
noncomputable def PlainIx (b:Expr):Prop:=∀ o i,subscripted b false o i=operate [o,i] (getItem o i)
noncomputable def IxR (X:Cx) (r:R2):Prop :=
 ∀ (value slice:Expr) (pins:List (Addr×Obj)) (s:Shared) (σ:St) (H:Hp) (x y:V) (v u:Value) (Q:VK),Inv X pins σ H s→RelV x v→RelV y u→r x y H Q →
  subscripted slice false v u=operate [v,u] (getItem v u)→wpAny (model X.prog X.w) X.A (subscriptTail value slice v u) (EP X pins σ Q) X.xe s
noncomputable def MtR (X:Cx) (id:String) (r:V→List V→Hp→VK→Prop):Prop :=
 ∀ (pins:List (Addr×Obj)) (s:Shared) (σ:St) (H:Hp) (x:V) (xs:List V) (v:Value) (us:List Value) (Q:VK),Inv X pins σ H s→RelV x v→Vals xs us→r x xs H Q →
  wpAny (model X.prog X.w) X.A (call (.builtin id) (v :: us)) (EP X pins σ Q) X.xe s
section
variable {X:Cx} {a b:Expr} {ta tb:TE} {pos:Pos}
theorem pe_ix {r:R2} (hr:IxR X r) (ha:PE X a ta) (hb:PE X b tb) (hs:PlainIx b):PE X (.Subscript a b pos) (tOp r ta tb):=by
 intro pins s σ H Q I h
 exact Subscript_ (binT ha hb I h fun v u s2 x y H2 I2 rx ry q=>hr a b pins s2 σ H2 x y v u Q I2 rx ry q (hs _ _))
noncomputable def rIxL (K:PySem.W.Frag):R2:=fun x y H Q=>∃ p xs i v,x=.ref p∧y=.int i∧SqL K H p xs∧atI xs i=some v∧Q v H
noncomputable def rIxT (K:PySem.W.Frag):R2:=fun x y H Q=>∃ p xs i v,x=.ref p∧y=.int i∧SqT K H p xs∧atI xs i=some v∧Q v H
noncomputable def rIxS:R2:=fun x y H Q=>∃ z i c,x=.str z∧y=.int i∧z.length≤sizeLine∧atI z.cps.toList i=some c∧Q (.str ⟨#[c]⟩) H
theorem ix_list:IxR X (rIxL X.K):=by
 intro value slice pins s σ H x y v u Q I rx ry h hs
 obtain ⟨p,xs,i,z,rfl,rfl,hq,he,q⟩:=h
 cases rx
 obtain ⟨t,rfl⟩:=ry
 obtain ⟨its,r,pl,hz⟩:=I.list hq
 obtain ⟨j,h1,h2,h3,h4,h5⟩:=atI_get he
 obtain ⟨w,ew,rw'⟩:=r.get h2
 have hl:=r.length
 have hn:=line63
 have fin:EP X pins σ Q w s:=⟨z,H,I,rw',q⟩
 by_cases h0:0≤i
 ·have hj:i.toNat=j:=by
   rw [seqIndex_of h0 h5] at h1
   exact Option.some.inj h1
  exact item_listR pl.isList h0 (by lia) (by rw [hj];simpa using ew) fin hs
 ·have hj:(i + (its.toArray.size:Int)).toNat=j:=by
   rw [seqIndex_neg (by lia) h4] at h1
   rw [List.size_toArray,←hl]
   exact Option.some.inj h1
  exact subscriptTail_builtinR (x:=w) pl.isList.typeIs slot_list_getitem.lookup
   (wpAny_getItem_list_neg (Q:=fun r s'=>r=w∧EP X pins σ Q r s') pl.isList (by lia) (by rw [List.size_toArray] <;> lia) (by lia) (by rw [hj];simpa using ew) ⟨rfl,fin⟩) hs
theorem ix_tup:IxR X (rIxT X.K):=by
 intro value slice pins s σ H x y v u Q I rx ry h hs
 obtain ⟨p,xs,i,z,rfl,rfl,hq,he,q⟩:=h
 cases rx
 obtain ⟨t,rfl⟩:=ry
 obtain ⟨its,r,pl,hz⟩:=I.tuple hq
 obtain ⟨j,h1,h2,h3,h4,h5⟩:=atI_get he
 obtain ⟨w,ew,rw'⟩:=r.get h2
 have hl:=r.length
 have hn:=line63
 have fin:EP X pins σ Q w s:=⟨z,H,I,rw',q⟩
 exact subscriptTail_builtinR (x:=w) pl.typeIs slot_tuple_getitem.lookup
  (getItem_tuple (j:=j) (Q:=fun r s'=>r=w∧EP X pins σ Q r s') pl (by lia) (by lia) (by rw [List.size_toArray,←hl];exact h1) (by simpa using ew) ⟨rfl,fin⟩) hs
theorem ix_str:IxR X rIxS:=by
 intro value slice pins s σ H x y v u Q I rx ry h hs
 obtain ⟨z,i,c,rfl,rfl,hz,he,q⟩:=h
 obtain ⟨t,rfl⟩:=rx
 obtain ⟨t',rfl⟩:=ry
 obtain ⟨j,h1,h2,h3,h4,h5⟩:=atI_get he
 have hl:z.cps.toList.length=z.length:=by simp [Str.length]
 rw [hl] at h1 h4 h5
 have hn:=line63
 exact tail_any (typeIs_str s z t) slot_str_getitem.lookup (getItem_str (c:=c) (by
  have e1:decide (i < -(2 ^ 63:Int))=false:=decide_eq_false (by lia)
  have e2:decide (i ≥ 2 ^ 63)=false:=decide_eq_false (by lia)
  rw [e1,e2,Bool.or_false]) (by rw [h1];simpa using h2) ⟨.str ⟨#[c]⟩,H,I.tok _,⟨_,rfl⟩,q⟩) hs
theorem mapSeq_set (its:List Value) (n j:Nat) (u:Value):Obj.mapSeq (·.setIfInBounds j u) { cls:=.type "list",data:=.seq its.toArray n }={ cls:=.type "list",data:=.seq (its.set j u).toArray n }:=by
 simp [Obj.mapSeq]
theorem Inv.lst {pins:List (Addr×Obj)} {σ:St} {H:Hp} {s:Shared} {p:Addr} {xs:List V} (I:Inv X pins σ H s) (h:H p=some (.lst xs)) :
  ∃ (its:List Value) (n:Nat),Vals xs its∧s.heap.get? p=some { cls:=.type "list",data:=.seq its.toArray n }∧xs.length≤sizeLine:=by
 obtain ⟨z,its,n,r,e⟩:=I.hok p _ h
 exact ⟨its,n,r,e,z⟩
theorem Inv.lstUpd {pins:List (Addr×Obj)} {σ:St} {H:Hp} {s:Shared} {p:Addr} {xs ys:List V} {its its':List Value} {n n':Nat} {f:Obj→Obj} (I:Inv X pins σ H s) (h:H p=some (.lst xs))
  (ho:s.heap.get? p=some { cls:=.type "list",data:=.seq its.toArray n }) (hf:f { cls:=.type "list",data:=.seq its.toArray n }={ cls:=.type "list",data:=.seq its'.toArray n' }) (r:Vals ys its') (hz:ys.length≤sizeLine) (t:Nat) :
  Inv X pins σ (upd H p (.lst ys)) { s with heap:=s.heap.update p f,toks:=t }:=by
 have e:(s.heap.update p f).get? p=some { cls:=.type "list",data:=.seq its'.toArray n' }:=by
  rw [Heap.get?_update_self f ho (by rw [hf] <;> rfl),hf]
 refine I.write (x:=p) (e:=p) (by rw [h];trivial) (.inl rfl) (fun b u hb q=>(Heap.get?_update_other _ _ (Ne.symm hb)).trans q) ⟨_,e⟩ ?_
 exact ⟨hz,its',n',r,e⟩
noncomputable def rSetL:V→V→V→Hp→(Hp→Prop)→Prop:=fun o i v H Q=>∃ p xs k j,o=.ref p∧i=.int k∧H p=some (.lst xs)∧ixN xs.length k=some j∧Q (upd H p (.lst (xs.set j v)))
theorem set_list:PSet X rSetL:=by
 intro pins s σ H o i v ov iv u Q I ro ri rv h
 obtain ⟨p,xs,k,j,rfl,rfl,hp,hj,q⟩:=h
 cases ro
 obtain ⟨t,rfl⟩:=ri
 obtain ⟨its,n,r,ho,hz⟩:=I.lst hp
 obtain ⟨h1,h2,h3,h4⟩:=ixN_seq hj
 have hl:=r.length
 have hn:=line63
 have I':Inv X pins σ (upd H p (.lst (xs.set j v))) { s with heap:=s.heap.update p (Obj.mapSeq (·.setIfInBounds j u)) } :=
  I.lstUpd hp ho (mapSeq_set its n j u) (r.set rv j) (by rw [List.length_set];exact hz) s.toks
 by_cases h0:0≤k
 ·have hk:k.toNat=j:=by
   rw [seqIndex_of h0 h4] at h1
   exact Option.some.inj h1
  exact PySem.W.ki_setAt ho h0 (by lia) (by rw [List.size_toArray,←hl];exact h4) (by rw [hk];exact ⟨_,I',q⟩)
 ·have hk:(k + (its.toArray.size:Int)).toNat=j:=by
   rw [seqIndex_neg (by lia) h3] at h1
   rw [List.size_toArray,←hl]
   exact Option.some.inj h1
  exact PySem.W.ki_setBack ho (by lia) (by rw [List.size_toArray,←hl];exact h3) (by lia) (by rw [hk];exact ⟨_,I',q⟩)
theorem slice_bounds (lo hi:Option Int) (n:Nat):(sliceBounds lo hi none n).1=((HT.sIx n 0 lo:Nat):Int)∧(sliceBounds lo hi none n).2.1=((HT.sIx n n hi:Nat):Int)∧(sliceBounds lo hi none n).2.2=1:=by
 refine ⟨?_,?_,rfl⟩
 ·cases lo with
  | none=>simp [sliceBounds,HT.sIx]
  | some i =>
   simp only [sliceBounds,HT.sIx,Option.getD_none,show (1:Int) > 0 by decide,if_true]
   by_cases h:i<0
   ·simp only [h,if_true] <;> lia
   ·simp only [h,if_false] <;> lia
 ·cases hi with
  | none=>simp [sliceBounds,HT.sIx]
  | some i =>
   simp only [sliceBounds,HT.sIx,Option.getD_none,show (1:Int) > 0 by decide,if_true]
   by_cases h:i<0
   ·simp only [h,if_true] <;> lia
   ·simp only [h,if_false] <;> lia
theorem slicePick_cut (its:List Value) (lo hi:Option Int):slicePick its.toArray lo hi none=((its.drop (HT.sIx its.length 0 lo)).take (HT.sIx its.length its.length hi - HT.sIx its.length 0 lo)).toArray:=by
 obtain ⟨h1,h2,h3⟩:=slice_bounds lo hi its.toArray.size
 unfold slicePick
 rw [h1,h2,h3]
 simp only [sliceRange_one,pick_run,List.size_toArray] <;> rfl
noncomputable def rSlL (K:PySem.W.Frag):V→Option Int→Option Int→Hp→VK→Prop:=fun x lo hi H Q=>∃ a xs,x=.ref a∧SqL K H a xs∧∀ p,H p=none→Q (.ref p) (upd H p (.lst (cutV xs lo hi)))
theorem sl_list:SlR X (rSlL X.K):=by
 intro pins s σ H x v vl vu lo hi sl Q I rx hs pl pu h
 obtain ⟨a,xs,rfl,hx,q⟩:=h
 cases rx
 obtain ⟨its,r,ht,hz⟩:=I.list hx
 have hlen:=r.length
 refine ⟨"list",_,slot_list_getitem.lookup,ht.isList.typeIs,?_⟩
 refine wpAny_getItem_list_slice ht.isList hs pl pu .none (by simp) ?_ (by rw [List.size_toArray] <;> lia)
 rw [slicePick_cut,←hlen]
 refine ⟨.ref s.heap.objs.size,_,I.laid (t':=s.toks) (o:=.lst (cutV xs lo hi)) (fun b ob q=>Heap.get?_push_of_some _ q) (Nat.le_refl _) ?_,rfl,q _ (I.hok.fresh (Nat.le_refl _))⟩
 exact ⟨Nat.le_trans (cutV_length xs lo hi) hz,_,0,(r.drop (HT.sIx xs.length 0 lo)).take (HT.sIx xs.length xs.length hi - HT.sIx xs.length 0 lo),Heap.get?_push_size _ rfl⟩
noncomputable def flatV:V→Bool
 | .non=>true
 | .bl _=>true
 | .int _=>true
 | .str _=>true
 | _=>false
noncomputable def eqV:V→V→Bool
 | .non,.non=>true
 | .bl a,.bl b=>a == b
 | .bl a,.int b=>(if a then 1 else 0) == b
 | .int a,.bl b=>a == (if b then 1 else 0)
 | .int a,.int b=>a == b
 | .str a,.str b=>a == b
 | _,_=>false
theorem eqAt_V {A:Around} {s:Shared} {y x:V} {u v:Value} (ry:RelV y u) (rx:RelV x v) (fy:flatV y=true) (fx:flatV x=true):SeqAt.EqAt A s u v (eqV y x):=by
 cases y with
 | non =>
  cases ry
  cases x with
  | non=>cases rx;exact SeqAt.EqAt.same _
  | bl b=>cases rx;exact SeqAt.EqAt.none_bool b
  | int b=>obtain ⟨t,rfl⟩:=rx;exact SeqAt.EqAt.none_int b t
  | str b=>obtain ⟨t,rfl⟩:=rx;exact SeqAt.EqAt.none_str b t
  | _=>exact absurd (show false=true from fx) Bool.false_ne_true
 | bl a =>
  cases ry
  cases x with
  | non=>cases rx;exact SeqAt.EqAt.bool_none a
  | bl b=>cases rx;exact SeqAt.EqAt.bool_bool a b
  | int b=>obtain ⟨t,rfl⟩:=rx;exact SeqAt.EqAt.bool_int a b t
  | str b=>obtain ⟨t,rfl⟩:=rx;exact SeqAt.EqAt.bool_str a b t
  | _=>exact absurd (show false=true from fx) Bool.false_ne_true
 | int a =>
  obtain ⟨t',rfl⟩:=ry
  cases x with
  | non=>cases rx;exact SeqAt.EqAt.int_none a t'
  | bl b=>cases rx;exact SeqAt.EqAt.int_bool a t' b
  | int b=>obtain ⟨t,rfl⟩:=rx;exact SeqAt.EqAt.int_int a t' b t
  | str b=>obtain ⟨t,rfl⟩:=rx;exact SeqAt.EqAt.int_str a t' b t
  | _=>exact absurd (show false=true from fx) Bool.false_ne_true
 | str a =>
  obtain ⟨t',rfl⟩:=ry
  cases x with
  | non=>cases rx;exact SeqAt.EqAt.str_none a t'
  | bl b=>cases rx;exact SeqAt.EqAt.str_bool a t' b
  | int b=>obtain ⟨t,rfl⟩:=rx;exact SeqAt.EqAt.str_int a t' b t
  | str b=>obtain ⟨t,rfl⟩:=rx;exact SeqAt.EqAt.str_str a t' b t
  | _=>exact absurd (show false=true from fx) Bool.false_ne_true
 | _=>exact absurd (show false=true from fy) Bool.false_ne_true
noncomputable def eqU (x:V) (u:Value):Bool:=match u with
 | .none=>eqV .non x
 | .bool b=>eqV (.bl b) x
 | .int i _=>eqV (.int i) x
 | .str z _=>eqV (.str z) x
 | _=>false
theorem eqU_of {x y:V} {u:Value} (r:RelV y u) (f:flatV y=true):eqU x u=eqV y x:=by
 cases y with
 | non=>cases r;rfl
 | bl b=>cases r;rfl
 | int i=>obtain ⟨t,rfl⟩:=r;rfl
 | str z=>obtain ⟨t,rfl⟩:=r;rfl
 | _=>exact absurd (show false=true from f) Bool.false_ne_true
theorem any_eqU {x:V}:∀ {xs:List V} {us:List Value},Vals xs us→xs.all flatV=true→us.any (eqU x)=xs.any fun y=>eqV y x
 | _,_,.nil,_=>rfl
 | y :: xs,u :: us,.cons r t,f=>by
  rw [List.all_cons,Bool.and_eq_true] at f
  rw [List.any_cons,List.any_cons,eqU_of r f.1,any_eqU t f.2]
theorem mem_eqAt {A:Around} {s:Shared} {x:V} {v:Value} (rx:RelV x v) (fx:flatV x=true):∀ {xs:List V} {us:List Value},Vals xs us→xs.all flatV=true→∀ u∈us,SeqAt.EqAt A s u v (eqU x u)
 | _,_,.nil,_=>fun u hu=>by cases hu
 | y :: xs,u :: us,.cons r t,f=>fun u' hu=>by
  rw [List.all_cons,Bool.and_eq_true] at f
  rcases List.mem_cons.mp hu with rfl | hu
  ·rw [eqU_of r f.1];exact eqAt_V r rx f.1 fx
  ·exact mem_eqAt rx fx t f.2 u' hu
noncomputable def inV (x:V) (xs:List V):Bool:=xs.any fun y=>eqV y x
noncomputable def rIn (K:PySem.W.Frag) (neg:Bool):R2:=fun x y H Q=>∃ p xs,y=.ref p∧(SqL K H p xs∨SqT K H p xs)∧flatV x=true∧xs.all flatV=true∧Q (.bl (if neg then !inV x xs else inV x xs)) H
theorem op_in_seq:OpR X (compareOp .In) (rIn X.K false):=by
 intro pins s σ H x y v u Q I rx ry h
 obtain ⟨p,xs,rfl,hq,fx,fs,q⟩:=h
 cases ry
 rcases hq with hq | hq
 ·obtain ⟨its,r,pl,hz⟩:=I.list hq
  refine SeqAt.in_listAt (eqU x) pl.isList (fun w hw=>mem_eqAt rx fx r fs w (by simpa using hw)) ⟨.bl _,H,I,rfl,?_⟩
  rw [show its.toArray.any (eqU x)=its.any (eqU x) by simp,any_eqU r fs]
  exact q
 ·obtain ⟨its,r,pl,hz⟩:=I.tuple hq
  refine SeqAt.in_tupleAt (eqU x) pl (fun w hw=>mem_eqAt rx fx r fs w (by simpa using hw)) ⟨.bl _,H,I,rfl,?_⟩
  rw [show its.toArray.any (eqU x)=its.any (eqU x) by simp,any_eqU r fs]
  exact q
theorem call_len_seq:CallR X (.builtin "len") (fun xs H Q=>∃ p ys,xs=[.ref p]∧(SqL X.K H p ys∨SqT X.K H p ys)∧Q (.int ys.length) H):=by
 intro pins s σ H xs us Q I r h
 obtain ⟨p,ys,rfl,hq,q⟩:=h
 obtain ⟨u,rfl,rx⟩:=vals1 r
 cases rx
 have hn:=line63
 rcases hq with hq | hq
 ·obtain ⟨its,r',pl,hz⟩:=I.list hq
  have hlen:=r'.length
  exact Calls.call_len_list pl.isList (by simp only [List.size_toArray] <;> lia) ⟨.int ys.length,H,I.tok _,⟨s.toks + 1,by rw [List.size_toArray,hlen]⟩,q⟩
 ·obtain ⟨its,r',pl,hz⟩:=I.tuple hq
  have hlen:=r'.length
  exact len_tuple pl (by simp only [List.size_toArray] <;> lia) ⟨.int ys.length,H,I.tok _,⟨s.toks + 1,by rw [List.size_toArray,hlen]⟩,q⟩
theorem call_len_str:CallR X (.builtin "len") (fun xs H Q=>∃ z,xs=[.str z]∧z.length≤sizeLine∧Q (.int z.length) H):=by
 intro pins s σ H xs us Q I r h
 obtain ⟨z,rfl,hz,q⟩:=h
 obtain ⟨u,rfl,t,rfl⟩:=vals1 r
 have hn:=line63
 exact len_str (by lia) ⟨.int z.length,H,I.tok _,⟨_,rfl⟩,q⟩
theorem call_list_of:CallR X (.type "list") (fun xs H Q=>∃ p ys,xs=[.ref p]∧(SqL X.K H p ys∨SqT X.K H p ys)∧∀ l,H l=none→Q (.ref l) (upd H l (.lst ys))):=by
 intro pins s σ H xs us Q I r h
 obtain ⟨p,ys,rfl,hq,q⟩:=h
 obtain ⟨u,rfl,rx⟩:=vals1 r
 cases rx
 have fin:∀ (its:List Value),Vals ys its→ys.length≤sizeLine→∀ (h':Heap) (c':Nat),(∀ b o',s.heap.get? b=some o'→h'.get? b=some o') →
   h'.get? s.heap.objs.size=some { cls:=.type "list",dict:=none,data:=.seq its.toArray c',slots:=#[] }→EP X pins σ Q (.ref s.heap.objs.size) { s with heap:=h' }:=fun its r' hz h' c' kp e =>
  ⟨.ref s.heap.objs.size,_,I.laid (t':=s.toks) kp (Nat.le_refl _) (show ObjOk X.prog X.w _ h' _ (.lst ys) from ⟨hz,its,c',r',e⟩),rfl,q _ (I.hok.fresh (Nat.le_refl _))⟩
 rcases hq with hq | hq
 ·obtain ⟨its,r',pl,hz⟩:=I.list hq
  have hlen:=r'.length
  obtain ⟨o,ho,hc,n,hd⟩:=pl.isList
  exact call_list_seq p (.inl rfl) ho hc hd (fun h' c' kp e=>fin its r' hz h' c' kp e) (by simp only [List.size_toArray] <;> lia)
 ·obtain ⟨its,r',pl,hz⟩:=I.tuple hq
  have hlen:=r'.length
  obtain ⟨o,ho,hc,n,hd⟩:=pl
  exact call_list_seq p (.inr rfl) ho hc hd (fun h' c' kp e=>fin its r' hz h' c' kp e) (by simp only [List.size_toArray] <;> lia)
theorem call_tuple_of:CallR X (.type "tuple") (fun xs H Q=>∃ p ys,xs=[.ref p]∧((SqL X.K H p ys∧∀ l,H l=none→Q (.ref l) (upd H l (.tup ys)))∨(SqT X.K H p ys∧Q (.ref p) H))):=by
 intro pins s σ H xs us Q I r h
 obtain ⟨p,ys,rfl,h⟩:=h
 obtain ⟨u,rfl,rx⟩:=vals1 r
 cases rx
 rcases h with ⟨hq,q⟩ | ⟨hq,q⟩
 ·obtain ⟨its,r',pl,hz⟩:=I.list hq
  have hlen:=r'.length
  refine call_tuple_list pl.isList (fun h' kp=>?_) (by simp only [List.size_toArray] <;> lia)
  have I1:Inv X pins σ H { s with heap:=h' }:=I.kept (t':=s.toks) kp
  have I2:Inv X pins σ (upd H h'.objs.size (.tup ys)) { s with heap:=h'.push { cls:=.type "tuple",data:=.seq its.toArray } } :=
   I1.laid (t':=s.toks) (fun b o e=>Heap.get?_push_of_some _ e) (Nat.le_refl _) (show ObjOk X.prog X.w _ _ _ (.tup ys) from ⟨hz,its,r',TupO.new _ _⟩)
  exact ⟨.ref h'.objs.size,_,I2,rfl,q _ (I1.hok.fresh (Nat.le_refl _))⟩
 ·obtain ⟨its,r',pl,hz⟩:=I.tuple hq
  exact call_tuple_same pl ⟨.ref p,H,I,rfl,q⟩
noncomputable def tyV (K:PySem.W.Frag) (T:String) (x:V) (H:Hp):Prop:=match x with
 | .str _=>T="str"
 | .int _=>T="int"
 | .ref p=>(T="list"∧∃ xs,SqL K H p xs)∨(T="tuple"∧∃ o,K.lookup p=some o∧o.cls=.type "tuple"∧o.dict=none) ∨
   (T="dict"∧((∃ kvs,H p=some (.dK kvs))∨∃ kvs,H p=some (.dT kvs)))∨(T="set"∧∃ S n,H p=some (.set S n))
 | _=>False
theorem tyV_is {pins:List (Addr×Obj)} {σ:St} {H:Hp} {s:Shared} {T:String} {x:V} {v:Value} (I:Inv X pins σ H s) (r:RelV x v) (ty:tyV X.K T x H) :
  s.TypeIs v T∧∀ a,v=.ref a→∃ ob,s.heap.get? a=some ob∧ob.dict=none:=by
 cases x with
 | str z =>
  obtain ⟨t,rfl⟩:=r
  cases (show T="str" from ty)
  exact ⟨typeIs_str s z t,fun _ e=>nomatch e⟩
 | int i =>
  obtain ⟨t,rfl⟩:=r
  cases (show T="int" from ty)
  exact ⟨typeIs_int s i t,fun _ e=>nomatch e⟩
 | ref p =>
  cases r
  rcases ty with ⟨rfl,xs,hq⟩ | ⟨rfl,o,hk,hc,hd⟩ | ⟨rfl,hk⟩ | ⟨rfl,S,n,hk⟩
  ·obtain ⟨its,_,pl,_⟩:=I.list hq
   refine ⟨pl.isList.typeIs,fun a e=>?_⟩
   cases e
   obtain ⟨o,n,e,c,hd,_⟩:=pl
   exact ⟨o,e,hd⟩
  ·refine ⟨⟨o,I.kIn p o hk,hc⟩,fun a e=>?_⟩
   cases e
   exact ⟨o,I.kIn _ o hk,hd⟩
  ·have z:∃ o,s.heap.get? p=some o∧o.ExactDict:=by
    rcases hk with ⟨kvs,hk⟩ | ⟨kvs,hk⟩
    ·obtain ⟨_,_,_,_,o,_,_,e,ex,_⟩:=I.hok p _ hk
     exact ⟨o,e,ex⟩
    ·obtain ⟨_,_,_,_,o,_,_,e,ex,_⟩:=I.hok p _ hk
     exact ⟨o,e,ex⟩
   obtain ⟨o,e,ex⟩:=z
   refine ⟨⟨o,e,ex.1⟩,fun a e2=>?_⟩
   cases e2
   exact ⟨o,e,ex.2.1⟩
  ·obtain ⟨o,_,_,_,e,ex,_⟩:=I.hok p _ hk
   refine ⟨⟨o,e,ex.1⟩,fun a e2=>?_⟩
   cases e2
   exact ⟨o,e,ex.2.1⟩
 | _=>exact False.elim ty
noncomputable def tBM0 (K:PySem.W.Frag) (T:String) (r:V→List V→Hp→VK→Prop) (to:TE):TE:=fun σ H Q=>to σ H fun x H1=>tyV K T x H1∧r x [] H1 Q
noncomputable def tBM (K:PySem.W.Frag) (T:String) (r:V→List V→Hp→VK→Prop) (to:TE) (t:TA):TE:=fun σ H Q=>to σ H fun x H1=>tyV K T x H1∧t σ H1 fun xs H2=>r x xs H2 Q
variable {o e:Expr} {es:List Expr} {to:TE} {t:TA} {name:Str} {apos cpos:Pos} {T id:String} {r:V→List V→Hp→VK→Prop}
theorem pe_bm0 (pa:PlainAttrs T) (slot:Slot T name id) (hty:typeOf (.builtin id)=pure (.type "method_descriptor")) (hm:MtR X id r) (ho:PE X o to)
  (hbase:attributeBase o name X.env (eval o X.env)=eval o X.env:=by rfl) (hline:(apos.endLine == cpos.line)=true:=by rfl):PE X (.Call (.Attribute o name apos) [] [] cpos) (tBM0 X.K T r to):=by
 intro pins s σ H Q I h
 refine wpAny_Call_method0_late hbase hline (thn (ho pins s σ H _ I h) fun v s1 ⟨x,H1,I1,r1,ty,q1⟩=>?_)
 obtain ⟨h1,h2⟩:=tyV_is I1 r1 ty
 exact ⟨T,id,pa,slot,hty,h1,h2,Calls.callWith_builtin rfl (PySem.evalArgs_none (hm pins s1 σ H1 x [] v [] Q I1 r1 .nil q1))⟩
theorem pe_bm (pa:PlainAttrs T) (slot:Slot T name id) (hty:typeOf (.builtin id)=pure (.type "method_descriptor")) (hm:MtR X id r) (ho:PE X o to) (ha:PA X (e :: es) t)
  (hbase:attributeBase o name X.env (eval o X.env)=eval o X.env:=by rfl)
  (hfew:((backTo cpos (starEach (e :: es) X.env)).all (fun x=>!x.1) && (backToKw cpos (keywordEach [] X.env)).all (fun x=>x.1.isSome)
   && decide ((e :: es).length + ([]:List Keyword).length + (if ([]:List Keyword).isEmpty then 0 else 1)<30))=true:=by rfl)
  (hline:(apos.endLine == cpos.line)=true:=by rfl) (hs:starEach (e :: es) X.env=(false,eval e X.env) :: starEach es X.env:=by rfl) (hplain:(backTo cpos (starEach es X.env)).any (·.1)=false:=by rfl) :
  PE X (.Call (.Attribute o name apos) (e :: es) [] cpos) (tBM X.K T r to t):=by
 intro pins s σ H Q I h
 refine wpAny_Call_method_late hbase hfew hline rfl (thn (ho pins s σ H _ I h) fun v s1 ⟨x,H1,I1,r1,ty,q1⟩=>?_)
 obtain ⟨h1,h2⟩:=tyV_is I1 r1 ty
 refine ⟨T,id,pa,slot,hty,h1,h2,?_⟩
 have hA:=ha cpos pins s1 σ H1 _ I1 q1
 rw [hs] at hA ⊢
 refine Calls.callWith_builtin (by show (false || (backTo cpos (starEach es X.env)).any (·.1))=false;rw [hplain] <;> rfl) (Calls.evalArgs_plain ?_)
 exact thn hA fun us s2 ⟨vs,H2,I2,r2,q2⟩=>hm pins s2 σ H2 x vs v us Q I2 r1 r2 q2
end
end L2
namespace L2
open PySem PySem.Spec PyProof.Rows
noncomputable def MtM (X:Cx) (id:String) (r:V→List V→Hp→VK→Prop):Prop :=
 ∀ (pins:List (Addr×Obj)) (s:Shared) (σ:St) (H:Hp) (x:V) (xs:List V) (v:Value) (us:List Value) (Q:VK),Inv X pins σ H s→RelV x v→Vals xs us→r x xs H Q →
  wpAny (model X.prog X.w) X.A (call (.builtin id) (v :: us)) (EP X pins σ Q) X.xe s
theorem Vals.one {x:V} {us:List Value} (h:Vals [x] us):∃ u,us=[u]∧RelV x u:=by
 cases h with
 | cons r h=>cases h;exact ⟨_,rfl,r⟩
theorem Vals.two {x y:V} {us:List Value} (h:Vals [x,y] us):∃ u v,us=[u,v]∧RelV x u∧RelV y v:=by
 cases h with
 | cons r h=>obtain ⟨v,rfl,q⟩:=Vals.one h;exact ⟨_,_,rfl,r,q⟩
section
variable {X:Cx} {pins:List (Addr×Obj)} {σ:St} {H:Hp} {s:Shared} {l b:Addr} {xs ys zs:List V}
theorem Inv.lset {its its':List Value} {n:Nat} {f:Array Value→Array Value} {t':Nat} (I:Inv X pins σ H s) (hH:H l=some (.lst xs))
  (e:s.heap.get? l=some { cls:=.type "list",data:=.seq its.toArray n }) (hf:f its.toArray=its'.toArray) (hv:Vals ys its') (hz:ys.length≤sizeLine) :
  Inv X pins σ (upd H l (.lst ys)) { s with heap:=s.heap.update l (Obj.mapSeq f),toks:=t' }:=by
 have q:=PySem.IsL.update e f
 rw [hf] at q
 refine I.write (x:=l) (e:=l) (by rw [hH];exact trivial) (.inl rfl) (fun b' u hb hu=>(Heap.get?_update_other s.heap (Obj.mapSeq f) (Ne.symm hb)).trans hu) ⟨_,q⟩ ?_
 exact ⟨hz,its',_,hv,q⟩
theorem Inv.lnew {its:List Value} {t':Nat} (I:Inv X pins σ H s) (hv:Vals ys its) (hz:ys.length≤sizeLine) :
  Inv X pins σ (upd H s.heap.objs.size (.lst ys)) { s with heap:=s.heap.push { cls:=.type "list",data:=.seq its.toArray },toks:=t' } :=
 I.laid (fun _ _ q=>Heap.get?_push_of_some _ q) (Nat.le_refl _) ⟨hz,its,0,hv,Heap.get?_push_size _ rfl⟩
theorem Inv.fresh (I:Inv X pins σ H s):H s.heap.objs.size=none:=I.hok.fresh (Nat.le_refl _)
theorem Inv.lstM (I:Inv X pins σ H s) (hH:H l=some (.lst xs)):xs.length≤sizeLine∧∃ (its:List Value) (n:Nat),Vals xs its∧xs.length=its.length∧s.heap.get? l=some { cls:=.type "list",data:=.seq its.toArray n }:=by
 obtain ⟨z,its,n,r,e⟩:=I.hok l _ hH
 exact ⟨z,its,n,r,r.length,e⟩
theorem notLongL {n:Nat} (h:n≤sizeLine):Builtin.List.listTooLong n=false:=by
 unfold Builtin.List.listTooLong
 exact decide_eq_false (by lia)
end
section
variable {X:Cx}
noncomputable def rAppend:V→List V→Hp→VK→Prop:=fun x vs H Q=>∃ l xs y,x=.ref l∧vs=[y]∧H l=some (.lst xs)∧xs.length<sizeLine∧Q .non (upd H l (.lst (xs ++ [y])))
theorem mt_append:MtM X "list.append" rAppend:=by
 intro pins s σ H x vs v us Q I rx rv h
 obtain ⟨l,xs,y,rfl,rfl,hH,hz,q⟩:=h
 cases rx
 obtain ⟨u,rfl,ru⟩:=rv.one
 obtain ⟨z,its,n,r,hl,e⟩:=I.lstM hH
 refine call_meets F.slot_list_append ⟨_,e,rfl⟩ F.entry_list_append (F.args_list_append_2 _ _) (PySem.list_append l its.toArray n u (by rw [List.size_toArray];lia)) ⟨e,?_⟩
 refine ⟨.non,_,I.lset (its':=its ++ [u]) hH e (by simp) (r.append (.cons ru .nil)) ?_,rfl,q⟩
 rw [List.length_append,List.length_singleton]
 lia
noncomputable def rExtend:V→List V→Hp→VK→Prop:=fun x vs H Q=>∃ l b xs zs,x=.ref l∧vs=[.ref b]∧H l=some (.lst xs)∧H b=some (.lst zs)∧xs.length + zs.length≤sizeLine∧Q .non (upd H l (.lst (xs ++ zs)))
theorem mt_extend:MtM X "list.extend" rExtend:=by
 intro pins s σ H x vs v us Q I rx rv h
 obtain ⟨l,b,xs,zs,rfl,rfl,hH,hB,hz,q⟩:=h
 cases rx
 obtain ⟨u,rfl,ru⟩:=rv.one
 cases ru
 obtain ⟨z,its,n,r,hl,e⟩:=I.lstM hH
 obtain ⟨z2,its2,n2,r2,hl2,e2⟩:=I.lstM hB
 have hsz:its.toArray.size + its2.toArray.size≤sizeLine:=by rw [List.size_toArray,List.size_toArray];lia
 have hlong:¬ (!its.toArray.isEmpty && Builtin.List.listTooLong (its.toArray.size + its2.toArray.size))=true:=by
  rw [notLongL hsz,Bool.and_false]
  exact Bool.false_ne_true
 refine call_meets F.slot_list_extend ⟨_,e,rfl⟩ F.entry_list_extend (F.args_list_extend_2 _ _)
  (AutoSeq1.list_extend_list_list_0 l its.toArray n b its2.toArray n2 hlong (by rw [List.size_toArray];lia) (by lia)) ⟨e,e2,?_⟩
 refine ⟨.non,_,I.lset (its':=its ++ its2) hH e (by simp) (r.append r2) ?_,rfl,q⟩
 rw [List.length_append]
 lia
noncomputable def rCat:R2:=fun x y H Q=>∃ l b xs zs,x=.ref l∧y=.ref b∧H l=some (.lst xs)∧H b=some (.lst zs)∧xs.length + zs.length≤sizeLine∧∀ p,H p=none→Q (.ref p) (upd H p (.lst (xs ++ zs)))
theorem op_cat:OpR X (binaryOp .Add) rCat:=by
 intro pins s σ H x y v u Q I rx ry h
 obtain ⟨l,b,xs,zs,rfl,rfl,hH,hB,hz,q⟩:=h
 cases rx
 cases ry
 obtain ⟨z,its,n,r,hl,e⟩:=I.lstM hH
 obtain ⟨z2,its2,n2,r2,hl2,e2⟩:=I.lstM hB
 refine PySem.P.add_list e e2 ?_ (by rw [List.size_toArray,List.size_toArray];lia)
 have ea:its.toArray ++ its2.toArray=(its ++ its2).toArray:=by simp
 rw [ea]
 exact ⟨.ref _,_,I.lnew (t':=s.toks) (r.append r2) (by rw [List.length_append];lia),rfl,q _ I.fresh⟩
end
section
variable {prog:Program} {w:World} {A:Around} {E:Value→Shared→Prop} {s:Shared}
end
section
variable {X:Cx}
end
end L2
namespace L2
open PySem PySem.Spec PyProof.Rows
section
variable {κ:Type} [DecidableEq κ]
noncomputable def valV (kvs:List (κ×V)) (k:κ):Option V:=(kvs.find? fun kv=>decide (kv.1=k)).map (·.2)
noncomputable def putK (kvs:List (κ×V)) (k:κ) (v:V):List (κ×V) :=
 if (kvs.any fun kv=>decide (kv.1=k))=true then kvs.map (fun kv=>if kv.1=k then (kv.1,v) else kv) else kvs ++ [(k,v)]
theorem valV_pos {p:κ×V} {r:List (κ×V)} {k:κ} (e:p.1=k):valV (p :: r) k=some p.2:=by simp [valV,List.find?_cons,e]
theorem valV_neg {p:κ×V} {r:List (κ×V)} {k:κ} (e:¬ p.1=k):valV (p :: r) k=valV r k:=by simp [valV,List.find?_cons,e]
theorem valV_any (k:κ):∀ kvs:List (κ×V),(kvs.any fun kv=>decide (kv.1=k))=(valV kvs k).isSome
 | []=>rfl
 | p :: r=>by
  rw [List.any_cons]
  by_cases e:p.1=k
  ·simp only [valV_pos e,decide_eq_true e,Bool.true_or,Option.isSome_some]
  ·rw [valV_neg e,decide_eq_false e,Bool.false_or];exact valV_any k r
theorem length_putK (kvs:List (κ×V)) (k:κ) (v:V):(putK kvs k v).length≤kvs.length + 1:=by
 unfold putK
 split
 ·rw [List.length_map];lia
 ·rw [List.length_append,List.length_cons,List.length_nil];lia
theorem RelO.isSome_eq {o:Option V} {u:Option Value} (r:RelO o u):o.isSome=u.isSome:=by
 cases o with
 | none=>cases u with
  | none=>rfl
  | some _=>exact (show False from r).elim
 | some _=>cases u with
  | none=>exact (show False from r).elim
  | some _=>rfl
theorem RelO.getD {o:Option V} {u:Option Value} {d:V} {d':Value} (r:RelO o u) (rd:RelV d d'):RelV (o.getD d) (u.getD d'):=by
 cases o with
 | none=>cases u with
  | none=>exact rd
  | some _=>exact (show False from r).elim
 | some _=>cases u with
  | none=>exact (show False from r).elim
  | some _=>exact r
theorem KV.val {kvs:List (κ×V)} {vs:List (κ×Value)} (r:KV kvs vs) (k:κ):RelO (valV kvs k) (valueAt vs k):=by
 unfold KV at r
 induction r with
 | nil=>exact True.intro
 | @cons p q ps qs h t ih =>
  obtain ⟨h1,h2⟩:=h
  by_cases e:p.1=k
  ·have e':q.1=k:=h1.symm.trans e
   have b:valueAt (q :: qs) k=some q.2:=by simp [valueAt,List.find?_cons,e']
   rw [valV_pos e,b];exact h2
  ·have e':¬ q.1=k:=fun z=>e (h1.trans z)
   have b:valueAt (q :: qs) k=valueAt qs k:=by simp [valueAt,List.find?_cons,e']
   rw [valV_neg e,b];exact ih
theorem KV.any {kvs:List (κ×V)} {vs:List (κ×Value)} (r:KV kvs vs) (k:κ):(kvs.any fun kv=>decide (kv.1=k))=vs.any fun kv=>decide (kv.1=k):=by
 unfold KV at r
 induction r with
 | nil=>rfl
 | cons h t ih=>rw [List.any_cons,List.any_cons,ih,h.1]
theorem KV.repl {kvs:List (κ×V)} {vs:List (κ×Value)} (r:KV kvs vs) (k:κ) {y:V} {u:Value} (ry:RelV y u) :
  KV (kvs.map fun kv=>if kv.1=k then (kv.1,y) else kv) (vs.map fun kv=>if kv.1=k then (kv.1,u) else kv):=by
 unfold KV at r ⊢
 induction r with
 | nil=>exact .nil
 | @cons p q ps qs h t ih =>
  rw [List.map_cons,List.map_cons]
  refine .cons ?_ ih
  obtain ⟨h1,h2⟩:=h
  by_cases e:p.1=k
  ·rw [if_pos e,if_pos (h1.symm.trans e)];exact ⟨h1,ry⟩
  ·rw [if_neg e,if_neg (fun z=>e (h1.trans z))];exact ⟨h1,h2⟩
theorem KV.put {kvs:List (κ×V)} {vs:List (κ×Value)} (r:KV kvs vs) (k:κ) {y:V} {u:Value} (ry:RelV y u):KV (putK kvs k y) (stored vs k u):=by
 unfold putK stored
 rw [r.any k]
 by_cases e:(vs.any fun kv=>decide (kv.1=k))=true
 ·rw [if_pos e,if_pos e];exact r.repl k ry
 ·rw [if_neg e,if_neg e];exact Paired.snoc r ⟨rfl,ry⟩
theorem KV.length {kvs:List (κ×V)} {vs:List (κ×Value)} (r:KV kvs vs):kvs.length=vs.length:=Paired.length r
end
theorem kV_is {P:Program} {w:World} {k:Key} {u:Value} (r:RelV (kV k) u):(mixKind P w).is k u=true:=by
 cases k with
 | inl i=>obtain ⟨t,e⟩:=(show ∃ t,u=Value.int i t from r);subst e;exact mixKind_int P w i t
 | inr x=>obtain ⟨t,e⟩:=(show ∃ t,u=Value.str x t from r);subst e;exact mixKind_str P w x t
theorem items_are {P:Program} {w:World}:∀ {ks:List Key} {us:List Value},Vals (ks.map kV) us→ItemsAre (mixKind P w) ks us
 | [],_,r=>by rw [List.map_nil] at r;cases r;exact .nil
 | k :: ks,_,r=>by
  rw [List.map_cons] at r
  cases r with
  | cons h t=>exact .cons (kV_is h) (items_are t)
noncomputable abbrev KT (H:Hp):List (List Key×V)→List (List Key×Addr×Value)→Prop:=Paired fun p q=>p.1=q.1∧H q.2.1=some (.tup (p.1.map kV))∧RelV p.2 q.2.2
theorem KT.val {H:Hp} {kvs:List (List Key×V)} {xs:List (List Key×Addr×Value)} (r:KT H kvs xs) (k:List Key):RelO (valV kvs k) ((atKey xs k).map (·.2)):=by
 induction r with
 | nil=>exact True.intro
 | @cons p q ps qs h t ih =>
  obtain ⟨h1,_,h2⟩:=h
  by_cases e:p.1=k
  ·have e':q.1=k:=h1.symm.trans e
   have b:atKey (q :: qs) k=some q.2:=by simp [atKey,List.find?_cons,e']
   rw [valV_pos e,b];exact h2
  ·have e':¬ q.1=k:=fun z=>e (h1.trans z)
   have b:atKey (q :: qs) k=atKey qs k:=by simp [atKey,List.find?_cons,e']
   rw [valV_neg e,b];exact ih
theorem KT.repl {H:Hp} {kvs:List (List Key×V)} {xs:List (List Key×Addr×Value)} (r:KT H kvs xs) (k:List Key) {y:V} {u:Value} (ry:RelV y u) :
  KT H (kvs.map fun kv=>if kv.1=k then (kv.1,y) else kv) (xs.map (putAt k u)):=by
 induction r with
 | nil=>exact .nil
 | @cons p q ps qs h t ih =>
  rw [List.map_cons,List.map_cons]
  refine .cons ?_ ih
  obtain ⟨h1,h2,h3⟩:=h
  unfold putAt
  by_cases e:p.1=k
  ·rw [if_pos e,if_pos (h1.symm.trans e)];exact ⟨h1,h2,ry⟩
  ·rw [if_neg e,if_neg (fun z=>e (h1.trans z))];exact ⟨h1,h2,h3⟩
theorem KT.put {H:Hp} {kvs:List (List Key×V)} {xs:List (List Key×Addr×Value)} (r:KT H kvs xs) (k:List Key) {b:Addr} {y:V} {u:Value} (hb:H b=some (.tup (k.map kV))) (ry:RelV y u) :
  KT H (putK kvs k y) (storedH xs k b u):=by
 have e:(kvs.any fun kv=>decide (kv.1=k))=(atKey xs k).isSome:=by
  rw [valV_any,(r.val k).isSome_eq,Option.isSome_map]
 unfold putK storedH
 rw [e]
 by_cases q:(atKey xs k).isSome=true
 ·rw [if_pos q,if_pos q];exact r.repl k ry
 ·rw [if_neg q,if_neg q];exact Paired.snoc r ⟨rfl,hb,ry⟩
theorem KT.keeps {H H':Hp} {kvs:List (List Key×V)} {xs:List (List Key×Addr×Value)} (r:KT H kvs xs) (ht:∀ b ys,H b=some (.tup ys)→H' b=some (.tup ys)):KT H' kvs xs :=
 Paired.mapP r fun _ _ z=>⟨z.1,ht _ _ z.2.1,z.2.2⟩
section
variable {P:Program} {w:World} {H:Hp} {h:Heap} {a:Addr}
theorem rd_of {u:HO} (ok:HOk P w H h) (e:Rd H a u):ObjOk P w H h a u:=e.ok ok
theorem dk_rd {kvs:List (Key×V)} (ok:HOk P w H h) (e:Rd H a (.dK kvs)):kvs.length≤sizeLine∧(a == sysModules)=false∧∃ vs,KV kvs vs∧h.DictOf (mixKind P w) a vs :=
 show ObjOk P w H h a (.dK kvs) from rd_of ok e
theorem dk_of {kvs:List (Key×V)} (ok:HOk P w H h) (e:H a=some (.dK kvs)):kvs.length≤sizeLine∧(a == sysModules)=false∧∃ vs,KV kvs vs∧h.DictOf (mixKind P w) a vs:=dk_rd ok (.inl e)
theorem key_of {ks:List Key} (ok:HOk P w H h) (e:H a=some (.tup (ks.map kV))):(tupleKind (mixKind P w)).is h ks a:=by
 obtain ⟨_,its,r,o,h1,h2,⟨n,h3⟩,_⟩:=(show ObjOk P w H h a (.tup (ks.map kV)) from ok a _ e)
 exact ⟨o,its.toArray,n,h1,h2,h3,by simpa using items_are r⟩
theorem dt_rd {kvs:List (List Key×V)} (ok:HOk P w H h) (e:Rd H a (.dT kvs)):kvs.length≤sizeLine∧(a == sysModules)=false ∧
  ∃ xs,KT H kvs xs∧h.DictOfH (tupleKind (mixKind P w)) a xs:=by
 obtain ⟨z,y,xs,r,o,es,ep,h1,h2,h3,h4,h5⟩:=(show ObjOk P w H h a (.dT kvs) from rd_of ok e)
 refine ⟨z,y,xs,r,o,es,ep,h1,h2,h3,h4,fun x hx=>?_,h5⟩
 have all:∀ {l:List (List Key×V)} {m:List (List Key×Addr×Value)},KT H l m→∀ x∈m,(tupleKind (mixKind P w)).is h x.1 x.2.1:=by
  intro l m q
  induction q with
  | nil=>intro x hx;exact nomatch hx
  | @cons p q ps qs hq t ih =>
   intro x hx
   rcases List.mem_cons.mp hx with e | hx
   ·subst e
    exact key_of ok (by rw [←hq.1];exact hq.2.1)
   ·exact ih x hx
 exact all r x hx
theorem dt_of {kvs:List (List Key×V)} (ok:HOk P w H h) (e:H a=some (.dT kvs)):kvs.length≤sizeLine∧(a == sysModules)=false ∧
  ∃ xs,KT H kvs xs∧h.DictOfH (tupleKind (mixKind P w)) a xs:=dt_rd ok (.inl e)
end
noncomputable def DGet (H:Hp) (a:Addr) (y:V) (r:Option V):Prop :=
 (∃ kvs k,Rd H a (.dK kvs)∧y=kV k∧r=valV kvs k)∨∃ kvs k b,Rd H a (.dT kvs)∧y=.ref b∧H b=some (.tup (k.map kV))∧r=valV kvs k
noncomputable def DPut (H:Hp) (a:Addr) (y v:V) (H':Hp):Prop :=
 (∃ kvs k,H a=some (.dK kvs)∧y=kV k∧kvs.length<sizeLine∧H'=upd H a (.dK (putK kvs k v))) ∨
 ∃ kvs k b,H a=some (.dT kvs)∧y=.ref b∧H b=some (.tup (k.map kV))∧kvs.length<sizeLine∧H'=upd H a (.dT (putK kvs k v))
theorem DGet.k {H:Hp} {a:Addr} {kvs:List (Key×V)} {k:Key} (e:H a=some (.dK kvs)):DGet H a (kV k) (valV kvs k):=.inl ⟨kvs,k,.inl e,rfl,rfl⟩
theorem DGet.t {H:Hp} {a b:Addr} {kvs:List (List Key×V)} {k:List Key} (e:H a=some (.dT kvs)) (eb:H b=some (.tup (k.map kV))):DGet H a (.ref b) (valV kvs k):=.inr ⟨kvs,k,b,.inl e,rfl,eb,rfl⟩
theorem DPut.k {H:Hp} {a:Addr} {kvs:List (Key×V)} {k:Key} {v:V} (e:H a=some (.dK kvs)) (hl:kvs.length<sizeLine):DPut H a (kV k) v (upd H a (.dK (putK kvs k v))):=.inl ⟨kvs,k,e,rfl,hl,rfl⟩
theorem DPut.t {H:Hp} {a b:Addr} {kvs:List (List Key×V)} {k:List Key} {v:V} (e:H a=some (.dT kvs)) (eb:H b=some (.tup (k.map kV))) (hl:kvs.length<sizeLine) :
  DPut H a (.ref b) v (upd H a (.dT (putK kvs k v))):=.inr ⟨kvs,k,b,e,rfl,eb,hl,rfl⟩
section
variable {X:Cx} {pins:List (Addr×Obj)} {σ:St} {H:Hp} {s:Shared} {a:Addr} {y v:V} {u r:Value} {o:Option V} {A:Around} {E:Value→Shared→Prop}
theorem Inv.big (I:Inv X pins σ H s):sysModules<s.heap.objs.size:=by
 have h:mainGlobals<s.heap.objs.size:=(I.mod.glob.keeps I.bk).lt
 exact Nat.lt_trans (by decide) h
theorem d_getItem {Q:Value→Shared→Prop} (hu:A.units + 1<cLine) (I:Inv X pins σ H s) (g:DGet H a y (some v)) (ry:RelV y u) (h:∀ w' s',Inv X pins σ H s'→RelV v w'→Q w' s') :
  wpAny (model X.prog X.w) A (getItem (.ref a) u) Q E s:=by
 rcases g with ⟨kvs,k,e,ey,l⟩ | ⟨kvs,k,b,e,ey,eb,l⟩
 ·subst ey
  obtain ⟨z,hd,vs,rel,dd⟩:=dk_rd I.hok e
  obtain ⟨w',hw,rw'⟩:=RelO.some_of (v:=v) (o:=valueAt vs k) (by rw [l];exact rel.val k)
  exact wpAny_getItem_of (kV_is ry) dd.mapOf hw (h w' _ (I.tok _) rw')
 ·subst ey
  cases (show u=Value.ref b from ry)
  obtain ⟨z,hd,xs,rel,dd⟩:=dt_rd I.hok e
  obtain ⟨w',hw,rw'⟩:=RelO.some_of (v:=v) (o:=(atKey xs k).map (·.2)) (by rw [l];exact rel.val k)
  obtain ⟨p,hp,hp2⟩:=Option.map_eq_some_iff.mp hw
  refine wpAny_getItem_heap (tupleKind_room_in1 hu) (key_of I.hok eb) dd hp ?_
  rw [hp2]
  exact h w' _ (I.tok _) rw'
theorem d_write {h':Heap} {t':Nat} {ob:HO} (I:Inv X pins σ H s) (mu:Mut (H a)) (hs:Heap.SameBut a s.heap h') (he:∃ q,h'.get? a=some q) (new:ObjOk X.prog X.w (upd H a ob) h' a ob) :
  Inv X pins σ (upd H a ob) { s with heap:=h',toks:=t' } :=
 I.write (x:=a) (e:=a) mu (.inl rfl) (fun b q hb z=>(hs.2 b hb).trans z) he new
theorem dk_new {P:Program} {w:World} {H':Hp} {h':Heap} {kvs:List (Key×V)} {vs:List (Key×Value)} (z:kvs.length≤sizeLine) (hd:(a == sysModules)=false) (rel:KV kvs vs) (dd:h'.DictOf (mixKind P w) a vs) :
  ObjOk P w H' h' a (.dK kvs):=⟨z,hd,vs,rel,dd⟩
theorem d_setItem {H':Hp} {Q:Unit→Shared→Prop} (hu:A.units + 1<cLine) (I:Inv X pins σ H s) (g:DPut H a y v H') (ry:RelV y u) (rv:RelV v r) (h:∀ s',Inv X pins σ H' s'→Q () s') :
  wpAny (model X.prog X.w) A (setItem (.ref a) u r) Q E s:=by
 rcases g with ⟨kvs,k,e,ey,l,eH⟩ | ⟨kvs,k,b,e,ey,eb,l,eH⟩
 ·subst ey eH
  obtain ⟨z,hd,vs,rel,dd⟩:=dk_of I.hok e
  have hz:vs.length≤sizeLine:=by rw [←rel.length];exact z
  have hl:(putK kvs k v).length≤sizeLine:=by have:=length_putK kvs k v;lia
  refine wpAny_setItem_pairs (hsz:=hz) (kV_is ry) dd fun h' dd' hs=>h _ ?_
  have he:∃ q,h'.get? a=some q:=let ⟨q,_,_,hq,_⟩:=dd';⟨q,hq⟩
  exact d_write I (by rw [e];exact True.intro) hs he (dk_new hl hd (rel.put k rv) dd')
 ·subst ey eH
  cases (show u=Value.ref b from ry)
  obtain ⟨z,hd,xs,rel,dd⟩:=dt_of I.hok e
  have hz:xs.length≤sizeLine:=by rw [←Paired.length rel];exact z
  have hl:(putK kvs k v).length≤sizeLine:=by have:=length_putK kvs k v;lia
  refine wpAny_setItem_heap (hsz:=hz) (tupleKind_room_in1 hu) (key_of I.hok eb) dd fun h' dd' hs=>h _ ?_
  obtain ⟨q,es,ep,hq,h2,h3,h4,_,h5⟩:=dd'
  refine d_write I (by rw [e];exact True.intro) hs ⟨q,hq⟩ ⟨hl,hd,_,(rel.put k eb rv).keeps fun c ys ec=>?_,q,es,ep,hq,h2,h3,h4,h5⟩
  rw [upd_ne (ne_of ec e (fun z=>nomatch z))]
  exact ec
end
section
variable {X:Cx} {pins:List (Addr×Obj)} {σ:St} {H:Hp} {s:Shared} {a:Addr} {kvs:List (Key×V)} {k:Key} {u:Value} {A:Around} {E:Value→Shared→Prop}
end
noncomputable def NoSl (i:Expr):Prop:=∀ ov iv,subscripted i false ov iv=operate [ov,iv] (getItem ov iv)
theorem subD_of {prog:Program} {w:World} {A:Around} {E:Value→Shared→Prop} {s:Shared} {env:Env} {value slice:Expr} {pos:Pos} {T id:String} {Q:Value→Shared→Prop}
  (hl:typeLookup (.type T) "__getitem__"=pure (some (.builtin id))) (hs:NoSl slice)
  (h:wpAny (model prog w) A (eval value env) (fun o s₁=>wpAny (model prog w) A (eval slice env) (fun i s₂=>s₂.TypeIs o T∧wpAny (model prog w) A (getItem o i) Q E s₂) E s₁) E s) :
  wpAny (model prog w) A (eval (.Subscript value slice pos) env) Q E s:=by
 refine Subscript_ (wpAny_mono h (fun o s₁ h₁=>wpAny_mono h₁ (fun i s₂ h₂=>?_) fun _ _ x=>x) fun _ _ x=>x)
 obtain ⟨hT,h₂⟩:=h₂
 unfold subscriptTail
 refine wpAny_bind ?_
 rw [getitemInPython_of_ne hT.not_modules]
 refine wpAny_bind (wpAny_specialOf hT hl ?_)
 have fin:wpAny (model prog w) A (subscripted slice false o i) (fun r s₃=>wpAny (model prog w) A (letTemporaryGo value o r >>= fun _=>pure r) Q E s₃) E s₂:=by
  rw [hs o i]
  exact wpAny_operating (wpAny_mono h₂ (fun r s₃ h₃=>wpAny_bind (wpAny_letTemporaryGo (wpAny_pure h₃))) fun _ _ x=>x)
 first
  | exact wpAny_pure (wpAny_bind fin)
  | exact wpAny_bind (wpAny_pure (wpAny_bind fin))
  | exact wpAny_bind fin
theorem dict_typeIs {X:Cx} {pins:List (Addr×Obj)} {σ:St} {H:Hp} {s:Shared} {a:Addr} {y:V} {o:Option V} (I:Inv X pins σ H s) (g:DGet H a y o):s.TypeIs (.ref a) "dict":=by
 rcases g with ⟨kvs,k,e,_,_⟩ | ⟨kvs,k,b,e,_,_,_⟩
 ·obtain ⟨_,_,vs,_,dd⟩:=dk_rd I.hok e
  exact dd.typeIs
 ·obtain ⟨_,_,xs,_,dd⟩:=dt_rd I.hok e
  exact dd.typeIs
noncomputable def tDGet (td ty:TE):TE:=fun σ H Q=>td σ H fun x H1=>ty σ H1 fun y H2=>∃ a v,x=.ref a∧DGet H2 a y (some v)∧Q v H2
noncomputable def sDPut (td ty tv:TE):TS:=fun D σ H=>tv σ H fun v H1=>td σ H1 fun x H2=>ty σ H2 fun y H3=>∃ a H4,x=.ref a∧DPut H3 a y v H4∧D.nx σ H4
noncomputable def sDAug (td ty tv:TE) (rd:V→V→Hp→VK→Prop):TS:=fun D σ H=>td σ H fun x H1=>ty σ H1 fun y H2=>∃ a v,x=.ref a∧DGet H2 a y (some v) ∧
 tv σ H2 fun y2 H3=>rd v y2 H3 fun z H4=>∃ H5,DPut H4 a y z H5∧D.nx σ H5
section
variable {X:Cx} {o i e value:Expr} {pos pos' tpos:Pos} {td ty tv:TE}
theorem pe_dget (hu:X.A.units + 1<cLine) (ho:PE X o td) (hi:PE X i ty) (hs:NoSl i):PE X (.Subscript o i pos) (tDGet td ty):=by
 intro pins s σ H Q I h
 refine subD_of PySem.F.slot_dict_getitem.lookup hs (thn (ho pins s σ H _ I h) fun u s1 ⟨x,H1,I1,rx,q1⟩=>thn (hi pins s1 σ H1 _ I1 q1) fun iv s2 ⟨y,H2,I2,ry,a,v,ex,g,q2⟩=>?_)
 subst ex
 obtain rfl:u=Value.ref a:=rx
 exact ⟨dict_typeIs I2 g,d_getItem hu I2 g ry fun w' s3 I3 rw'=>⟨v,H2,I3,rw',q2⟩⟩
theorem ps_dput (hu:X.A.units + 1<cLine) (ho:PE X o td) (hi:PE X i ty) (hv:PE X value tv) (hs:swapsWith value (some (.Subscript o i pos')) pos.line X.env=pure false) :
  PS X (.Assign [.Subscript o i pos'] value pos) (sDPut td ty tv):=by
 intro pins s σ H D I h
 refine wpAny_Assign_Subscript (thn (hv pins s σ H _ I h) fun r s1 ⟨v,H1,I1,rv,q1⟩=>thn (ho pins s1 σ H1 _ I1 q1) fun u s2 ⟨x,H2,I2,rx,q2⟩=>thn (hi pins s2 σ H2 _ I2 q2) fun iv s3 ⟨y,H3,I3,ry,a,H4,ex,g,q3⟩=>?_) hs
 subst ex
 obtain rfl:u=Value.ref a:=rx
 exact d_setItem hu I3 g ry rv fun s4 I4=>⟨σ,H4,I4,q3⟩
theorem ps_daug {op:Operator} {rd:V→V→Hp→VK→Prop} (hu:X.A.units + 1<cLine) (ho:PE X o td) (hi:PE X i ty) (hv:PE X value tv) (hop:InOp X op rd)
  (ha:∀ ov iv new,augStore i ov iv new=(do holding [new,ov,iv] (setItem ov iv new);release [new,ov,iv] [];pure .next)):PS X (.AugAssign (.Subscript o i tpos) op value pos) (sDAug td ty tv rd):=by
 intro pins s σ H D I h
 refine wpAny_AugAssign_SubscriptAny (thn (ho pins s σ H _ I h) fun u s1 ⟨x,H1,I1,rx,q1⟩=>thn (hi pins s1 σ H1 _ I1 q1) fun iv s2 ⟨y,H2,I2,ry,a,v,ex,g,q2⟩=>?_) ha
 subst ex
 obtain rfl:u=Value.ref a:=rx
 refine d_getItem hu I2 g ry fun w' s3 I3 rw'=>thn (hv pins s3 σ H2 _ I3 q2) fun w2 s4 ⟨y2,H3,I4,ry2,q3⟩=>thn (hop pins s4 σ H3 v y2 w' w2 _ I4 rw' ry2 q3) fun w3 s5 ⟨z,H4,I5,rz,H5,g5,q4⟩=>?_
 exact d_setItem hu I5 g5 ry rz fun s6 I6=>⟨σ,H5,I6,q4⟩
end
theorem dt_empty {P:Program} {w:World} {H:Hp} (h:Heap) (hb:sysModules<h.objs.size):ObjOk P w H (h.push { cls:=.type "dict",data:=.dict #[] }) h.objs.size (.dT []) :=
 ⟨Nat.zero_le _,beq_eq_false_iff_ne.mpr (Ne.symm (Nat.ne_of_lt hb)),[],.nil,_,#[],0,Heap.get?_push_size _ rfl,⟨rfl,rfl,rfl⟩,rfl,rfl,List.nodup_nil⟩
noncomputable def tDNewT:TE:=fun _ H Q=>∀ p,H p=none→Q (.ref p) (upd H p (.dT []))
section
variable {X:Cx} {pos:Pos}
theorem pe_dnewT:PE X (.Dict [] [] pos) tDNewT:=fun pins s σ H Q I h =>
 wpAny_Dict_empty ⟨.ref s.heap.objs.size,_,I.laid (a:=s.heap.objs.size) (o:=.dT []) (t':=s.toks) (fun _ _ q=>Heap.get?_push_of_some _ q) (Nat.le_refl _) (dt_empty s.heap I.big),rfl,h _ (I.hok.fresh (Nat.le_refl _))⟩
end
structure M1 (X:Cx) (o:Expr) (m:Str) (apos:Pos) (e:Expr) (cpos:Pos):Prop where
 base:attributeBase o m X.env (eval o X.env)=eval o X.env
 few:((backTo cpos (starEach [e] X.env)).all (fun x=>!x.1) && (backToKw cpos (keywordEach [] X.env)).all (fun x=>x.1.isSome)
  && decide (([e]:List Expr).length + ([]:List Keyword).length + (if ([]:List Keyword).isEmpty then 0 else 1)<30))=true
 line:(apos.endLine == cpos.line)=true
 trees:backTo cpos (starEach [e] X.env)=[(false,eval e X.env)]
structure M2 (X:Cx) (o:Expr) (m:Str) (apos:Pos) (e f:Expr) (cpos:Pos):Prop where
 base:attributeBase o m X.env (eval o X.env)=eval o X.env
 few:((backTo cpos (starEach [e,f] X.env)).all (fun x=>!x.1) && (backToKw cpos (keywordEach [] X.env)).all (fun x=>x.1.isSome)
  && decide (([e,f]:List Expr).length + ([]:List Keyword).length + (if ([]:List Keyword).isEmpty then 0 else 1)<30))=true
 line:(apos.endLine == cpos.line)=true
 trees:backTo cpos (starEach [e,f] X.env)=[(false,eval e X.env),(false,eval f X.env)]
noncomputable def IsD (H:Hp) (a:Addr):Prop:=(∃ kvs,Rd H a (.dK kvs))∨∃ kvs,Rd H a (.dT kvs)
theorem isD_at {X:Cx} {pins:List (Addr×Obj)} {σ:St} {H:Hp} {s:Shared} {a:Addr} (I:Inv X pins σ H s) (d:IsD H a) :
  s.TypeIs (.ref a) "dict"∧(∀ b,Value.ref a=.ref b→∃ ob,s.heap.get? b=some ob∧ob.dict=none)∧(a == sysModules)=false:=by
 rcases d with ⟨kvs,e⟩ | ⟨kvs,e⟩
 ·obtain ⟨_,hd,vs,_,dd⟩:=dk_rd I.hok e
  refine ⟨dd.typeIs,fun b q=>?_,hd⟩
  cases q
  obtain ⟨ob,_,_,h1,h2,_⟩:=dd
  exact ⟨ob,h1,h2.2.1⟩
 ·obtain ⟨_,hd,xs,_,dd⟩:=dt_rd I.hok e
  refine ⟨dd.typeIs,fun b q=>?_,hd⟩
  cases q
  obtain ⟨ob,_,_,h1,h2,_⟩:=dd
  exact ⟨ob,h1,h2.2.1⟩
section
variable {X:Cx} {pins:List (Addr×Obj)} {σ:St} {H:Hp} {s:Shared} {a:Addr} {y d:V} {u r:Value} {o:Option V} {A:Around} {E:Value→Shared→Prop}
theorem d_get2 {Q:Value→Shared→Prop} (hu:A.units + 1<cLine) (I:Inv X pins σ H s) (g:DGet H a y o) (ry:RelV y u) (rd:RelV d r) (h:∀ w' s',Inv X pins σ H s'→RelV (o.getD d) w'→Q w' s') :
  wpAny (model X.prog X.w) A (call (.builtin "dict.get") [.ref a,u,r]) Q E s:=by
 rcases g with ⟨kvs,k,e,ey,l⟩ | ⟨kvs,k,b,e,ey,eb,l⟩
 ·subst ey
  obtain ⟨z,hd,vs,rel,dd⟩:=dk_rd I.hok e
  refine call_meetsIn PySem.F.slot_dict_get dd.typeIs PySem.F.entry_dict_get (PySem.F.args_dict_get_3 _ _ _) (meets_dict_get_default (mixKind X.prog X.w) a (kV_is ry) hd r) ⟨_,dd.mapOf,h _ _ (I.tok _) ?_⟩
  rw [l]
  exact (rel.val k).getD rd
 ·subst ey
  cases (show u=Value.ref b from ry)
  obtain ⟨z,hd,xs,rel,dd⟩:=dt_rd I.hok e
  refine call_meetsIn PySem.F.slot_dict_get dd.typeIs PySem.F.entry_dict_get (PySem.F.args_dict_get_3 _ _ _) (meetsH_dict_get_default (tupleKind (mixKind X.prog X.w)) a b hd r) ⟨tupleKind_room_in1 hu,k,xs,key_of I.hok eb,dd,h _ _ (I.tok _) ?_⟩
  rw [l]
  exact (rel.val k).getD rd
end
noncomputable def tDGet2 (td ty tx:TE):TE:=fun σ H Q=>td σ H fun x H1=>∃ a,x=.ref a∧IsD H1 a∧ty σ H1 fun y H2=>tx σ H2 fun z H3=>∃ o,DGet H3 a y o∧Q (o.getD z) H3
section
variable {X:Cx} {o e f:Expr} {apos cpos:Pos} {td ty tx:TE}
theorem pe_dget2 (hu:X.A.units + 1<cLine) (ho:PE X o td) (he:PE X e ty) (hf:PE X f tx) (m:M2 X o "get" apos e f cpos):PE X (.Call (.Attribute o "get" apos) [e,f] [] cpos) (tDGet2 td ty tx):=by
 intro pins s σ H Q I h
 refine wpAny_Call_method m.base m.few m.line PySem.F.plainAttrs_dict PySem.F.slot_dict_get PySem.F.type_dict_get (thn (ho pins s σ H _ I h) fun u s1 ⟨x,H1,I1,rx,a,ex,d,q1⟩=>?_)
 subst ex
 obtain rfl:u=Value.ref a:=rx
 obtain ⟨t1,t2,_⟩:=isD_at I1 d
 refine ⟨t1,t2,?_⟩
 rw [m.trees]
 refine Calls.callWith_builtin rfl (Calls.evalArgs_plain (Calls.spliced_cons (thn (he pins s1 σ H1 _ I1 q1) fun iv s2 ⟨y,H2,I2,ry,q2⟩ =>
  Calls.spliced_cons (thn (hf pins s2 σ H2 _ I2 q2) fun fv s3 ⟨z,H3,I3,rz,ov,g,q3⟩=>Calls.spliced_nil ?_))))
 exact d_get2 hu I3 g ry rz fun w' s4 I4 rw'=>⟨_,H3,I4,rw',q3⟩
end
section
variable {X:Cx} {pins:List (Addr×Obj)} {σ:St} {H:Hp} {s:Shared} {a:Addr} {kvs:List (Key×V)} {A:Around} {E:Value→Shared→Prop}
end
section
variable {X:Cx} {pins:List (Addr×Obj)} {σ:St} {H:Hp} {s:Shared} {a:Addr} {y:V} {u:Value} {A:Around} {E:Value→Shared→Prop}
end
end L2
namespace Att
open PySem PySem.W PySem.Calls PyProof.Rows
theorem ints_of_wellAll {P:Params} {h:Heap}:∀ (ns:List Int) (vs:List Value),WellAll P h vs (ns.map WData.int)→IntsAre vs ns:=by
 intro ns
 induction ns with
 | nil =>
  intro vs w
  rw [List.map_nil] at w
  cases w
  exact .nil
 | cons n ns ih =>
  intro vs w
  rw [List.map_cons] at w
  cases w with
  | cons a b =>
   cases a
   exact .cons _ _ (ih _ b)
theorem script_of {l:OpenLaw} {n:Nat} (hn:l.most=some n) {P:Params} {h:Heap} {args:List WData} {vals:List Value}
  (hpre:l.row.toRowW.claim.pre args=true) (hwl:WellAll P h vals args) :
  ∃ a vs ns,vals=[Value.ref a]∧args=[WData.list (ns.map WData.int)]∧h.get? a=some { cls:=.type "list",data:=.seq vs.toArray }∧IntsAre vs ns∧ns.length≤n:=by
 have hsh:WShape.hasAll [] args [.list .int]=true:=(pre_splitW hpre).1
 have hc:l.pre.holds [] { args:=args }=true:=(pre_splitW hpre).2
 obtain ⟨d,r,rfl,h1,h2⟩:=hasAllW_cons hsh
 obtain rfl:=hasAllW_nil h2
 obtain ⟨xs,rfl,h3⟩:=hasW_list h1
 obtain ⟨ns,rfl⟩:=items_int h3
 have hlen:ns.length≤n:=by
  unfold OpenLaw.pre at hc
  have h4:(WTm.not (.lt (.lit (.int (n:Int))) (.len (.arg 0)))).holds [] { args:=[.list (ns.map .int)] }=true:=by
   have h4:=(holds_andW hc).1
   rw [hn] at h4
   exact h4
  have h5:=condW_of h4 (w_not (w_lt w_lit (w_len_list (w_arg rfl))))
  rw [List.length_map] at h5
  refine Nat.le_of_not_lt fun q=>?_
  have q':(n:Int)<((ns.length:Nat):Int):=by lia
  first
   | (rw [decide_eq_true q'] at h5;exact absurd h5 (by decide))
   | (simp at h5;lia)
 cases hwl with
 | cons w1 w2 =>
  cases w2
  cases w1 with
  | list ho hall=>exact ⟨_,_,ns,rfl,rfl,ho,ints_of_wellAll ns _ hall,hlen⟩
theorem post_true (l:OpenLaw) (args:List WData):l.row.toRowW.claim.post args (.bool true) args=true :=
 postW_of (r:=l.row.toRowW) (X:=(true == true))
  (show WShape.has [] (.bool true) .bool=true by first | rfl | decide | simp [WShape.has,WShape.arms,WShape.armsAll])
  (show (WTm.eq .res (.lit (.bool true))).value [] { args:=args,res:=some (.bool true),after:=args }=some (.bool (true == true)) from w_eq_bool (w_res rfl) w_lit) rfl
theorem attach_call {l:OpenLaw} {n:Nat} {q:Program} {loose:List Str} {XP:(Str→Option Value)→Heap→Prop} {YP:World→Heap→Prop} {d:DefRec}
  (hn:l.most=some n) (hdf:d.params.defaults=[])
  (call:∀ (w:World) (s₀ s₁:Shared) (mg mb:Str→Option Value) (fa:Addr) (o:Obj) (pm cd doc:Value) (a:Addr) (vs:List Value) (ns:List Int),
   Ground q loose [] XP w s₀ mg mb s₁.heap→YP w s₁.heap →
   s₁.heap.get? fa=some o→o.data=.func (docDef d.name d.params d.body d.scope pm cd doc)→s₁.heap.CodeRec cd d.name→mg d.name=some (.ref fa) →
   s₁.heap.get? a=some { cls:=.type "list",data:=.seq vs.toArray }→IntsAre vs ns→ns.length≤n→s₁.gens=#[] →
   codeAny (model l.prog w) callerA (.call (.ref fa) ⟨[.ref a],[]⟩) (fun r s'=>r=.ok (.ret (.bool true))∧OldK s₁.heap s'.heap∧s'.os=s₁.os∧AllBare s'.gens) s₁) :
  WalkO q loose XP YP l.row.toRowW d [] (fun f vs=>PySem.call f vs):=by
 intro w s₀ s₁ mg mb G Y fa o pm cd doc dV kV ho hd hcd hD hmg hg args vals as hpre hlay hrd hwl hlo
 obtain rfl:dV=.none:=Dflts.none hD hdf
 obtain rfl:kV=.none:=Dflts.noKw hD
 obtain ⟨a,vs,ns,rfl,rfl,hobj,hints,hlen⟩:=script_of hn hpre hwl
 refine enter_call (codeAny_mono (call w s₀ s₁ mg mb fa o pm cd doc a vs ns G Y ho (fd_plain hd) hcd hmg hobj hints hlen hg) fun r s' hq=>?_)
 obtain ⟨rfl,h2,h3,h4⟩:=hq
 exact ⟨.inl ⟨.bool true,.bool true,[],rfl,fun _=>rfl,.bool true,post_true l _,fun _=>⟨List.Pairwise.nil,fun _ hm=>(nomatch hm)⟩⟩,h2,h3,h4⟩
section
variable {prog:Program} {w:World} {A:Around} {E:Value→Shared→Prop} {s:Shared} {K:Frag}
noncomputable def noObjs (h:Heap):Heap:={ h with objs:=#[] }
theorem noObjs_get (h:Heap) (b:Addr):(noObjs h).get? b=none:=by
 cases e:(noObjs h).get? b with
 | none=>rfl
 | some o=>exact absurd (Heap.lt_size e) (Nat.not_lt_zero _)
noncomputable def ledger (h:Heap) (L d:Addr):List (Addr×Obj):=(List.range h.objs.size).filterMap fun a=>if a=L∨a=d then none else (h.get? a).map fun o=>(a,o)
theorem fr_all {h:Heap} {L:Addr} {m:Str→Option Value} (n:h.Ns L m):Fr (noObjs h) L h m :=
 ⟨n,fun b o e=>(by rw [noObjs_get] at e;cases e),Nat.zero_le _⟩
end
end Att
namespace L2
open PySem PySem.Spec PyProof.Rows
theorem vals_ints:∀ {vs:List Value} {ns:List Int},IntsAre vs ns→Vals (ns.map V.int) vs
 | _,_,.nil=>.nil
 | _,_,.cons n t h=>.cons ⟨t,rfl⟩ (vals_ints h)
noncomputable def Only (H:Hp):Prop:=∀ b,H b=none∨∃ o xs,H b=some (.frz o (.lst xs))
theorem law_call {P:Program} {w:World} {K:PySem.W.Frag} {mg mb:Str→Option Value} {CX:CXT} {k:Nat} {fa a:Addr} {fd:FuncData} {x:Str} {sp:Sp} {s₁:Shared} {vs:List Value} {ns:List Int}
  (KX:K.In s₁.heap) (hns:s₁.heap.Ns mainGlobals mg) (hb:s₁.heap.Ns builtinsNs mb) (hbb:∀ x:Str,x≠"__name__"→mb x=bootBuiltins x) (hlim:s₁.heap.NoLimit) (hg:s₁.gens=#[])
  (ha:s₁.heap.get? a=some { cls:=.type "list",data:=.seq vs.toArray }) (hi:IntsAre vs ns) (hl:ns.length≤sizeLine) (hr:Room k callerA)
  (F:∀ base:Heap,K.In base→base.Ns mainGlobals mg→FnOk P w K mg base CX k fa fd [x] sp) (hbind:∀ (s:Shared) (u:Value),BindsTo s fd ⟨[u],[]⟩ [(x,u)])
  (hsp:∀ H:Hp,Only H→SqL K H a (ns.map V.int)→sp [.ref a] H (fun v _=>v=.bl true) fun _ _ _=>False)
  (hCX:∀ H e s',CX [] H s₁ (fun _ _ _=>False) e s'→False) :
  codeAny (model P w) callerA (.call (.ref fa) ⟨[.ref a],[]⟩) (fun r s'=>r=.ok (.ret (.bool true))∧OldK s₁.heap s'.heap∧s'.os=s₁.os∧AllBare s'.gens) s₁:=by
 have rv:=vals_ints hi
 have lenV:=hi.length
 -- from an abstract heap in which nothing but the script may be tracked
 have core:∀ H:Hp,Only H→SqL K H a (ns.map V.int)→HOk P w H s₁.heap→(∀ b,H b≠none→b=a)→(H a≠none→K.lookup a=none) →
   codeAny (model P w) callerA (.call (.ref fa) ⟨[.ref a],[]⟩) (fun r s'=>r=.ok (.ret (.bool true))∧OldK s₁.heap s'.heap∧s'.os=s₁.os∧AllBare s'.gens) s₁:=by
  intro H hO hS hok hA hK
  have base_of:∀ {b:Addr} {o:Obj},s₁.heap.get? b=some o→H b=none→(hidT s₁.heap H).get? b=some o:=fun e n=>hidT_get e n
  have noA:∀ {b:Addr} {o:Obj} {es:Array DictEntry} {ep:Nat},s₁.heap.get? b=some o→o.data=.dict es ep→H b=none:=fun {b o es ep} e d=>by
   cases q:H b with
   | none=>rfl
   | some u =>
    have e':b=a:=hA b (by rw [q];simp)
    subst e'
    rw [ha] at e;cases e
    have d':Data.seq vs.toArray _=Data.dict es ep:=d
    cases d'
  have nsK:∀ {b:Addr} {m:Str→Option Value},s₁.heap.Ns b m→(hidT s₁.heap H).Ns b m:=fun {b m} ⟨o,es,ep,e,d,r⟩=>⟨o,es,ep,base_of e (noA e d),d,r⟩
  have hKb:K.In (hidT s₁.heap H):=fun b o e=>base_of (KX b o e) (by
   cases q:H b with
   | none=>rfl
   | some u =>
    have e':b=a:=hA b (by rw [q];simp)
    subst e'
    rw [hK (by rw [q];simp)] at e;cases e)
  have hM:Mod K mg (hidT s₁.heap H):=⟨hKb,nsK hns,⟨mb,nsK hb,hbb⟩,let ⟨mc,h1,h2⟩:=hlim;⟨mc,nsK h1,h2⟩⟩
  have e0:Env0 P w K mg (hidT s₁.heap H) callerA [] s₁ H:=⟨rfl,hM,fun b o e=>of_hidT e,Nat.le_of_eq (hidT_size _ _),trivial,fun b hb=>absurd (show b∈([]:List Addr) from hb) (by simp),hok,.of_eq hg⟩
  refine codeAny_mono ((F _ hKb (nsK hns)).run callerA [] s₁ H ⟨[.ref a],[]⟩ [.ref a] [.ref a] _ _ hr e0 (hbind s₁ (.ref a)) (.cons rfl .nil) (hsp H hO hS)) fun r s' h=>?_
  cases r with
  | error e=>exact (hCX H e s' h).elim
  | ok fl =>
   cases fl with
   | next=>exact False.elim h
   | brk=>exact False.elim h
   | cont=>exact False.elim h
   | ret u =>
    obtain ⟨v,H',os,bare,un,hok',r',q⟩:=h
    have q':v=.bl true:=q
    subst q'
    obtain rfl:u=Value.bool true:=r'
    refine ⟨rfl,OldK.of_keep fun b o e=>?_,os,bare⟩
    cases q:H b with
    | none=>exact un.keep b o e q (by intro z;exact absurd (show b∈([]:List Addr) from z) (by simp)) (by simp)
    | some u =>
     rcases hO b with z | ⟨ob,xs,z⟩
     ·rw [q] at z;cases z
     ·have z2:=un.frzs b ob _ z
      obtain ⟨e1,_⟩:=hok b _ z
      obtain ⟨e2,_⟩:=hok' b _ z2
      rw [e] at e1;cases e1
      exact e2
 cases hk:K.lookup a with
 | some o =>
  -- the script is one of the module's own objects
  have e:=KX a o hk
  rw [ha] at e
  cases e
  refine core (fun _=>none) (fun _=>.inl rfl) (.inr ⟨_,vs.toArray,_,hk,rfl,rfl,rfl,by rw [List.size_toArray,lenV];exact hl,by simpa using rv⟩) (fun b u z=>by have z':(none:Option HO)=some u:=z;cases z') (fun b z=>absurd rfl z) fun z=>absurd rfl z
 | none =>
  refine core (fun b=>if b=a then some (.frz { cls:=.type "list",data:=.seq vs.toArray } (.lst (ns.map V.int))) else none) (fun b=>?_) (.inl (.inr ⟨{ cls:=.type "list",data:=.seq vs.toArray },if_pos rfl⟩)) (fun b u z=>?_) (fun b z=>?_) fun _=>hk
  ·by_cases hb:b=a
   ·exact .inr ⟨_,_,if_pos hb⟩
   ·exact .inl (if_neg hb)
  ·by_cases hb:b=a
   ·have z':=(if_pos hb).symm.trans z
    cases z'
    subst hb
    exact ⟨ha,by rw [List.length_map];exact hl,vs,_,rv,ha⟩
   ·have z':=(if_neg hb).symm.trans z
    cases z'
  ·by_cases hb:b=a
   ·exact hb
   ·exact absurd (if_neg hb) z
end L2
namespace L2
open PySem PySem.Spec PyProof.Rows
noncomputable abbrev KOf {K:PySem.W.Frag} {h:Heap} (_:K.In h):PySem.W.Frag:=K
theorem walk_of {l:PySem.W.OpenLaw} {n k:Nat} {q:Program} {loose:List Str} {XP:(Str→Option Value)→Heap→Prop} {YP:World→Heap→Prop} {d:DefRec} {K:Params→PySem.W.Frag} {CX:World→CXT} {sp:World→Sp} {x:Str}
  (hn:l.most=some n) (hn2:n≤sizeLine) (hdf:d.params.defaults=[]) (hr:Room k callerA)
  (hY:∀ (w:World) (h:Heap),YP w h→(K w.params).In h)
  (F:∀ (w:World) (mg:Str→Option Value) (fa:Addr) (h:Heap),(K w.params).In h→h.Ns mainGlobals mg→mg d.name=some (.ref fa) →
   ∃ fd:FuncData,(∀ (s:Shared) (u:Value),BindsTo s fd ⟨[u],[]⟩ [(x,u)]) ∧
    ∀ base:Heap,(K w.params).In base→base.Ns mainGlobals mg→FnOk l.prog w (K w.params) mg base (CX w) k fa fd [x] (sp w))
  (hsp:∀ (w:World) (H:Hp) (a:Addr) (ns:List Int),ns.length≤n→Only H→SqL (K w.params) H a (ns.map V.int)→sp w [.ref a] H (fun v _=>v=.bl true) fun _ _ _=>False)
  (hCX:∀ (w:World) (H:Hp) (s:Shared) (e:Value) (s':Shared),CX w [] H s (fun _ _ _=>False) e s'→False) :
  PySem.W.WalkO q loose XP YP l.row.toRowW d [] (fun f vs=>PySem.call f vs):=by
 refine Att.attach_call hn hdf fun w s₀ s₁ mg mb fa o pm cd doc a vs ns G Y ho hd hcd hmg hobj hints hlen hg=>?_
 have KX:=hY w _ Y
 obtain ⟨fd,hb,hF⟩:=F w mg fa _ KX G.T.g hmg
 exact law_call KX G.T.g G.T.b G.T.builtins G.T.nolimit hg hobj hints (Nat.le_trans hlen hn2) hr hF hb (fun H hO hS=>hsp w H a ns hlen hO hS) fun H e s'=>hCX w H s₁ e s'
end L2
namespace L2
open PySem PySem.Spec PyProof.Rows
noncomputable def inClass (s:Stmt) (j:Nat):Stmt:=match s with
 | .ClassDef _ _ _ body _ _ _ _ _ _ _=>body.getD j (.Pass ⟨0,0,0,0⟩)
 | _=>.Pass ⟨0,0,0,0⟩
noncomputable def defArgs (s:Stmt):Arguments:=match s with
 | .FunctionDef _ a _ _ _ _ _ _ _ _=>a
 | _=>{ posonlyargs:=[],args:=[],vararg:=none,kwonlyargs:=[],kw_defaults:=[],kwarg:=none,defaults:=[] }
noncomputable def defBody (s:Stmt):List Stmt:=match s with
 | .FunctionDef _ _ b _ _ _ _ _ _ _=>b
 | _=>[]
noncomputable def defScope (s:Stmt):Scope:=match s with
 | .FunctionDef _ _ _ _ _ _ sc _ _ _=>sc
 | _=>{ kind:=.function,names:=[],isGenerator:=false,isCoroutine:=false }
noncomputable abbrev CX0:CXT:=fun _ _ _ _ _ _=>False
noncomputable abbrev E0:XK:=fun _ _ _=>False
theorem pass0 {X:Cx}:Passes CX0 X E0:=fun _ _ _ _ _ _ _ h=>h.elim
structure Fun (K:PySem.W.Frag) (x qual:Str) (st:Stmt) (f:Addr) (fd:FuncData):Prop where
 ex:∃ (oc:Value) (od:Option Addr) (kV doc pm:Value) (an:Option Addr) (cdv ct:Value) (osl:Array (Option Value)),
  fd=PySem.W.fnOf x qual (defArgs st) (defBody st) (defScope st) .none kV doc pm an cdv ct∧K.lookup f=some ⟨oc,od,.func fd,osl⟩∧PySem.W.codeIn K cdv qual=true
 kp:PySem.W.keepIn K (.ref f)=true
section
variable {P:Program} {w:World} {K:PySem.W.Frag} {mg:Str→Option Value} {base:Heap}
theorem Fun.ok {x qual:Str} {st:Stmt} {f:Addr} {fd:FuncData} {N ps:List Str} {k:Nat} {sp:Sp} (F:Fun K x qual st f fd) (S:FnScope N ps (defScope st)) (len:∀ vs H Q E,sp vs H Q E→vs.length=ps.length)
  (hbody:∀ (cdv:Value) (A:Around) (outer:List Env) (s:Shared) (H:Hp) (vs:List V) (Q:VK) (E:XK),Room k (A.deeper (envOfC qual (defScope st) s.heap.objs.size f cdv))→sp vs H Q E →
   ∃ t,PSs (cxOf CX0 P w K mg base N qual (defScope st) f cdv A outer s H E).nox (defBody st) t∧t { nx:=fun _ H'=>Q .non H',rt:=Q } (start N vs) H):FnOk P w K mg base CX0 (k + 1) f fd ps sp:=by
 obtain ⟨oc,od,kV,doc,pm,an,cdv,ct,osl,rfl,lk,hcd⟩:=F.ex
 refine fn_of lk hcd S len fun A outer s H vs Q E hr hsp=>?_
 obtain ⟨t,h,q⟩:=hbody cdv A outer s H vs Q E hr hsp
 exact ⟨t,h.nox,q⟩
theorem Fun.binds {x qual:Str} {st:Stmt} {f:Addr} {fd:FuncData} {ps:List Str} (F:Fun K x qual st f fd)
  (h:∀ (kV doc pm:Value) (an:Option Addr) (cdv ct:Value) (us:List Value),us.length=ps.length→bindArgs (PySem.W.fnOf x qual (defArgs st) (defBody st) (defScope st) .none kV doc pm an cdv ct) ⟨us,[]⟩=pure (ps.zip us)):Binds K fd ps []:=by
 obtain ⟨oc,od,kV,doc,pm,an,cdv,ct,osl,rfl,lk,hcd⟩:=F.ex
 exact .all (h kV doc pm an cdv ct)
theorem fun_mk {x qual:Str} {st:Stmt} {f:Addr} {oc:Value} {od an:Option Addr} {osl:Array (Option Value)} {kV doc pm cdv ct:Value} (l:K.lookup f=some ⟨oc,od,.func (PySem.W.fnOf x qual (defArgs st) (defBody st) (defScope st) .none kV doc pm an cdv ct),osl⟩)
  (c:PySem.W.codeIn K cdv qual=true) (k:PySem.W.keepIn K (.ref f)=true):Fun K x qual st f (PySem.W.fnOf x qual (defArgs st) (defBody st) (defScope st) .none kV doc pm an cdv ct):=⟨⟨oc,od,kV,doc,pm,an,cdv,ct,osl,rfl,l,c⟩,k⟩
end
theorem hu_of {A:Around} {k:Nat} (hr:Room k A):A.units + 1<cLine:=Nat.lt_of_le_of_lt (Nat.add_le_add_left (by decide:1≤64) _) hr.units
theorem small1000 {n:Nat} (h:n≤1000):n<sizeLine:=Nat.lt_of_le_of_lt h (by decide)
section
variable {X:Cx}
theorem pv (i:Nat) {x:Str} {pos:Pos} (hN:X.N[i]?=some x:=by rfl) (hv:Vis X.env.scope x:=by trivial) (hd:(x == ("__debug__":Str))=false:=by decide)
  (hcd:(x == ("__classdict__":Str))=false:=by decide):PE X (.Name x pos) (tVar i):=pe_var hN hv hd hcd
end
theorem ite2 {c A B:Prop} [Decidable c] (h1:c→A) (h2:¬ c→B):if c then A else B:=by
 by_cases h:c
 ·rw [if_pos h]
  exact h1 h
 ·rw [if_neg h]
  exact h2 h
noncomputable def Same (H H':Hp):Prop:=∀ b o,H b=some o→H' b=some o
theorem Same.trans {H H1 H2:Hp} (a:Same H H1) (b:Same H1 H2):Same H H2:=fun c o h=>b c o (a c o h)
theorem Same.free {H H':Hp} (e:Same H H') {l:Addr} (h:H' l=Option.none):H l=Option.none:=by
 cases q:H l with
 | none=>rfl
 | some o =>
  rw [e l o q] at h
  cases h
theorem Same.seq {K:PySem.W.Frag} {H H':Hp} {a:Addr} {xs:List V} (e:Same H H') (h:SqL K H a xs):SqL K H' a xs:=by
 rcases h with (h | ⟨o,h⟩) | h
 ·exact .inl (.inl (e _ _ h))
 ·exact .inl (.inr ⟨o,e _ _ h⟩)
 ·exact .inr h
section
variable {X:Cx}
end
section
variable {κ:Type} [DecidableEq κ]
theorem nd_snoc:∀ {l:List κ} {k:κ},l.Nodup→¬ k∈l→(l ++ [k]).Nodup
 | [],k,_,_=>by simp
 | a :: r,k,h,hk=>by
  obtain ⟨h1,h2⟩:=List.nodup_cons.mp h
  show (a :: (r ++ [k])).Nodup
  refine List.nodup_cons.mpr ⟨fun m=>?_,nd_snoc h2 fun m=>hk (List.mem_cons.mpr (Or.inr m))⟩
  rcases List.mem_append.mp m with q | q
  ·exact h1 q
  ·exact hk (List.mem_cons.mpr (Or.inl (List.mem_singleton.mp q).symm))
end
end L2
set_option Elab.async false
set_option linter.all false
set_option maxRecDepth 100000
set_option maxHeartbeats 4000000
namespace L2
open PySem PySem.Spec PyProof.Rows
noncomputable def clOf (cells:List (Str×Addr)):List (Str×NameKind)→List (Str×Addr)→List (Str×Addr)
 | [],cs=>cs
 | (n,k) :: r,cs=>clOf cells r (if (k == .free)=true then (match cells.lookup n with | some c=>(n,c) :: cs | none=>cs) else cs)
theorem closureFor_of {scope:Scope} {env:Env} (h:∀ y∈scope.names,y.2=NameKind.free→∃ c,env.cells.lookup y.1=some c):closureFor scope env=pure (clOf env.cells scope.names []):=by
 simp only [closureFor]
 have all:∀ (l:List (Str×NameKind)) (cs:List (Str×Addr)),(∀ y∈l,y.2=NameKind.free→∃ c,env.cells.lookup y.1=some c) →
   (forIn l cs fun (x:Str×NameKind) (r:List (Str×Addr))=>if (x.2 == NameKind.free)=true then do let a ←cellOf env x.1;pure (ForInStep.yield ((x.1,a) :: r)) else pure (ForInStep.yield r))=(pure (clOf env.cells l cs):Sem _):=by
  intro l
  induction l with
  | nil=>intro cs _;rfl
  | cons y r ih =>
   intro cs hy
   obtain ⟨n,k⟩:=y
   have hr:∀ y∈r,y.2=NameKind.free→∃ c,env.cells.lookup y.1=some c:=fun y m=>hy y (List.mem_cons_of_mem _ m)
   rw [List.forIn_cons]
   by_cases hk:(k == NameKind.free)=true
   ·obtain ⟨c,hc⟩:=hy (n,k) List.mem_cons_self (by simpa using hk)
    have hc:env.cells.lookup n=some c:=hc
    have e:cellOf env n=pure c:=by unfold cellOf;rw [hc]
    simp only [hk,if_true,e,clOf,hc]
    exact ih _ hr
   ·simp only [hk,clOf]
    exact ih _ hr
 exact (congrArg (fun z=>z >>= fun r=>(pure r:Sem (List (Str×Addr)))) (all scope.names [] h)).trans rfl
theorem clOf_sub {cells:List (Str×Addr)} {x:Str} {c:Addr}:∀ {names:List (Str×NameKind)} {cs:List (Str×Addr)},(clOf cells names cs).lookup x=some c→cells.lookup x=some c∨cs.lookup x=some c
 | [],cs,h=>.inr h
 | (n,k) :: r,cs,h=>by
  unfold clOf at h
  rcases clOf_sub (names:=r) h with q | q
  ·exact .inl q
  ·split at q
   ·cases hc:cells.lookup n with
    | none=>rw [hc] at q;exact .inr q
    | some c' =>
     rw [hc] at q
     dsimp only at q
     rw [List.lookup_cons] at q
     cases hx:x == n with
     | true =>
      rw [hx] at q
      have e:x=n:=by simpa using hx
      subst e
      exact .inl (hc.trans q)
     | false=>rw [hx] at q;exact .inr q
   ·exact .inr q
theorem clOf_keep {cells:List (Str×Addr)} {x:Str}:∀ {names:List (Str×NameKind)} {cs:List (Str×Addr)},(cs.lookup x).isSome=true→((clOf cells names cs).lookup x).isSome=true
 | [],_,h=>h
 | (n,k) :: r,cs,h=>by
  unfold clOf
  refine clOf_keep (names:=r) ?_
  split
  ·cases hc:cells.lookup n with
   | none=>exact h
   | some c' =>
    dsimp only
    rw [List.lookup_cons]
    cases hx:x == n <;> first | exact h | rfl
  ·exact h
theorem clOf_has {cells:List (Str×Addr)} {x:Str} {c:Addr} (hc:cells.lookup x=some c):∀ {names:List (Str×NameKind)} {cs:List (Str×Addr)},(x,NameKind.free)∈names→((clOf cells names cs).lookup x).isSome=true
 | (n,k) :: r,cs,h=>by
  unfold clOf
  rcases List.mem_cons.mp h with e | h
  ·cases e
   refine clOf_keep (names:=r) ?_
   rw [if_pos (by rfl),hc]
   dsimp only
   rw [List.lookup_cons,beq_self_eq_true]
   rfl
  ·exact clOf_has hc (names:=r) h
theorem relabel_kinds {env:Env} {x:Str}:∀ {names:List (Str×NameKind)},(∀ y∈names,y.2≠NameKind.cell) →
  let l:=(names.map fun (n,k)=>if (k == NameKind.free && env.scope.kind == .function && env.kindOf n == some .cell) then (n,NameKind.cell) else (n,k)).lookup x
  (l=some .cell∨l=some .free)→(x,NameKind.free)∈names
 | [],_,h=>by rcases h with h | h <;> simp at h
 | (n,k) :: r,hn,h=>by
  have ih:=@relabel_kinds env x r fun y m=>hn y (List.mem_cons_of_mem _ m)
  simp only [List.map_cons] at h ih
  by_cases hc:(k == NameKind.free && env.scope.kind == .function && env.kindOf n == some .cell)=true
  ·rw [if_pos hc,List.lookup_cons] at h
   have ek:k=.free:=by
    rw [Bool.and_assoc,Bool.and_eq_true] at hc
    simpa using hc.1
   cases hx:x == n with
   | true =>
    have e:x=n:=by simpa using hx
    subst e
    rw [ek]
    exact List.mem_cons_self
   | false=>rw [hx] at h;exact List.mem_cons_of_mem _ (ih h)
  ·rw [if_neg hc,List.lookup_cons] at h
   cases hx:x == n with
   | true =>
    have e:x=n:=by simpa using hx
    subst e
    rw [hx] at h
    rcases h with h | h
    ·exact absurd (Option.some.inj h) (hn (x,k) List.mem_cons_self)
    ·rw [Option.some.inj h];exact List.mem_cons_self
   | false=>rw [hx] at h;exact List.mem_cons_of_mem _ (ih h)
theorem relabel_free {env:Env}:∀ {names:List (Str×NameKind)} {x:Str},names.lookup x=some .free →
  let l:=(names.map fun (n,k)=>if (k == NameKind.free && env.scope.kind == .function && env.kindOf n == some .cell) then (n,NameKind.cell) else (n,k)).lookup x
  (l=some .cell∨l=some .free)
 | [],_,h=>by simp at h
 | (n,k) :: r,x,h=>by
  have ih:=@relabel_free env r x
  simp only [List.map_cons] at ih ⊢
  by_cases hc:(k == NameKind.free && env.scope.kind == .function && env.kindOf n == some .cell)=true
  ·rw [if_pos hc,List.lookup_cons]
   cases hx:x == n with
   | true=>exact .inl rfl
   | false =>
    rw [List.lookup_cons,hx] at h
    exact ih h
  ·rw [if_neg hc,List.lookup_cons]
   cases hx:x == n with
   | true =>
    rw [List.lookup_cons,hx] at h
    exact .inr h
   | false =>
    rw [List.lookup_cons,hx] at h
    exact ih h
structure CompP where
 cl:List (Str×Addr)
 C:Addr
 s:Shared
 H:Hp
 fp:List Addr
 pins:List (Addr×Obj)
noncomputable def Cx.comp (X:Cx) (N':List Str) (scope:Scope) (p:CompP):Cx where
 prog:=X.prog
 w:=X.w
 K:=X.K
 mg:=X.mg
 base:=X.base
 A:=X.A
 N:=N'
 s₀:=p.s
 H₀:=p.H
 env:=compEnvC scope p.cl p.C X.env
 outer:=X.stack
 stack:=X.stack
 ex:=p.fp
 fn:=fun _=>false
 calm:=X.calm
 pn:=X.pn ++ p.pins
 xe:=fun _ _=>False
structure CompScope (N:List Str) (sc:Scope) (N':List Str) (pick:List (Option Nat)) (scope:Scope):Prop where
 kind:scope.kind=.function
 nocell:∀ y∈scope.names,y.2≠NameKind.cell
 names:∀ y∈scope.names,y.2=NameKind.local→scope.names.lookup y.1=some .local
 free:∀ y∈scope.names,y.2=NameKind.free→scope.names.lookup y.1=some .free
 has:∀ y∈scope.names,y.2=NameKind.free→(sc.names.lookup y.1=some .cell∨sc.names.lookup y.1=some .free)
 len:pick.length=N'.length
 cap:∀ q∈pick.zip N',q.1=none∨(N[q.1.getD 0]?=some q.2∧(q.2,NameKind.free)∈scope.names)
noncomputable def picked (σ:St) (pick:List (Option Nat)):St:=pick.map fun o=>match o with | none=>none | some j=>(σ[j]?).join
noncomputable def PIfs (X:Cx) (ifs:List Expr) (t:TT):Prop :=
 ∀ (pins:List (Addr×Obj)) (s:Shared) (σ:St) (H:Hp) (Q:Bool→Hp→Prop),Inv X pins σ H s→t σ H Q →
  wpAny (model X.prog X.w) X.A (forIn ifs true fun c r=>if r=true then do let ok ←isTrue c X.env (eval c X.env);pure (ForInStep.yield ok) else pure (ForInStep.yield r)) (TP X pins σ Q) X.xe s
noncomputable def tNoIf:TT:=fun _ H Q=>Q true H
theorem pifs_nil {X:Cx}:PIfs X [] tNoIf:=fun pins s σ H Q I h=>wpAny_tests_nil ⟨H,I,h⟩
theorem pifs_one {X:Cx} {c:Expr} {t:TT} (h:PT X c t):PIfs X [c] t:=fun pins s σ H Q I q=>wpAny_tests_one (h pins s σ H Q I q)
theorem compLoop_own {prog:Program} {w:World} {A:Around} {R:Result→Shared→Prop} {s:Shared} {elt target iter:Expr} {ifs:List Expr} {scope:Scope} {pos:Pos} {it acc:Value} {env:Env} (I:Nat→Shared→Prop)
  (turn:∀ n s,I n s→wpAny (model prog w) A (pyNext it) (fun r s₁=>match r with
   | none=>R (.ok .next) s₁
   | some v=>wpAny (model prog w) A (letOwnedTupleGo target it v) (fun _ s₁'=>wpAny (model prog w) A (assign target env v) (fun _ s₂ =>
     wpAny (model prog w) A (forIn ifs true fun c r=>if r=true then do let ok ←isTrue c env (eval c env);pure (ForInStep.yield ok) else pure (ForInStep.yield r)) (fun ok s₃ =>
      if ok=true then wpAny (model prog w) A (eval elt env) (fun x s₄ =>
       wpAny (model prog w) A (call (.builtin "list.append") [acc,x]) (fun _ s₅=>∃ m,m<n∧I m s₅) (fun _ _=>False) s₄) (fun _ _=>False) s₃
      else ∃ m,m<n∧I m s₃) (fun _ _=>False) s₂) (fun _ _=>False) s₁') (fun _ _=>False) s₁) (fun _ _=>False) s)
  (n:Nat) (h:I n s) :
  codeAny (model prog w) A (.compLoop (.ListComp elt [⟨target,iter,ifs,0⟩] scope pos) 0 it acc env) R s:=by
 refine codeAny_loop rfl I (fun n s hI=>?_) n h
 show wpAny _ A ((compTurn (.ListComp elt [⟨target,iter,ifs,0⟩] scope pos) 0 it acc env).onRaise (fun x=>do noteFrame x env;theTreesLotGoes x)) _ _ s
 refine wpAny_noted ?_
 rw [compTurn_list]
 refine wpAny_bind (wpAny_standAt (wpAny_bind (wpAny_mono (turn n s hI) (fun r s₁ h₁=>?_) fun _ _ h'=>h'.elim)))
 cases r with
 | none=>exact wpAny_pure h₁
 | some v =>
  refine wpAny_bind (wpAny_mono h₁ (fun _ s₁' h₁'=>?_) fun _ _ h'=>h'.elim)
  refine wpAny_bind (wpAny_mono h₁' (fun _ s₂ h₂=>wpAny_bind (wpAny_mono h₂ (fun ok s₃ h₃=>?_) fun _ _ h'=>h'.elim)) fun _ _ h'=>h'.elim)
  cases ok with
  | false=>exact wpAny_pure ⟨rfl,h₃⟩
  | true =>
   exact wpAny_bind (wpAny_bind (wpAny_mono h₃ (fun x s₄ h₄=>wpAny_bind (wpAny_mono h₄ (fun _ s₅ h₅=>wpAny_pure (wpAny_pure ⟨rfl,h₅⟩)) fun _ _ h'=>h'.elim)) fun _ _ h'=>h'.elim))
noncomputable def CompRun (J:It) (pick:List (Option Nat)) (g:TG) (tt:TT) (te:TE) (σ:St) (Q:VK) (H1:Hp):Prop:=∀ D,H1 D=none→∃ W:Nat→Nat→List V→Hp→Prop,(∃ m,W 0 m [] (upd H1 D (.lst []))) ∧
 ∀ i m ys H2,W i m ys H2→H2 D=some (.lst ys)∧((J.stop i H2∧Q (.ref D) H2)∨(J.go i H2∧∃ M:List V→Hp→Prop,(∀ zs H',M zs H'→∃ m',m'<m∧W (i + 1) m' zs H')∧∀ x H3,J.yld i H2 x H3→g x (L2.picked σ pick) H3 fun σ4 H4=>tt σ4 H4 fun b H5 =>
  if b=true then te σ4 H5 fun y H6=>H6 D=some (.lst ys)∧ys.length<sizeLine∧M (ys ++ [y]) (upd H6 D (.lst (ys ++ [y])))
  else M ys H5))
noncomputable def tComp (wi:TI) (pick:List (Option Nat)) (g:TG) (tt:TT) (te:TE):TE:=fun σ H Q=>wi σ H fun J H1=>CompRun J pick g tt te σ Q H1
noncomputable def GKeeps (pick:List (Option Nat)) (g:TG):Prop:=∀ (σ:St) (x:V) (H:Hp) (Q:St→Hp→Prop),g x (L2.picked σ pick) H Q→g x (L2.picked σ pick) H fun σ' H'=>Q σ' H'∧∀ (k:Nat) v,(L2.picked σ pick)[k]?=some (some v)→σ'[k]?=some (some v)
theorem picked_none {σ:St} {pick:List (Option Nat)} {i:Nat} (h:pick[i]?=some none):(L2.picked σ pick)[i]?=some none:=by
 unfold L2.picked
 rw [List.getElem?_map,h]
 rfl
theorem gkeeps_name {pick:List (Option Nat)} {i:Nat} (h:pick[i]?=some none):GKeeps pick (gName i):=fun σ x H Q q=>⟨q,fun k v e=>by
 have ne:i≠k:=fun z=>by subst z;rw [picked_none h] at e;cases e
 rw [List.getElem?_set_ne ne]
 exact e⟩
theorem gkeeps_two {K:PySem.W.Frag} {pick:List (Option Nat)} {i j:Nat} (h:pick[i]?=some none) (h':pick[j]?=some none):GKeeps pick (gTup K 2 (gCons (gName i) (gCons (gName j) gNil))):=by
 rintro σ x H Q ⟨a,xs,rfl,hs,hl,v,r,rfl,v',r',rfl,rfl,q⟩
 refine ⟨a,_,rfl,hs,hl,v,_,rfl,v',_,rfl,rfl,q,fun k v e=>?_⟩
 have ne:i≠k:=fun z=>by subst z;rw [picked_none h] at e;cases e
 have ne':j≠k:=fun z=>by subst z;rw [picked_none h'] at e;cases e
 rw [List.getElem?_set_ne ne',List.getElem?_set_ne ne]
 exact e
section
variable {X:Cx} {N':List Str} {pick:List (Option Nat)} {elt tg iter:Expr} {ifs:List Expr} {scope sc:Scope} {pos:Pos} {N:List Str} {wi:TI} {g:TG} {tt:TT} {te:TE}
theorem comp_start {pins:List (Addr×Obj)} {s s4:Shared} {σ:St} {H:Hp} {fp:List Addr} {C:Addr} {m:Str→Option Value}
  (S:CompScope N sc N' pick scope) (hN:X.N=N) (hsc:X.env.scope=sc) (I:Inv X pins σ H s) (hf:∀ b∈fp,FpOk X pins H b) (hfo:∀ b∈fp,∃ o,s.heap.get? b=some o)
  (hC:s.heap.objs.size≤C) (hk:∀ b o,s.heap.get? b=some o→s4.heap.get? b=some o) (hn:s4.heap.Ns C m) (ho:s4.os=s.os) (hg:s4.gens=s.gens) :
  Inv (X.comp N' scope ⟨clOf X.env.cells scope.names [],C,s,H,fp,pins⟩) [] (L2.picked σ pick) H s4:=by
 have ok:=I.ok
 have has:∀ y,(y,NameKind.free)∈scope.names→∃ c,X.env.cells.lookup y=some c:=fun y hy=>by
  have q:=S.has (y,.free) hy rfl
  rw [←hsc] at q
  exact ok.has y q
 have sub:∀ y c,(clOf X.env.cells scope.names []).lookup y=some c→X.env.cells.lookup y=some c:=fun y c e=>by
  rcases clOf_sub e with q | q
  ·exact q
  ·simp at q
 have cge:∀ x c,X.env.cells.lookup x=some c→c<s.heap.objs.size:=fun x c e=>by
  obtain ⟨v,q⟩:=I.cell x c e
  exact q.lt
 refine ⟨⟨ok.mod,S.kind,ok.glob,ok.blt,hC,fun x y c e1 e2=>ok.inj x y c (sub x c e1) (sub y c e2),fun x hx=>?_,fun x c z _=>(nomatch (show false=true from z)),ok.hd,ok.frames,.inl rfl,
   fun b hb=>⟨fun z=>?_,fun x c e=>(hf b hb).2.2.2.2.1 x c (sub x c e)⟩,I.bs,Nat.le_trans ok.bsz I.sz,fun b o e hb=>?_,fun b hb z=>?_,I.stack,I.stkFree⟩,
  ho,by rw [hg];exact I.bare,Un.kept hk,⟨m,hn,fun i x v e1 e2 e3=>?_⟩,fun x c e=>?_,I.hok.fresh hC,fun x c e=>I.freeC x c (sub x c e),fun p hp=>?_,I.hok.kept hk,?_⟩
 ·have hx':=relabel_kinds S.nocell hx
  obtain ⟨c,hc⟩:=has x hx'
  exact Option.isSome_iff_exists.mp (clOf_has hc hx')
 ·obtain ⟨o,e⟩:=hfo b hb
  have e':b=C:=z
  exact absurd (Nat.lt_of_lt_of_le (Heap.lt_size e) (e' ▸ hC)) (Nat.lt_irrefl _)
 ·rcases (hf b hb).2.2.2.1 with q | q
  ·exact ok.noex b o e q
  ·exact absurd (Nat.lt_of_lt_of_le (Heap.lt_size e) (Nat.le_trans ok.bsz q)) (Nat.lt_irrefl _)
 ·rcases List.mem_cons.mp (I.stkSub b z) with q | q
  ·exact (hf b hb).2.1 q
  ·exact (hf b hb).2.2.1 q
 ·-- a captured name
  have hi:i<pick.length:=by
   rcases Nat.lt_or_ge i pick.length with q | q
   ·exact q
   ·unfold L2.picked at e2
    rw [List.getElem?_eq_none (by simpa using q)] at e2
    cases e2
  obtain ⟨o,ho'⟩:∃ o,pick[i]?=some o:=⟨pick[i],by simp [hi]⟩
  unfold L2.picked at e2
  rw [List.getElem?_map,ho'] at e2
  cases o with
  | none=>cases e2
  | some j =>
   have e2:some ((σ[j]?).join)=some (some v):=e2
   have e1:N'[i]?=some x:=e1
   have hz:(some j,x)∈pick.zip N':=by
    refine List.mem_of_getElem? (i:=i) ?_
    rw [List.getElem?_zip_eq_some]
    exact ⟨ho',e1⟩
   obtain ⟨c1,c2⟩:=(S.cap _ hz).resolve_left (fun z=>nomatch z)
   have c1:N[j]?=some x:=c1
   have e3:σ[j]?=some (some v):=by
    have q:=Option.some.inj e2
    cases hσ:σ[j]? with
    | none=>rw [hσ] at q;cases q
    | some y=>rw [hσ] at q;exact congrArg some q
   rw [←hN] at c1
   obtain ⟨m0,hn0,hl0⟩:=I.loc
   have kq:=S.has (x,.free) c2 rfl
   rw [←hsc] at kq
   obtain ⟨u,r,l⟩:=hl0 j x v c1 e3 (kq.elim (fun z=>.inr (.inl z)) fun z=>.inr (.inr z))
   refine ⟨u,r,?_⟩
   obtain ⟨c,hc⟩:=has x c2
   obtain ⟨c',hc'⟩:=Option.isSome_iff_exists.mp (clOf_has (cs:=[]) hc c2)
   have ecc:c'=c:=Option.some.inj ((sub x c' hc').symm.trans hc)
   subst ecc
   have kin:(compEnvC scope (clOf X.env.cells scope.names []) C X.env).kindOf x=some .cell∨(compEnvC scope (clOf X.env.cells scope.names []) C X.env).kindOf x=some .free:=by
    exact relabel_free (S.free (x,.free) c2 rfl)
   rcases l with ⟨k,_⟩ | ⟨_,c2',hc2,hcell⟩
   ·exfalso
    have k:X.env.scope.names.lookup x=some .local:=k
    rcases kq with z | z
    ·rw [k] at z;cases z
    ·rw [k] at z;cases z
   ·rw [hc] at hc2
    cases hc2
    obtain ⟨oc,hoc,hd⟩:=hcell
    exact .inr ⟨kin,c',hc',oc,hk _ _ hoc,hd⟩
 ·obtain ⟨v,oc,hoc,hd⟩:=I.cell x c (sub x c e)
  exact ⟨v,oc,hk _ _ hoc,hd⟩
 ·have hp':p∈X.pn ++ pins:=by
   have hp:p∈(X.pn ++ pins) ++ []:=hp
   simpa using hp
  obtain ⟨e,n,ne,nf,d⟩:=I.pin p hp'
  refine ⟨hk _ _ e,n,fun z=>?_,fun z=>?_,d⟩
  ·have z:p.1=C:=z
   exact absurd (Nat.lt_of_lt_of_le (Heap.lt_size e) (z ▸ hC)) (Nat.lt_irrefl _)
  ·rcases List.mem_cons.mp (I.stkSub _ z) with q | q
   ·exact ne q
   ·exact nf q
 ·unfold L2.picked
  rw [List.length_map]
  exact S.len
theorem comp_core {pins:List (Addr×Obj)} {s:Shared} {σ:St} {H:Hp} {Q:VK} {use:Option (Value→Sem Unit)} {QQ:Value→Shared→Prop}
  (S:CompScope N sc N' pick scope) (hN:X.N=N) (hsc:X.env.scope=sc) (hc:X.calm=true) (hi:PI X tg iter wi) (hk:GKeeps pick g)
  (hg:∀ p,PG (X.comp N' scope p) tg g) (ht:∀ p,PIfs (X.comp N' scope p) ifs tt) (he:∀ p,PE (X.comp N' scope p) elt te) (hs:∀ x,foldedSetIterable iter X.env x=pure x)
  (I:Inv X pins σ H s) (h:tComp wi pick g tt te σ H Q)
  (fin:∀ (D C:Addr) (H':Hp) (s':Shared) (m:Str→Option Value),Inv X pins σ H' s'→Q (.ref D) H'→H' C=none→C≠X.env.locals→X.s₀.heap.objs.size≤C→(∀ x c,X.env.cells.lookup x=some c→c≠C)→(∀ p∈X.pn ++ pins,p.1≠C)→s'.heap.Ns C m →
   compPost (model X.prog X.w) X.A X.xe use QQ (.ref D) C (.ok .next) s') :
  wpAny (model X.prog X.w) X.A (comprehension (.ListComp elt [⟨tg,iter,ifs,0⟩] scope pos) scope X.env (firstIterPos [⟨tg,iter,ifs,0⟩] pos) (newList []) false (eval iter X.env) use) QQ X.xe s:=by
 have hasC:∀ y∈scope.names,y.2=NameKind.free→∃ c,X.env.cells.lookup y.1=some c:=fun y hy e=>by
  have q:=S.has y hy e
  rw [←hsc] at q
  exact I.ok.has y.1 q
 refine wpAny_comprehension_free rfl hs (closureFor_of hasC) S.kind S.names (thn (hi pins s σ H _ I h) fun v s1 h1=>thn h1 fun itv s2 h2=>?_)
 obtain ⟨it,fp,tn,J,H2,e,I2,T,st2,f2,q⟩:=h2
 subst e
 have fr2:H2 s2.heap.objs.size=none:=I2.fresh
 obtain ⟨W,⟨m0,w0⟩,turn⟩:=q s2.heap.objs.size fr2
 refine wpAny_newObj_type (T:="list") (wpAny_newFunctionEnv S.nocell (by intro y hy;simp at hy) (fun h₁ hns₁ hsb₁=>?_) S.kind)
 dsimp only at hns₁ hsb₁ ⊢
 have I3:Inv X pins σ (upd H2 s2.heap.objs.size (.lst [])) { s2 with heap:=s2.heap.push { cls:=.type "list",dict:=none,data:=.seq ([]:List Value).toArray } } :=
  I2.lnew (t':=s2.toks) (its:=[]) .nil (Nat.zero_le _)
 generalize hH3:s2.heap.push { cls:=.type "list",dict:=none,data:=.seq ([]:List Value).toArray }=G3 at hns₁ hsb₁ I3 ⊢
 have f3:∀ b∈fp,FpOk X pins (upd H2 s2.heap.objs.size (.lst [])) b:=fun b hb=>by
  obtain ⟨o,e,_⟩:=T.obj _ _ st2 b hb
  refine ⟨?_,(f2 b hb).2⟩
  rw [upd_ne (Nat.ne_of_lt (Heap.lt_size e))]
  exact (f2 b hb).1
 have hfo:∀ b∈fp,∃ o,G3.get? b=some o:=fun b hb=>by
  obtain ⟨o,e,_⟩:=T.obj _ _ st2 b hb
  exact ⟨o,hH3 ▸ Heap.get?_push_of_some _ e⟩
 have k34:∀ b o,G3.get? b=some o→h₁.get? b=some o:=fun b o e=>(hsb₁.2 b (Nat.ne_of_lt (Heap.lt_size e))).trans (Heap.get?_push_of_some _ e)
 have I4:=comp_start (s4:={ s2 with heap:=h₁,toks:=s2.toks + ([]:List (Str×Value)).length }) S hN hsc I3 f3 hfo (Nat.le_refl G3.objs.size) k34 hns₁ rfl rfl
 have st4:tn 0 h₁:=T.keep _ _ _ st2 fun b hb o e=>k34 b o (hH3 ▸ Heap.get?_push_of_some _ e)
 have sz3:s2.heap.objs.size≤G3.objs.size:=by rw [←hH3,Heap.size_push];exact Nat.le_succ _
 generalize hp:(⟨clOf X.env.cells scope.names [],G3.objs.size,{ s2 with heap:=G3 },upd H2 s2.heap.objs.size (.lst []),fp,pins⟩:CompP)=p at I4
 have sub:∀ y c,(X.comp N' scope p).env.cells.lookup y=some c→X.env.cells.lookup y=some c:=fun y c e=>by
  subst hp
  rcases clOf_sub (cs:=[]) e with q | q
  ·exact q
  ·simp at q
 -- what stays true of the iterator's objects
 have stat:∀ {H':Hp},(∀ b∈fp,H' b=none)→∀ b∈fp,FpOk (X.comp N' scope p) [] H' b:=fun hn b hb=>by
  refine ⟨hn b hb,fun z=>?_,fun z=>?_,.inl (by subst hp;exact hb),fun x c e=>(f2 b hb).2.2.2.2.1 x c (sub x c e),fun q hq=>?_⟩
  ·subst hp
   obtain ⟨o,e⟩:=hfo b hb
   have z:b=G3.objs.size:=z
   exact absurd (Heap.lt_size e) (by rw [z];exact Nat.lt_irrefl _)
  ·subst hp
   rcases List.mem_cons.mp (I2.stkSub b z) with q | q
   ·exact (f2 b hb).2.1 q
   ·exact (f2 b hb).2.2.1 q
  ·refine (f2 b hb).2.2.2.2.2 q ?_
   subst hp
   have hq:q∈(X.pn ++ pins) ++ []:=hq
   simpa using hq
 have loop:codeAny (model X.prog X.w) X.A (.compLoop (.ListComp elt [⟨tg,iter,ifs,0⟩] scope pos) 0 (.ref it) (.ref s2.heap.objs.size) (X.comp N' scope p).env)
   (compPost (model X.prog X.w) X.A X.xe use QQ (.ref s2.heap.objs.size) G3.objs.size) { s2 with heap:=h₁,toks:=s2.toks + ([]:List (Str×Value)).length }:=by
  refine compLoop_own (fun n s'=>∃ i ys H',Inv (X.comp N' scope p) [] (L2.picked σ pick) H' s'∧tn i s'.heap∧(∀ b∈fp,H' b=none)∧W i n ys H') ?_ m0 ⟨0,[],_,I4,st4,fun b hb=>(f3 b hb).1,w0⟩
  rintro n s5 ⟨i,ys,H5,I5,st5,fr5,w5⟩
  obtain ⟨hD,alt⟩:=turn i n ys H5 w5
  rcases alt with ⟨stop,qn⟩ | ⟨go,M,hM,step⟩
  ·refine thn (T.done (X.comp N' scope p) rfl rfl rfl hc i [] s5 _ H5 _ I5 (stat fr5) st5 stop) fun r s6 ⟨hr,I6⟩=>?_
   subst hr
   obtain ⟨m6,hn6,_⟩:=I6.loc
   have un:Un (frs X.stack) fp H2 H5 s2.heap s6.heap:=by
    have u1:Un (frs X.stack) fp H2 (upd H2 s2.heap.objs.size (.lst [])) s2.heap G3:=Un.laid (fun b o e=>hH3 ▸ Heap.get?_push_of_some _ e) (Nat.le_refl _) fr2
    have u2:=I6.base
    subst hp
    exact u1.trans u2
   have IO:Inv X pins σ H5 s6:=I2.call' (by have e:=I6.os;subst hp;exact e) un (by have e:=I6.hok;subst hp;exact e) I6.bare fun b hb=>⟨(f2 b hb).2.2.2.1,(f2 b hb).2.1,(f2 b hb).2.2.2.2.1,(f2 b hb).2.2.2.2.2⟩
   refine fin _ _ H5 s6 m6 IO qn ?_ ?_ ?_ ?_ ?_ ?_
   ·have e:=I6.free;subst hp;exact e
   ·exact Nat.ne_of_gt (Nat.lt_of_lt_of_le I2.lt sz3)
   ·exact Nat.le_trans I2.sz sz3
   ·intro x c e z
    obtain ⟨v,q⟩:=I2.cell x c e
    exact absurd (Nat.lt_of_lt_of_le q.lt sz3) (by rw [z];exact Nat.lt_irrefl _)
   ·intro q hq z
    exact absurd (Nat.lt_of_lt_of_le (Heap.lt_size (I2.pin q hq).1) sz3) (by rw [z];exact Nat.lt_irrefl _)
   ·subst hp;exact hn6
  ·refine thn (T.item (X.comp N' scope p) rfl rfl rfl hc i [] s5 _ H5 _ I5 (stat fr5) st5 go) fun r s6 ⟨u,hr,h6⟩=>?_
   subst hr
   refine thn h6 fun _ s7 ⟨x,H7,I7,r7,y7,st7,fr7⟩=>?_
   have I7':=I7.pinned (stat fr7) (T.obj _ _ st7)
   refine thn (hg p _ s7 _ H7 x u _ I7' r7 (hk σ x H7 _ (step x H7 y7))) fun _ s8 ⟨σ8,H8,I8,q8,w8⟩=>?_
   refine thn (ht p _ s8 σ8 H8 _ I8 q8) fun ok s9 ⟨H9,I9,q9⟩=>?_
   have back:∀ {H':Hp} {s':Shared},Inv (X.comp N' scope p) ([] ++ pinsAt fp s7.heap) σ8 H' s'→∀ {k:Nat} {zs:List V},M zs H' →
     ∃ m,m<n∧∃ i ys H'',Inv (X.comp N' scope p) [] (L2.picked σ pick) H'' s'∧tn i s'.heap∧(∀ b∈fp,H'' b=none)∧W i m ys H'':=fun {H' s'} I' {k zs} mz=>by
    obtain ⟨m',hm,w'⟩:=hM _ _ mz
    refine ⟨m',hm,i + 1,zs,H',?_,T.keep _ _ _ st7 fun b hb o e=>(I'.pin (b,o) (List.mem_append_right _ (List.mem_append_right _ (mem_pinsAt hb e)))).1,fun b hb=>?_,w'⟩
    ·refine (I'.unpinned).weak ?_ w8
     rw [(I'.unpinned).len,I7.len]
    ·obtain ⟨o,e,d⟩:=T.obj _ _ st7 b hb
     exact (I'.pin (b,o) (List.mem_append_right _ (List.mem_append_right _ (mem_pinsAt hb e)))).2.1
   cases ok with
   | false=>exact back I9 (k:=0) q9
   | true =>
    refine thn (he p _ s9 σ8 H9 _ I9 q9) fun v s10 ⟨y,H10,I10,r10,hD10,hz,q10⟩=>?_
    refine thn (mt_append (X:=X.comp N' scope p) _ s10 σ8 H10 (.ref s2.heap.objs.size) [y] _ [v] (fun _ H'=>M (ys ++ [y]) H') I10 rfl (.cons r10 .nil) ⟨_,ys,y,rfl,rfl,hD10,hz,q10⟩) fun w s11 ⟨z,H11,I11,r11,q11⟩=>?_
    exact back I11 (k:=0) q11
 subst hp
 exact codeAny_compStart_list loop (T.self _ 0 _ _ _ st4 loop)
theorem pe_comp (S:CompScope N sc N' pick scope) (hc:X.calm=true) (hi:PI X tg iter wi) (hk:GKeeps pick g)
  (hg:∀ p,PG (X.comp N' scope p) tg g) (ht:∀ p,PIfs (X.comp N' scope p) ifs tt) (he:∀ p,PE (X.comp N' scope p) elt te) (hN:X.N=N:=by rfl) (hsc:X.env.scope=sc:=by rfl) (hs:∀ x,foldedSetIterable iter X.env x=pure x:=by intro _;rfl) :
  PE X (.ListComp elt [⟨tg,iter,ifs,0⟩] scope pos) (tComp wi pick g tt te):=by
 intro pins s σ H Q I h
 rw [eval_ListComp]
 refine comp_core S hN hsc hc hi hk hg ht he hs I h fun D C H' s' m IO q n1 n2 n3 n4 n5 hn=>?_
 exact ⟨m,hn,fun h' hs'=>⟨.ref D,H',IO.turned (t':=s'.toks) (fun b o hb e=>(hs'.2 b hb).trans e) n1 (Ne.symm (Ne.symm n2)) (.inr n3) n4 n5,rfl,q⟩⟩
theorem ps_setComp {i:Nat} {x:Str} {pos' spos:Pos} (S:CompScope N sc N' pick scope) (hnd:X.N.Nodup) (hix:X.N[i]?=some x) (hx:Loc X.env.scope x) (hc:X.calm=true) (hi:PI X tg iter wi) (hk:GKeeps pick g)
  (hg:∀ p,PG (X.comp N' scope p) tg g) (ht:∀ p,PIfs (X.comp N' scope p) ifs tt) (he:∀ p,PE (X.comp N' scope p) elt te) (hN:X.N=N:=by rfl) (hsc:X.env.scope=sc:=by rfl)
  (hsw:swapsWith (.ListComp elt [⟨tg,iter,ifs,0⟩] scope pos) (some (.Name x pos')) spos.line X.env=pure true:=by rfl) (hs:∀ x,foldedSetIterable iter X.env x=pure x:=by intro _;rfl)
  (hf:X.fn x=true∨X.env.scope.names.lookup x=some .local:=by trivial) :
  PS X (.Assign [.Name x pos'] (.ListComp elt [⟨tg,iter,ifs,0⟩] scope pos) spos) (tAsg (tComp wi pick g tt te) (gName i)):=by
 intro pins s σ H D I h
 rw [exec_Assign_Name_used _ _ _ _ hsw]
 refine wpAny_bind (wpAny_standAt (wpAny_bind ?_))
 show wpAny _ _ (do let _ ←comprehension (.ListComp elt [⟨tg,iter,ifs,0⟩] scope pos) scope X.env _ (newList []) false (eval iter X.env) (some (assign (.Name x pos') X.env))) _ _ s
 refine wpAny_bind (thn (comp_core (QQ:=fun _ s'=>SP X pins D .next s') S hN hsc hc hi hk hg ht he hs I h fun D' C H' s' m IO q n1 n2 n3 n4 n5 hn=>?_) fun _ s' hq=>wpAny_pure (wpAny_pure hq))
 refine wpAny_assign_Name (store_ok2 (v:=V.ref D') IO hnd hix hx rfl (fun s2 I2 ⟨a,hsb,ha⟩=>?_) hf)
 have nC:C≠a:=by
  rcases ha with e | e
  ·rw [e];exact n2
  ·exact fun z=>n4 _ _ e z.symm
 refine ⟨m,hn.sameBut hsb nC,fun h' hs'=>⟨_,H',I2.turned (t':=s2.toks) (fun b o hb e=>(hs'.2 b hb).trans e) n1 n2 (.inr n3) n4 n5,q⟩⟩
end
section
variable {K:PySem.W.Frag} {a:Addr} {xs:List V} {pick:List (Option Nat)} {g:TG} {tt:TT} {te:TE} {σ:St} {H:Hp} {Q:VK} {J:It}
theorem comp_by {n:Nat} {y:Nat→V→Prop} (Pv:Addr→Nat→List V→Hp→Prop) (h0:∀ D,H D=none→Pv D 0 [] (upd H D (.lst []))) (hD:∀ D i ys H2,H D=none→i≤n→Pv D i ys H2→H2 D=some (.lst ys))
  (hgo:∀ D i ys H2,H D=none→i<n→Pv D i ys H2→J.go i H2) (hstop:∀ D ys H2,H D=none→Pv D n ys H2→J.stop n H2) (hy:∀ D i ys H2 x H3,H D=none→i<n→Pv D i ys H2→J.yld i H2 x H3→y i x∧H3=H2)
  (hs:∀ D,H D=none→∀ i x ys H2,i<n→y i x→Pv D i ys H2→g x (L2.picked σ pick) H2 fun σ4 H4=>tt σ4 H4 fun b H5=>if b=true then te σ4 H5 fun y H6=>H6 D=some (.lst ys)∧ys.length<sizeLine∧Pv D (i + 1) (ys ++ [y]) (upd H6 D (.lst (ys ++ [y]))) else Pv D (i + 1) ys H5)
  (hd:∀ D ys H2,H D=none→Pv D n ys H2→Q (.ref D) H2):CompRun J pick g tt te σ Q H:=by
 intro D hn
 refine ⟨fun i m ys H2=>m=n - i∧i≤n∧Pv D i ys H2,⟨n,by simp,Nat.zero_le _,h0 D hn⟩,?_⟩
 rintro i m ys H2 ⟨rfl,hi,p⟩
 refine ⟨hD D i ys H2 hn hi p,?_⟩
 by_cases hlt:i<n
 ·refine .inr ⟨hgo D i ys H2 hn hlt p,Pv D (i + 1),fun zs H' p'=>⟨n - (i + 1),by lia,rfl,hlt,p'⟩,fun x H' z=>?_⟩
  obtain ⟨z1,z2⟩:=hy D i ys H2 x H' hn hlt p z
  subst z2
  exact hs D hn i x ys _ hlt z1 p
 ·have e:i=n:=by lia
  subst e
  exact .inl ⟨hstop D ys H2 hn p,hd D ys H2 hn p⟩
theorem comp_range {lo:Int} {n:Nat} (Pv:Addr→Nat→List V→Hp→Prop) (h0:∀ D,H D=none→Pv D 0 [] (upd H D (.lst []))) (hD:∀ D i ys H2,H D=none→i≤n→Pv D i ys H2→H2 D=some (.lst ys))
  (hs:∀ D,H D=none→∀ (i:Nat) ys H2,i<n→Pv D i ys H2→g (.int (lo + i)) (L2.picked σ pick) H2 fun σ4 H4=>tt σ4 H4 fun b H5=>if b=true then te σ4 H5 fun y H6=>H6 D=some (.lst ys)∧ys.length<sizeLine∧Pv D (i + 1) (ys ++ [y]) (upd H6 D (.lst (ys ++ [y]))) else Pv D (i + 1) ys H5)
  (hd:∀ D ys H2,H D=none→Pv D n ys H2→Q (.ref D) H2):CompRun (Itr lo n) pick g tt te σ Q H :=
 comp_by (n:=n) (y:=fun i x=>x=.int (lo + i)) Pv h0 hD (fun D i ys H2 hn hi p=>hi) (fun D ys H2 hn p=>Nat.le_refl _) (fun D i ys H2 x H3 hn hi p z=>⟨z.2,z.1⟩)
  (fun D hn i x ys H2 hi hx p=>by subst hx;exact hs D hn i ys H2 hi p) hd
end
end L2
set_option Elab.async false
set_option linter.all false
set_option maxRecDepth 100000
set_option maxHeartbeats 4000000
namespace L2
open PySem PySem.Spec PyProof.Rows
section
variable {X:Cx} {tg e:Expr} {te:TE}
end
section
variable {X:Cx}
noncomputable def rSlS:V→Option Int→Option Int→Hp→VK→Prop:=fun x lo hi H Q=>∃ z,x=.str z∧z.length≤sizeLine∧Q (.str (Txt.slice z lo hi)) H
theorem part_of {v:Value} {o:Option Int} (h:IsPart v o):∃ l:Option (Int×Tok),l.map (·.1)=o∧partValue l=v:=by
 cases h with
 | none=>exact ⟨none,rfl,rfl⟩
 | int i t=>exact ⟨some (i,t),rfl,rfl⟩
theorem sl_str:SlR X rSlS:=by
 intro pins s σ H x v vl vu lo hi sl Q I rx hs pl pu h
 obtain ⟨z,rfl,hz,q⟩:=h
 obtain ⟨t,rfl⟩:=rx
 obtain ⟨l,rfl,rfl⟩:=part_of pl
 obtain ⟨u,rfl,rfl⟩:=part_of pu
 refine ⟨"str",_,F.slot_str_getitem.lookup,typeIs_str _ _ _,wpAny_getItem_str_slice (l:=l) (u:=u) (st:=none) hs rfl ?_⟩
 exact post_val_or_str ⟨Nat.le_trans (Txt.slice_le z _ _) hz,fun t' k=>⟨.str (Txt.slice z _ _),H,I.tok k,⟨t',rfl⟩,q⟩⟩
theorem strs_of:∀ {ys:List Str} {us:List Value},Vals (ys.map V.str) us→StrsAre us ys
 | [],_,.nil=>.nil
 | y :: ys,_,.cons ⟨t,e⟩ r=>by subst e;exact .cons y t (strs_of r)
noncomputable def rJoin (K:PySem.W.Frag):V→List V→Hp→VK→Prop:=fun x vs H Q=>∃ z p ys,x=.str z∧vs=[.ref p]∧SqL K H p (ys.map V.str)∧(ys.map (·.length)).sum + ys.length * z.length≤16777216∧Q (.str (Txt.join z ys)) H
theorem mt_join:MtR X "str.join" (rJoin X.K):=by
 intro pins s σ H x vs v us Q I rx rv h
 obtain ⟨z,p,ys,rfl,rfl,hp,hok,q⟩:=h
 obtain ⟨t,rfl⟩:=rx
 obtain ⟨u,rfl,ru⟩:=rv.one
 cases ru
 obtain ⟨its,r,pl,hz⟩:=I.list hp
 exact join_list pl.isList (strs_of (by simpa using r)) hok fun t' k=>⟨.str _,H,I.tok k,⟨t',rfl⟩,q⟩
theorem bools_of:∀ {bs:List Bool} {us:List Value},Vals (bs.map V.bl) us→LSm.BoolsAre us bs
 | [],_,.nil=>.nil
 | b :: bs,_,.cons e r=>by cases e;exact .cons b (bools_of r)
theorem call_all (hc:X.calm=true):CallR X (.builtin "all") (fun xs H Q=>∃ (p:Addr) (bs:List Bool),xs=[.ref p]∧SqL X.K H p (bs.map V.bl)∧Q (.bl (bs.all id)) H):=by
 intro pins s σ H xs us Q I r h
 obtain ⟨p,bs,rfl,hp,q⟩:=h
 obtain ⟨u,rfl,ru⟩:=r.one
 cases ru
 obtain ⟨its,r,pl,hz⟩:=I.list hp
 have hb:=bools_of r
 have hl:=pl.isList
 have hlt:p<s.heap.objs.size:=by obtain ⟨_,e,_⟩:=hl;exact Heap.lt_size e
 refine call_all_walk (wpAny_pyIter_list hl ?_)
 refine ⟨s.heap.objs.size,[s.heap.objs.size,p],[s.heap.objs.size],its.toArray.size,_,_,fun i=>(bs[i]?).getD true,rfl,Walks.list (A:=X.A.in1) (I.ok.hd hc) _ p (Nat.ne_of_lt hlt) its.toArray,
  ⟨⟨_,Heap.get?_push_size _ rfl,rfl,rfl⟩,hl.push _⟩,fun i v s' Q' E' hP hQ=>?_,fun h' tk hk=>?_⟩
 ·obtain ⟨b,e,rfl⟩:=hb.get i v (by simpa using hP)
  simp only [e,Option.getD_some] at hQ
  exact wpAny_truthy_bool hQ
 ·have e:((List.range its.toArray.size).all fun i=>(bs[i]?).getD true)=bs.all id:=by
   rw [List.size_toArray,hb.length];exact LSm.range_all bs
  rw [e]
  exact ⟨.bl _,H,I.kept (t':=tk) (LSm.kept_iter hk),rfl,q⟩
theorem call_isinst:CallR X (.builtin "isinstance") (fun xs H Q=>∃ x t n b,xs=[x,.ty n]∧TyOf X.K H x t∧PySem.W.kitOne X.K t (.type n)=some b∧Q (.bl b) H):=by
 intro pins s σ H xs us Q I r h
 obtain ⟨x,t,n,b,rfl,ty,e,q⟩:=h
 obtain ⟨u,v,rfl,ru,rv⟩:=r.two
 cases (show v=Value.type n from rv)
 exact isinst_ok I ru ty e fun tk=>⟨.bl b,H,I.tok tk,rfl,q⟩
end
end L2
set_option Elab.async false
set_option linter.all false
set_option maxRecDepth 100000
set_option maxHeartbeats 4000000
namespace L2
open PySem PySem.Spec PyProof.Rows
section
variable {X:Cx}
theorem op_fdivW:OpR X (binaryOp .FloorDiv) (rI (fun _ j=>0<j∧j<2 ^ 64) fun i j=>.int (i / j)):=opI fun i j t u s E Q hc q=>by
 have e:i.fdiv j=i / j:=Int.fdiv_eq_ediv_of_nonneg _ (Int.le_of_lt hc.1)
 refine floordiv_int (Int.ne_of_gt hc.1) (by rw [e];exact q) (.inl (PyProof.noPylong_of_log2 ?_))
 have h:j.natAbs<2 ^ 64:=by have:=hc.2;lia
 have h0:j.natAbs≠0:=by have:=hc.1;lia
 exact Nat.lt_of_lt_of_le ((Nat.log2_lt h0).mpr h) (by decide)
noncomputable def rIxF:R2:=fun x y H Q=>∃ p i xs,x=.ref p∧y=.int i∧H p=some (.lst xs)∧∃ v,atI xs i=some v∧Q v H
theorem ixF:IxR X rIxF:=fun value slice pins s σ H x y v u Q I rx ry ⟨p,i,xs,e1,e2,h,w,hw,q⟩ hs=>ix_list value slice pins s σ H x y v u Q I rx ry ⟨p,xs,i,w,e1,e2,.of h,hw,q⟩ hs
theorem get_list:PGet X rIxF:=by
 intro pins s σ H o i ov iv Q I ro ri h
 obtain ⟨p,k,xs,rfl,rfl,hp,z,he,q⟩:=h
 cases ro
 obtain ⟨t,rfl⟩:=ri
 obtain ⟨its,r,pl,hz⟩:=I.list (.of hp)
 obtain ⟨j,h1,h2,h3,h4,h5⟩:=atI_get he
 obtain ⟨w,ew,rw'⟩:=r.get h2
 have hl:=r.length
 have hn:=line63
 have fin:EP X pins σ Q w s:=⟨z,H,I,rw',q⟩
 by_cases h0:0≤k
 ·have hj:k.toNat=j:=by
   rw [seqIndex_of h0 h5] at h1
   exact Option.some.inj h1
  exact wpAny_getItem_list pl.isList h0 (by lia) (by rw [hj];simpa using ew) fin
 ·have hj:(k + (its.toArray.size:Int)).toNat=j:=by
   rw [seqIndex_neg (by lia) h4] at h1
   rw [List.size_toArray,←hl]
   exact Option.some.inj h1
  exact wpAny_getItem_list_neg pl.isList (by lia) (by rw [List.size_toArray] <;> lia) (by lia) (by rw [hj];simpa using ew) fin
theorem call_lenF:CallR X (.builtin "len") (fun xs H Q=>∃ p ys,xs=[.ref p]∧H p=some (.lst ys)∧Q (.int ys.length) H):=by
 intro pins s σ H xs us Q I r h
 obtain ⟨p,ys,rfl,hp,q⟩:=h
 exact call_len_seq pins s σ H _ us Q I r ⟨p,ys,rfl,.inl (.of hp),q⟩
end
noncomputable def Fn (P:Program) (w:World) (K:PySem.W.Frag) (mg:Str→Option Value) (base:Heap) (x:Str) (k:Nat) (ps:List Str) (sp:Sp):Prop :=
 ∃ (f:Addr) (fd:FuncData),FnOk P w K mg base CX0 k f fd ps sp∧mg x=some (.ref f)∧PySem.W.keepIn K (.ref f)=true∧Binds K fd ps []
theorem pe_fn {X:Cx} {x:Str} {k:Nat} {ps:List Str} {sp:Sp} {p pos:Pos} {e:Expr} {es:List Expr} {t:TA} (G:Fn X.prog X.w X.K X.mg X.base x k ps sp) (hr:Room k X.A) (hg:Gl X x)
  (ha:PA X (e :: es) t) (hdb:(x == ("__debug__":Str))=false:=by decide +kernel) (he:starEach (e :: es) X.env=(false,eval e X.env) :: starEach es X.env:=by rfl) (hpl:(backTo pos (starEach es X.env)).any (·.1)=false:=by rfl) :
  PE X (.Call (.Name x p) (e :: es) [] pos) (tCall sp [] E0 t):=by
 obtain ⟨f,fd,F,hm,hk,hb⟩:=G
 exact pe_call F hr hg hm hk hb .nil pass0 ha hdb he hpl
noncomputable def DefAt (K:PySem.W.Frag) (mg:Str→Option Value) (x:Str) (st:Stmt):Prop:=∃ (f:Addr) (fd:FuncData),Fun K x x st f fd∧mg x=some (.ref f)
theorem fn_def {P:Program} {w:World} {K:PySem.W.Frag} {mg:Str→Option Value} {base:Heap} {x:Str} {st:Stmt} {N ps:List Str} {k:Nat} {sp:Sp} (D:DefAt K mg x st) (S:FnScope N ps (defScope st))
  (hb:∀ (kV doc pm:Value) (an:Option Addr) (cdv ct:Value) (us:List Value),us.length=ps.length→bindArgs (PySem.W.fnOf x x (defArgs st) (defBody st) (defScope st) .none kV doc pm an cdv ct) ⟨us,[]⟩=pure (ps.zip us))
  (len:∀ vs H Q E,sp vs H Q E→vs.length=ps.length)
  (hbody:∀ (f:Addr) (cdv:Value) (A:Around) (outer:List Env) (s:Shared) (H:Hp) (vs:List V) (Q:VK) (E:XK),Room k (A.deeper (PyProof.Rows.envOfC x (defScope st) s.heap.objs.size f cdv))→sp vs H Q E →
   ∃ t,PSs (cxOf CX0 P w K mg base N x (defScope st) f cdv A outer s H E).nox (defBody st) t∧t { nx:=fun _ H'=>Q .non H',rt:=Q } (start N vs) H):Fn P w K mg base x (k + 1) ps sp:=by
 obtain ⟨f,fd,F,hm⟩:=D
 exact ⟨f,fd,F.ok S len (hbody f),hm,F.kp,F.binds hb⟩
section
variable {X:Cx}
theorem call_listF:CallR X (.type "list") (fun xs H Q=>∃ p ys,xs=[.ref p]∧(H p=some (.lst ys)∨H p=some (.tup ys))∧∀ l,H l=none→Q (.ref l) (upd H l (.lst ys))):=by
 intro pins s σ H xs us Q I r h
 obtain ⟨p,ys,rfl,hp,q⟩:=h
 exact call_list_of pins s σ H _ us Q I r ⟨p,ys,rfl,hp.elim (fun z=>.inl (.of z)) (fun z=>.inr (.of z)),q⟩
theorem call_tupleF:CallR X (.type "tuple") (fun xs H Q=>∃ p ys,xs=[.ref p]∧H p=some (.lst ys)∧∀ l,H l=none→Q (.ref l) (upd H l (.tup ys))):=by
 intro pins s σ H xs us Q I r h
 obtain ⟨p,ys,rfl,hp,q⟩:=h
 exact call_tuple_of pins s σ H _ us Q I r ⟨p,ys,rfl,.inl ⟨.of hp,q⟩⟩
end
theorem Txt_slice_to {x:Str} {k:Nat} (h:k≤x.length):(Txt.slice x none (some (k:Int))).cps.toList=x.cps.toList.take k:=by
 have e:=beq_iff_eq.mp (slice_closes_to (x:=x) (j:=(k:Int)) ⟨by lia,by have:x.cps.toList.length=x.length:=Array.length_toList;lia⟩)
 rw [e]
 simp
theorem join_nil_toList:∀ ys:List Str,(Txt.join ⟨#[]⟩ ys).cps.toList=(ys.map (·.cps.toList)).flatten:=by
 have hj:∀ ys:List Str,(Str.join ⟨#[]⟩ ys).cps.toList=(ys.map (·.cps.toList)).flatten:=by
  intro ys
  induction ys with
  | nil=>rfl
  | cons y r ih =>
   cases r with
   | nil=>simp [Str.join]
   | cons z r =>
    have e:Str.join ⟨#[]⟩ (y :: z :: r)=y ++ ⟨#[]⟩ ++ Str.join ⟨#[]⟩ (z :: r):=rfl
    rw [e]
    show ((y.cps ++ #[]) ++ (Str.join ⟨#[]⟩ (z :: r)).cps).toList=_
    rw [Array.toList_append,ih]
    simp
 intro ys
 have e:=beq_iff_eq.mp (join_plain_closes ⟨#[]⟩ ys)
 rw [e]
 exact hj ys
end L2
set_option Elab.async false
set_option linter.all false
set_option maxRecDepth 100000
set_option maxHeartbeats 4000000
namespace L2
open PySem PySem.Spec PyProof.Rows
section
variable {X:Cx}
theorem strs_vals:∀ {ys:List Str} {us:List Value},StrsAre us ys→Vals (ys.map V.str) us
 | _,_,.nil=>.nil
 | _,_,.cons y t r=>.cons ⟨t,rfl⟩ (strs_vals r)
theorem call_sorted_s (_:True):CallR X (.builtin "sorted") (fun xs H Q=>∃ (p:Addr) (ss:List Str),xs=[.ref p]∧H p=some (.lst (ss.map V.str))∧ss.length<64∧∀ (l:Addr) (ss':List Str),H l=none→ss'.Perm ss→sortedS ss'=true→Q (.ref l) (upd H l (.lst (ss'.map V.str)))):=by
 intro pins s σ H xs us Q I r h
 obtain ⟨p,ss,rfl,hp,h64,q⟩:=h
 obtain ⟨u,rfl,ru⟩:=r.one
 cases ru
 obtain ⟨its,r,pl,hz⟩:=I.list (.of hp)
 have hS:=strs_of r
 have hl:=r.length
 rw [List.length_map] at hl
 refine sorted_strs pl.isList hS (by lia) fun out ss' h1 h2 h3=>?_
 obtain ⟨e,he⟩:=sortedAll_at s.heap its out
 refine ⟨.ref (s.heap.objs.size + 1),_,I.laid (t':=s.toks) (o:=.lst (ss'.map V.str)) (fun b o q=>sortedAll_old q) (Nat.le_succ _) ?_,rfl,q _ ss' (I.hok.fresh (Nat.le_succ _)) h2 h3⟩
 refine ⟨?_,out.toList,e,strs_vals h1,he⟩
 rw [List.length_map,h2.length_eq]
 exact Nat.le_of_lt (small1000 (by lia))
theorem inV_strs (z:Str):∀ xs:List Str,inV (.str z) (xs.map V.str)=decide (z∈xs)
 | []=>rfl
 | x :: r=>by
  have ih:=inV_strs z r
  unfold inV at ih ⊢
  rw [List.map_cons,List.any_cons,ih]
  by_cases e:x=z
  ·subst e;simp [eqV]
  ·have e':¬ z=x:=fun h=>e h.symm
   simp [eqV,e,e']
theorem flat_strs:∀ xs:List Str,(xs.map V.str).all flatV=true
 | []=>rfl
 | x :: r=>by rw [List.map_cons,List.all_cons,flat_strs r];rfl
theorem op_inF:OpR X (compareOp .In) (fun x y H Q=>∃ (z:Str) (p:Addr) (xs:List Str),x=.str z∧y=.ref p∧(H p=some (.lst (xs.map V.str))∨H p=some (.tup (xs.map V.str)))∧Q (.bl (decide (z∈xs))) H):=by
 intro pins s σ H x y v u Q I rx ry h
 obtain ⟨z,p,xs,rfl,rfl,hp,q⟩:=h
 refine op_in_seq pins s σ H _ _ v u Q I rx ry ⟨p,xs.map V.str,rfl,hp.elim (fun z=>.inl (.of z)) (fun z=>.inr (.of z)),rfl,flat_strs xs,?_⟩
 rw [inV_strs]
 exact q
end
open PySem.Builtin PySem.Builtin.Str in
theorem Txt_slice_init {x:Str} (h:0<x.length):(Txt.slice x none (some (-1))).cps.toList=x.cps.toList.take (x.length - 1):=by
 have e:Txt.slice x none (some (-1))=Txt.slice x none (some (((x.length - 1:Nat)):Int)):=by
  unfold Txt.slice
  have e2:strSliceIndices none (some (-1)) 1 x.length=strSliceIndices none (some (((x.length - 1:Nat)):Int)) 1 x.length:=by
   unfold strSliceIndices
   have a1:(-1:Int)<0:=by decide
   have a2:¬ (((x.length - 1:Nat)):Int)<0:=by lia
   simp only [a1,a2,if_true,if_false,show (1:Int) > 0 by decide]
   congr 1
   lia
  rw [e2]
 rw [e]
 exact Txt_slice_to (by lia)
section
variable {X:Cx}
end
end L2
set_option Elab.async false
set_option linter.all false
set_option maxRecDepth 100000
set_option maxHeartbeats 4000000
namespace HT
open PySem PySem.Spec PyProof.Rows
section
variable {prog:Program} {w:World} {A:Around} {E:Value→Shared→Prop} {s:Shared}
end
end HT
set_option Elab.async false
set_option linter.all false
set_option maxRecDepth 100000
set_option maxHeartbeats 4000000
namespace L2
open PySem PySem.Spec PyProof.Rows
section
variable {X:Cx} {pins:List (Addr×Obj)} {σ:St} {H:Hp} {s:Shared} {h':Heap}
end
end L2
set_option Elab.async false
set_option linter.all false
set_option maxRecDepth 100000
set_option maxHeartbeats 4000000
namespace L2
open PySem PySem.Spec PyProof.Rows PySem.W
noncomputable def ev {α:Type} (lt:Nat→Nat→Bool):KasT α→α
 | .ret a=>a
 | .ask i j k=>ev lt (k (lt i j))
section
variable {O:KeyOrd} {key:Nat→O.α}
end
end L2
set_option Elab.async false
set_option linter.all false
set_option maxRecDepth 100000
set_option maxHeartbeats 4000000
namespace L2
open PySem PySem.Spec PyProof.Rows PySem.W
theorem lex_irr:∀ a:List Int,HT.lexLt a a=false
 | []=>rfl
 | x :: r=>by rw [HT.lexLt_cons,if_pos rfl];exact lex_irr r
theorem lex_trans:∀ a b c:List Int,HT.lexLt a b=true→HT.lexLt b c=true→HT.lexLt a c=true
 | [],[],c,h,_=>by simp [HT.lexLt] at h
 | [],_ :: _,[],_,h=>by simp [HT.lexLt] at h
 | [],_ :: _,_ :: _,_,_=>rfl
 | _ :: _,[],_,h,_=>by simp [HT.lexLt] at h
 | _ :: _,_ :: _,[],_,h=>by simp [HT.lexLt] at h
 | x :: xs,y :: ys,z :: zs,h1,h2=>by
  rw [HT.lexLt_cons] at h1 h2 ⊢
  by_cases e1:x=y
  ·subst e1
   rw [if_pos rfl] at h1
   by_cases e2:x=z
   ·subst e2
    rw [if_pos rfl] at h2 ⊢
    exact lex_trans xs ys zs h1 h2
   ·rw [if_neg e2] at h2 ⊢;exact h2
  ·rw [if_neg e1] at h1
   have h1:=of_decide_eq_true h1
   by_cases e2:y=z
   ·subst e2
    rw [if_neg e1];exact decide_eq_true h1
   ·rw [if_neg e2] at h2
    have h2:=of_decide_eq_true h2
    rw [if_neg (by lia)];exact decide_eq_true (by lia)
theorem lex_total:∀ a b:List Int,HT.lexLt a b=false→HT.lexLt b a=false→a=b
 | [],[],_,_=>rfl
 | [],_ :: _,h,_=>by simp [HT.lexLt] at h
 | _ :: _,[],_,h=>by simp [HT.lexLt] at h
 | x :: xs,y :: ys,h1,h2=>by
  rw [HT.lexLt_cons] at h1 h2
  by_cases e1:x=y
  ·subst e1
   rw [if_pos rfl] at h1 h2
   rw [lex_total xs ys h1 h2]
  ·rw [if_neg e1] at h1
   rw [if_neg (fun z=>e1 z.symm)] at h2
   have h1:=of_decide_eq_false h1
   have h2:=of_decide_eq_false h2
   lia
theorem lex_neg (a b c:List Int) (h:HT.lexLt a c=true):HT.lexLt a b=true∨HT.lexLt b c=true:=by
 cases h1:HT.lexLt a b
 ·cases h2:HT.lexLt b c
  ·exfalso
   cases h3:HT.lexLt b a
   ·rw [lex_total a b h1 h3,h2] at h;cases h
   ·have:=lex_trans b a c h3 h
    rw [h2] at this;cases this
  ·exact .inr rfl
 ·exact .inl rfl
noncomputable def lexO:KeyOrd:=⟨List Int,HT.lexLt,lex_irr,lex_trans,lex_neg,lex_total⟩
theorem katLex_ints {prog:Program} {w:World} {A:Around} {s:Shared} {Q:Bool→Shared→Prop}:∀ {us vs:List Value} {ns ms:List Int} (i:Nat),IntsAre us ns→IntsAre vs ms→ns.length=ms.length→Q (HT.lexLt ns ms) s→KatLex prog w A true false Q (us.zip vs) i s
 | _,_,_,_,i,.nil,.nil,_,q=>q
 | _,_,_,_,i,.nil,.cons _ _ _,hl,_=>by simp at hl
 | _,_,_,_,i,.cons _ _ _,.nil,hl,_=>by simp at hl
 | _,_,_,_,i,.cons a t hu,.cons c u hv,hl,q=>by
  rw [List.zip_cons_cons]
  refine kat_cons (SeqAt.EqAt.int_int a t c u prog w _ _ ?_)
  rw [HT.lexLt_cons] at q
  by_cases e:a=c
  ·rw [if_pos e] at q
   rw [show (a == c)=true by simpa using e]
   exact kat_yes (katLex_ints (i + 1) hu hv (by simpa using hl) q)
  ·rw [if_neg e] at q
   rw [show (a == c)=false by simpa using e]
   refine kat_no ?_
   by_cases hi:i=0
   ·subst hi
    exact kat_lt_int (E:=fun _ _=>False) q
   ·rw [show (true && i == 0)=false by simp [hi]]
    exact kat_one _ _ (lt_int (E:=fun _ _=>False) q)
end L2
set_option Elab.async false
set_option linter.all false
set_option maxRecDepth 100000
set_option maxHeartbeats 4000000
namespace L2
open PySem PySem.Spec PyProof.Rows
noncomputable abbrev bagO (a:Addr) (i c z:Int):HO:=.lst [.ref a,.int i,.int c,.int z]
structure Bag (H:Hp) (b a:Addr):Prop where
 ob:∃ (ns:List Int) (i c z:Int),H b=some (bagO a i c z)∧H a=some (.lst (ns.map V.int))∧0≤i∧a≠b
structure Step (b a:Addr) (H H':Hp):Prop where
 bag:Bag H' b a
 same:∀ p o,p≠b→H p=some o→H' p=some o
section
variable {H H1 H2:Hp} {b a p D:Addr} {o:HO}
theorem Step.refl (h:Bag H b a):Step b a H H:=⟨h,fun _ _ _ e=>e⟩
theorem Step.trans (x:Step b a H H1) (y:Step b a H1 H2):Step b a H H2:=⟨y.bag,fun p o n e=>y.same p o n (x.same p o n e)⟩
theorem Bag.put (h:Bag H b a) (nb:p≠b) (na:p≠a):Bag (upd H p o) b a:=by
 obtain ⟨ns,i,c,z,h1,h2,r⟩:=h
 exact ⟨ns,i,c,z,by rw [upd_ne nb.symm];exact h1,by rw [upd_ne na.symm];exact h2,r⟩
theorem Bag.atb (h:Bag H b a):∃ l,H b=some (.lst l):=by
 obtain ⟨ns,i,c,z,h1,_⟩:=h
 exact ⟨_,h1⟩
theorem Bag.ata (h:Bag H b a):∃ l,H a=some (.lst l):=by
 obtain ⟨ns,i,c,z,h1,h2,_⟩:=h
 exact ⟨_,h2⟩
theorem Bag.nb (h:Bag H b a) (n:H p=none):p≠b:=by
 obtain ⟨l,h1⟩:=h.atb
 exact (ne_of_none h1 n).symm
theorem Bag.na (h:Bag H b a) (n:H p=none):p≠a:=by
 obtain ⟨l,h1⟩:=h.ata
 exact (ne_of_none h1 n).symm
theorem Bag.new (h:Bag H b a) (n:H p=none):Bag (upd H p o) b a:=h.put (h.nb n) (h.na n)
theorem Step.new (h:Bag H b a) (n:H p=none):Step b a H (upd H p o):=⟨h.new n,fun q u _ e=>by rw [upd_ne (ne_of_none e n)];exact e⟩
theorem Bag.neT (h:Bag H b a) {xs:List V} (e:H p=some (.tup xs)):p≠b∧p≠a:=by
 obtain ⟨ns,i,c,z,h1,h2,_⟩:=h
 exact ⟨ne_of e h1 (fun z=>by cases z),ne_of e h2 (fun z=>by cases z)⟩
theorem Step.free (s:Step b a H H1) (n:H1 p=none):H p=none:=by
 cases e:H p with
 | none=>rfl
 | some o =>
  rw [s.same p o (s.bag.nb n) e] at n
  cases n
end
noncomputable abbrev keyI (r:List Int):List Key:=r.map Sum.inl
noncomputable abbrev keyS (x:Str):Key:=Sum.inr x
inductive P where
 | non | bl (b:Bool) | int (i:Int) | str (x:Str) | bag
 | tup (xs:List P) | lst (xs:List P)
 | dT (ks:List (List Int)) (vs:List P) | dK (ks:List Str) (vs:List P)
mutual
noncomputable def P.imm:P→Bool
 | .lst _=>false | .dT _ _=>false | .dK _ _=>false
 | .tup xs=>P.imms xs
 | .non=>true | .bl _=>true | .int _=>true | .str _=>true | .bag=>true
noncomputable def P.imms:List P→Bool
 | []=>true
 | x :: r=>x.imm && P.imms r
end
noncomputable def P.mut:P→Bool
 | .lst _=>true | .dT _ _=>true | .dK _ _=>true | _=>false
theorem mut_imm {x:P} (h:x.mut=true):x.imm=false:=by cases x <;> simp_all [P.mut,P.imm]
noncomputable def P.items:P→Option (List P)
 | .lst xs=>some xs | .tup xs=>some xs | _=>none
mutual
noncomputable def Rp (b:Addr) (Z:Addr→Prop) (H:Hp):P→V→Prop
 | .non,v=>v=.non
 | .bl k,v=>v=.bl k
 | .int i,v=>v=.int i
 | .str x,v=>v=.str x
 | .bag,v=>v=.ref b
 | .tup xs,v=>∃ p vs,v=.ref p∧H p=some (.tup vs)∧Rps b Z H xs vs
 | .lst xs,v=>∃ p vs,v=.ref p∧¬ Z p∧H p=some (.lst vs)∧Rps b Z H xs vs
 | .dT ks xs,v=>∃ p vs,v=.ref p∧¬ Z p∧H p=some (.dT ((ks.map keyI).zip vs))∧ks.length=xs.length∧Rps b Z H xs vs
 | .dK ks xs,v=>∃ p vs,v=.ref p∧¬ Z p∧H p=some (.dK ((ks.map keyS).zip vs))∧ks.length=xs.length∧Rps b Z H xs vs
noncomputable def Rps (b:Addr) (Z:Addr→Prop) (H:Hp):List P→List V→Prop
 | [],vs=>vs=[]
 | x :: xs,vs=>∃ v r,vs=v :: r∧Rp b Z H x v∧Rps b Z H xs r
end
noncomputable def Rc (b:Addr) (Z:Addr→Prop) (H:Hp):P→Addr→Prop
 | .lst xs,p=>∃ vs,H p=some (.lst vs)∧Rps b Z H xs vs
 | .dT ks xs,p=>∃ vs,H p=some (.dT ((ks.map keyI).zip vs))∧ks.length=xs.length∧Rps b Z H xs vs
 | .dK ks xs,p=>∃ vs,H p=some (.dK ((ks.map keyS).zip vs))∧ks.length=xs.length∧Rps b Z H xs vs
 | _,_=>False
section
variable {b:Addr} {Z Z':Addr→Prop} {H H':Hp}
mutual
theorem Rp.keep (hk:∀ p o,¬ Z p→H p=some o→¬ Z' p∧H' p=some o) (ht:∀ p vs,H p=some (.tup vs)→H' p=some (.tup vs)):∀ {x:P} {v:V},Rp b Z H x v→Rp b Z' H' x v
 | .non,_,h=>h
 | .bl _,_,h=>h
 | .int _,_,h=>h
 | .str _,_,h=>h
 | .bag,_,h=>h
 | .tup xs,v,h=>by
  obtain ⟨p,vs,h1,h2,h3⟩:=h
  exact ⟨p,vs,h1,ht p vs h2,Rps.keep hk ht h3⟩
 | .lst xs,v,h=>by
  obtain ⟨p,vs,h1,h2,h3,h4⟩:=h
  exact ⟨p,vs,h1,(hk p _ h2 h3).1,(hk p _ h2 h3).2,Rps.keep hk ht h4⟩
 | .dT ks xs,v,h=>by
  obtain ⟨p,vs,h1,h2,h3,hl,h4⟩:=h
  exact ⟨p,vs,h1,(hk p _ h2 h3).1,(hk p _ h2 h3).2,hl,Rps.keep hk ht h4⟩
 | .dK ks xs,v,h=>by
  obtain ⟨p,vs,h1,h2,h3,hl,h4⟩:=h
  exact ⟨p,vs,h1,(hk p _ h2 h3).1,(hk p _ h2 h3).2,hl,Rps.keep hk ht h4⟩
theorem Rps.keep (hk:∀ p o,¬ Z p→H p=some o→¬ Z' p∧H' p=some o) (ht:∀ p vs,H p=some (.tup vs)→H' p=some (.tup vs)):∀ {xs:List P} {vs:List V},Rps b Z H xs vs→Rps b Z' H' xs vs
 | [],_,h=>h
 | x :: xs,vs,h=>by
  obtain ⟨v,r,h1,h2,h3⟩:=h
  exact ⟨v,r,h1,Rp.keep hk ht h2,Rps.keep hk ht h3⟩
end
mutual
theorem Rp.imm:∀ {x:P} {v:V},x.imm=true→Rp b Z H x v→Rp b Z' H x v
 | .non,_,_,h=>h
 | .bl _,_,_,h=>h
 | .int _,_,_,h=>h
 | .str _,_,_,h=>h
 | .bag,_,_,h=>h
 | .tup xs,v,hi,h=>by
  obtain ⟨p,vs,h1,h2,h3⟩:=h
  exact ⟨p,vs,h1,h2,Rps.imm (by simpa [P.imm] using hi) h3⟩
 | .lst _,_,hi,_=>by simp [P.imm] at hi
 | .dT _ _,_,hi,_=>by simp [P.imm] at hi
 | .dK _ _,_,hi,_=>by simp [P.imm] at hi
theorem Rps.imm:∀ {xs:List P} {vs:List V},P.imms xs=true→Rps b Z H xs vs→Rps b Z' H xs vs
 | [],_,_,h=>h
 | x :: xs,vs,hi,h=>by
  obtain ⟨v,r,h1,h2,h3⟩:=h
  rw [P.imms,Bool.and_eq_true] at hi
  exact ⟨v,r,h1,Rp.imm hi.1 h2,Rps.imm hi.2 h3⟩
end
theorem Rps.length:∀ {xs:List P} {vs:List V},Rps b Z H xs vs→xs.length=vs.length
 | [],_,h=>by rw [show _=[] from h];rfl
 | x :: xs,vs,h=>by
  obtain ⟨v,r,h1,h2,h3⟩:=h
  rw [h1,List.length_cons,List.length_cons,Rps.length h3]
theorem Rps.get:∀ {xs:List P} {vs:List V} {i:Nat} {x:P},Rps b Z H xs vs→xs[i]?=some x→∃ v,vs[i]?=some v∧Rp b Z H x v
 | [],_,_,_,_,e=>by simp at e
 | y :: xs,vs,0,x,h,e=>by
  obtain ⟨v,r,h1,h2,h3⟩:=h
  simp at e;subst e;subst h1
  exact ⟨v,rfl,h2⟩
 | y :: xs,vs,i + 1,x,h,e=>by
  obtain ⟨v,r,h1,h2,h3⟩:=h
  subst h1
  obtain ⟨u,h4,h5⟩:=Rps.get (i:=i) h3 (by simpa using e)
  exact ⟨u,by simpa using h4,h5⟩
theorem Rps.app:∀ {xs ys:List P} {vs us:List V},Rps b Z H xs vs→Rps b Z H ys us→Rps b Z H (xs ++ ys) (vs ++ us)
 | [],_,_,_,h,g=>by rw [show _=[] from h];exact g
 | x :: xs,ys,vs,us,h,g=>by
  obtain ⟨v,r,h1,h2,h3⟩:=h
  subst h1
  exact ⟨v,r ++ us,rfl,h2,Rps.app h3 g⟩
theorem Rps.snoc {xs:List P} {vs:List V} {x:P} {v:V} (h:Rps b Z H xs vs) (g:Rp b Z H x v):Rps b Z H (xs ++ [x]) (vs ++ [v]):=h.app ⟨v,[],rfl,g,rfl⟩
theorem Rps.ints:∀ {ns:List Int} {vs:List V},Rps b Z H (ns.map P.int) vs ↔ vs=ns.map V.int
 | [],vs=>Iff.rfl
 | n :: ns,vs=>by
  constructor
  ·rintro ⟨v,r,h1,h2,h3⟩
   rw [h1,show v=.int n from h2,Rps.ints.mp h3];rfl
  ·intro h
   exact ⟨.int n,ns.map V.int,h,rfl,Rps.ints.mpr rfl⟩
theorem Rps.strs:∀ {ns:List Str} {vs:List V},Rps b Z H (ns.map P.str) vs ↔ vs=ns.map V.str
 | [],vs=>Iff.rfl
 | n :: ns,vs=>by
  constructor
  ·rintro ⟨v,r,h1,h2,h3⟩
   rw [h1,show v=.str n from h2,Rps.strs.mp h3];rfl
  ·intro h
   exact ⟨.str n,ns.map V.str,h,rfl,Rps.strs.mpr rfl⟩
theorem Rps.bls:∀ {ns:List Bool} {vs:List V},Rps b Z H (ns.map P.bl) vs ↔ vs=ns.map V.bl
 | [],vs=>Iff.rfl
 | n :: ns,vs=>by
  constructor
  ·rintro ⟨v,r,h1,h2,h3⟩
   rw [h1,show v=.bl n from h2,Rps.bls.mp h3];rfl
  ·intro h
   exact ⟨.bl n,ns.map V.bl,h,rfl,Rps.bls.mpr rfl⟩
end
@[simp] theorem imm_int (i:Int):(P.int i).imm=true:=rfl
@[simp] theorem imm_str (i:Str):(P.str i).imm=true:=rfl
@[simp] theorem imm_bl (i:Bool):(P.bl i).imm=true:=rfl
@[simp] theorem imm_non:P.non.imm=true:=rfl
@[simp] theorem imm_bag:P.bag.imm=true:=rfl
@[simp] theorem imm_lst (xs:List P):(P.lst xs).imm=false:=rfl
@[simp] theorem imm_dT (ks:List (List Int)) (xs:List P):(P.dT ks xs).imm=false:=rfl
@[simp] theorem imm_dK (ks:List Str) (xs:List P):(P.dK ks xs).imm=false:=rfl
@[simp] theorem imm_tup (xs:List P):(P.tup xs).imm=P.imms xs:=by simp [P.imm]
@[simp] theorem imms_nil:P.imms []=true:=by simp [P.imms]
@[simp] theorem imms_cons (x:P) (xs:List P):P.imms (x :: xs)=(x.imm && P.imms xs):=by simp [P.imms]
theorem imms_iff {xs:List P}:P.imms xs=true ↔ ∀ x∈xs,x.imm=true:=by
 induction xs with
 | nil=>simp
 | cons x r ih=>simp [ih]
theorem imms_map {α:Type} {f:α→P} (h:∀ a,(f a).imm=true) (xs:List α):P.imms (xs.map f)=true:=by
 rw [imms_iff]
 intro x hx
 obtain ⟨a,_,rfl⟩:=List.mem_map.mp hx
 exact h a
@[simp] theorem imms_ints (ns:List Int):P.imms (ns.map P.int)=true:=imms_map (fun _=>rfl) ns
@[simp] theorem imms_strs (ns:List Str):P.imms (ns.map P.str)=true:=imms_map (fun _=>rfl) ns
@[simp] theorem imms_bls (ns:List Bool):P.imms (ns.map P.bl)=true:=imms_map (fun _=>rfl) ns
@[simp] theorem mut_lst (xs:List P):(P.lst xs).mut=true:=rfl
@[simp] theorem mut_dT (ks:List (List Int)) (xs:List P):(P.dT ks xs).mut=true:=rfl
@[simp] theorem mut_dK (ks:List Str) (xs:List P):(P.dK ks xs).mut=true:=rfl
@[simp] theorem mut_tup (xs:List P):(P.tup xs).mut=false:=rfl
@[simp] theorem items_lst (xs:List P):(P.lst xs).items=some xs:=rfl
@[simp] theorem items_tup (xs:List P):(P.tup xs).items=some xs:=rfl
inductive S where
 | emp | sh (x:P) | fr (x:P) | own (x:P)
inductive Fl where
 | nw | fr | cl | bo | rf | an
 deriving DecidableEq
noncomputable def Fl.el:Fl→Fl
 | .nw=>.fr | .fr=>.fr | .bo=>.fr | .cl=>.cl | .rf=>.rf | .an=>.an
noncomputable def Fl.top:Fl→Fl
 | .nw=>.nw | .fr=>.nw | .bo=>.nw | .cl=>.cl | .rf=>.rf | .an=>.an
noncomputable def Fl.join:Fl→Fl→Fl
 | .nw,g=>g | f,.nw=>f
 | .cl,.cl=>.cl | .rf,.rf=>.rf | _,_=>.an
noncomputable def topF (f:Fl) (xs:List P):Fl:=if P.imms xs=true then .nw else f.top
structure Wd where
 b:Addr
 a:Addr
 H₀:Hp
 F:Hp
 O:Addr→Prop
noncomputable def OwS (ρ:List S) (σ:St) (p:Addr):Prop:=∃ (i:Nat) (x:P),ρ[i]?=some (.own x)∧σ[i]?=some (some (.ref p))
noncomputable def Ow (W:Wd) (ρ:List S) (σ:St) (p:Addr):Prop:=W.O p∨OwS ρ σ p
noncomputable def Zof (W:Wd) (ρ:List S) (σ:St):Fl→Addr→Prop
 | .cl,p=>p=W.b∨Ow W ρ σ p
 | .rf,p=>p=W.b∨W.H₀ p≠none
 | .an,p=>p=W.b
 | _,p=>p=W.b∨Ow W ρ σ p∨W.H₀ p≠none
noncomputable abbrev Zf (W:Wd) (ρ:List S) (σ:St):Addr→Prop:=Zof W ρ σ .fr
noncomputable abbrev Zc (W:Wd) (ρ:List S) (σ:St):Addr→Prop:=Zof W ρ σ .cl
noncomputable def SlotOk (W:Wd) (ρ:List S) (σ:St) (H:Hp):S→Option V→Prop
 | .emp,_=>True
 | .sh x,o=>∃ v,o=some v∧Rp W.b (Zc W ρ σ) H x v
 | .fr x,o=>∃ v,o=some v∧Rp W.b (Zf W ρ σ) H x v
 | .own x,o=>∃ p,o=some (.ref p)∧W.H₀ p=none∧W.F p=none∧p≠W.b∧p≠W.a∧Rc W.b (Zf W ρ σ) H x p
structure Ok (W:Wd) (ρ:List S) (σ:St) (H:Hp):Prop where
 bag:Bag H W.b W.a
 fb:W.F W.b=none
 old:∀ p o,p≠W.b→W.H₀ p=some o→H p=some o
 frm:∀ p o,W.F p=some o→H p=some o
 oo:∀ p,W.O p→W.H₀ p=none∧W.F p=none∧p≠W.b∧p≠W.a∧∃ o,H p=some o∧∀ ys,o≠.tup ys
 len:σ.length=ρ.length
 slot:∀ (i:Nat) s,ρ[i]?=some s→∃ o,σ[i]?=some o∧SlotOk W ρ σ H s o
 uniq:∀ (i j:Nat) x y,ρ[i]?=some (S.own x)→ρ[j]?=some (S.own y)→σ[i]?=σ[j]?→i=j
noncomputable def RF (W:Wd) (ρ:List S) (σ:St) (Hs:Hp):Fl→Hp→P→V→Prop
 | .bo,H,x,v=>∃ p,v=.ref p∧OwS ρ σ p∧Rc W.b (Zf W ρ σ) H x p
 | .nw,H,x,v=>Rp W.b (Zf W ρ σ) H x v∧(x.mut=true→∃ p,v=.ref p∧Hs p=none)
 | f,H,x,v=>Rp W.b (Zof W ρ σ f) H x v
section
variable {W:Wd} {ρ ρ':List S} {σ σ':St} {H H' H1 Hs:Hp} {x:P} {v:V} {xs:List P} {vs:List V} {f:Fl} {p:Addr}
theorem Rc.cell {b:Addr} {Z:Addr→Prop} (h:Rc b Z H x p):∃ o,H p=some o∧∀ ys,o≠.tup ys:=by
 cases x with
 | lst xs=>obtain ⟨vs,h1,_⟩:=h;exact ⟨_,h1,fun _ z=>nomatch z⟩
 | dT ks xs=>obtain ⟨vs,h1,_⟩:=h;exact ⟨_,h1,fun _ z=>nomatch z⟩
 | dK ks xs=>obtain ⟨vs,h1,_⟩:=h;exact ⟨_,h1,fun _ z=>nomatch z⟩
 | _=>exact h.elim
theorem Ok.ow (ok:Ok W ρ σ H) (h:Ow W ρ σ p):W.H₀ p=none∧W.F p=none∧p≠W.b∧p≠W.a∧∃ o,H p=some o∧∀ ys,o≠.tup ys:=by
 rcases h with h | ⟨i,x,h1,h2⟩
 ·exact ok.oo p h
 obtain ⟨o,h3,q,h4,h5,h6,h7,h8,h9⟩:=ok.slot i _ h1
 rw [h2] at h3
 cases h3
 cases h4
 exact ⟨h5,h6,h7,h8,h9.cell⟩
theorem Ok.dom (ok:Ok W ρ σ H) (h:Zof W ρ σ f p):H p≠none:=by
 have hb:p=W.b→H p≠none:=fun e=>by
  obtain ⟨l,q⟩:=ok.bag.atb
  rw [e,q];exact fun z=>nomatch z
 have ho:Ow W ρ σ p→H p≠none:=fun e=>by
  obtain ⟨_,_,_,_,o,q,_⟩:=ok.ow e
  rw [q];exact fun z=>nomatch z
 have hh:W.H₀ p≠none→H p≠none:=fun e z=>by
  by_cases hp:p=W.b
  ·exact hb hp z
  ·cases q:W.H₀ p with
   | none=>exact e q
   | some o=>rw [ok.old p o hp q] at z;cases z
 cases f <;> simp only [Zof] at h
 ·exact h.elim hb fun h=>h.elim ho hh
 ·exact h.elim hb fun h=>h.elim ho hh
 ·exact h.elim hb ho
 ·exact h.elim hb fun h=>h.elim ho hh
 ·exact h.elim hb hh
 ·exact hb h
theorem Zof.b:Zof W ρ σ f W.b:=by
 cases f <;> simp [Zof]
theorem Rp.step (h:Rp W.b (Zof W ρ σ f) H x v) (s:Step W.b W.a H H') (hb:Bag H W.b W.a):Rp W.b (Zof W ρ σ f) H' x v :=
 h.keep (fun p o hz e=>⟨hz,s.same p o (fun z=>hz (z ▸ Zof.b)) e⟩) fun p vs e=>s.same p _ (hb.neT e).1 e
theorem Rps.step (h:Rps W.b (Zof W ρ σ f) H xs vs) (s:Step W.b W.a H H') (hb:Bag H W.b W.a):Rps W.b (Zof W ρ σ f) H' xs vs :=
 h.keep (fun p o hz e=>⟨hz,s.same p o (fun z=>hz (z ▸ Zof.b)) e⟩) fun p vs e=>s.same p _ (hb.neT e).1 e
theorem Rc.step (h:Rc W.b (Zf W ρ σ) H x p) (s:Step W.b W.a H H') (hb:Bag H W.b W.a) (hp:p≠W.b):Rc W.b (Zf W ρ σ) H' x p:=by
 cases x with
 | lst xs=>obtain ⟨vs,h1,h2⟩:=h;exact ⟨vs,s.same p _ hp h1,h2.step s hb⟩
 | dT ks xs=>obtain ⟨vs,h1,h0,h2⟩:=h;exact ⟨vs,s.same p _ hp h1,h0,h2.step s hb⟩
 | dK ks xs=>obtain ⟨vs,h1,h0,h2⟩:=h;exact ⟨vs,s.same p _ hp h1,h0,h2.step s hb⟩
 | _=>exact h.elim
theorem SlotOk.step {s:S} {o:Option V} (h:SlotOk W ρ σ H s o) (st:Step W.b W.a H H') (hb:Bag H W.b W.a):SlotOk W ρ σ H' s o:=by
 cases s with
 | emp=>trivial
 | sh x=>obtain ⟨v,h1,h2⟩:=h;exact ⟨v,h1,h2.step st hb⟩
 | fr x=>obtain ⟨v,h1,h2⟩:=h;exact ⟨v,h1,h2.step st hb⟩
 | own x=>obtain ⟨p,h1,h2,h3,h4,h5,h6⟩:=h;exact ⟨p,h1,h2,h3,h4,h5,h6.step st hb h4⟩
theorem Ok.step (ok:Ok W ρ σ H) (st:Step W.b W.a H H'):Ok W ρ σ H' where
 bag:=st.bag
 fb:=ok.fb
 old:=fun p o hp e=>st.same p o hp (ok.old p o hp e)
 frm:=fun p o e=>st.same p o (fun z=>by rw [z,ok.fb] at e;cases e) (ok.frm p o e)
 oo:=fun p h=>let ⟨h1,h2,h3,h4,o,h5,h6⟩:=ok.oo p h;⟨h1,h2,h3,h4,o,st.same p o h3 h5,h6⟩
 len:=ok.len
 slot:=fun i s e=>let ⟨o,h1,h2⟩:=ok.slot i s e;⟨o,h1,h2.step st ok.bag⟩
 uniq:=ok.uniq
theorem RF.step (h:RF W ρ σ Hs f H x v) (ok:Ok W ρ σ H) (s:Step W.b W.a H H'):RF W ρ σ Hs f H' x v:=by
 cases f with
 | bo =>
  obtain ⟨p,h1,h2,h3⟩:=h
  exact ⟨p,h1,h2,h3.step s ok.bag (ok.ow (.inr h2)).2.2.1⟩
 | nw=>exact ⟨h.1.step (f:=.fr) s ok.bag,h.2⟩
 | fr=>exact Rp.step (f:=.fr) h s ok.bag
 | cl=>exact Rp.step (f:=.cl) h s ok.bag
 | rf=>exact Rp.step (f:=.rf) h s ok.bag
 | an=>exact Rp.step (f:=.an) h s ok.bag
theorem RF.back (h:RF W ρ σ H1 f H x v) (s:Step W.b W.a Hs H1):RF W ρ σ Hs f H x v:=by
 cases f with
 | nw=>exact ⟨h.1,fun m=>let ⟨p,e,n⟩:=h.2 m;⟨p,e,s.free n⟩⟩
 | _=>exact h
theorem RF.any (h:RF W ρ σ Hs f H x v) (ok:Ok W ρ σ H):Rp W.b (Zof W ρ σ .an) H x v:=by
 have k:∀ {g:Fl},Rp W.b (Zof W ρ σ g) H x v→Rp W.b (Zof W ρ σ .an) H x v:=fun {g} h=>h.keep (fun p o hz e=>⟨fun z=>hz (by rw [show p=W.b from z];exact Zof.b),e⟩) fun p vs e=>e
 cases f with
 | bo =>
  obtain ⟨p,h1,h2,h3⟩:=h
  have nb:=(ok.ow (.inr h2)).2.2.1
  have k2:∀ {xs:List P} {vs:List V},Rps W.b (Zf W ρ σ) H xs vs→Rps W.b (Zof W ρ σ .an) H xs vs:=fun h=>h.keep (fun p o hz e=>⟨fun z=>hz (by rw [show p=W.b from z];exact Zof.b),e⟩) fun p vs e=>e
  cases x with
  | lst xs=>obtain ⟨vs,h4,h5⟩:=h3;exact ⟨p,vs,h1,nb,h4,k2 h5⟩
  | dT ks xs=>obtain ⟨vs,h4,h0,h5⟩:=h3;exact ⟨p,vs,h1,nb,h4,h0,k2 h5⟩
  | dK ks xs=>obtain ⟨vs,h4,h0,h5⟩:=h3;exact ⟨p,vs,h1,nb,h4,h0,k2 h5⟩
  | _=>exact h3.elim
 | nw=>exact k (g:=.fr) h.1
 | fr=>exact k (g:=.fr) h
 | cl=>exact k (g:=.cl) h
 | rf=>exact k (g:=.rf) h
 | an=>exact h
theorem RF.items (h:RF W ρ σ Hs f H x v) (hx:x.items=some xs):∃ p vs,v=.ref p∧(H p=some (.lst vs)∨H p=some (.tup vs))∧Rps W.b (Zof W ρ σ f) H xs vs:=by
 have k:∀ {g:Fl},Rp W.b (Zof W ρ σ g) H x v→∃ p vs,v=.ref p∧(H p=some (.lst vs)∨H p=some (.tup vs))∧Rps W.b (Zof W ρ σ g) H xs vs:=fun {g} h=>by
  cases x <;> simp only [P.items] at hx <;> try cases hx
  ·obtain ⟨p,vs,h1,h2,h3⟩:=h;exact ⟨p,vs,h1,.inr h2,h3⟩
  ·obtain ⟨p,vs,h1,h0,h2,h3⟩:=h;exact ⟨p,vs,h1,.inl h2,h3⟩
 cases f with
 | bo =>
  obtain ⟨p,h1,h2,h3⟩:=h
  cases x <;> simp only [P.items] at hx <;> try cases hx
  ·exact h3.elim
  ·obtain ⟨vs,h4,h5⟩:=h3;exact ⟨p,vs,h1,.inl h4,h5⟩
 | nw=>exact k (g:=.fr) h.1
 | fr=>exact k (g:=.fr) h
 | cl=>exact k (g:=.cl) h
 | rf=>exact k (g:=.rf) h
 | an=>exact k (g:=.an) h
theorem RF.ofEl (h:Rp W.b (Zof W ρ σ f) H x v):RF W ρ σ Hs f.el H x v:=by
 cases f <;> exact h
theorem RF.newL (ok:Ok W ρ σ H) (st:Step W.b W.a Hs H) (hr:Rps W.b (Zof W ρ σ f) H xs vs) (hp:H p=none):RF W ρ σ Hs (topF f xs) (upd H p (.lst vs)) (.lst xs) (.ref p):=by
 have nz:∀ g,¬ Zof W ρ σ g p:=fun g z=>ok.dom z hp
 have k:∀ g,Rps W.b (Zof W ρ σ g) H xs vs→Rp W.b (Zof W ρ σ g) (upd H p (.lst vs)) (.lst xs) (.ref p):=fun g h=>⟨p,vs,rfl,nz g,upd_same,h.step (Step.new ok.bag hp) ok.bag⟩
 unfold topF
 split
 ·exact ⟨k .fr (hr.imm ‹_›),fun _=>⟨p,rfl,st.free hp⟩⟩
 ·cases f with
  | nw=>exact ⟨k .fr hr,fun _=>⟨p,rfl,st.free hp⟩⟩
  | fr=>exact ⟨k .fr hr,fun _=>⟨p,rfl,st.free hp⟩⟩
  | bo=>exact ⟨k .fr hr,fun _=>⟨p,rfl,st.free hp⟩⟩
  | cl=>exact k .cl hr
  | rf=>exact k .rf hr
  | an=>exact k .an hr
theorem RF.newT (ok:Ok W ρ σ H) (hr:Rps W.b (Zof W ρ σ f) H xs vs) (hp:H p=none):RF W ρ σ Hs (topF f xs) (upd H p (.tup vs)) (.tup xs) (.ref p):=by
 have k:∀ g,Rps W.b (Zof W ρ σ g) H xs vs→Rp W.b (Zof W ρ σ g) (upd H p (.tup vs)) (.tup xs) (.ref p):=fun g h=>⟨p,vs,rfl,upd_same,h.step (Step.new ok.bag hp) ok.bag⟩
 unfold topF
 split
 ·exact ⟨k .fr (hr.imm ‹_›),fun m=>by simp at m⟩
 ·cases f with
  | nw=>exact ⟨k .fr hr,fun m=>by simp at m⟩
  | fr=>exact ⟨k .fr hr,fun m=>by simp at m⟩
  | bo=>exact ⟨k .fr hr,fun m=>by simp at m⟩
  | cl=>exact k .cl hr
  | rf=>exact k .rf hr
  | an=>exact k .an hr
end
end L2
set_option Elab.async false
set_option linter.all false
set_option maxRecDepth 100000
set_option maxHeartbeats 4000000
namespace L2
open PySem PySem.Spec PyProof.Rows
noncomputable abbrev pE:=List S→(P→Fl→Prop)→Prop
noncomputable abbrev pT:=List S→(Bool→Prop)→Prop
noncomputable abbrev pA:=List S→(List (P×Fl)→Prop)→Prop
noncomputable def RefE (t:TE) (p:pE):Prop:=∀ (W:Wd) (ρ:List S) (σ:St) (H:Hp) (Q:VK) (K:P→Fl→Prop),Ok W ρ σ H→p ρ K→(∀ x f v H',K x f→Step W.b W.a H H'→RF W ρ σ H f H' x v→Q v H')→t σ H Q
noncomputable def RefT (t:TT) (p:pT):Prop:=∀ (W:Wd) (ρ:List S) (σ:St) (H:Hp) (Q:Bool→Hp→Prop) (K:Bool→Prop),Ok W ρ σ H→p ρ K→(∀ c H',K c→Step W.b W.a H H'→Q c H')→t σ H Q
noncomputable def RFs (W:Wd) (ρ:List S) (σ:St) (Hs H:Hp):List (P×Fl)→List V→Prop
 | [],vs=>vs=[]
 | (x,f) :: r,vs=>∃ v t,vs=v :: t∧RF W ρ σ Hs f H x v∧RFs W ρ σ Hs H r t
noncomputable def RefA (t:TA) (p:pA):Prop:=∀ (W:Wd) (ρ:List S) (σ:St) (H:Hp) (Q:List V→Hp→Prop) (K:List (P×Fl)→Prop),Ok W ρ σ H→p ρ K→(∀ xs vs H',K xs→Step W.b W.a H H'→RFs W ρ σ H H' xs vs→Q vs H')→t σ H Q
section
variable {ι:Type}
noncomputable def QE (Xs:ι→Cx) (e:Expr) (p:pE):Prop:=∃ t,(∀ i,PE (Xs i) e t)∧RefE t p
noncomputable def QT (Xs:ι→Cx) (e:Expr) (p:pT):Prop:=∃ t,(∀ i,PT (Xs i) e t)∧RefT t p
noncomputable def QW (Xs:ι→Cx) (e:Expr) (p:pT):Prop:=∃ t,(∀ i,PW (Xs i) e t)∧RefT t p
noncomputable def QA (Xs:ι→Cx) (es:List Expr) (p:pA):Prop:=∃ t,(∀ i,PA (Xs i) es t)∧RefA t p
end
noncomputable abbrev p2:=P→Fl→P→Fl→(P→Fl→Prop)→Prop
noncomputable def Ref2 (r:R2) (pr:p2):Prop:=∀ (W:Wd) (ρ:List S) (σ:St) (Hs H:Hp) (Q:VK) (K:P→Fl→Prop) (x y:P) (f g:Fl) (v u:V),Ok W ρ σ H→Step W.b W.a Hs H→RF W ρ σ Hs f H x v→RF W ρ σ Hs g H y u→pr x f y g K →
 (∀ z h v' H',K z h→Step W.b W.a H H'→RF W ρ σ Hs h H' z v'→Q v' H')→r v u H Q
noncomputable abbrev pC:=List (P×Fl)→(P→Fl→Prop)→Prop
noncomputable def RefC (r:List V→Hp→VK→Prop) (pr:pC):Prop:=∀ (W:Wd) (ρ:List S) (σ:St) (Hs H:Hp) (Q:VK) (K:P→Fl→Prop) (xs:List (P×Fl)) (vs:List V),Ok W ρ σ H→Step W.b W.a Hs H→RFs W ρ σ Hs H xs vs→pr xs K →
 (∀ z h v' H',K z h→Step W.b W.a H H'→RF W ρ σ Hs h H' z v'→Q v' H')→r vs H Q
section
variable {W:Wd} {ρ:List S} {σ:St} {H H' H1 Hs:Hp} {x:P} {v:V} {f:Fl} {ar:List (P×Fl)} {vs:List V}
theorem RFs.back:∀ {ar:List (P×Fl)} {vs:List V},RFs W ρ σ H1 H ar vs→Step W.b W.a Hs H1→RFs W ρ σ Hs H ar vs
 | [],_,h,_=>h
 | (x,f) :: r,vs,h,st=>by
  obtain ⟨v,t,h1,h2,h3⟩:=h
  exact ⟨v,t,h1,h2.back st,RFs.back h3 st⟩
theorem RFs.any:∀ {ar:List (P×Fl)} {vs:List V},RFs W ρ σ Hs H ar vs→Ok W ρ σ H→Rps W.b (Zof W ρ σ .an) H (ar.map (·.1)) vs
 | [],_,h,_=>h
 | (x,f) :: r,vs,h,ok=>by
  obtain ⟨v,t,h1,h2,h3⟩:=h
  exact ⟨v,t,h1,h2.any ok,RFs.any h3 ok⟩
theorem RFs.length:∀ {ar:List (P×Fl)} {vs:List V},RFs W ρ σ Hs H ar vs→vs.length=ar.length
 | [],_,h=>by rw [show _=[] from h];rfl
 | (x,f) :: r,vs,h=>by
  obtain ⟨v,t,h1,h2,h3⟩:=h
  rw [h1,List.length_cons,List.length_cons,RFs.length h3]
end
noncomputable def pVar (k:Nat):pE:=fun ρ K=>match ρ[k]? with
 | some (.sh x)=>K x .cl
 | some (.fr x)=>K x .fr
 | some (.own x)=>K x .bo
 | _=>False
noncomputable def pK (x:P):pE:=fun _ K=>K x .fr
noncomputable def pOp (pr:p2) (pa pb:pE):pE:=fun ρ K=>pa ρ fun x f=>pb ρ fun y g=>pr x f y g K
noncomputable def pNil:pA:=fun _ K=>K []
noncomputable def pCons (pa:pE) (pr:pA):pA:=fun ρ K=>pa ρ fun x f=>pr ρ fun xs=>K ((x,f) :: xs)
noncomputable def pCall (pr:pC) (pa:pA):pE:=fun ρ K=>pa ρ fun xs=>pr xs K
section
variable {ι:Type} {Xs:ι→Cx} {a b c:Expr} {es:List Expr} {pa pb pc:pE} {pos:Pos}
theorem Ok.var {W:Wd} {ρ:List S} {σ:St} {H:Hp} (ok:Ok W ρ σ H) {k:Nat} {K:P→Fl→Prop} (h:pVar k ρ K):∃ x f v,K x f∧σ[k]?=some (some v)∧RF W ρ σ H f H x v:=by
 unfold pVar at h
 cases e:ρ[k]? with
 | none=>rw [e] at h;exact h.elim
 | some s =>
  rw [e] at h
  obtain ⟨o,h1,h2⟩:=ok.slot k s e
  cases s with
  | emp=>exact h.elim
  | sh x=>obtain ⟨v,rfl,h3⟩:=h2;exact ⟨x,_,v,h,h1,h3⟩
  | fr x=>obtain ⟨v,rfl,h3⟩:=h2;exact ⟨x,_,v,h,h1,h3⟩
  | own x=>obtain ⟨p,rfl,h3,h4,h5,h6,h7⟩:=h2;exact ⟨x,_,_,h,h1,p,rfl,⟨k,x,e,h1⟩,h7⟩
theorem refE_var (k:Nat):RefE (tVar k) (pVar k):=fun W ρ σ H Q K ok h q=>by
 obtain ⟨x,f,v,h1,h2,h3⟩:=ok.var h
 exact ⟨v,h2,q x f v H h1 (Step.refl ok.bag) h3⟩
theorem qv (k:Nat) {x:Str} {pos:Pos} (hN:∀ i,(Xs i).N[k]?=some x:=by intro _;rfl) (hv:∀ i,Vis (Xs i).env.scope x:=by intro _;trivial) (hd:(x == ("__debug__":Str))=false:=by decide)
  (hcd:(x == ("__classdict__":Str))=false:=by decide):QE Xs (.Name x pos) (pVar k):=⟨_,fun i=>pe_var (hN i) (hv i) hd hcd,refE_var k⟩
theorem refE_k {v:V} {x:P} (hi:x.imm=true) (h:∀ W H,Rp W (fun _=>False) H x v):RefE (tC v) (pK x):=fun W ρ σ H Q K ok hk q=>q x .fr v H hk (Step.refl ok.bag) ((h W.b H).imm hi)
theorem qe_int {i j}:QE Xs (.Constant (.int i) j pos) (pK (.int i)):=⟨_,fun _=>pe_int,refE_k rfl fun _ _=>rfl⟩
theorem qe_bl {b j}:QE Xs (.Constant (.bool b) j pos) (pK (.bl b)):=⟨_,fun _=>pe_bl,refE_k rfl fun _ _=>rfl⟩
theorem qe_str {x j}:QE Xs (.Constant (.str x) j pos) (pK (.str x)):=⟨_,fun _=>pe_str,refE_k rfl fun _ _=>rfl⟩
theorem refE_op {r:R2} {pr:p2} {ta tb:TE} (hr:Ref2 r pr) (ha:RefE ta pa) (hb:RefE tb pb):RefE (tOp r ta tb) (pOp pr pa pb):=fun W ρ σ H Q K ok h q =>
 ha W ρ σ H _ _ ok h fun x f v H1 h1 s1 r1=>hb W ρ σ H1 _ _ (ok.step s1) h1 fun y g u H2 h2 s2 r2 =>
  hr W ρ σ H H2 Q K x y f g v u ((ok.step s1).step s2) (s1.trans s2) (r1.step (ok.step s1) s2) (r2.back s1) h2 fun z h v' H' h3 s3 r3=>q z h v' H' h3 ((s1.trans s2).trans s3) r3
theorem qe_op {op:Operator} {r:R2} {pr:p2} (ho:∀ i,OpR (Xs i) (binaryOp op) r) (hr:Ref2 r pr) (ha:QE Xs a pa) (hb:QE Xs b pb):QE Xs (.BinOp a op b pos) (pOp pr pa pb):=by
 obtain ⟨ta,ha1,ha2⟩:=ha
 obtain ⟨tb,hb1,hb2⟩:=hb
 exact ⟨_,fun i=>pe_op (ho i) (ha1 i) (hb1 i),refE_op hr ha2 hb2⟩
theorem qe_cmp {op:CmpOp} {r:R2} {pr:p2} (ho:∀ i,OpR (Xs i) (compareOp op) r) (hr:Ref2 r pr) (ha:QE Xs a pa) (hb:QE Xs b pb) (hm:behindInMarks op b=false):QE Xs (.Compare a [op] [b] pos) (pOp pr pa pb):=by
 obtain ⟨ta,ha1,ha2⟩:=ha
 obtain ⟨tb,hb1,hb2⟩:=hb
 exact ⟨_,fun i=>pe_cmpR (ho i) (ha1 i) (hb1 i) hm,refE_op hr ha2 hb2⟩
theorem qe_ix {r:R2} {pr:p2} (ho:∀ i,IxR (Xs i) r) (hr:Ref2 r pr) (ha:QE Xs a pa) (hb:QE Xs b pb) (hs:PlainIx b):QE Xs (.Subscript a b pos) (pOp pr pa pb):=by
 obtain ⟨ta,ha1,ha2⟩:=ha
 obtain ⟨tb,hb1,hb2⟩:=hb
 exact ⟨_,fun i=>pe_ix (ho i) (ha1 i) (hb1 i) hs,refE_op hr ha2 hb2⟩
theorem qa_nil:QA Xs [] pNil:=⟨_,fun _=>pa_nil,fun W ρ σ H Q K ok h q=>q [] [] H h (Step.refl ok.bag) rfl⟩
theorem qa_cons {pr:pA} (ha:QE Xs a pa) (hr:QA Xs es pr) (hs:∀ i,starEach (a :: es) (Xs i).env=(false,eval a (Xs i).env) :: starEach es (Xs i).env:=by intro _;rfl):QA Xs (a :: es) (pCons pa pr):=by
 obtain ⟨ta,ha1,ha2⟩:=ha
 obtain ⟨tr,hr1,hr2⟩:=hr
 refine ⟨_,fun i=>pa_cons (ha1 i) (hr1 i) (hs i),fun W ρ σ H Q K ok h q=>?_⟩
 exact ha2 W ρ σ H _ _ ok h fun x f v H1 h1 s1 r1=>hr2 W ρ σ H1 _ _ (ok.step s1) h1 fun xs vs H2 h2 s2 r2 =>
  q _ _ H2 h2 (s1.trans s2) ⟨v,vs,rfl,r1.step (ok.step s1) s2,r2.back s1⟩
theorem refE_call {r:List V→Hp→VK→Prop} {pr:pC} {t:TA} {p:pA} (hr:RefC r pr) (ha:RefA t p):RefE (tCB r t) (pCall pr p):=fun W ρ σ H Q K ok h q =>
 ha W ρ σ H _ _ ok h fun xs vs H1 h1 s1 r1=>hr W ρ σ H H1 Q K xs vs (ok.step s1) s1 r1 h1 fun z h v' H' h3 s3 r3=>q z h v' H' h3 (s1.trans s3) r3
theorem qe_callB {x:Str} {id:String} {r:List V→Hp→VK→Prop} {pr:pC} {p:pA} {p1:Pos} (hc:∀ i,CallR (Xs i) (.builtin id) r) (hr:RefC r pr) (hm:∀ i,(Xs i).mg x=none) (hv:bootBuiltins x=some (.builtin id)) (ha:QA Xs (a :: es) p)
  (hg:∀ i,Gl (Xs i) x:=by intro _;rfl) (hn:x≠"__name__":=by decide +kernel) (hdb:(x == ("__debug__":Str))=false:=by decide +kernel) (he:∀ i,starEach (a :: es) (Xs i).env=(false,eval a (Xs i).env) :: starEach es (Xs i).env:=by intro _;rfl) (hpl:∀ i,(backTo pos (starEach es (Xs i).env)).any (·.1)=false:=by intro _;rfl) :
  QE Xs (.Call (.Name x p1) (a :: es) [] pos) (pCall pr p):=by
 obtain ⟨t,h1,h2⟩:=ha
 exact ⟨_,fun i=>pe_callB (hc i) (hg i) (hm i) hv (h1 i) hn hdb (he i) (hpl i),refE_call hr h2⟩
theorem qe_callTy {x:Str} {T:String} {r:List V→Hp→VK→Prop} {pr:pC} {p:pA} {p1:Pos} (hc:∀ i,CallR (Xs i) (.type T) r) (hr:RefC r pr) (hm:∀ i,(Xs i).mg x=none) (hv:bootBuiltins x=some (.type T)) (ha:QA Xs (a :: es) p)
  (hg:∀ i,Gl (Xs i) x:=by intro _;rfl) (hn:x≠"__name__":=by decide +kernel) (hdb:(x == ("__debug__":Str))=false:=by decide +kernel) (he:∀ i,starEach (a :: es) (Xs i).env=(false,eval a (Xs i).env) :: starEach es (Xs i).env:=by intro _;rfl) (hpl:∀ i,(backTo pos (starEach es (Xs i).env)).any (·.1)=false:=by intro _;rfl) :
  QE Xs (.Call (.Name x p1) (a :: es) [] pos) (pCall pr p):=by
 obtain ⟨t,h1,h2⟩:=ha
 exact ⟨_,fun i=>pe_callTy (hc i) (hg i) (hm i) hv (h1 i) hn hdb (he i) (hpl i),refE_call hr h2⟩
end
noncomputable def itemF:P→Fl→Fl
 | x,.bo=>if x.imm=true then .nw else .rf
 | x,.nw=>.nw
 | x,.fr=>.nw
 | x,.cl=>if x.imm=true then .nw else .cl
 | x,.rf=>if x.imm=true then .nw else .rf
 | x,.an=>if x.imm=true then .nw else .an
noncomputable def joinF:List (P×Fl)→Fl
 | []=>.nw
 | (x,f) :: r=>(itemF x f).join (joinF r)
noncomputable def pTupD (p:pA):pE:=fun ρ K=>p ρ fun xs=>K (.tup (xs.map (·.1))) (joinF xs)
noncomputable def pLstD (p:pA):pE:=fun ρ K=>p ρ fun xs=>K (.lst (xs.map (·.1))) (joinF xs)
section
variable {W:Wd} {ρ:List S} {σ:St} {H H' H1 Hs:Hp} {x:P} {v:V} {f g:Fl} {ar:List (P×Fl)} {vs:List V}
theorem itemF_ok (ok:Ok W ρ σ H) (h2:RF W ρ σ Hs f H x v):itemF x f≠.bo∧itemF x f≠.fr∧Rp W.b (Zof W ρ σ (itemF x f)) H x v:=by
 by_cases hi:x.imm=true
 ·have e:itemF x f=.nw:=by cases f <;> simp [itemF,hi]
  rw [e]
  exact ⟨by simp,by simp,(h2.any ok).imm hi⟩
 ·cases f with
  | nw=>exact ⟨by simp [itemF],by simp [itemF],h2.1⟩
  | fr=>exact ⟨by simp [itemF],by simp [itemF],h2⟩
  | cl=>simp only [itemF,if_neg hi];exact ⟨by simp,by simp,h2⟩
  | rf=>simp only [itemF,if_neg hi];exact ⟨by simp,by simp,h2⟩
  | an=>simp only [itemF,if_neg hi];exact ⟨by simp,by simp,h2⟩
  | bo =>
   simp only [itemF,if_neg hi]
   refine ⟨by simp,by simp,?_⟩
   obtain ⟨p,q1,q2,q3⟩:=h2
   have qo:=ok.ow (.inr q2)
   have nz:¬ Zof W ρ σ .rf p:=by
    simp only [Zof,not_or,Classical.not_not]
    exact ⟨qo.2.2.1,qo.1⟩
   have kk:∀ {xs:List P} {vs:List V},Rps W.b (Zf W ρ σ) H xs vs→Rps W.b (Zof W ρ σ .rf) H xs vs:=fun h=>h.keep (fun p o hz e=>⟨fun z=>hz (z.elim .inl fun z=>.inr (.inr z)),e⟩) fun p vs e=>e
   cases x with
   | lst xs=>obtain ⟨us,q4,q5⟩:=q3;exact ⟨p,us,q1,nz,q4,kk q5⟩
   | dT ks xs=>obtain ⟨us,q4,q0,q5⟩:=q3;exact ⟨p,us,q1,nz,q4,q0,kk q5⟩
   | dK ks xs=>obtain ⟨us,q4,q0,q5⟩:=q3;exact ⟨p,us,q1,nz,q4,q0,kk q5⟩
   | _=>exact q3.elim
theorem join_sub {g j:Fl} (h1:g≠.bo) (h2:g≠.fr) (h3:j≠.bo) (h4:j≠.fr) (p:Addr) (z:Zof W ρ σ (g.join j) p):Zof W ρ σ g p∧Zof W ρ σ j p:=by
 cases g <;> cases j <;> simp_all [Fl.join,Zof] <;> rcases z with z | z <;> simp_all
theorem join_ne {g j:Fl} (h1:g≠.bo) (h2:g≠.fr) (h3:j≠.bo) (h4:j≠.fr):g.join j≠.bo∧g.join j≠.fr:=by
 cases g <;> cases j <;> simp_all [Fl.join]
theorem RFs.items:∀ {ar:List (P×Fl)} {vs:List V},Ok W ρ σ H→RFs W ρ σ Hs H ar vs→joinF ar≠.bo∧joinF ar≠.fr∧Rps W.b (Zof W ρ σ (joinF ar)) H (ar.map (·.1)) vs
 | [],_,_,h=>⟨by simp [joinF],by simp [joinF],h⟩
 | (x,f) :: r,vs,ok,h=>by
  obtain ⟨v,t,h1,h2,h3⟩:=h
  obtain ⟨n1,n2,h4⟩:=RFs.items ok h3
  obtain ⟨hgb,hgf,hx⟩:=itemF_ok ok h2
  have hj:=join_sub (W:=W) (ρ:=ρ) (σ:=σ) hgb hgf n1 n2
  exact ⟨(join_ne hgb hgf n1 n2).1,(join_ne hgb hgf n1 n2).2,v,t,h1,hx.keep (fun p o hz e=>⟨fun z=>hz (hj p z).1,e⟩) (fun p vs e=>e),h4.keep (fun p o hz e=>⟨fun z=>hz (hj p z).2,e⟩) (fun p vs e=>e)⟩
theorem RF.topped {g:Fl} (hb:g≠.bo) (hf:g≠.fr):g.top=g:=by cases g <;> simp_all [Fl.top]
end
section
variable {ι:Type} {Xs:ι→Cx} {a b c:Expr} {es:List Expr} {pa pb pc:pE} {pos:Pos}
theorem joinF_imm:∀ {xs:List (P×Fl)},P.imms (xs.map (·.1))=true→joinF xs=.nw
 | [],_=>rfl
 | (x,f) :: r,hi=>by
  simp only [List.map_cons,imms_cons,Bool.and_eq_true] at hi
  rw [joinF,joinF_imm hi.2]
  have:itemF x f=.nw:=by cases f <;> simp [itemF,hi.1]
  rw [this];rfl
theorem qe_tup {x1} {p:pA} (h:QA Xs es p) {n:Nat} (hn:es.length=n:=by rfl) (hz:n≤sizeLine:=by decide):QE Xs (.Tuple es x1 pos) (pTupD fun ρ K=>p ρ fun xs=>xs.length=n∧K xs):=by
 obtain ⟨t,h1,h2⟩:=h
 refine ⟨_,fun i=>pe_tup (h1 i),fun W ρ σ H Q K ok hk q=>?_⟩
 refine h2 W ρ σ H _ _ ok hk fun xs vs H1 ⟨hl,k1⟩ s1 r1=>⟨by rw [r1.length,hl];exact hz,fun p hp=>?_⟩
 obtain ⟨n1,n2,r2⟩:=RFs.items (ok.step s1) r1
 have st:=s1.trans (Step.new (o:=.tup vs) s1.bag hp)
 refine q _ _ (.ref p) _ k1 st ?_
 have:=RF.newT (Hs:=H) (ok.step s1) r2 hp
 unfold topF at this
 split at this
 ·rename_i hi
  rw [joinF_imm hi];exact this
 ·rw [RF.topped n1 n2] at this;exact this
theorem qe_lst {p:pA} (h:QA Xs es p) {n:Nat} (hn:es.length=n:=by rfl) (hz:n≤sizeLine:=by decide):QE Xs (.List es pos) (pLstD fun ρ K=>p ρ fun xs=>xs.length=n∧K xs):=by
 obtain ⟨t,h1,h2⟩:=h
 refine ⟨_,fun i=>pe_lst (h1 i),fun W ρ σ H Q K ok hk q=>?_⟩
 refine h2 W ρ σ H _ _ ok hk fun xs vs H1 ⟨hl,k1⟩ s1 r1=>⟨by rw [r1.length,hl];exact hz,fun p hp=>?_⟩
 obtain ⟨n1,n2,r2⟩:=RFs.items (ok.step s1) r1
 have st:=s1.trans (Step.new (o:=.lst vs) s1.bag hp)
 refine q _ _ (.ref p) _ k1 st ?_
 have:=RF.newL (ok.step s1) s1 r2 hp
 unfold topF at this
 split at this
 ·rename_i hi
  rw [joinF_imm hi];exact this
 ·rw [RF.topped n1 n2] at this;exact this
end
end L2
set_option Elab.async false
set_option linter.all false
set_option maxRecDepth 100000
set_option maxHeartbeats 4000000
namespace L2
open PySem PySem.Spec PyProof.Rows
noncomputable def unkI (k:List Key):List Int:=k.map fun x=>match x with | .inl i=>i | .inr _=>0
noncomputable def unkS (k:Key):Str:=match k with | .inr x=>x | .inl _=>⟨#[]⟩
theorem unkI_keyI (r:List Int):unkI (keyI r)=r:=by simp [unkI,List.map_map,Function.comp_def]
theorem keysI_inj {ks ks':List (List Int)} (h:ks.map keyI=ks'.map keyI):ks=ks':=by
 have:=congrArg (List.map unkI) h
 simpa [List.map_map,Function.comp_def,unkI_keyI] using this
theorem keysS_inj {ks ks':List Str} (h:ks.map keyS=ks'.map keyS):ks=ks':=by
 have:=congrArg (List.map unkS) h
 simpa [List.map_map,Function.comp_def,unkS] using this
theorem zip_inj {α β:Type} {ks ks':List α} {vs vs':List β} (h1:ks.length=vs.length) (h2:ks'.length=vs'.length) (h:ks.zip vs=ks'.zip vs'):ks=ks'∧vs=vs':=by
 have a:=congrArg (List.map Prod.fst) h
 have b:=congrArg (List.map Prod.snd) h
 rw [List.map_fst_zip (by lia),List.map_fst_zip (by lia)] at a
 rw [List.map_snd_zip (by lia),List.map_snd_zip (by lia)] at b
 exact ⟨a,b⟩
section
variable {b:Addr} {Z Z':Addr→Prop} {H H':Hp}
mutual
theorem Rp.fun (hz:Z b) (hb:∀ vs,H b≠some (.tup vs)):∀ {x y:P} {v:V},Rp b Z H x v→Rp b Z H y v→x=y
 | .non,y,v,h1,h2=>by
  rw [show v=_ from h1] at h2
  cases y <;> simp_all [Rp]
 | .bl _,y,v,h1,h2=>by
  rw [show v=_ from h1] at h2
  cases y <;> simp_all [Rp]
 | .int _,y,v,h1,h2=>by
  rw [show v=_ from h1] at h2
  cases y <;> simp_all [Rp]
 | .str _,y,v,h1,h2=>by
  rw [show v=_ from h1] at h2
  cases y <;> simp_all [Rp]
 | .bag,y,v,h1,h2=>by
  rw [show v=_ from h1] at h2
  cases y <;> simp_all [Rp]
 | .tup xs,y,v,h1,h2=>by
  obtain ⟨p,vs,rfl,e2,e3⟩:=h1
  cases y with
  | tup ys =>
   obtain ⟨q,us,f1,f2,f3⟩:=h2
   cases f1
   rw [e2] at f2
   cases f2
   rw [Rps.fun hz hb e3 f3]
  | lst ys=>obtain ⟨q,us,f1,_,f2,f3⟩:=h2;cases f1;rw [e2] at f2;cases f2
  | dT ks ys=>obtain ⟨q,us,f1,_,f2,f3⟩:=h2;cases f1;rw [e2] at f2;cases f2
  | dK ks ys=>obtain ⟨q,us,f1,_,f2,f3⟩:=h2;cases f1;rw [e2] at f2;cases f2
  | bag=>cases (show V.ref p=V.ref b from h2);exact absurd e2 (hb vs)
  | _=>cases h2
 | .lst xs,y,v,h1,h2=>by
  obtain ⟨p,vs,rfl,e1,e2,e3⟩:=h1
  cases y with
  | lst ys =>
   obtain ⟨q,us,f1,_,f2,f3⟩:=h2
   cases f1
   rw [e2] at f2
   cases f2
   rw [Rps.fun hz hb e3 f3]
  | tup ys=>obtain ⟨q,us,f1,f2,f3⟩:=h2;cases f1;rw [e2] at f2;cases f2
  | dT ks ys=>obtain ⟨q,us,f1,_,f2,f3⟩:=h2;cases f1;rw [e2] at f2;cases f2
  | dK ks ys=>obtain ⟨q,us,f1,_,f2,f3⟩:=h2;cases f1;rw [e2] at f2;cases f2
  | bag=>cases (show V.ref p=V.ref b from h2);exact absurd hz e1
  | _=>cases h2
 | .dT ks xs,y,v,h1,h2=>by
  obtain ⟨p,vs,rfl,e1,e2,el,e3⟩:=h1
  cases y with
  | dT ks' ys =>
   obtain ⟨q,us,f1,_,f2,fl,f3⟩:=h2
   cases f1
   rw [e2] at f2
   obtain ⟨g1,g2⟩:=zip_inj (by rw [List.length_map];exact el.trans e3.length) (by rw [List.length_map];exact fl.trans f3.length) (HO.dT.inj (Option.some.inj f2))
   have g1:=keysI_inj g1
   subst g1;subst g2
   rw [Rps.fun hz hb e3 f3]
  | tup ys=>obtain ⟨q,us,f1,f2,f3⟩:=h2;cases f1;rw [e2] at f2;cases f2
  | lst ys=>obtain ⟨q,us,f1,_,f2,f3⟩:=h2;cases f1;rw [e2] at f2;cases f2
  | dK ks ys=>obtain ⟨q,us,f1,_,f2,f3⟩:=h2;cases f1;rw [e2] at f2;cases f2
  | bag=>cases (show V.ref p=V.ref b from h2);exact absurd hz e1
  | _=>cases h2
 | .dK ks xs,y,v,h1,h2=>by
  obtain ⟨p,vs,rfl,e1,e2,el,e3⟩:=h1
  cases y with
  | dK ks' ys =>
   obtain ⟨q,us,f1,_,f2,fl,f3⟩:=h2
   cases f1
   rw [e2] at f2
   obtain ⟨g1,g2⟩:=zip_inj (by rw [List.length_map];exact el.trans e3.length) (by rw [List.length_map];exact fl.trans f3.length) (HO.dK.inj (Option.some.inj f2))
   have g1:=keysS_inj g1
   subst g1;subst g2
   rw [Rps.fun hz hb e3 f3]
  | tup ys=>obtain ⟨q,us,f1,f2,f3⟩:=h2;cases f1;rw [e2] at f2;cases f2
  | lst ys=>obtain ⟨q,us,f1,_,f2,f3⟩:=h2;cases f1;rw [e2] at f2;cases f2
  | dT ks ys=>obtain ⟨q,us,f1,_,f2,f3⟩:=h2;cases f1;rw [e2] at f2;cases f2
  | bag=>cases (show V.ref p=V.ref b from h2);exact absurd hz e1
  | _=>cases h2
theorem Rps.fun (hz:Z b) (hb:∀ vs,H b≠some (.tup vs)):∀ {xs ys:List P} {vs:List V},Rps b Z H xs vs→Rps b Z H ys vs→xs=ys
 | [],ys,vs,h1,h2=>by
  rw [show vs=[] from h1] at h2
  cases ys with
  | nil=>rfl
  | cons y r=>obtain ⟨v,t,e,_⟩:=h2;cases e
 | x :: xs,ys,vs,h1,h2=>by
  obtain ⟨v,r,rfl,e2,e3⟩:=h1
  cases ys with
  | nil=>cases (show v :: r=[] from h2)
  | cons y ys =>
   obtain ⟨u,t,f1,f2,f3⟩:=h2
   cases f1
   rw [Rp.fun hz hb e2 f2,Rps.fun hz hb e3 f3]
end
mutual
theorem Rp.avoid (hz:Z b) (hb:∀ vs,H b≠some (.tup vs)) {x:P} {p:Addr} (hx:Rp b Z H x (.ref p)):∀ {y:P} {v:V},sizeOf y<sizeOf x→Rp b Z H y v→Rp b (fun q=>Z q∨q=p) H y v
 | .non,_,_,h=>h
 | .bl _,_,_,h=>h
 | .int _,_,_,h=>h
 | .str _,_,_,h=>h
 | .bag,_,_,h=>h
 | .tup ys,v,hs,h=>by
  obtain ⟨q,vs,e1,e2,e3⟩:=h
  exact ⟨q,vs,e1,e2,Rps.avoid hz hb hx (by simp at hs ⊢;lia) e3⟩
 | .lst ys,v,hs,h=>by
  obtain ⟨q,vs,rfl,e1,e2,e3⟩:=id h
  refine ⟨q,vs,rfl,fun z=>z.elim e1 fun z=>?_,e2,Rps.avoid hz hb hx (by simp at hs ⊢;lia) e3⟩
  subst z
  rw [Rp.fun hz hb hx h] at hs
  exact Nat.lt_irrefl _ hs
 | .dT ks ys,v,hs,h=>by
  obtain ⟨q,vs,rfl,e1,e2,el,e3⟩:=id h
  refine ⟨q,vs,rfl,fun z=>z.elim e1 fun z=>?_,e2,el,Rps.avoid hz hb hx (by simp at hs ⊢;lia) e3⟩
  subst z
  rw [Rp.fun hz hb hx h] at hs
  exact Nat.lt_irrefl _ hs
 | .dK ks ys,v,hs,h=>by
  obtain ⟨q,vs,rfl,e1,e2,el,e3⟩:=id h
  refine ⟨q,vs,rfl,fun z=>z.elim e1 fun z=>?_,e2,el,Rps.avoid hz hb hx (by simp at hs ⊢;lia) e3⟩
  subst z
  rw [Rp.fun hz hb hx h] at hs
  exact Nat.lt_irrefl _ hs
theorem Rps.avoid (hz:Z b) (hb:∀ vs,H b≠some (.tup vs)) {x:P} {p:Addr} (hx:Rp b Z H x (.ref p)):∀ {ys:List P} {vs:List V},sizeOf ys<sizeOf x→Rps b Z H ys vs→Rps b (fun q=>Z q∨q=p) H ys vs
 | [],_,_,h=>h
 | y :: ys,vs,hs,h=>by
  obtain ⟨v,r,e1,e2,e3⟩:=h
  exact ⟨v,r,e1,Rp.avoid hz hb hx (by simp at hs ⊢;lia) e2,Rps.avoid hz hb hx (by simp at hs ⊢;lia) e3⟩
end
theorem Rp.toRc (hz:Z b) (hb:∀ vs,H b≠some (.tup vs)) {x:P} {p:Addr} (hm:x.mut=true) (hx:Rp b Z H x (.ref p)):¬ Z p∧Rc b (fun q=>Z q∨q=p) H x p:=by
 cases x with
 | lst xs =>
  obtain ⟨q,vs,e0,e1,e2,e3⟩:=id hx
  cases e0
  exact ⟨e1,vs,e2,Rps.avoid hz hb hx (by simp) e3⟩
 | dT ks xs =>
  obtain ⟨q,vs,e0,e1,e2,el,e3⟩:=id hx
  cases e0
  exact ⟨e1,vs,e2,el,Rps.avoid hz hb hx (by simp;lia) e3⟩
 | dK ks xs =>
  obtain ⟨q,vs,e0,e1,e2,el,e3⟩:=id hx
  cases e0
  exact ⟨e1,vs,e2,el,Rps.avoid hz hb hx (by simp;lia) e3⟩
 | _=>simp [P.mut] at hm
end
noncomputable def pSet (k:Nat) (x:P) (f:Fl) (ρ:List S) (K:List S→Prop):Prop :=
 if x.imm=true then K (ρ.set k (.sh x)) else match f with
 | .nw=>K (ρ.set k (if x.mut=true then .own x else .fr x))
 | .fr=>K (ρ.set k (.fr x))
 | .cl=>K (ρ.set k (.sh x))
 | _=>False
section
variable {W:Wd} {ρ ρ':List S} {σ σ':St} {H H' H1 Hs:Hp} {x:P} {v:V} {xs:List P} {vs:List V} {f:Fl} {p:Addr} {k:Nat}
theorem Ok.nt (ok:Ok W ρ σ H):∀ vs,H W.b≠some (.tup vs):=fun vs e=>(ok.bag.neT e).1 rfl
theorem mv1 (st:Step W.b W.a Hs H) (hn:∀ p,OwS ρ' σ' p→OwS ρ σ p∨Hs p=none) (p:Addr) (o:HO) (hz:¬ Zof W ρ σ f p) (e:Hs p=some o):¬ Zof W ρ' σ' f p∧H p=some o:=by
 refine ⟨fun z=>hz ?_,st.same p o (fun z=>hz (z ▸ Zof.b)) e⟩
 have k:Ow W ρ' σ' p→Ow W ρ σ p:=fun z=>z.elim .inl fun z=>(hn p z).elim .inr fun z=>by rw [e] at z;cases z
 cases f <;> simp only [Zof] at z ⊢
 ·exact z.elim .inl fun z=>.inr (z.elim (fun z=>.inl (k z)) .inr)
 ·exact z.elim .inl fun z=>.inr (z.elim (fun z=>.inl (k z)) .inr)
 ·exact z.elim .inl fun z=>.inr (k z)
 ·exact z.elim .inl fun z=>.inr (z.elim (fun z=>.inl (k z)) .inr)
 ·exact z
 ·exact z
theorem Rp.move (hb:Bag Hs W.b W.a) (st:Step W.b W.a Hs H) (hn:∀ p,OwS ρ' σ' p→OwS ρ σ p∨Hs p=none) (h:Rp W.b (Zof W ρ σ f) Hs x v):Rp W.b (Zof W ρ' σ' f) H x v :=
 h.keep (mv1 st hn) fun p vs e=>st.same p _ (hb.neT e).1 e
theorem Rps.move (hb:Bag Hs W.b W.a) (st:Step W.b W.a Hs H) (hn:∀ p,OwS ρ' σ' p→OwS ρ σ p∨Hs p=none) (h:Rps W.b (Zof W ρ σ f) Hs xs vs):Rps W.b (Zof W ρ' σ' f) H xs vs :=
 h.keep (mv1 st hn) fun p vs e=>st.same p _ (hb.neT e).1 e
theorem Rc.move (hb:Bag Hs W.b W.a) (st:Step W.b W.a Hs H) (hp:p≠W.b) (hn:∀ p,OwS ρ' σ' p→OwS ρ σ p∨Hs p=none) (h:Rc W.b (Zf W ρ σ) Hs x p):Rc W.b (Zf W ρ' σ') H x p:=by
 cases x with
 | lst xs=>obtain ⟨vs,h1,h2⟩:=h;exact ⟨vs,st.same p _ hp h1,h2.move hb st hn⟩
 | dT ks xs=>obtain ⟨vs,h1,h0,h2⟩:=h;exact ⟨vs,st.same p _ hp h1,h0,h2.move hb st hn⟩
 | dK ks xs=>obtain ⟨vs,h1,h0,h2⟩:=h;exact ⟨vs,st.same p _ hp h1,h0,h2.move hb st hn⟩
 | _=>exact h.elim
theorem SlotOk.move {s:S} {o:Option V} (hb:Bag Hs W.b W.a) (st:Step W.b W.a Hs H) (hn:∀ p,OwS ρ' σ' p→OwS ρ σ p∨Hs p=none) (h:SlotOk W ρ σ Hs s o):SlotOk W ρ' σ' H s o:=by
 cases s with
 | emp=>trivial
 | sh x=>obtain ⟨v,h1,h2⟩:=h;exact ⟨v,h1,h2.move hb st hn⟩
 | fr x=>obtain ⟨v,h1,h2⟩:=h;exact ⟨v,h1,h2.move hb st hn⟩
 | own x=>obtain ⟨p,h1,h2,h3,h4,h5,h6⟩:=h;exact ⟨p,h1,h2,h3,h4,h5,h6.move hb st h4 hn⟩
theorem Ok.put {s:S} (ok:Ok W ρ σ Hs) (st:Step W.b W.a Hs H) (hk:k<ρ.length) (hn:∀ p,OwS (ρ.set k s) (σ.set k (some v)) p→OwS ρ σ p∨Hs p=none)
  (hs:SlotOk W (ρ.set k s) (σ.set k (some v)) H s (some v)) (hu:∀ y,s=.own y→∃ p,v=.ref p∧Hs p=none):Ok W (ρ.set k s) (σ.set k (some v)) H where
 bag:=st.bag
 fb:=ok.fb
 old:=fun p o hp e=>st.same p o hp (ok.old p o hp e)
 frm:=fun p o e=>st.same p o (fun z=>by rw [z,ok.fb] at e;cases e) (ok.frm p o e)
 oo:=(ok.step st).oo
 len:=by rw [List.length_set,List.length_set];exact ok.len
 slot:=fun i s' e=>by
  by_cases hi:k=i
  ·subst hi
   rw [List.getElem?_set_self hk] at e
   cases e
   exact ⟨some v,List.getElem?_set_self (by rw [ok.len];exact hk),hs⟩
  ·rw [List.getElem?_set_ne hi] at e
   obtain ⟨o,h1,h2⟩:=ok.slot i s' e
   exact ⟨o,by rw [List.getElem?_set_ne hi];exact h1,h2.move ok.bag st hn⟩
 uniq:=fun i j x y h1 h2 h3=>by
  have old:∀ i x,k≠i→(ρ.set k s)[i]?=some (.own x)→∃ p o,σ[i]?=some (some (.ref p))∧Hs p=some o:=fun i x hi e=>by
   rw [List.getElem?_set_ne hi] at e
   obtain ⟨o,q1,p,q2,_,_,_,_,q3⟩:=ok.slot i _ e
   obtain ⟨o',q4,_⟩:=q3.cell
   exact ⟨p,o',by rw [q1,q2],q4⟩
  have new:∀ i x,k=i→(ρ.set k s)[i]?=some (.own x)→∃ p,v=.ref p∧Hs p=none:=fun i x hi e=>by
   subst hi
   rw [List.getElem?_set_self hk] at e
   cases e
   exact hu x rfl
  have hks:k<σ.length:=by rw [ok.len];exact hk
  by_cases hi:k=i <;> by_cases hj:k=j
  ·exact hi.symm.trans hj
  ·exfalso
   obtain ⟨p,e1,e2⟩:=new i x hi h1
   obtain ⟨q,o,e3,e4⟩:=old j y hj h2
   rw [←hi,List.getElem?_set_self hks,List.getElem?_set_ne hj,e3,e1] at h3
   cases h3
   rw [e2] at e4;cases e4
  ·exfalso
   obtain ⟨p,e1,e2⟩:=new j y hj h2
   obtain ⟨q,o,e3,e4⟩:=old i x hi h1
   rw [←hj,List.getElem?_set_self hks,List.getElem?_set_ne hi,e3,e1] at h3
   cases h3
   rw [e2] at e4;cases e4
  ·rw [List.getElem?_set_ne hi] at h1 h3
   rw [List.getElem?_set_ne hj] at h2 h3
   exact ok.uniq i j x y h1 h2 h3
theorem ows_set {s:S} (hs:∀ x,s≠.own x):∀ p,OwS (ρ.set k s) (σ.set k (some v)) p→OwS ρ σ p:=fun p ⟨i,x,h1,h2⟩=>by
 by_cases hi:k=i
 ·subst hi
  rcases Nat.lt_or_ge k ρ.length with q | q
  ·rw [List.getElem?_set_self q] at h1
   exact absurd (Option.some.inj h1) (hs x)
  ·rw [List.getElem?_eq_none (by rw [List.length_set];exact q)] at h1
   cases h1
 ·rw [List.getElem?_set_ne hi] at h1 h2
  exact ⟨i,x,h1,h2⟩
theorem Ok.set {K:List S→Prop} (ok:Ok W ρ σ Hs) (st:Step W.b W.a Hs H) (r:RF W ρ σ Hs f H x v) (h:pSet k x f ρ K):∃ ρ',K ρ'∧Ok W ρ' (σ.set k (some v)) H:=by
 by_cases hk:ρ.length≤k
 ·have e1:∀ s,ρ.set k s=ρ:=fun s=>List.set_eq_of_length_le hk
  have e2:σ.set k (some v)=σ:=List.set_eq_of_length_le (by rw [ok.len];exact hk)
  rw [e2]
  refine ⟨ρ,?_,ok.step st⟩
  unfold pSet at h
  simp only [e1] at h
  split at h
  ·exact h
  ·cases f <;> first | exact h | exact h.elim
 have hk:k<ρ.length:=Nat.lt_of_not_le hk
 have okH:=ok.step st
 have k1:∀ (s:S),(∀ x,s≠.own x)→SlotOk W (ρ.set k s) (σ.set k (some v)) H s (some v)→Ok W (ρ.set k s) (σ.set k (some v)) H:=fun s hs hq =>
  ok.put st hk (fun p z=>.inl (ows_set hs p z)) hq fun y e=>absurd e (hs y)
 have k2:∀ {s:S} {g:Fl},(∀ x,s≠.own x)→Rp W.b (Zof W ρ σ g) H x v→Rp W.b (Zof W (ρ.set k s) (σ.set k (some v)) g) H x v:=fun {s g} hs hq =>
  Rp.move okH.bag (Step.refl okH.bag) (fun p z=>.inl (ows_set hs p z)) hq
 unfold pSet at h
 split at h
 ·rename_i hi
  exact ⟨_,h,k1 _ (fun _ z=>nomatch z) ⟨v,rfl,(r.any okH).imm hi⟩⟩
 ·cases f with
  | nw =>
   dsimp only at h
   by_cases hm:x.mut=true
   ·rw [if_pos hm] at h
    refine ⟨_,h,?_⟩
    obtain ⟨p,rfl,hp⟩:=r.2 hm
    have hn:∀ q,OwS (ρ.set k (.own x)) (σ.set k (some (.ref p))) q→OwS ρ σ q∨Hs q=none:=fun q ⟨i,y,h1,h2⟩=>by
     by_cases hi:k=i
     ·subst hi
      rw [List.getElem?_set_self (by rw [ok.len];exact hk)] at h2
      cases h2
      exact .inr hp
     ·rw [List.getElem?_set_ne hi] at h1 h2
      exact .inl ⟨i,y,h1,h2⟩
    obtain ⟨nz,rc⟩:=Rp.toRc (b:=W.b) (Z:=Zf W ρ σ) Zof.b okH.nt hm r.1
    have nzp:p≠W.b∧W.H₀ p=none:=by
     simp only [Zof,not_or,Classical.not_not] at nz
     exact ⟨nz.1,nz.2.2⟩
    have hF:W.F p=none:=by
     cases q:W.F p with
     | none=>rfl
     | some o=>rw [ok.frm p o q] at hp;cases hp
    have ha:p≠W.a:=ok.bag.na hp
    have zz:∀ q,¬ (Zf W ρ σ q∨q=p)→¬ Zf W (ρ.set k (.own x)) (σ.set k (some (.ref p))) q:=fun q hq z=>hq (by
     simp only [Zof] at z ⊢
     rcases z with z | z | z
     ·exact .inl (.inl z)
     ·rcases z with z | z
      ·exact .inl (.inr (.inl (.inl z)))
      ·obtain ⟨i,y,h1,h2⟩:=z
       by_cases hi:k=i
       ·subst hi
        rw [List.getElem?_set_self (by rw [ok.len];exact hk)] at h2
        cases h2
        exact .inr rfl
       ·rw [List.getElem?_set_ne hi] at h1 h2
        exact .inl (.inr (.inl (.inr ⟨i,y,h1,h2⟩)))
     ·exact .inl (.inr (.inr z)))
    have kk:∀ {xs:List P} {vs:List V},Rps W.b (fun q=>Zf W ρ σ q∨q=p) H xs vs→Rps W.b (Zf W (ρ.set k (.own x)) (σ.set k (some (.ref p)))) H xs vs:=fun h=>h.keep (fun q o hz e=>⟨zz q hz,e⟩) fun q us e=>e
    refine ok.put st hk hn ⟨p,rfl,nzp.2,hF,nzp.1,ha,?_⟩ fun y e=>⟨p,rfl,hp⟩
    cases x with
    | lst xs=>obtain ⟨us,q4,q5⟩:=rc;exact ⟨us,q4,kk q5⟩
    | dT ks xs=>obtain ⟨us,q4,q0,q5⟩:=rc;exact ⟨us,q4,q0,kk q5⟩
    | dK ks xs=>obtain ⟨us,q4,q0,q5⟩:=rc;exact ⟨us,q4,q0,kk q5⟩
    | _=>exact rc.elim
   ·rw [if_neg hm] at h
    exact ⟨_,h,k1 _ (fun _ z=>nomatch z) ⟨v,rfl,k2 (g:=.fr) (fun _ z=>nomatch z) r.1⟩⟩
  | fr=>exact ⟨_,h,k1 _ (fun _ z=>nomatch z) ⟨v,rfl,k2 (g:=.fr) (fun _ z=>nomatch z) r⟩⟩
  | cl=>exact ⟨_,h,k1 _ (fun _ z=>nomatch z) ⟨v,rfl,k2 (g:=.cl) (fun _ z=>nomatch z) r⟩⟩
  | _=>exact h.elim
end
end L2
set_option Elab.async false
set_option linter.all false
set_option maxRecDepth 100000
set_option maxHeartbeats 4000000
namespace L2
open PySem PySem.Spec PyProof.Rows
noncomputable def pTest (p:pE):pT:=fun ρ K=>p ρ fun x _=>∃ k,x=.bl k∧K k
noncomputable def pAnd (p q:pT):pT:=fun ρ K=>p ρ fun c=>if c=true then q ρ K else K false
noncomputable def pOr (p q:pT):pT:=fun ρ K=>p ρ fun c=>if c=true then K true else q ρ K
noncomputable def pNot (p:pT):pT:=fun ρ K=>p ρ fun c=>K (!c)
noncomputable def pAndV (p q:pE):pE:=fun ρ K=>p ρ fun x _=>∃ c,x=.bl c∧if c=true then q ρ K else K (.bl false) .fr
noncomputable def pOrV (p q:pE):pE:=fun ρ K=>p ρ fun x _=>∃ c,x=.bl c∧if c=true then K (.bl true) .fr else q ρ K
noncomputable def pNotV (p:pE):pE:=fun ρ K=>p ρ fun x _=>∃ c,x=.bl c∧K (.bl (!c)) .fr
noncomputable def pIf (c:pT) (p q:pE):pE:=fun ρ K=>c ρ fun b=>if b=true then p ρ K else q ρ K
noncomputable def pChain (r r':p2) (pa pb pc:pE):pE:=fun ρ K=>pa ρ fun x f=>pb ρ fun y g=>r x f y g fun z _=>∃ k,z=.bl k∧if k=true then pc ρ fun w h=>r' y g w h K else K (.bl false) .fr
section
variable {ι:Type} {Xs:ι→Cx} {a b c:Expr} {es rest:List Expr} {pa pb pc:pE} {p q:pT} {pos:Pos}
theorem bl_of {W:Wd} {ρ:List S} {σ:St} {Hs H:Hp} {f:Fl} {k:Bool} {v:V} (ok:Ok W ρ σ H) (r:RF W ρ σ Hs f H (.bl k) v):v=.bl k:=r.any ok
theorem int_of {W:Wd} {ρ:List S} {σ:St} {Hs H:Hp} {f:Fl} {k:Int} {v:V} (ok:Ok W ρ σ H) (r:RF W ρ σ Hs f H (.int k) v):v=.int k:=r.any ok
theorem str_of {W:Wd} {ρ:List S} {σ:St} {Hs H:Hp} {f:Fl} {k:Str} {v:V} (ok:Ok W ρ σ H) (r:RF W ρ σ Hs f H (.str k) v):v=.str k:=r.any ok
theorem refT_test {t:TE} (h:RefE t pa):RefT (tTest t) (pTest pa):=fun W ρ σ H Q K ok hk q =>
 h W ρ σ H _ _ ok hk fun x f v H1 ⟨k,e,h1⟩ s1 r1=>by
  subst e
  exact ⟨k,bl_of (ok.step s1) r1,q k H1 h1 s1⟩
theorem qt_cmp {op:CmpOp} {r:R2} {pr:p2} (ho:∀ i,OpR (Xs i) (compareOp op) r) (hr:Ref2 r pr) (ha:QE Xs a pa) (hb:QE Xs b pb) (hm:behindInMarks op b=false):QT Xs (.Compare a [op] [b] pos) (pTest (pOp pr pa pb)):=by
 obtain ⟨ta,ha1,ha2⟩:=ha
 obtain ⟨tb,hb1,hb2⟩:=hb
 exact ⟨_,fun i=>pt_cmpR (ho i) (ha1 i) (hb1 i) hm,refT_test (refE_op hr ha2 hb2)⟩
theorem qt_val (h:QE Xs a pa) (he:∀ i,∀ whole,isTrue a (Xs i).env whole=(do let v ←whole;standAt a.pos;holding [v] (truthy v)):=by intro _ _;rfl):QT Xs a (pTest pa):=by
 obtain ⟨ta,ha1,ha2⟩:=h
 exact ⟨tB ta,fun i=>pt_val (ha1 i) (he i),refT_test ha2⟩
theorem qt_not (h:QT Xs a p):QT Xs (.UnaryOp .Not a pos) (pNot p):=by
 obtain ⟨ta,ha1,ha2⟩:=h
 exact ⟨_,fun i=>pt_not (ha1 i),fun W ρ σ H Q K ok hk q=>ha2 W ρ σ H _ _ ok hk fun c H1 h1 s1=>q _ H1 h1 s1⟩
theorem QW.pt (h:QW Xs a p):QT Xs a p:=let ⟨t,h1,h2⟩:=h;⟨t,fun i=>(h1 i).pt,h2⟩
theorem qw_or1 (h:QT Xs a p):QW Xs (.BoolOp .Or [a] pos) p:=let ⟨t,h1,h2⟩:=h;⟨t,fun i=>pw_or1 (h1 i),h2⟩
theorem qw_or (ha:QT Xs a p) (hb:QW Xs (.BoolOp .Or (b :: rest) pos) q):QW Xs (.BoolOp .Or (a :: b :: rest) pos) (pOr p q):=by
 obtain ⟨ta,ha1,ha2⟩:=ha
 obtain ⟨tb,hb1,hb2⟩:=hb
 refine ⟨_,fun i=>pw_or (ha1 i) (hb1 i),fun W ρ σ H Q K ok hk q=>ha2 W ρ σ H _ _ ok hk fun c H1 h1 s1=>?_⟩
 cases c with
 | false=>exact hb2 W ρ σ H1 _ _ (ok.step s1) h1 fun d H2 h2 s2=>q d H2 h2 (s1.trans s2)
 | true=>exact q true H1 h1 s1
theorem qe_one {op} (h:QE Xs a pa):QE Xs (.BoolOp op [a] pos) pa:=let ⟨t,h1,h2⟩:=h;⟨t,fun i=>pe_one (h1 i),h2⟩
theorem rf_bl {W:Wd} {ρ:List S} {σ:St} {Hs H:Hp} {k:Bool}:RF W ρ σ Hs .fr H (.bl k) (.bl k):=rfl
theorem rf_int {W:Wd} {ρ:List S} {σ:St} {Hs H:Hp} {k:Int}:RF W ρ σ Hs .fr H (.int k) (.int k):=rfl
theorem rf_str {W:Wd} {ρ:List S} {σ:St} {Hs H:Hp} {k:Str}:RF W ρ σ Hs .fr H (.str k) (.str k):=rfl
theorem qe_and (ha:QE Xs a pa) (hb:QE Xs (.BoolOp .And (b :: rest) pos) pb):QE Xs (.BoolOp .And (a :: b :: rest) pos) (pAndV pa pb):=by
 obtain ⟨ta,ha1,ha2⟩:=ha
 obtain ⟨tb,hb1,hb2⟩:=hb
 refine ⟨_,fun i=>pe_and (ha1 i) (hb1 i),fun W ρ σ H Q K ok hk q=>ha2 W ρ σ H _ _ ok hk fun x f v H1 ⟨c,e,h1⟩ s1 r1=>?_⟩
 subst e
 refine ⟨c,bl_of (ok.step s1) r1,?_⟩
 cases c with
 | true=>exact hb2 W ρ σ H1 _ _ (ok.step s1) h1 fun d f v H2 h2 s2 r2=>q d f v H2 h2 (s1.trans s2) (r2.back s1)
 | false=>exact q _ _ _ H1 h1 s1 rf_bl
theorem qe_not (ha:QE Xs a pa):QE Xs (.UnaryOp .Not a pos) (pNotV pa):=by
 obtain ⟨ta,ha1,ha2⟩:=ha
 refine ⟨_,fun i=>pe_not (ha1 i),fun W ρ σ H Q K ok hk q=>ha2 W ρ σ H _ _ ok hk fun x f v H1 ⟨c,e,h1⟩ s1 r1=>?_⟩
 subst e
 exact ⟨c,bl_of (ok.step s1) r1,q _ _ _ H1 h1 s1 rf_bl⟩
end
inductive Xn where
 | nm (x:Str) | vl (x f:Str) (v:P)
noncomputable instance:Coe Str Xn:=⟨Xn.nm⟩
noncomputable instance:Coe String Xn:=⟨fun x=>Xn.nm (Str.ofString x)⟩
structure PEnds where
 nx:List S→Prop
 rt:P→Prop
 bk:List S→Prop:=fun _=>False
 ct:List S→Prop:=fun _=>False
 ex:Xn→(Xn→Hp→Prop)→Prop:=fun _ _=>False
noncomputable abbrev pS:=PEnds→List S→Prop
noncomputable def RetOk (W:Wd) (H:Hp) (x:P) (v:V):Prop:=Bag H W.b W.a∧(∀ p o,p≠W.b→W.H₀ p=some o→H p=some o)∧Rp W.b (fun p=>W.H₀ p≠none) H x v
structure RelD (W:Wd) (E:PEnds) (D:Ends):Prop where
 nx:∀ ρ σ H,E.nx ρ→Ok W ρ σ H→D.nx σ H
 rt:∀ x v H,E.rt x→RetOk W H x v→D.rt v H
 bk:∀ ρ σ H,E.bk ρ→Ok W ρ σ H→D.bk σ H
 ct:∀ ρ σ H,E.ct ρ→Ok W ρ σ H→D.ct σ H
 noO:∀ p,¬ W.O p
 ex:∀ n H EX,E.ex n EX→Bag H W.b W.a→(∀ p o,p≠W.b→W.H₀ p=some o→H p=some o)→EX n H
noncomputable def RefS (t:TS) (p:pS):Prop:=∀ (W:Wd) (ρ:List S) (σ:St) (H:Hp) (D:Ends) (E:PEnds),Ok W ρ σ H→p E ρ→RelD W E D→t D σ H
noncomputable def QS {ι:Type} (Xs:ι→Cx) (st:Stmt) (p:pS):Prop:=∃ t,(∀ i,PS (Xs i) st t)∧RefS t p
noncomputable def QSs {ι:Type} (Xs:ι→Cx) (st:List Stmt) (p:pS):Prop:=∃ t,(∀ i,PSs (Xs i) st t)∧RefS t p
noncomputable def pNext:pS:=fun E ρ=>E.nx ρ
noncomputable def pSeq (p q:pS):pS:=fun E ρ=>p { E with nx:=q E } ρ
noncomputable def pNever:pS:=fun _ _=>False
noncomputable def pDrop (p:pE):pS:=fun E ρ=>p ρ fun _ _=>E.nx ρ
noncomputable def retF (x:P) (f:Fl):Bool:=x.imm || (match f with | .cl=>false | .an=>false | _=>true)
noncomputable def pRet (p:pE):pS:=fun E ρ=>p ρ fun x f=>retF x f=true∧E.rt x
noncomputable def pRetN:pS:=fun E _=>E.rt .non
noncomputable def pIfS (c:pT) (p q:pS):pS:=fun E ρ=>c ρ fun b=>if b=true then p E ρ else q E ρ
noncomputable def pAsg (p:pE) (k:Nat):pS:=fun E ρ=>p ρ fun x f=>pSet k x f ρ E.nx
section
variable {ι:Type} {Xs:ι→Cx} {st:Stmt} {rest:List Stmt} {p q:pS} {a:Expr} {pa:pE} {pos:Pos}
theorem qss_nil:QSs Xs [] pNext:=⟨_,fun _=>pss_nil,fun W ρ σ H D E ok h r=>r.nx ρ σ H h ok⟩
theorem qss_one (h:QS Xs st p):QSs Xs [st] p:=let ⟨t,h1,h2⟩:=h;⟨t,fun i=>pss_one (h1 i),h2⟩
theorem qss_cons (h:QS Xs st p) (g:QSs Xs rest q):QSs Xs (st :: rest) (pSeq p q):=by
 obtain ⟨t,h1,h2⟩:=h
 obtain ⟨u,g1,g2⟩:=g
 exact ⟨_,fun i=>pss_cons (h1 i) (g1 i),fun W ρ σ H D E ok h r=>h2 W ρ σ H _ _ ok h ⟨fun ρ' σ' H' e ok'=>g2 W ρ' σ' H' D E ok' e r,r.rt,r.bk,r.ct,r.noO,r.ex⟩⟩
theorem QSs.weak {p m:pS} (h:QSs Xs rest p) (hw:∀ E ρ,m E ρ→p E ρ):QSs Xs rest m:=let ⟨t,h1,h2⟩:=h;⟨t,h1,fun W ρ σ H D E ok h r=>h2 W ρ σ H D E ok (hw E ρ h) r⟩
theorem qs_never:QS Xs st pNever:=⟨_,fun _=>ps_never,fun _ _ _ _ _ _ _ h _=>h.elim⟩
theorem RF.ret {W:Wd} {ρ:List S} {σ:St} {Hs H:Hp} {f:Fl} {x:P} {v:V} (ok:Ok W ρ σ H) (h:RF W ρ σ Hs f H x v) (hr:retF x f=true):RetOk W H x v:=by
 refine ⟨ok.bag,ok.old,?_⟩
 by_cases hi:x.imm=true
 ·exact (h.any ok).imm hi
 ·have k:∀ {g:Fl},(∀ p,W.H₀ p≠none→Zof W ρ σ g p)→Rp W.b (Zof W ρ σ g) H x v→Rp W.b (fun p=>W.H₀ p≠none) H x v:=fun {g} hg h=>h.keep (fun p o hz e=>⟨fun z=>hz (hg p z),e⟩) fun p vs e=>e
  cases f with
  | nw=>exact k (g:=.fr) (fun p z=>.inr (.inr z)) h.1
  | fr=>exact k (g:=.fr) (fun p z=>.inr (.inr z)) h
  | rf=>exact k (g:=.rf) (fun p z=>.inr z) h
  | cl=>simp [retF,hi] at hr
  | an=>simp [retF,hi] at hr
  | bo =>
   obtain ⟨p,h1,h2,h3⟩:=h
   have nb:=(ok.ow (.inr h2)).1
   have k2:∀ {xs:List P} {vs:List V},Rps W.b (Zf W ρ σ) H xs vs→Rps W.b (fun p=>W.H₀ p≠none) H xs vs:=fun h=>h.keep (fun p o hz e=>⟨fun z=>hz (.inr (.inr z)),e⟩) fun p vs e=>e
   cases x with
   | lst xs=>obtain ⟨vs,h4,h5⟩:=h3;exact ⟨p,vs,h1,fun z=>z nb,h4,k2 h5⟩
   | dT ks xs=>obtain ⟨vs,h4,h0,h5⟩:=h3;exact ⟨p,vs,h1,fun z=>z nb,h4,h0,k2 h5⟩
   | dK ks xs=>obtain ⟨vs,h4,h0,h5⟩:=h3;exact ⟨p,vs,h1,fun z=>z nb,h4,h0,k2 h5⟩
   | _=>exact h3.elim
theorem qs_ret (h:QE Xs a pa):QS Xs (.Return (some a) pos) (pRet pa):=by
 obtain ⟨t,h1,h2⟩:=h
 exact ⟨_,fun i=>ps_ret (h1 i),fun W ρ σ H D E ok h r=>h2 W ρ σ H _ _ ok h fun x f v H1 ⟨k0,k⟩ s1 r1=>r.rt x v H1 k (r1.ret (ok.step s1) k0)⟩
theorem qs_if {c:Expr} {pc:pT} {sa sb:List Stmt} (hc:QT Xs c pc) (ha:QSs Xs sa p) (hb:QSs Xs sb q):QS Xs (.If c sa sb pos) (pIfS pc p q):=by
 obtain ⟨tc,hc1,hc2⟩:=hc
 obtain ⟨ta,ha1,ha2⟩:=ha
 obtain ⟨tb,hb1,hb2⟩:=hb
 refine ⟨_,fun i=>ps_if (hc1 i) (ha1 i) (hb1 i),fun W ρ σ H D E ok hk r=>hc2 W ρ σ H _ _ ok hk fun c H1 h1 s1=>?_⟩
 cases c with
 | true=>exact ha2 W ρ σ H1 D E (ok.step s1) h1 r
 | false=>exact hb2 W ρ σ H1 D E (ok.step s1) h1 r
theorem refS_asg {t:TE} {k:Nat} (h2:RefE t pa):RefS (tAsg t (gName k)) (pAsg pa k):=fun W ρ σ H D E ok h r =>
 h2 W ρ σ H _ _ ok h fun x f v H1 hk s1 r1=>by
  obtain ⟨ρ',e,ok'⟩:=Ok.set ok s1 r1 hk
  exact r.nx ρ' _ H1 e ok'
theorem qs_set {k:Nat} {x:Str} {pos':Pos} (hN:∀ i,(Xs i).N.Nodup) (h:QE Xs a pa) (hi:∀ i,(Xs i).N[k]?=some x:=by intro _;rfl) (hx:∀ i,Loc (Xs i).env.scope x:=by intro _;trivial)
  (hs:∀ i,swapsWith a (some (.Name x pos')) pos.line (Xs i).env=pure false:=by intro _;rfl) (hf:∀ i,(Xs i).fn x=true∨(Xs i).env.scope.names.lookup x=some .local:=by intro _;trivial):QS Xs (.Assign [.Name x pos'] a pos) (pAsg pa k):=by
 obtain ⟨t,h1,h2⟩:=h
 exact ⟨_,fun i=>ps_set (hN i) (hi i) (hx i) (h1 i) (hs i) (hf i),refS_asg h2⟩
end
noncomputable abbrev pG:=P→Fl→List S→(List S→Prop)→Prop
noncomputable def RefG (g:TG) (p:pG):Prop:=∀ (W:Wd) (ρ:List S) (σ:St) (Hs H:Hp) (x:P) (f:Fl) (v:V) (Q:St→Hp→Prop) (K:List S→Prop),Ok W ρ σ Hs→Step W.b W.a Hs H→RF W ρ σ Hs f H x v→p x f ρ K→(∀ ρ' σ',K ρ'→Ok W ρ' σ' H→Q σ' H)→g v σ H Q
noncomputable def QG {ι:Type} (Xs:ι→Cx) (tg:Expr) (p:pG):Prop:=∃ g,(∀ i,PG (Xs i) tg g)∧RefG g p
noncomputable def pSets:List Nat→List P→Fl→List S→(List S→Prop)→Prop
 | [],[],_,ρ,K=>K ρ
 | k :: ks,x :: xs,f,ρ,K=>pSet k x f ρ fun ρ'=>pSets ks xs f ρ' K
 | _,_,_,_,_=>False
noncomputable def pUnpack (ks:List Nat):pG:=fun x f ρ K=>∃ xs,x=.tup xs∧xs.length=ks.length∧pSets ks xs f.el ρ K
noncomputable def gNames:List Nat→TGs
 | []=>gNil
 | k :: ks=>gCons (gName k) (gNames ks)
section
variable {ι:Type} {Xs:ι→Cx} {pos:Pos}
theorem refG_name (k:Nat):RefG (gName k) (fun x f ρ K=>pSet k x f ρ K):=fun W ρ σ Hs H x f v Q K ok st r h q=>by
 obtain ⟨ρ',e,ok'⟩:=Ok.set ok st r h
 exact q ρ' _ e ok'
theorem qg_name {k:Nat} {x:Str} (hN:∀ i,(Xs i).N.Nodup) (hi:∀ i,(Xs i).N[k]?=some x:=by intro _;rfl) (hx:∀ i,Loc (Xs i).env.scope x:=by intro _;trivial)
  (hf:∀ i,(Xs i).fn x=true∨(Xs i).env.scope.names.lookup x=some .local:=by intro _;trivial):QG Xs (.Name x pos) (pSet k):=⟨_,fun i=>pg_name (hN i) (hi i) (hx i) (hf i),refG_name k⟩
theorem pSet_el {W:Wd} {ρ:List S} {σ:St} {H:Hp} {x:P} {f:Fl} {v:V} {k:Nat} {K:List S→Prop} (ok:Ok W ρ σ H) (r:Rp W.b (Zof W ρ σ f) H x v) (h:pSet k x f.el ρ K) :
  ∃ ρ',K ρ'∧Ok W ρ' (σ.set k (some v)) H∧∀ p,OwS ρ' (σ.set k (some v)) p→OwS ρ σ p:=by
 unfold pSet at h
 split at h
 ·rename_i hi
  obtain ⟨ρ',e,ok'⟩:=Ok.set (K:=fun ρ'=>ρ'=ρ.set k (.sh x)) ok (Step.refl ok.bag) (RF.ofEl (Hs:=H) r) (by unfold pSet;rw [if_pos hi])
  subst e
  exact ⟨_,h,ok',ows_set fun _ z=>nomatch z⟩
 ·rename_i hi
  have k1:∀ (s:S),(∀ x,s≠.own x)→K (ρ.set k s)→pSet k x f.el ρ (fun ρ'=>ρ'=ρ.set k s)→∃ ρ',K ρ'∧Ok W ρ' (σ.set k (some v)) H∧∀ p,OwS ρ' (σ.set k (some v)) p→OwS ρ σ p:=fun s hs hk hp=>by
   obtain ⟨ρ',e,ok'⟩:=Ok.set ok (Step.refl ok.bag) (RF.ofEl (Hs:=H) r) hp
   subst e
   exact ⟨_,hk,ok',ows_set hs⟩
  cases f with
  | nw=>exact k1 (.fr x) (fun _ z=>nomatch z) h (by unfold pSet;rw [if_neg hi];rfl)
  | fr=>exact k1 (.fr x) (fun _ z=>nomatch z) h (by unfold pSet;rw [if_neg hi];rfl)
  | bo=>exact k1 (.fr x) (fun _ z=>nomatch z) h (by unfold pSet;rw [if_neg hi];rfl)
  | cl=>exact k1 (.sh x) (fun _ z=>nomatch z) h (by unfold pSet;rw [if_neg hi];rfl)
  | _=>exact h.elim
theorem gNames_ok {W:Wd} {H:Hp} {f:Fl} {Q:St→Hp→Prop} {K:List S→Prop}:∀ {ks:List Nat} {xs:List P} {vs:List V} {ρ:List S} {σ:St},Ok W ρ σ H→Rps W.b (Zof W ρ σ f) H xs vs→pSets ks xs f.el ρ K→(∀ ρ' σ',K ρ'→Ok W ρ' σ' H→Q σ' H)→gNames ks vs σ H Q
 | [],[],vs,ρ,σ,ok,r,h,q=>⟨r,q ρ σ h ok⟩
 | [],_ :: _,_,_,_,_,_,h,_=>h.elim
 | _ :: _,[],_,_,_,_,_,h,_=>h.elim
 | k :: ks,x :: xs,vs,ρ,σ,ok,r,h,q=>by
  obtain ⟨v,t,e1,r1,r2⟩:=r
  subst e1
  obtain ⟨ρ',hk,ok',sub⟩:=pSet_el ok r1 h
  exact ⟨v,t,rfl,gNames_ok ok' (Rps.move ok.bag (Step.refl ok.bag) (fun p z=>.inl (sub p z)) r2) hk q⟩
theorem refG_tup {K:PySem.W.Frag} {ks:List Nat} {n:Nat} (hn:ks.length=n):RefG (gTup K n (gNames ks)) (pUnpack ks):=fun W ρ σ Hs H x f v Q K ok st r h q=>by
 obtain ⟨xs,rfl,hl,h⟩:=h
 obtain ⟨p,vs,rfl,hc,r2⟩:=r.items rfl
 have hc:H p=some (.tup vs):=by
  obtain ⟨p',vs',e1,e2,_⟩:=r.any (ok.step st)
  cases e1
  rcases hc with hc | hc
  ·rw [e2] at hc;cases hc
  ·exact hc
 exact ⟨p,vs,rfl,.of hc,by rw [←r2.length,hl,hn],gNames_ok (ok.step st) r2 h q⟩
theorem qg_tup {es:List Expr} {k1:Nat} {ks:List Nat} {n:Nat} {Kf:PySem.W.Frag} (hc:∀ i,(Xs i).calm=true) (hK:∀ i,(Xs i).K=Kf) (h:∀ i,PGs (Xs i) es (gNames ks)) (hl:ks.length=n)
  (hn:∀ i,(assignEach es (Xs i).env).length=n:=by intro _;rfl) (hst:∀ i,(assignEach es (Xs i).env).findIdx? (·.1)=none:=by intro _;rfl):QG Xs (.Tuple es k1 pos) (pUnpack ks) :=
 ⟨gTup Kf n (gNames ks),fun i=>by have:=pg_tup (k:=k1) (pos:=pos) (hc i) (h i) (hn i) (hst i);rw [hK i] at this;exact this,refG_tup hl⟩
end
end L2
set_option Elab.async false
set_option linter.all false
set_option maxRecDepth 100000
set_option maxHeartbeats 4000000
namespace L2
open PySem PySem.Spec PyProof.Rows
noncomputable abbrev pF:=List P→(P→Prop)→Prop
noncomputable def spP (f:pF):Sp:=fun vs H Q _=>∃ (b a:Addr) (xs:List P) (K:P→Prop),Bag H b a∧Rps b (fun p=>p=b) H xs vs∧f xs K∧∀ x v H',K x→Step b a H H'→Rp b (fun p=>H p≠none) H' x v→Q v H'
noncomputable def startP (n:Nat) (xs:List P):List S:=xs.map S.sh ++ List.replicate (n - xs.length) S.emp
noncomputable def pFn (f:pF) (pa:pA):pE:=fun ρ K=>pa ρ fun xs=>f (xs.map (·.1)) fun z=>K z .nw
theorem start_get {N:List Str} {vs:List V} {i:Nat} {v:V} (h:vs[i]?=some v):(start N vs)[i]?=some (some v):=by
 unfold start
 have hi:i<vs.length:=by
  rcases Nat.lt_or_ge i vs.length with q | q
  ·exact q
  ·rw [List.getElem?_eq_none q] at h;cases h
 rw [List.getElem?_append_left (by rw [List.length_map];exact hi),List.getElem?_map,h]
 rfl
theorem startP_own {n:Nat} {xs:List P} {i:Nat} {x:P}:(startP n xs)[i]?≠some (.own x):=by
 intro h
 have hm:=List.mem_of_getElem? h
 unfold startP at hm
 rcases List.mem_append.mp hm with z | z
 ·obtain ⟨y,_,e⟩:=List.mem_map.mp z
  cases e
 ·cases (List.mem_replicate.mp z).2
theorem ok_start {N:List Str} {b a:Addr} {H:Hp} {xs:List P} {vs:List V} (hb:Bag H b a) (r:Rps b (fun p=>p=b) H xs vs) (hl:xs.length≤N.length) :
  Ok ⟨b,a,H,fun _=>none,fun _=>False⟩ (startP N.length xs) (start N vs) H where
 bag:=hb
 fb:=rfl
 old:=fun _ _ _ e=>e
 frm:=fun _ _ e=>nomatch e
 oo:=fun _ z=>z.elim
 len:=by
  have:=r.length
  simp only [start,startP,List.length_append,List.length_map,List.length_replicate]
  lia
 slot:=fun i s e=>by
  have hv:=r.length
  unfold startP at e
  rcases Nat.lt_or_ge i xs.length with q | q
  ·rw [List.getElem?_append_left (by rw [List.length_map];exact q),List.getElem?_map] at e
   obtain ⟨v,h1,h2⟩:=r.get (i:=i) (x:=xs[i]) (by simp [q])
   simp only [List.getElem?_eq_getElem q,Option.map_some] at e
   cases e
   refine ⟨some v,start_get h1,v,rfl,h2.keep (fun p o hz e=>⟨fun z=>hz ?_,e⟩) fun p vs e=>e⟩
   rcases z with z | z
   ·exact z
   ·rcases z with z | ⟨j,y,h3,_⟩
    ·exact z.elim
    ·exact absurd h3 startP_own
  ·rw [List.getElem?_append_right (by rw [List.length_map];exact q),List.length_map] at e
   have hm:=List.mem_of_getElem? e
   have e2:=(List.mem_replicate.mp hm).2
   subst e2
   have hi:i - xs.length<N.length - xs.length:=by
    rcases Nat.lt_or_ge (i - xs.length) (N.length - xs.length) with z | z
    ·exact z
    ·rw [List.getElem?_eq_none (by rw [List.length_replicate];exact z)] at e;cases e
   refine ⟨none,?_,trivial⟩
   unfold start
   rw [List.getElem?_append_right (by rw [List.length_map,←hv];exact q),List.length_map,←hv,List.getElem?_replicate,if_pos hi]
 uniq:=fun i j x y h1=>absurd h1 startP_own
section
variable {P':Program} {w:World} {K:PySem.W.Frag} {mg:Str→Option Value} {base:Heap}
theorem fnP {x:Str} {st:Stmt} {N ps:List Str} {k:Nat} {f:pF} (D:DefAt K mg x st) (S:FnScope N ps (defScope st))
  (hb:∀ (kV doc pm:Value) (an:Option Addr) (cdv ct:Value) (us:List Value),us.length=ps.length→bindArgs (PySem.W.fnOf x x (defArgs st) (defBody st) (defScope st) .none kV doc pm an cdv ct) ⟨us,[]⟩=pure (ps.zip us))
  (len:∀ xs K,f xs K→xs.length=ps.length) (hN:ps.length≤N.length)
  (hbody:∀ (fa:Addr) (cdv:Value) (A:Around) (outer:List Env) (s:Shared) (H:Hp) (E:XK),Room k (A.deeper (PyProof.Rows.envOfC x (defScope st) s.heap.objs.size fa cdv)) →
   ∃ p,QSs (fun _:Unit=>(cxOf CX0 P' w K mg base N x (defScope st) fa cdv A outer s H E).nox) (defBody st) p∧∀ xs K,f xs K→p { nx:=fun _=>K .non,rt:=K } (startP N.length xs)):Fn P' w K mg base x (k + 1) ps (spP f):=by
 refine fn_def D S hb (fun vs H Q E h=>?_) (fun fa cdv A outer s H vs Q E hr h=>?_)
 ·obtain ⟨b,a,xs,K,_,r,hf,_⟩:=h
  rw [←r.length];exact len xs K hf
 ·obtain ⟨b,a,xs,K',hbag,r,hf,hQ⟩:=h
  obtain ⟨p,⟨t,h1,h2⟩,h3⟩:=hbody fa cdv A outer s H E hr
  refine ⟨t,h1 (),h2 _ _ _ H _ _ (ok_start hbag r (by rw [len xs K' hf];exact hN)) (h3 xs K' hf) ⟨fun ρ σ H' e ok=>?_,fun y v H' e ro=>?_,fun _ _ _ e=>e.elim,fun _ _ _ e=>e.elim,fun _ z=>z,fun _ _ _ e=>e.elim⟩⟩
  ·exact hQ _ _ H' e ⟨ok.bag,ok.old⟩ rfl
  ·exact hQ y v H' e ⟨ro.1,ro.2.1⟩ ro.2.2
theorem Fn.imp {x:Str} {k:Nat} {ps:List Str} {sp sp':Sp} (F:Fn P' w K mg base x k ps sp) (h:∀ vs H Q E,sp' vs H Q E→sp vs H Q E):Fn P' w K mg base x k ps sp':=by
 obtain ⟨f,fd,F,r⟩:=F
 exact ⟨f,fd,F.imp h,r⟩
end
section
variable {ι:Type} {Xs:ι→Cx}
theorem refE_fn {f:pF} {t:TA} {pa:pA} (h2:RefA t pa):RefE (tCall (spP f) [] E0 t) (pFn f pa):=fun W ρ σ H Q K ok hk q =>
 h2 W ρ σ H _ _ ok hk fun xs vs H1 h1 s1 r1=>by
  have ok1:=ok.step s1
  show spP f (vs ++ []) H1 Q E0
  rw [List.append_nil]
  refine ⟨W.b,W.a,_,_,s1.bag,(r1.any ok1),h1,fun x v H' k1 s2 r2=>q x .nw v H' k1 (s1.trans s2) ⟨r2.keep (fun p o hz e=>⟨fun z=>hz (ok1.dom z),e⟩) fun p vs e=>e,fun m=>?_⟩⟩
  have k2:∀ p,¬ H1 p≠none→H p=none:=fun p z=>s1.free (Classical.not_not.mp z)
  cases x with
  | lst xs=>obtain ⟨p,us,e,z,_⟩:=r2;exact ⟨p,e,k2 p z⟩
  | dT ks xs=>obtain ⟨p,us,e,z,_⟩:=r2;exact ⟨p,e,k2 p z⟩
  | dK ks xs=>obtain ⟨p,us,e,z,_⟩:=r2;exact ⟨p,e,k2 p z⟩
  | _=>simp [P.mut] at m
theorem qe_fn {x:Str} {k:Nat} {ps:List Str} {f:pF} {p pos:Pos} {e:Expr} {es:List Expr} {pa:pA} (G:∀ i,Fn (Xs i).prog (Xs i).w (Xs i).K (Xs i).mg (Xs i).base x k ps (spP f)) (hr:∀ i,Room k (Xs i).A)
  (ha:QA Xs (e :: es) pa) (hg:∀ i,Gl (Xs i) x:=by intro _;rfl) (hdb:(x == ("__debug__":Str))=false:=by decide +kernel) (he:∀ i,starEach (e :: es) (Xs i).env=(false,eval e (Xs i).env) :: starEach es (Xs i).env:=by intro _;rfl) (hpl:∀ i,(backTo pos (starEach es (Xs i).env)).any (·.1)=false:=by intro _;rfl) :
  QE Xs (.Call (.Name x p) (e :: es) [] pos) (pFn f pa):=by
 obtain ⟨t,h1,h2⟩:=ha
 exact ⟨_,fun i=>pe_fn (G i) (hr i) (hg i) (h1 i) hdb (he i) (hpl i),refE_fn h2⟩
end
open Classical in
noncomputable def frz (W:Wd) (ρ:List S) (σ:St) (H:Hp):Hp:=fun p=>if p=W.b∨Ow W ρ σ p then none else H p
noncomputable abbrev Wd.frz (W:Wd) (ρ:List S) (σ:St) (H:Hp):Wd:={ W with F:=L2.frz W ρ σ H }
noncomputable abbrev LatS (W:Wd) (ρ:List S) (σ:St) (H1:Hp):(Addr→Prop)→List S→St→Hp→Prop:=fun O' ρ' σ' H'=>O'=W.O∧Ok (W.frz ρ σ H1) ρ' σ' H'
noncomputable abbrev LatC (W:Wd) (ρ:List S) (σ:St) (H1:Hp):(Addr→Prop)→List S→St→Hp→Prop:=fun O' ρ' σ' H'=>(∀ p,O' p→W.O p∨H1 p=none)∧ρ'=ρ∧σ'=σ∧Ok W ρ σ H'∧Step W.b W.a H1 H'
noncomputable def JOk (W:Wd) (Lt:(Addr→Prop)→List S→St→Hp→Prop) (J:It) (xs:List P) (f:Fl):Prop:=∀ O' ρ' σ' H',Lt O' ρ' σ' H'→∀ i,(i<xs.length→J.go i H')∧(xs.length≤i→J.stop i H') ∧
 ∀ v H'',J.yld i H' v H''→∀ x,xs[i]?=some x→Step W.b W.a H' H''∧RF { W with O:=O' } ρ' σ' H' f H'' x v
noncomputable abbrev pI:=List S→(List P→Fl→Bool→Prop)→Prop
noncomputable def RefI (wi:TI) (p:pI):Prop:=∀ (W:Wd) (ρ:List S) (σ:St) (H:Hp) (R:It→Hp→Prop) (K:List P→Fl→Bool→Prop),Ok W ρ σ H→p ρ K →
 (∀ xs f st J H1,K xs f st→Step W.b W.a H H1→JOk W (LatC W ρ σ H1) J xs f→(st=true→JOk W (LatS W ρ σ H1) J xs f)→R J H1)→wi σ H R
noncomputable def QI {ι:Type} (Xs:ι→Cx) (tg e:Expr) (p:pI):Prop:=∃ wi,(∀ i,PI (Xs i) tg e wi)∧RefI wi p
section
variable {W:Wd} {ρ ρ':List S} {σ σ':St} {H H' H1 Hs:Hp} {x:P} {v:V} {xs:List P} {vs:List V} {f:Fl} {p:Addr} {k:Nat}
theorem frz_some (hz:¬ (p=W.b∨Ow W ρ σ p)):frz W ρ σ H p=H p:=by unfold frz;rw [if_neg hz]
theorem frz_none (hz:p=W.b∨Ow W ρ σ p):frz W ρ σ H p=none:=by unfold frz;rw [if_pos hz]
theorem frz_sub {o:HO} (h:frz W ρ σ H p=some o):H p=some o∧p≠W.b∧¬ Ow W ρ σ p:=by
 by_cases hz:p=W.b∨Ow W ρ σ p
 ·rw [frz_none hz] at h;cases h
 ·rw [frz_some hz] at h;exact ⟨h,fun z=>hz (.inl z),fun z=>hz (.inr z)⟩
theorem Ok.frz (ok:Ok W ρ σ H):Ok (W.frz ρ σ H) ρ σ H where
 bag:=ok.bag
 fb:=frz_none (.inl rfl)
 old:=ok.old
 frm:=fun p o e=>(frz_sub e).1
 oo:=fun p h=>let ⟨h1,h2,h3,h4,h5⟩:=ok.oo p h;⟨h1,frz_none (.inr (.inl h)),h3,h4,h5⟩
 len:=ok.len
 slot:=fun i s e=>by
  obtain ⟨o,h1,h2⟩:=ok.slot i s e
  refine ⟨o,h1,?_⟩
  cases s with
  | emp=>trivial
  | sh x=>exact h2
  | fr x=>exact h2
  | own x =>
   obtain ⟨p,q1,q2,q3,q4,q5,q6⟩:=h2
   exact ⟨p,q1,q2,frz_none (.inr (.inr ⟨i,x,e,by rw [h1,q1]⟩)),q4,q5,q6⟩
 uniq:=ok.uniq
theorem Ok.thaw (ok0:Ok W ρ σ H) (ok:Ok (W.frz ρ σ H) ρ' σ' H'):Ok W ρ' σ' H' where
 bag:=ok.bag
 fb:=ok0.fb
 old:=ok.old
 frm:=fun p o e=>by
  have hb:p≠W.b:=fun z=>by rw [z,ok0.fb] at e;cases e
  have ho:¬ Ow W ρ σ p:=fun z=>by rw [(ok0.ow z).2.1] at e;cases e
  exact ok.frm p o ((frz_some fun z=>z.elim hb ho).trans (ok0.frm p o e))
 oo:=fun p h=>let ⟨h1,h2,h3,h4,h5⟩:=ok.oo p h;⟨h1,(ok0.oo p h).2.1,h3,h4,h5⟩
 len:=ok.len
 slot:=fun i s e=>by
  obtain ⟨o,h1,h2⟩:=ok.slot i s e
  refine ⟨o,h1,?_⟩
  cases s with
  | emp=>trivial
  | sh x=>exact h2
  | fr x=>exact h2
  | own x =>
   obtain ⟨p,q1,q2,q3,q4,q5,q6⟩:=h2
   refine ⟨p,q1,q2,?_,q4,q5,q6⟩
   cases hF:W.F p with
   | none=>rfl
   | some u =>
    have hb:p≠W.b:=q4
    have ho:¬ Ow W ρ σ p:=fun z=>by rw [(ok0.ow z).2.1] at hF;cases hF
    have q3:L2.frz W ρ σ H p=none:=q3
    rw [frz_some (fun z=>z.elim hb ho),ok0.frm p u hF] at q3
    cases q3
 uniq:=ok.uniq
theorem lat_keep (ok:Ok W ρ σ H) (hl:Ok (W.frz ρ σ H) ρ' σ' H') (hf:f=.nw∨f=.fr∨f=.cl):(∀ p o,¬ Zof W ρ σ f p→H p=some o→¬ Zof W ρ' σ' f p∧H' p=some o)∧∀ p vs,H p=some (.tup vs)→H' p=some (.tup vs):=by
 have hl:Ok (W.frz ρ σ H) ρ' σ' H':=hl
 have kb:∀ p,¬ Zof W ρ σ f p→p≠W.b:=fun p z e=>z (e ▸ Zof.b)
 have ko:∀ p,¬ Zof W ρ σ f p→¬ Ow W ρ σ p:=fun p z e=>z (by rcases hf with rfl | rfl | rfl <;> simp [Zof,e])
 refine ⟨fun p o hz e=>?_,fun p vs e=>?_⟩
 ·have hfz:L2.frz W ρ σ H p=some o:=(frz_some fun z=>z.elim (kb p hz) (ko p hz)).trans e
  have hs:¬ OwS ρ' σ' p:=fun z=>by
   have:=(hl.ow (.inr z)).2.1
   have this:L2.frz W ρ σ H p=none:=this
   rw [hfz] at this;cases this
  refine ⟨fun z=>?_,hl.frm p o hfz⟩
  have hO:¬ W.O p:=fun z=>ko p hz (.inl z)
  rcases hf with rfl | rfl | rfl <;> simp only [Zof,not_or] at z hz
  ·rcases z with z | (z | z) | z
   ·exact hz.1 z
   ·exact hO z
   ·exact hs z
   ·exact hz.2.2 z
  ·rcases z with z | (z | z) | z
   ·exact hz.1 z
   ·exact hO z
   ·exact hs z
   ·exact hz.2.2 z
  ·rcases z with z | (z | z)
   ·exact hz.1 z
   ·exact hO z
   ·exact hs z
 ·refine hl.frm p _ ((frz_some fun z=>z.elim (ok.bag.neT e).1 fun z=>?_).trans e)
  obtain ⟨_,_,_,_,o,q1,q2⟩:=ok.ow z
  rw [e] at q1;cases q1
  exact q2 vs rfl
theorem lat_keepO {O':Addr→Prop} (st:Step W.b W.a H H') (hO:∀ p,O' p→W.O p∨H p=none) (p:Addr) (o:HO) (hz:¬ Zof W ρ σ f p) (e:H p=some o):¬ Zof { W with O:=O' } ρ σ f p∧H' p=some o:=by
 refine ⟨fun z=>hz ?_,st.same p o (fun z=>hz (z ▸ Zof.b)) e⟩
 have k:Ow { W with O:=O' } ρ σ p→Ow W ρ σ p:=fun z=>z.elim (fun z=>(hO p z).elim .inl fun z=>by rw [e] at z;cases z) .inr
 cases f <;> simp only [Zof] at z ⊢
 ·exact z.elim .inl fun z=>.inr (z.elim (fun z=>.inl (k z)) .inr)
 ·exact z.elim .inl fun z=>.inr (z.elim (fun z=>.inl (k z)) .inr)
 ·exact z.elim .inl fun z=>.inr (k z)
 ·exact z.elim .inl fun z=>.inr (z.elim (fun z=>.inl (k z)) .inr)
 ·exact z
 ·exact z
noncomputable def stF (f:Fl):Bool:=match f with | .nw=>true | .fr=>true | .cl=>true | _=>false
theorem stF_of (h:stF f=true):f=.nw∨f=.fr∨f=.cl:=by cases f <;> simp_all [stF]
theorem joks_list {K:PySem.W.Frag} (ok:Ok W ρ σ H) (r:RF W ρ σ Hs f H (.lst xs) (.ref p)) (hc:H p=some (.lst vs)) (rv:Rps W.b (Zof W ρ σ f) H xs vs) :
  JOk W (LatC W ρ σ H) (Itl K p) xs f.el∧(stF f=true→JOk W (LatS W ρ σ H) (Itl K p) xs f.el):=by
 have hpb:p≠W.b:=by
  obtain ⟨q,us,e1,e2,_⟩:=r.any ok
  cases e1
  exact e2
 have core:∀ O' ρ' σ' H',H' p=some (.lst vs)→Rps W.b (Zof { W with O:=O' } ρ' σ' f) H' xs vs→Bag H' W.b W.a→∀ i,(i<xs.length→(Itl K p).go i H')∧(xs.length≤i→(Itl K p).stop i H') ∧
   ∀ v H'',(Itl K p).yld i H' v H''→∀ x,xs[i]?=some x→Step W.b W.a H' H''∧RF { W with O:=O' } ρ' σ' H' f.el H'' x v:=fun O' ρ' σ' H' e rr hb i=>by
  have hl:=rr.length
  refine ⟨fun hi=>⟨vs,vs[i]'(by lia),.of e,by simp [←hl,hi]⟩,fun hi=>⟨vs,.of e,by lia⟩,fun v H'' y x hx=>?_⟩
  obtain ⟨e2,y⟩:=y
  subst e2
  obtain ⟨u,e3,e4⟩:=rr.get hx
  have e5:=y vs (.of e)
  rw [e3] at e5
  cases e5
  exact ⟨Step.refl hb,RF.ofEl (W:={ W with O:=O' }) e4⟩
 refine ⟨fun O' ρ' σ' H' hl i=>?_,fun hf O' ρ' σ' H' hl i=>?_⟩
 ·obtain ⟨hO,rfl,rfl,ok',st⟩:=hl
  exact core _ _ _ H' (st.same p _ hpb hc) (rv.keep (lat_keepO st hO) fun q us e=>st.same q _ (ok.bag.neT e).1 e) st.bag i
 ·obtain ⟨rfl,hl⟩:=hl
  have hk:=lat_keep ok hl (stF_of hf)
  have nz:¬ Zof W ρ σ f p:=by
   cases f with
   | nw=>obtain ⟨q,us,e1,e2,_⟩:=r.1;cases e1;exact e2
   | fr=>obtain ⟨q,us,e1,e2,_⟩:=r;cases e1;exact e2
   | cl=>obtain ⟨q,us,e1,e2,_⟩:=r;cases e1;exact e2
   | _=>simp [stF] at hf
  exact core _ _ _ H' (hk.1 p _ nz hc).2 (rv.keep hk.1 hk.2) hl.bag i
theorem joks_tup {K:PySem.W.Frag} (ok:Ok W ρ σ H) (hc:H p=some (.tup vs)) (rv:Rps W.b (Zof W ρ σ f) H xs vs) :
  JOk W (LatC W ρ σ H) (Itt K p) xs f.el∧(stF f=true→JOk W (LatS W ρ σ H) (Itt K p) xs f.el):=by
 have core:∀ O' ρ' σ' H',H' p=some (.tup vs)→Rps W.b (Zof { W with O:=O' } ρ' σ' f) H' xs vs→Bag H' W.b W.a→∀ i,(i<xs.length→(Itt K p).go i H')∧(xs.length≤i→(Itt K p).stop i H') ∧
   ∀ v H'',(Itt K p).yld i H' v H''→∀ x,xs[i]?=some x→Step W.b W.a H' H''∧RF { W with O:=O' } ρ' σ' H' f.el H'' x v:=fun O' ρ' σ' H' e rr hb i=>by
  have hl:=rr.length
  refine ⟨fun hi=>⟨vs,vs[i]'(by lia),.of e,by simp [←hl,hi]⟩,fun hi=>⟨vs,.of e,by lia⟩,fun v H'' y x hx=>?_⟩
  obtain ⟨e2,y⟩:=y
  subst e2
  obtain ⟨u,e3,e4⟩:=rr.get hx
  have e5:=y vs (.of e)
  rw [e3] at e5
  cases e5
  exact ⟨Step.refl hb,RF.ofEl (W:={ W with O:=O' }) e4⟩
 refine ⟨fun O' ρ' σ' H' hl i=>?_,fun hf O' ρ' σ' H' hl i=>?_⟩
 ·obtain ⟨hO,rfl,rfl,ok',st⟩:=hl
  exact core _ _ _ H' (st.same p _ (ok.bag.neT hc).1 hc) (rv.keep (lat_keepO st hO) fun q us e=>st.same q _ (ok.bag.neT e).1 e) st.bag i
 ·obtain ⟨rfl,hl⟩:=hl
  have hk:=lat_keep ok hl (stF_of hf)
  exact core _ _ _ H' (hk.2 p _ hc) (rv.keep hk.1 hk.2) hl.bag i
end
noncomputable def pIterL (p:pE):pI:=fun ρ K=>p ρ fun x f=>∃ xs,x=.lst xs∧K xs f.el (stF f)
noncomputable def pIterT (p:pE):pI:=fun ρ K=>p ρ fun x f=>∃ xs,x=.tup xs∧K xs f.el (stF f)
noncomputable def rangeP (lo:Int) (n:Nat):List P:=(List.range n).map fun (k:Nat)=>P.int (lo + k)
noncomputable def pRange1 (p:pA):pI:=fun ρ K=>p ρ fun xs=>∃ j f,xs=[(P.int j,f)]∧-(2 ^ 62)≤j∧j<2 ^ 62∧K (rangeP 0 j.toNat) .fr true
noncomputable def pRange2 (p:pA):pI:=fun ρ K=>p ρ fun xs=>∃ i j f g,xs=[(P.int i,f),(P.int j,g)]∧(-(2 ^ 62)≤i∧i<2 ^ 62∧-(2 ^ 62)≤j∧j<2 ^ 62)∧K (rangeP i (j - i).toNat) .fr true
noncomputable def pIterS (p:pE):pI:=fun ρ K=>p ρ fun x f=>∃ z,x=.str z∧K (z.cps.toList.map fun c=>P.str ⟨#[c]⟩) .fr true
theorem rangeP_length (lo:Int) (n:Nat):(rangeP lo n).length=n:=by simp [rangeP]
theorem rangeP_get {lo:Int} {n i:Nat} {x:P} (h:(rangeP lo n)[i]?=some x):i<n∧x=.int (lo + i):=by
 unfold rangeP at h
 rw [List.getElem?_map] at h
 rcases Nat.lt_or_ge i n with q | q
 ·rw [List.getElem?_range q] at h
  exact ⟨q,(Option.some.inj h).symm⟩
 ·rw [List.getElem?_eq_none (by rw [List.length_range];exact q)] at h
  cases h
section
variable {ι:Type} {Xs:ι→Cx} {tg a:Expr} {pa:pE} {pos:Pos} {Kf:PySem.W.Frag}
theorem qi_list (hK:∀ i,(Xs i).K=Kf) (h:QE Xs a pa):QI Xs tg a (pIterL pa):=by
 obtain ⟨t,h1,h2⟩:=h
 refine ⟨iList Kf t,fun i=>by have:=pi_list (tg:=tg) (h1 i);rw [hK i] at this;exact this,fun W ρ σ H R K ok hk q=>h2 W ρ σ H _ _ ok hk fun x f v H1 ⟨xs,e,k1⟩ s1 r1=>?_⟩
 subst e
 have ok1:=ok.step s1
 obtain ⟨p,vs,e1,e2,e3⟩:=r1.items rfl
 subst e1
 have hc:H1 p=some (.lst vs):=by
  obtain ⟨q,us,z1,z2,z3,_⟩:=r1.any ok1
  cases z1
  rcases e2 with z | z
  ·exact z
  ·rw [z3] at z;cases z
 have j:=joks_list (K:=Kf) ok1 r1 hc e3
 exact ⟨p,rfl,⟨vs,.of hc⟩,q xs _ _ _ H1 k1 s1 j.1 j.2⟩
theorem qi_tup (hK:∀ i,(Xs i).K=Kf) (h:QE Xs a pa):QI Xs tg a (pIterT pa):=by
 obtain ⟨t,h1,h2⟩:=h
 refine ⟨iTup Kf t,fun i=>by have:=pi_tup (tg:=tg) (h1 i);rw [hK i] at this;exact this,fun W ρ σ H R K ok hk q=>h2 W ρ σ H _ _ ok hk fun x f v H1 ⟨xs,e,k1⟩ s1 r1=>?_⟩
 subst e
 have ok1:=ok.step s1
 obtain ⟨p,vs,e1,e2,e3⟩:=r1.items rfl
 subst e1
 have hc:H1 p=some (.tup vs):=by
  obtain ⟨q,us,z1,z3,_⟩:=r1.any ok1
  cases z1
  rcases e2 with z | z
  ·rw [z3] at z;cases z
  ·exact z
 have j:=joks_tup (K:=Kf) ok1 hc e3
 exact ⟨p,rfl,⟨vs,.of hc⟩,q xs _ _ _ H1 k1 s1 j.1 j.2⟩
theorem jok_vals {W:Wd} {Lt:(Addr→Prop)→List S→St→Hp→Prop} {xs:List P} {J:It} (hlt:∀ O' ρ' σ' H',Lt O' ρ' σ' H'→Bag H' W.b W.a) (hg:∀ i H',i<xs.length→J.go i H') (hs:∀ i H',xs.length≤i→J.stop i H')
  (hy:∀ i H' v H'' x,J.yld i H' v H''→xs[i]?=some x→H''=H'∧x.imm=true∧∀ (b:Addr) (Z:Addr→Prop),Rp b Z H' x v):JOk W Lt J xs .fr:=fun O' ρ' σ' H' hl i=>⟨hg i H',hs i H',fun v H'' y x hx=>by
 obtain ⟨e,hi,hr⟩:=hy i H' v H'' x y hx
 subst e
 exact ⟨Step.refl (hlt _ _ _ _ hl),hr _ _⟩⟩
theorem jok_range {W:Wd} {ρ:List S} {σ:St} {H:Hp} {lo:Int} {n:Nat}:JOk W (LatC W ρ σ H) (Itr lo n) (rangeP lo n) .fr∧(true=true→JOk W (LatS W ρ σ H) (Itr lo n) (rangeP lo n) .fr):=by
 have hy:∀ i H' v H'' x,(Itr lo n).yld i H' v H''→(rangeP lo n)[i]?=some x→H''=H'∧x.imm=true∧∀ (b:Addr) (Z:Addr→Prop),Rp b Z H' x v:=fun i H' v H'' x y hx=>by
  obtain ⟨e1,e2⟩:=y
  obtain ⟨_,e3⟩:=rangeP_get hx
  subst e3
  exact ⟨e1,rfl,fun _ _=>e2⟩
 exact ⟨jok_vals (fun _ _ _ _ hl=>hl.2.2.2.1.bag) (fun i H' h=>by rw [rangeP_length] at h;exact h) (fun i H' h=>by rw [rangeP_length] at h;exact h) hy,
  fun _=>jok_vals (fun _ _ _ _ hl=>hl.2.bag) (fun i H' h=>by rw [rangeP_length] at h;exact h) (fun i H' h=>by rw [rangeP_length] at h;exact h) hy⟩
theorem qi_range1 {p:Pos} {pr:pA} (hm:∀ i,(Xs i).mg "range"=none) (ha:QA Xs [a] pr) (hg:∀ i,Gl (Xs i) "range":=by intro _;rfl) (hs:∀ i,starEach [a] (Xs i).env=[(false,eval a (Xs i).env)]:=by intro _;rfl):QI Xs tg (.Call (.Name "range" p) [a] [] pos) (pRange1 pr):=by
 obtain ⟨t,h1,h2⟩:=ha
 refine ⟨_,fun i=>pi_range1 (hg i) (hm i) (h1 i) (hs i),fun W ρ σ H R K ok hk q=>h2 W ρ σ H _ _ ok hk fun xs vs H1 ⟨j,f,e,b1,b2,k1⟩ s1 r1=>?_⟩
 subst e
 obtain ⟨v,t,e1,e2,e3⟩:=r1
 subst e1
 cases (show t=[] from e3)
 cases int_of (ok.step s1) e2
 exact ⟨j,rfl,b1,b2,q _ _ _ _ H1 k1 s1 jok_range.1 jok_range.2⟩
end
noncomputable def pFor (pi:pI) (pg:pG) (pb:pS):pS:=fun E ρ=>pi ρ fun xs f st=>st=true∧∃ I:Nat→List S→Prop,I 0 ρ∧(∀ i ρ' x,xs[i]?=some x→I i ρ'→pg x f ρ' fun ρ2=>pb { E with nx:=I (i + 1),ct:=I (i + 1),bk:=E.nx } ρ2)∧∀ ρ',I xs.length ρ'→E.nx ρ'
noncomputable def pWhile (c:pT) (pb:pS):pS:=fun E ρ=>∃ I:Nat→List S→Prop,(∃ m,I m ρ)∧∀ m ρ',I m ρ'→c ρ' fun b=>if b=true then ∃ N:List S→Prop,(∀ ρ2,N ρ2→∃ m',m'<m∧I m' ρ2)∧pb { E with nx:=N,ct:=N,bk:=E.nx } ρ' else E.nx ρ'
section
variable {ι:Type} {Xs:ι→Cx} {tg a c:Expr} {pi:pI} {pg:pG} {pb:pS} {pc:pT} {pos:Pos} {body:List Stmt}
theorem RelD.frz {W:Wd} {ρ:List S} {σ:St} {H:Hp} {E:PEnds} {D:Ends} (ok0:Ok W ρ σ H) (r:RelD W E D):RelD (W.frz ρ σ H) E D :=
 ⟨fun ρ' σ' H' e ok=>r.nx ρ' σ' H' e (ok0.thaw ok),r.rt,fun ρ' σ' H' e ok=>r.bk ρ' σ' H' e (ok0.thaw ok),fun ρ' σ' H' e ok=>r.ct ρ' σ' H' e (ok0.thaw ok),r.noO,r.ex⟩
theorem qs_for (hp:∀ i,PassesOwn (model (Xs i).prog (Xs i).w) (Xs i).A (Xs i).env (Xs i).xe) (hc:∀ i,(Xs i).calm=true) (hi:QI Xs tg a pi) (hg:QG Xs tg pg) (hb:QSs Xs body pb)
  (hs:∀ i,∀ x,foldedSetIterable a (Xs i).env x=pure x:=by intro _ _;rfl):QS Xs (.For tg a body [] pos) (pFor pi pg pb):=by
 obtain ⟨wi,i1,i2⟩:=hi
 obtain ⟨g,g1,g2⟩:=hg
 obtain ⟨tb,b1,b2⟩:=hb
 refine ⟨_,fun i=>ps_for (hp i) (hc i) (i1 i) (g1 i) (b1 i) (hs i),fun W ρ σ H D E ok h r=>i2 W ρ σ H _ _ ok h fun xs f st J H1 ⟨hst,I,h0,hturn,hend⟩ s1 _ jS=>?_⟩
 have jS:=jS hst
 have ok1:=ok.step s1
 have r1:=r.frz ok1
 refine ⟨fun i m σ' H'=>m=xs.length - i∧i≤xs.length∧∃ ρ',I i ρ'∧Ok (W.frz ρ σ H1) ρ' σ' H',⟨xs.length,by simp,Nat.zero_le _,ρ,h0,ok1.frz⟩,?_⟩
 rintro i m σ' H' ⟨rfl,hi,ρ',hI,ok'⟩
 obtain ⟨q1,q2,q3⟩:=jS W.O ρ' σ' H' ⟨rfl,ok'⟩ i
 by_cases hlt:i<xs.length
 ·refine .inr ⟨q1 hlt,fun σ2 H2=>∃ ρ2,I (i + 1) ρ2∧Ok (W.frz ρ σ H1) ρ2 σ2 H2,fun σ2 H2 ⟨ρ2,e1,e2⟩=>⟨xs.length - (i + 1),by lia,rfl,hlt,ρ2,e1,e2⟩,fun v H2 y=>?_⟩
  have hx:xs[i]?=some xs[i]:=by simp [hlt]
  obtain ⟨y1,y2⟩:=q3 v H2 y _ hx
  refine g2 (W.frz ρ σ H1) ρ' σ' H' H2 _ f v _ _ ok' y1 y2 (hturn i ρ' _ hx hI) fun ρ2 σ2 e2 ok2=>?_
  exact b2 (W.frz ρ σ H1) ρ2 σ2 H2 _ _ ok2 e2 ⟨fun ρ3 σ3 H3 e ok3=>⟨ρ3,e,ok3⟩,r1.rt,fun ρ3 σ3 H3 e ok3=>r1.nx ρ3 σ3 H3 e ok3,fun ρ3 σ3 H3 e ok3=>⟨ρ3,e,ok3⟩,r.noO,r.ex⟩
 ·have e:i=xs.length:=by lia
  subst e
  exact .inl ⟨q2 (Nat.le_refl _),r1.nx ρ' σ' H' (hend ρ' hI) ok'⟩
end
end L2
set_option Elab.async false
set_option linter.all false
set_option maxRecDepth 100000
set_option maxHeartbeats 4000000
namespace L2
open PySem PySem.Spec PyProof.Rows
noncomputable def pickP (ρ:List S) (pick:List (Option Nat)):List S:=pick.map fun o=>match o with | none=>.emp | some j=>(ρ[j]?).getD .emp
noncomputable abbrev PickOk (pick:List (Option Nat)):Prop:=pick.Pairwise fun a b=>a=none∨a≠b
noncomputable def CompI (xs:List P) (step:P→(Option (P×Fl)→Prop)→Prop) (K:P→Fl→Prop):Prop:=∃ (g:Fl) (I:Nat→List P→Prop),(g=.nw∨g=.cl)∧I 0 [] ∧
 (∀ i x ys,xs[i]?=some x→I i ys→step x fun o=>match o with | some (y,h)=>(itemF y h).join g=g∧I (i + 1) (ys ++ [y]) | none=>I (i + 1) ys)∧∀ ys,I xs.length ys→K (.lst ys) g
noncomputable def pComp (pi:pI) (pick:List (Option Nat)) (pg:pG) (pt:pT) (pe:pE):pE:=fun ρ K=>pi ρ fun xs f _=>f≠.bo∧xs.length≤16777216 ∧
 CompI xs (fun x M=>pg x f (pickP ρ pick) fun ρ'=>pt ρ' fun c=>if c=true then pe ρ' fun y h=>M (some (y,h)) else M none) K
section
variable {W Wb:Wd} {ρ ρ' ρb:List S} {σ σ' σb:St} {H H' H1 H2 Hs:Hp} {x:P} {v:V} {xs:List P} {vs:List V} {f:Fl} {p D:Addr} {k:Nat} {pick:List (Option Nat)}
theorem SlotOk.mv {s:S} {o:Option V} (hb:Wb.b=W.b) (ha:Wb.a=W.a) (h0:Wb.H₀=W.H₀) (hF:Wb.F=W.F) (hk:∀ f p o,¬ Zof W ρ σ f p→H1 p=some o→¬ Zof Wb ρb σb f p∧H2 p=some o) (ht:∀ p vs,H1 p=some (.tup vs)→H2 p=some (.tup vs))
  (hs:∀ p o,p≠W.b→H1 p=some o→H2 p=some o) (h:SlotOk W ρ σ H1 s o):SlotOk Wb ρb σb H2 s o:=by
 cases s with
 | emp=>trivial
 | sh x=>obtain ⟨v,h1,h2⟩:=h;exact ⟨v,h1,by rw [hb];exact h2.keep (hk .cl) ht⟩
 | fr x=>obtain ⟨v,h1,h2⟩:=h;exact ⟨v,h1,by rw [hb];exact h2.keep (hk .fr) ht⟩
 | own x =>
  obtain ⟨p,h1,h2,h3,h4,h5,h6⟩:=h
  refine ⟨p,h1,by rw [h0];exact h2,by rw [hF];exact h3,by rw [hb];exact h4,by rw [ha];exact h5,?_⟩
  rw [hb]
  cases x with
  | lst xs=>obtain ⟨vs,q1,q2⟩:=h6;exact ⟨vs,hs p _ h4 q1,q2.keep (hk .fr) ht⟩
  | dT ks xs=>obtain ⟨vs,q1,q0,q2⟩:=h6;exact ⟨vs,hs p _ h4 q1,q0,q2.keep (hk .fr) ht⟩
  | dK ks xs=>obtain ⟨vs,q1,q0,q2⟩:=h6;exact ⟨vs,hs p _ h4 q1,q0,q2.keep (hk .fr) ht⟩
  | _=>exact h6.elim
theorem pickP_get {i:Nat} {s:S} (h:(pickP ρ pick)[i]?=some s):∃ o,pick[i]?=some o∧s=(match o with | none=>.emp | some j=>(ρ[j]?).getD .emp):=by
 unfold pickP at h
 rw [List.getElem?_map] at h
 cases e:pick[i]? with
 | none=>rw [e] at h;cases h
 | some o=>rw [e] at h;exact ⟨o,rfl,(Option.some.inj h).symm⟩
theorem pick_own (hp:PickOk pick) {i i' j:Nat} (h:pick[i]?=some (some j)) (h':pick[i']?=some (some j)):i=i':=by
 have hi:i<pick.length:=by
  rcases Nat.lt_or_ge i pick.length with q | q
  ·exact q
  ·rw [List.getElem?_eq_none q] at h;cases h
 have hi':i'<pick.length:=by
  rcases Nat.lt_or_ge i' pick.length with q | q
  ·exact q
  ·rw [List.getElem?_eq_none q] at h';cases h'
 rw [List.getElem?_eq_getElem hi] at h
 rw [List.getElem?_eq_getElem hi'] at h'
 have hw:=List.pairwise_iff_getElem.mp hp
 rcases Nat.lt_trichotomy i i' with q | q | q
 ·rcases hw i i' hi hi' q with z | z
  ·rw [Option.some.inj h] at z;cases z
  ·exact absurd ((Option.some.inj h).trans (Option.some.inj h').symm) z
 ·exact q
 ·rcases hw i' i hi' hi q with z | z
  ·rw [Option.some.inj h'] at z;cases z
  ·exact absurd ((Option.some.inj h').trans (Option.some.inj h).symm) z
theorem picked_at {i j:Nat} (h:pick[i]?=some (some j)):(L2.picked σ pick)[i]?=some ((σ[j]?).join):=by
 unfold L2.picked
 rw [List.getElem?_map,h]
 rfl
theorem pick_owS (ok:Ok W ρ σ H) (h:OwS (pickP ρ pick) (L2.picked σ pick) p):OwS ρ σ p:=by
 obtain ⟨i,x,h1,h2⟩:=h
 obtain ⟨o,e1,e2⟩:=pickP_get h1
 cases o with
 | none=>cases e2
 | some j =>
  rw [picked_at e1] at h2
  dsimp only at e2
  cases e3:ρ[j]? with
  | none=>rw [e3] at e2;cases e2
  | some s =>
   rw [e3] at e2
   cases e2
   obtain ⟨o,q1,q2⟩:=ok.slot j _ e3
   rw [q1] at h2
   exact ⟨j,x,e3,by rw [q1];exact congrArg some (Option.some.inj h2)⟩
noncomputable abbrev Wd.blk (W:Wd) (ρ:List S) (σ:St) (D:Addr):Wd:={ W with O:=fun p=>W.O p∨OwS ρ σ p∨p=D }
theorem blk_sub (hs:OwS ρb σb p→OwS ρ σ p∨H1 p=none) (hD:H1 D=none) (h:Zof (W.blk ρ σ D) ρb σb f p):Zof W ρ σ f p∨H1 p=none:=by
 have k:Ow (W.blk ρ σ D) ρb σb p→Ow W ρ σ p∨H1 p=none:=fun z=>by
  rcases z with (z | z | z) | z
  ·exact .inl (.inl z)
  ·exact .inl (.inr z)
  ·subst z;exact .inr hD
  ·exact (hs z).elim (fun z=>.inl (.inr z)) .inr
 cases f <;> simp only [Zof] at h ⊢
 ·rcases h with h | h | h
  ·exact .inl (.inl h)
  ·exact (k h).elim (fun z=>.inl (.inr (.inl z))) .inr
  ·exact .inl (.inr (.inr h))
 ·rcases h with h | h | h
  ·exact .inl (.inl h)
  ·exact (k h).elim (fun z=>.inl (.inr (.inl z))) .inr
  ·exact .inl (.inr (.inr h))
 ·rcases h with h | h
  ·exact .inl (.inl h)
  ·exact (k h).elim (fun z=>.inl (.inr z)) .inr
 ·rcases h with h | h | h
  ·exact .inl (.inl h)
  ·exact (k h).elim (fun z=>.inl (.inr (.inl z))) .inr
  ·exact .inl (.inr (.inr h))
 ·exact .inl h
 ·exact .inl h
theorem ok_blk {l:List V} (ok:Ok W ρ σ H1) (hp:PickOk pick) (hD:H1 D=none) (st:Step W.b W.a H1 H2) (e:H2 D=some (.lst l)):Ok (W.blk ρ σ D) (pickP ρ pick) (L2.picked σ pick) H2 where
 bag:=st.bag
 fb:=ok.fb
 old:=fun p o hp e=>st.same p o hp (ok.old p o hp e)
 frm:=fun p o e=>st.same p o (fun z=>by rw [z,ok.fb] at e;cases e) (ok.frm p o e)
 oo:=fun p h=>by
  have k:Ow W ρ σ p→W.H₀ p=none∧W.F p=none∧p≠W.b∧p≠W.a∧∃ o,H2 p=some o∧∀ ys,o≠.tup ys:=fun z=>by
   obtain ⟨q1,q2,q3,q4,o,q5,q6⟩:=ok.ow z
   exact ⟨q1,q2,q3,q4,o,st.same p o q3 q5,q6⟩
  rcases h with h | h | h
  ·exact k (.inl h)
  ·exact k (.inr h)
  ·subst h
   have nb:=ok.bag.nb hD
   refine ⟨?_,?_,nb,ok.bag.na hD,_,e,fun _ z=>nomatch z⟩
   ·cases q:W.H₀ p with
    | none=>rfl
    | some o=>rw [ok.old p o nb q] at hD;cases hD
   ·cases q:W.F p with
    | none=>rfl
    | some o=>rw [ok.frm p o q] at hD;cases hD
 len:=by simp [L2.picked,pickP]
 slot:=fun i s h=>by
  obtain ⟨o,e1,e2⟩:=pickP_get h
  cases o with
  | none =>
   dsimp only at e2
   subst e2
   refine ⟨none,?_,trivial⟩
   unfold L2.picked
   rw [List.getElem?_map,e1]
   rfl
  | some j =>
   dsimp only at e2
   refine ⟨_,picked_at e1,?_⟩
   cases e3:ρ[j]? with
   | none=>rw [e3] at e2;subst e2;trivial
   | some s' =>
    rw [e3] at e2
    have e2:s=s':=e2
    subst e2
    obtain ⟨o,q1,q2⟩:=ok.slot j _ e3
    rw [q1]
    show SlotOk _ _ _ _ s o
    refine SlotOk.mv (W:=W) (Wb:=W.blk ρ σ D) (ρ:=ρ) (σ:=σ) rfl rfl rfl rfl (fun f p u hz eu=>⟨fun z=>?_,st.same p u (fun z=>hz (z ▸ Zof.b)) eu⟩) (fun p us e=>st.same p _ (ok.bag.neT e).1 e) (fun p o hp e=>st.same p o hp e) q2
    rcases blk_sub (H1:=H1) (fun z=>.inl (pick_owS ok z)) hD z with z | z
    ·exact hz z
    ·rw [eu] at z;cases z
 uniq:=fun i i' x y h1 h2 h3=>by
  obtain ⟨o,e1,e2⟩:=pickP_get h1
  obtain ⟨o',e1',e2'⟩:=pickP_get h2
  cases o with
  | none=>cases e2
  | some j =>
   cases o' with
   | none=>cases e2'
   | some j' =>
    dsimp only at e2 e2'
    cases e3:ρ[j]? with
    | none=>rw [e3] at e2;cases e2
    | some s =>
     cases e3':ρ[j']? with
     | none=>rw [e3'] at e2';cases e2'
     | some s' =>
      rw [e3] at e2;rw [e3'] at e2'
      cases e2;cases e2'
      obtain ⟨o,q1,q2⟩:=ok.slot j _ e3
      obtain ⟨o',q1',q2'⟩:=ok.slot j' _ e3'
      rw [picked_at e1,picked_at e1',q1,q1'] at h3
      have h4:o=o':=Option.some.inj h3
      subst h4
      have:=ok.uniq j j' x y e3 e3' (by rw [q1,q1'])
      subst this
      exact pick_own hp e1 e1'
theorem item_out {ρ':List S} {σ':St} {y:P} {h g:Fl} {Hq:Hp} (ok:Ok (W.blk ρ σ D) ρ' σ' H2) (hg:g=.nw∨g=.cl) (r:RF (W.blk ρ σ D) ρ' σ' Hq h H2 y v) (hj:(itemF y h).join g=g):Rp W.b (fun q=>Zof W ρ σ g q∨q=D) H2 y v:=by
 obtain ⟨n1,n2,r2⟩:=itemF_ok ok r
 have hi:itemF y h=.nw∨itemF y h=.cl:=by
  rcases hg with rfl | rfl <;> cases e:itemF y h <;> simp_all [Fl.join]
 refine r2.keep (fun q o hz e=>⟨fun z=>hz ?_,e⟩) fun q us e=>e
 have ow:(Ow W ρ σ q∨q=D)→Ow (W.blk ρ σ D) ρ' σ' q:=fun z=>.inl (z.elim (fun z=>z.elim .inl fun z=>.inr (.inl z)) fun z=>.inr (.inr z))
 rcases hg with rfl | rfl
 ·have hi2:itemF y h=.nw:=by rcases hi with z | z <;> simp_all [Fl.join]
  rw [hi2]
  simp only [Zof] at z ⊢
  rcases z with (z | z | z) | z
  ·exact .inl z
  ·exact .inr (.inl (ow (.inl z)))
  ·exact .inr (.inr z)
  ·exact .inr (.inl (ow (.inr z)))
 ·rcases hi with z' | z' <;> rw [z'] <;> simp only [Zof] at z ⊢
  ·rcases z with (z | z) | z
   ·exact .inl z
   ·exact .inr (.inl (ow (.inl z)))
   ·exact .inr (.inl (ow (.inr z)))
  ·rcases z with (z | z) | z
   ·exact .inl z
   ·exact .inr (ow (.inl z))
   ·exact .inr (ow (.inr z))
theorem refE_comp {wi:TI} {g:TG} {tt:TT} {te:TE} {pi:pI} {pg:pG} {pt:pT} {pe:pE} (hp:PickOk pick) (hi:RefI wi pi) (hg:RefG g pg) (ht:RefT tt pt) (he:RefE te pe):RefE (tComp wi pick g tt te) (pComp pi pick pg pt pe):=by
 intro W ρ σ H Q K ok hk q
 refine hi W ρ σ H _ _ ok hk fun xs f _ J H1 ⟨hfb,hlen,gf,I,hgf,h0,hturn,hend⟩ s1 jC _=>?_
 have ok1:=ok.step s1
 have stD:∀ {D H2},H1 D=none→Step W.b W.a H1 H2→∀ {o},Step W.b W.a H1 (upd H2 D o):=fun {D H2} hD s {o}=>⟨s.bag.put (ok1.bag.nb hD) (ok1.bag.na hD),fun p u hp e=>by rw [upd_ne (ne_of_none e hD)];exact s.same p u hp e⟩
 intro D hD
 refine ⟨fun i m ys H2=>m=xs.length - i∧i≤xs.length∧∃ ps,I i ps∧H2 D=some (.lst ys)∧Rps W.b (fun q=>Zof W ρ σ gf q∨q=D) H2 ps ys∧Step W.b W.a H1 H2∧ps.length≤i,⟨xs.length,by simp,Nat.zero_le _,[],h0,upd_same,rfl,stD hD (Step.refl ok1.bag),Nat.le_refl _⟩,?_⟩
 rintro i m ys H2 ⟨rfl,hi,ps,hI,eD,rps,s2,hpl⟩
 refine ⟨eD,?_⟩
 have ok2:=ok1.step s2
 have nDb:=ok1.bag.nb hD
 have nDa:=ok1.bag.na hD
 obtain ⟨j1,j2,j3⟩:=jC (fun p=>W.O p∨p=D) ρ σ H2 ⟨fun p z=>z.elim .inl fun z=>.inr (z ▸ hD),rfl,rfl,ok2,s2⟩ i
 by_cases hlt:i<xs.length
 ·refine .inr ⟨j1 hlt,fun zs H'=>∃ ps,I (i + 1) ps∧H' D=some (.lst zs)∧Rps W.b (fun q=>Zof W ρ σ gf q∨q=D) H' ps zs∧Step W.b W.a H1 H'∧ps.length≤i + 1,fun zs H' ⟨ps,z⟩=>⟨xs.length - (i + 1),by lia,rfl,hlt,ps,z⟩,fun v H3 y=>?_⟩
  have hx:xs[i]?=some xs[i]:=by simp [hlt]
  obtain ⟨y1,y2⟩:=j3 v H3 y _ hx
  have okb:=ok_blk ok1 hp hD s2 eD
  -- the yielded value,within the block
  have y3:RF (W.blk ρ σ D) (pickP ρ pick) (L2.picked σ pick) H2 f H3 xs[i] v:=by
   have sub:∀ {f:Fl} {q:Addr},Zof (W.blk ρ σ D) (pickP ρ pick) (L2.picked σ pick) f q→Zof { W with O:=fun p=>W.O p∨p=D } ρ σ f q:=fun {f q} z=>by
    have k:Ow (W.blk ρ σ D) (pickP ρ pick) (L2.picked σ pick) q→Ow { W with O:=fun p=>W.O p∨p=D } ρ σ q:=fun z=>by
     rcases z with (z | z | z) | z
     ·exact .inl (.inl z)
     ·exact .inr z
     ·exact .inl (.inr z)
     ·exact .inr (pick_owS ok1 z)
    cases f <;> simp only [Zof] at z ⊢
    ·exact z.elim .inl fun z=>.inr (z.elim (fun z=>.inl (k z)) .inr)
    ·exact z.elim .inl fun z=>.inr (z.elim (fun z=>.inl (k z)) .inr)
    ·exact z.elim .inl fun z=>.inr (k z)
    ·exact z.elim .inl fun z=>.inr (z.elim (fun z=>.inl (k z)) .inr)
    ·exact z
    ·exact z
   have kp:∀ {f:Fl},Rp W.b (Zof { W with O:=fun p=>W.O p∨p=D } ρ σ f) H3 xs[i] v→Rp W.b (Zof (W.blk ρ σ D) (pickP ρ pick) (L2.picked σ pick) f) H3 xs[i] v:=fun {f} h=>h.keep (fun q o hz e=>⟨fun z=>hz (sub z),e⟩) fun q us e=>e
   cases f with
   | bo=>exact absurd rfl hfb
   | nw=>exact ⟨kp (f:=.fr) y2.1,y2.2⟩
   | fr=>exact kp (f:=.fr) y2
   | cl=>exact kp (f:=.cl) y2
   | rf=>exact kp (f:=.rf) y2
   | an=>exact kp (f:=.an) y2
  have keepD:∀ {Ha Hb:Hp},Step W.b W.a Ha Hb→Ha D=some (.lst ys)→Hb D=some (.lst ys):=fun s e=>s.same D _ nDb e
  have keepR:∀ {Ha Hb:Hp} {o:HO},Bag Ha W.b W.a→Ha D=some (.lst ys)→Step W.b W.a Ha Hb→Rps W.b (fun q=>Zof W ρ σ gf q∨q=D) Ha ps ys→Rps W.b (fun q=>Zof W ρ σ gf q∨q=D) (upd Hb D o) ps ys:=fun {Ha Hb o} hb eDa s h =>
   h.keep (fun q u hz e=>⟨hz,by rw [upd_ne (fun z=>hz (.inr z))];exact s.same q u (fun z=>hz (.inl (z ▸ Zof.b))) e⟩) fun q us e=>by
    rw [upd_ne (fun z=>by rw [z,eDa] at e;cases e)]
    exact s.same q _ (hb.neT e).1 e
  have keepR':∀ {Ha Hb:Hp},Bag Ha W.b W.a→Step W.b W.a Ha Hb→Rps W.b (fun q=>Zof W ρ σ gf q∨q=D) Ha ps ys→Rps W.b (fun q=>Zof W ρ σ gf q∨q=D) Hb ps ys:=fun {Ha Hb} hb s h =>
   h.keep (fun q u hz e=>⟨hz,s.same q u (fun z=>hz (.inl (z ▸ Zof.b))) e⟩) fun q us e=>s.same q _ (hb.neT e).1 e
  refine hg (W.blk ρ σ D) _ _ H2 H3 _ f v _ _ okb y1 y3 (hturn i _ ps hx hI) fun ρ4 σ4 k4 ok4=>?_
  refine ht (W.blk ρ σ D) ρ4 σ4 H3 _ _ ok4 k4 fun c H5 k5 s5=>?_
  have s25:=y1.trans s5
  cases c with
  | false=>exact ⟨ps,k5,keepD s25 eD,keepR' ok2.bag s25 rps,s2.trans s25,by lia⟩
  | true =>
   refine he (W.blk ρ σ D) ρ4 σ4 H5 _ _ (ok4.step s5) k5 fun y h u H6 ⟨k6,k7⟩ s6 r6=>?_
   have s26:=s25.trans s6
   refine ⟨keepD s26 eD,?_,ps ++ [y],k7,upd_same,?_,stD hD (s2.trans s26),by rw [List.length_append];simp;lia⟩
   ·have:=rps.length
    have e16:sizeLine=16777216:=rfl
    lia
   ·refine (keepR ok2.bag eD s26 rps).snoc ?_
    have r7:=item_out (D:=D) (ok4.step (s5.trans s6)) hgf r6 k6
    refine r7.keep (fun q u hz e=>⟨hz,by rw [upd_ne (fun z=>hz (.inr z))];exact e⟩) fun q us e=>by
     rw [upd_ne (fun z=>by rw [z,keepD s26 eD] at e;cases e)]
     exact e
 ·have e:i=xs.length:=by lia
  subst e
  refine .inl ⟨j2 (Nat.le_refl _),q _ gf _ H2 (hend ps hI) (s1.trans s2) ?_⟩
  have nz:∀ g,¬ Zof W ρ σ g D:=fun g z=>ok1.dom z hD
  have rps2:Rps W.b (Zof W ρ σ gf) H2 ps ys:=rps.keep (fun q o hz e=>⟨fun z=>hz (.inl z),e⟩) fun q us e=>e
  rcases hgf with rfl | rfl
  ·exact ⟨⟨D,ys,rfl,nz .fr,eD,rps2⟩,fun _=>⟨D,rfl,s1.free hD⟩⟩
  ·exact ⟨D,ys,rfl,nz .cl,eD,rps2⟩
end
section
variable {ι:Type} {Xs:ι→Cx} {N' N:List Str} {pick:List (Option Nat)} {elt tg iter:Expr} {ifs:List Expr} {scope sc:Scope} {pos:Pos} {pi:pI} {pg:pG} {pt:pT} {pe:pE}
noncomputable abbrev Blk (Xs:ι→Cx) (N':List Str) (scope:Scope):ι×CompP→Cx:=fun q=>(Xs q.1).comp N' scope q.2
noncomputable def QGk (Xs:ι→Cx) (pick:List (Option Nat)) (tg:Expr) (p:pG):Prop:=∃ g,(∀ i,PG (Xs i) tg g)∧RefG g p∧GKeeps pick g
noncomputable def QIfs (Xs:ι→Cx) (ifs:List Expr) (p:pT):Prop:=∃ t,(∀ i,PIfs (Xs i) ifs t)∧RefT t p
noncomputable def pTrue:pT:=fun _ K=>K true
theorem qifs_nil:QIfs Xs [] pTrue:=⟨_,fun _=>pifs_nil,fun W ρ σ H Q K ok h q=>q true H h (Step.refl ok.bag)⟩
theorem qifs_one {c:Expr} (h:QT Xs c pt):QIfs Xs [c] pt:=let ⟨t,h1,h2⟩:=h;⟨t,fun i=>pifs_one (h1 i),h2⟩
theorem qgk_name {k:Nat} {x:Str} (hp:pick[k]?=some none) (hN:∀ i,(Xs i).N.Nodup) (hi:∀ i,(Xs i).N[k]?=some x:=by intro _;rfl) (hx:∀ i,Loc (Xs i).env.scope x:=by intro _;trivial)
  (hf:∀ i,(Xs i).fn x=true∨(Xs i).env.scope.names.lookup x=some .local:=by intro _;trivial):QGk Xs pick (.Name x pos) (pSet k):=⟨_,fun i=>pg_name (hN i) (hi i) (hx i) (hf i),refG_name k,gkeeps_name hp⟩
theorem qgk_two {es:List Expr} {k1:Nat} {i j:Nat} {Kf:PySem.W.Frag} (hp:pick[i]?=some none) (hp':pick[j]?=some none) (hc:∀ i,(Xs i).calm=true) (hK:∀ i,(Xs i).K=Kf) (h:∀ q,PGs (Xs q) es (gNames [i,j]))
  (hn:∀ i,(assignEach es (Xs i).env).length=2:=by intro _;rfl) (hst:∀ i,(assignEach es (Xs i).env).findIdx? (·.1)=none:=by intro _;rfl):QGk Xs pick (.Tuple es k1 pos) (pUnpack [i,j]) :=
 ⟨gTup Kf 2 (gNames [i,j]),fun i=>by have:=pg_tup (k:=k1) (pos:=pos) (hc i) (h i) (hn i) (hst i);rw [hK i] at this;exact this,refG_tup rfl,gkeeps_two hp hp'⟩
theorem qe_comp (S:CompScope N sc N' pick scope) (hp:PickOk pick) (hc:∀ i,(Xs i).calm=true) (hi:QI Xs tg iter pi) (hg:QGk (Blk Xs N' scope) pick tg pg) (ht:QIfs (Blk Xs N' scope) ifs pt) (he:QE (Blk Xs N' scope) elt pe)
  (hN:∀ i,(Xs i).N=N:=by intro _;rfl) (hsc:∀ i,(Xs i).env.scope=sc:=by intro _;rfl) (hs:∀ i,∀ x,foldedSetIterable iter (Xs i).env x=pure x:=by intro _ _;rfl) :
  QE Xs (.ListComp elt [⟨tg,iter,ifs,0⟩] scope pos) (pComp pi pick pg pt pe):=by
 obtain ⟨wi,i1,i2⟩:=hi
 obtain ⟨g,g1,g2,g3⟩:=hg
 obtain ⟨tt,t1,t2⟩:=ht
 obtain ⟨te,e1,e2⟩:=he
 exact ⟨_,fun i=>pe_comp S (hc i) (i1 i) g3 (fun p=>g1 (i,p)) (fun p=>t1 (i,p)) (fun p=>e1 (i,p)) (hN i) (hsc i) (hs i),refE_comp hp i2 g2 t2 e2⟩
theorem qs_setComp {k:Nat} {x:Str} {pos' spos:Pos} (hnd:∀ i,(Xs i).N.Nodup) (S:CompScope N sc N' pick scope) (hp:PickOk pick) (hc:∀ i,(Xs i).calm=true) (hi:QI Xs tg iter pi) (hg:QGk (Blk Xs N' scope) pick tg pg) (ht:QIfs (Blk Xs N' scope) ifs pt) (he:QE (Blk Xs N' scope) elt pe)
  (hix:∀ i,(Xs i).N[k]?=some x:=by intro _;rfl) (hx:∀ i,Loc (Xs i).env.scope x:=by intro _;trivial)
  (hN:∀ i,(Xs i).N=N:=by intro _;rfl) (hsc:∀ i,(Xs i).env.scope=sc:=by intro _;rfl)
  (hsw:∀ i,swapsWith (.ListComp elt [⟨tg,iter,ifs,0⟩] scope pos) (some (.Name x pos')) spos.line (Xs i).env=pure true:=by intro _;rfl) (hs:∀ i,∀ x,foldedSetIterable iter (Xs i).env x=pure x:=by intro _ _;rfl)
  (hf:∀ i,(Xs i).fn x=true∨(Xs i).env.scope.names.lookup x=some .local:=by intro _;trivial) :
  QS Xs (.Assign [.Name x pos'] (.ListComp elt [⟨tg,iter,ifs,0⟩] scope pos) spos) (pAsg (pComp pi pick pg pt pe) k):=by
 obtain ⟨wi,i1,i2⟩:=hi
 obtain ⟨g,g1,g2,g3⟩:=hg
 obtain ⟨tt,t1,t2⟩:=ht
 obtain ⟨te,e1,e2⟩:=he
 exact ⟨_,fun i=>ps_setComp S (hnd i) (hix i) (hx i) (hc i) (i1 i) g3 (fun p=>g1 (i,p)) (fun p=>t1 (i,p)) (fun p=>e1 (i,p)) (hN i) (hsc i) (hsw i) (hs i) (hf i),refS_asg (refE_comp hp i2 g2 t2 e2)⟩
end
theorem itemF_imm {y:P} {h:Fl} (hi:y.imm=true):itemF y h=.nw:=by cases h <;> simp [itemF,hi]
section
variable {α:Type} {as:List α} {enc:α→P} {step:P→(Option (P×Fl)→Prop)→Prop} {K:P→Fl→Prop}
theorem mapGet {i:Nat} {x:P} (h:(as.map enc)[i]?=some x):∃ a,as[i]?=some a∧a∈as∧x=enc a∧as.take (i + 1)=as.take i ++ [a]:=by
 rw [List.getElem?_map] at h
 cases ha:as[i]? with
 | none=>rw [ha] at h;cases h
 | some a =>
  rw [ha] at h
  exact ⟨a,rfl,List.mem_of_getElem? ha,(Option.some.inj h).symm,by rw [List.take_add_one,ha];rfl⟩
theorem CompI.filter (t:α→Bool) (g:α→P) (hi:∀ a∈as,t a=true→(g a).imm=true) (hs:∀ a∈as,∀ M:Option (P×Fl)→Prop,(∀ h,M (if t a=true then some (g a,h) else none))→step (enc a) M) (hK:K (.lst ((as.filter t).map g)) .nw):CompI (as.map enc) step K:=by
 refine ⟨.nw,fun i ys=>ys=((as.take i).filter t).map g,.inl rfl,rfl,fun i x ys hx hys=>?_,fun ys hys=>?_⟩
 ·obtain ⟨a,_,hm,rfl,ht⟩:=mapGet hx
  subst hys
  refine hs a hm _ fun h=>?_
  have key:((as.take (i + 1)).filter t).map g=((as.take i).filter t).map g ++ if t a=true then [g a] else []:=by
   rw [ht,List.filter_append,List.map_append]
   cases e:t a <;> simp [e]
  cases e:t a
  ·show ((as.take i).filter t).map g=((as.take (i + 1)).filter t).map g
   rw [key,e];simp
  ·refine ⟨by rw [itemF_imm (hi a hm e)];rfl,?_⟩
   show ((as.take i).filter t).map g ++ [g a]=((as.take (i + 1)).filter t).map g
   rw [key,e];simp
 ·rw [List.length_map,List.take_length] at hys
  subst hys
  exact hK
theorem CompI.map (g:α→P) (hi:∀ a∈as,(g a).imm=true) (hs:∀ a∈as,∀ M:Option (P×Fl)→Prop,(∀ h,M (some (g a,h)))→step (enc a) M) (hK:K (.lst (as.map g)) .nw):CompI (as.map enc) step K :=
 CompI.filter (fun _=>true) g (fun a m _=>hi a m) (fun a m M h=>hs a m M h) (by rw [List.filter_eq_self.mpr fun _ _=>rfl];exact hK)
inductive Each {α β:Type} (R:α→β→Prop):List α→List β→Prop where
 | nil:Each R [] []
 | cons {a b as bs}:R a b→Each R as bs→Each R (a :: as) (b :: bs)
theorem Each.snoc {β:Type} {R:α→β→Prop} {a:α} {b:β} (h:R a b):∀ {as:List α} {bs:List β},Each R as bs→Each R (as ++ [a]) (bs ++ [b])
 | _,_,.nil=>.cons h .nil
 | _,_,.cons r t=>.cons r (Each.snoc h t)
theorem Each.length {β:Type} {R:α→β→Prop}:∀ {as:List α} {bs:List β},Each R as bs→as.length=bs.length
 | _,_,.nil=>rfl
 | _,_,.cons _ t=>by rw [List.length_cons,List.length_cons,Each.length t]
theorem Each.mem {β:Type} {R:α→β→Prop}:∀ {as:List α} {bs:List β},Each R as bs→∀ b∈bs,∃ a∈as,R a b
 | _,_,.nil,b,h=>by cases h
 | _,_,.cons r t,b,h=>by
  rcases List.mem_cons.mp h with rfl | h
  ·exact ⟨_,List.mem_cons_self,r⟩
  ·obtain ⟨a,h1,h2⟩:=Each.mem t b h
   exact ⟨a,List.mem_cons_of_mem _ h1,h2⟩
theorem CompI.rel {β:Type} (g:β→P) (R:α→β→Prop) (hs:∀ a∈as,∀ M:Option (P×Fl)→Prop,(∀ b h,R a b→M (some (g b,h)))→step (enc a) M) (hg:∀ b,(g b).imm=true) (hK:∀ bs,Each R as bs→K (.lst (bs.map g)) .nw):CompI (as.map enc) step K:=by
 refine ⟨.nw,fun i ys=>∃ bs,ys=bs.map g∧Each R (as.take i) bs,.inl rfl,⟨[],rfl,.nil⟩,fun i x ys hx hys=>?_,fun ys hys=>?_⟩
 ·obtain ⟨a,_,hm,rfl,ht⟩:=mapGet hx
  obtain ⟨bs,rfl,he⟩:=hys
  refine hs a hm _ fun b h hr=>⟨by rw [itemF_imm (hg b)];rfl,bs ++ [b],by simp,?_⟩
  rw [ht]
  exact he.snoc hr
 ·obtain ⟨bs,rfl,he⟩:=hys
  rw [List.length_map,List.take_length] at he
  exact hK bs he
end
end L2
set_option Elab.async false
set_option linter.all false
set_option maxRecDepth 100000
set_option maxHeartbeats 4000000
namespace L2
open PySem PySem.Spec PyProof.Rows
noncomputable def pII (C:Int→Int→Prop) (g:Int→Int→P):p2:=fun x _ y _ K=>match x,y with
 | .int i,.int j=>C i j∧K (g i j) .fr
 | _,_=>False
noncomputable abbrev CT:Int→Int→Prop:=fun _ _=>True
noncomputable def scalV:P→Option V
 | .non=>some .non | .bl k=>some (.bl k) | .int i=>some (.int i) | .str x=>some (.str x) | _=>none
theorem scal_rf {W:Wd} {ρ:List S} {σ:St} {Hs H:Hp} {x:P} {v:V} (h:scalV x=some v):RF W ρ σ Hs .fr H x v:=by
 cases x <;> simp only [scalV] at h <;> first | (cases h;rfl) | cases h
section
variable {C:Int→Int→Prop} {g:Int→Int→V} {gp:Int→Int→P}
theorem ref2_I (hg:∀ i j,scalV (gp i j)=some (g i j)):Ref2 (rI C g) (pII C gp):=fun W ρ σ Hs H Q K x y f h v u ok st rx ry hp q=>by
 unfold pII at hp
 split at hp
 ·cases int_of ok rx
  cases int_of ok ry
  exact ⟨_,_,rfl,rfl,hp.1,q _ _ _ H hp.2 (Step.refl ok.bag) (scal_rf (hg _ _))⟩
 ·exact hp.elim
theorem ref2_I0 (hg:∀ i j,scalV (gp i j)=some (g i j)):Ref2 (rI0 g) (pII CT gp):=fun W ρ σ Hs H Q K x y f h v u ok st rx ry hp q=>by
 unfold pII at hp
 split at hp
 ·cases int_of ok rx
  cases int_of ok ry
  exact ⟨_,_,rfl,rfl,q _ _ _ H hp.2 (Step.refl ok.bag) (scal_rf (hg _ _))⟩
 ·exact hp.elim
end
noncomputable abbrev pAddI:p2:=pII CT fun i j=>.int (i + j)
noncomputable abbrev pSubI:p2:=pII CT fun i j=>.int (i - j)
noncomputable abbrev pPowI:p2:=pII CPow fun i j=>.int (i ^ j.toNat)
noncomputable abbrev pLtI:p2:=pII CT fun i j=>.bl (decide (i<j))
noncomputable abbrev pGtI:p2:=pII CT fun i j=>.bl (decide (j<i))
theorem r_add:Ref2 (rI0 fun i j=>.int (i + j)) pAddI:=ref2_I0 fun _ _=>rfl
theorem r_sub:Ref2 (rI0 fun i j=>.int (i - j)) pSubI:=ref2_I0 fun _ _=>rfl
theorem r_pow:Ref2 (rI CPow fun i j=>.int (i ^ j.toNat)) pPowI:=ref2_I fun _ _=>rfl
theorem r_lt:Ref2 (rI0 fun i j=>.bl (decide (i<j))) pLtI:=ref2_I0 fun _ _=>rfl
theorem r_gt:Ref2 (rI0 fun i j=>.bl (decide (j<i))) pGtI:=ref2_I0 fun _ _=>rfl
section
variable {ι:Type} {Xs:ι→Cx} {a b:Expr} {pa pb:pE} {pos:Pos}
noncomputable def pNegI (p:pE):pE:=fun ρ K=>p ρ fun x _=>match x with | .int i=>K (.int (-i)) .fr | _=>False
end
noncomputable def pSS (C:Str→Str→Prop) (g:Str→Str→P):p2:=fun x _ y _ K=>match x,y with
 | .str i,.str j=>C i j∧K (g i j) .fr
 | _,_=>False
noncomputable abbrev ST:Str→Str→Prop:=fun _ _=>True
noncomputable def P.isNon:P→Bool
 | .non=>true | _=>false
noncomputable def pIsN:p2:=fun x _ y _ K=>y=.non∧K (.bl x.isNon) .fr
noncomputable def pNotN:p2:=fun x _ y _ K=>y=.non∧K (.bl (!x.isNon)) .fr
noncomputable def pIx:p2:=fun x f y _ K=>match x,y with
 | .lst xs,.int i=>∃ z,atI xs i=some z∧K z f.el
 | .tup xs,.int i=>∃ z,atI xs i=some z∧K z f.el
 | .str z,.int i=>z.length≤16777216∧∃ c,atI z.cps.toList i=some c∧K (.str ⟨#[c]⟩) .fr
 | _,_=>False
theorem Rps.atI {b:Addr} {Z:Addr→Prop} {H:Hp} {xs:List P} {vs:List V} {i:Int} {z:P} (h:Rps b Z H xs vs) (e:L2.atI xs i=some z):∃ v,L2.atI vs i=some v∧Rp b Z H z v:=by
 unfold L2.atI at e ⊢
 rw [h.length] at e
 cases hj:ixN vs.length i with
 | none=>rw [hj] at e;cases e
 | some j =>
  rw [hj] at e
  exact h.get (i:=j) e
noncomputable def rIxA:R2:=fun x y H Q=>(∃ p i xs,x=.ref p∧y=.int i∧(H p=some (.lst xs)∨H p=some (.tup xs))∧∃ v,atI xs i=some v∧Q v H)∨rIxS x y H Q
theorem ixA {X:Cx}:IxR X rIxA:=fun value slice pins s σ H x y v u Q I rx ry h hs=>by
 rcases h with ⟨p,i,xs,e1,e2,h,w,hw,q⟩ | h
 ·rcases h with h | h
  ·exact ix_list value slice pins s σ H x y v u Q I rx ry ⟨p,xs,i,w,e1,e2,.of h,hw,q⟩ hs
  ·exact ix_tup value slice pins s σ H x y v u Q I rx ry ⟨p,xs,i,w,e1,e2,.of h,hw,q⟩ hs
 ·exact ix_str value slice pins s σ H x y v u Q I rx ry h hs
theorem r_ix:Ref2 rIxA pIx:=fun W ρ σ Hs H Q K x y f h v u ok st rx ry hp q=>by
 unfold pIx at hp
 split at hp
 ·obtain ⟨z,e,hk⟩:=hp
  cases int_of ok ry
  obtain ⟨p,vs,rfl,hc,r⟩:=rx.items rfl
  obtain ⟨w,e2,r2⟩:=r.atI e
  exact .inl ⟨p,_,vs,rfl,rfl,hc,w,e2,q _ _ _ H hk (Step.refl ok.bag) (RF.ofEl r2)⟩
 ·obtain ⟨z,e,hk⟩:=hp
  cases int_of ok ry
  obtain ⟨p,vs,rfl,hc,r⟩:=rx.items rfl
  obtain ⟨w,e2,r2⟩:=r.atI e
  exact .inl ⟨p,_,vs,rfl,rfl,hc,w,e2,q _ _ _ H hk (Step.refl ok.bag) (RF.ofEl r2)⟩
 ·obtain ⟨hz,c,e,hk⟩:=hp
  cases int_of ok ry
  cases str_of ok rx
  exact .inr ⟨_,_,c,rfl,rfl,hz,e,q _ _ _ H hk (Step.refl ok.bag) rf_str⟩
 ·exact hp.elim
noncomputable def pCat:p2:=fun x f y g K=>match x,y with
 | .lst xs,.lst ys=>xs.length + ys.length≤16777216∧K (.lst (xs ++ ys)) ((topF f xs).join (topF g ys))
 | .tup xs,.tup ys=>(P.imms xs=true∧P.imms ys=true)∧xs.length + ys.length≤16777216∧K (.tup (xs ++ ys)) .fr
 | _,_=>False
noncomputable def rCatA:R2:=fun x y H Q=>(∃ p q xs ys,x=.ref p∧y=.ref q∧H p=some (.lst xs)∧H q=some (.lst ys)∧xs.length + ys.length≤sizeLine∧∀ l,H l=none→Q (.ref l) (upd H l (.lst (xs ++ ys)))) ∨
 (∃ p q xs ys,x=.ref p∧y=.ref q∧H p=some (.tup xs)∧H q=some (.tup ys)∧xs.length + ys.length≤sizeLine∧(xs=[]→Q (.ref q) H)∧(xs≠[]→ys=[]→Q (.ref p) H)∧(xs≠[]→ys≠[]→∀ l,H l=none→Q (.ref l) (upd H l (.tup (xs ++ ys)))))
theorem op_catA {X:Cx}:OpR X (binaryOp .Add) rCatA:=by
 intro pins s σ H x y v u Q I rx ry h
 rcases h with ⟨p,q,xs,ys,e1,e2,h1,h2,hz,k⟩ | ⟨p,q,xs,ys,e1,e2,h1,h2,hz,k0,k1,k2⟩
 ·exact op_cat pins s σ H x y v u Q I rx ry ⟨p,q,xs,ys,e1,e2,h1,h2,hz,k⟩
 ·by_cases hx:xs=[]
  ·subst e1;subst e2;subst hx
   cases rx;cases ry
   obtain ⟨its,r1,p1,_⟩:=I.tuple (.of h1)
   obtain ⟨its2,r2,p2,_⟩:=I.tuple (.of h2)
   cases r1
   obtain ⟨⟨cls,dd,data,sl⟩,ho,hc,n,hd⟩:=id p1
   obtain ⟨⟨cls2,dd2,data2,sl2⟩,ho2,hc2,n2,hd2⟩:=id p2
   simp only at hc hd hc2 hd2
   subst hc hd hc2 hd2
   exact concat_meets ⟨_,ho,rfl⟩ ⟨_,ho2,rfl⟩ noFill_tuple_add seq_tuple_add PySem.F.slot_tuple_add PySem.F.entry_tuple_add (PySem.F.args_tuple_add_2 _ _)
    (tuple_addW0 p q #[] its2.toArray n n2 dd dd2 sl sl2 rfl) ⟨ho,ho2,.ref q,H,I,rfl,k0 rfl⟩
  ·exact op_catT pins s σ H x y v u Q I rx ry ⟨p,q,xs,ys,e1,e2,.of h1,.of h2,hx,hz,k1 hx,k2 hx⟩
theorem topF_ok {W:Wd} {ρ:List S} {σ:St} {H:Hp} {f:Fl} {xs:List P} {vs:List V} (h:Rps W.b (Zof W ρ σ f) H xs vs):topF f xs≠.bo∧topF f xs≠.fr∧Rps W.b (Zof W ρ σ (topF f xs)) H xs vs:=by
 unfold topF
 split
 ·exact ⟨by simp,by simp,h.imm ‹_›⟩
 ·cases f <;> exact ⟨by simp [Fl.top],by simp [Fl.top],h⟩
theorem lst_cell {W:Wd} {ρ:List S} {σ:St} {H Hs:Hp} {f:Fl} {xs:List P} {v:V} (ok:Ok W ρ σ H) (r:RF W ρ σ Hs f H (.lst xs) v):∃ p vs,v=.ref p∧H p=some (.lst vs)∧Rps W.b (Zof W ρ σ f) H xs vs:=by
 obtain ⟨p,vs,rfl,hc,r2⟩:=r.items rfl
 obtain ⟨q,us,e1,_,e3,_⟩:=r.any ok
 cases e1
 rcases hc with hc | hc
 ·exact ⟨p,vs,rfl,hc,r2⟩
 ·rw [e3] at hc;cases hc
theorem tup_cell {W:Wd} {ρ:List S} {σ:St} {H Hs:Hp} {f:Fl} {xs:List P} {v:V} (ok:Ok W ρ σ H) (r:RF W ρ σ Hs f H (.tup xs) v):∃ p vs,v=.ref p∧H p=some (.tup vs)∧Rps W.b (Zof W ρ σ f) H xs vs:=by
 obtain ⟨p,vs,rfl,hc,r2⟩:=r.items rfl
 obtain ⟨q,us,e1,e3,_⟩:=r.any ok
 cases e1
 rcases hc with hc | hc
 ·rw [e3] at hc;cases hc
 ·exact ⟨p,vs,rfl,hc,r2⟩
theorem rf_newL {W:Wd} {ρ:List S} {σ:St} {H Hs:Hp} {g:Fl} {xs:List P} {vs:List V} {p:Addr} (ok:Ok W ρ σ H) (st:Step W.b W.a Hs H) (hb:g≠.bo) (hf:g≠.fr) (hr:Rps W.b (Zof W ρ σ g) H xs vs) (hp:H p=none):RF W ρ σ Hs g (upd H p (.lst vs)) (.lst xs) (.ref p):=by
 have:=RF.newL ok st hr hp
 unfold topF at this
 split at this
 ·rename_i hi
  cases g with
  | bo=>exact absurd rfl hb
  | fr=>exact absurd rfl hf
  | nw=>exact this
  | cl=>exact this.1.keep (fun q o hz e=>⟨fun z=>hz (z.elim .inl fun z=>.inr (.inl z)),e⟩) fun q us e=>e
  | rf=>exact this.1.keep (fun q o hz e=>⟨fun z=>hz (z.elim .inl fun z=>.inr (.inr z)),e⟩) fun q us e=>e
  | an=>exact this.1.keep (fun q o hz e=>⟨fun z=>hz (.inl z),e⟩) fun q us e=>e
 ·rw [RF.topped hb hf] at this;exact this
theorem r_cat:Ref2 rCatA pCat:=fun W ρ σ Hs H Q K x y f h v u ok st rx ry hp q=>by
 unfold pCat at hp
 split at hp
 ·obtain ⟨hz,hk⟩:=hp
  obtain ⟨p,vs,rfl,c1,r1⟩:=lst_cell ok rx
  obtain ⟨p2,vs2,rfl,c2,r2⟩:=lst_cell ok ry
  obtain ⟨b1,b2,r1⟩:=topF_ok r1
  obtain ⟨b3,b4,r2⟩:=topF_ok r2
  have hj:=join_sub (W:=W) (ρ:=ρ) (σ:=σ) b1 b2 b3 b4
  have hn:=join_ne b1 b2 b3 b4
  refine .inl ⟨p,p2,vs,vs2,rfl,rfl,c1,c2,by rw [←r1.length,←r2.length];exact hz,fun l hl=>q _ _ _ _ hk (Step.new ok.bag hl) ?_⟩
  exact rf_newL ok st hn.1 hn.2 ((r1.keep (fun q o hz e=>⟨fun z=>hz (hj q z).1,e⟩) fun q us e=>e).app (r2.keep (fun q o hz e=>⟨fun z=>hz (hj q z).2,e⟩) fun q us e=>e)) hl
 ·obtain ⟨⟨i1,i2⟩,hz,hk⟩:=hp
  obtain ⟨p,vs,rfl,c1,r1⟩:=tup_cell ok rx
  obtain ⟨p2,vs2,rfl,c2,r2⟩:=tup_cell ok ry
  have l1:=r1.length
  have l2:=r2.length
  have r1:Rps W.b (Zf W ρ σ) H _ vs:=r1.imm i1
  have r2:Rps W.b (Zf W ρ σ) H _ vs2:=r2.imm i2
  refine .inr ⟨p,p2,vs,vs2,rfl,rfl,c1,c2,by rw [←l1,←l2];exact hz,fun e=>?_,fun e e2=>?_,fun _ _ l hl=>?_⟩
  ·subst e
   refine q _ _ _ _ hk (Step.refl ok.bag) ?_
   rw [List.length_eq_zero_iff.mp l1,List.nil_append]
   exact ⟨p2,vs2,rfl,c2,r2⟩
  ·subst e2
   refine q _ _ _ _ hk (Step.refl ok.bag) ?_
   rw [List.length_eq_zero_iff.mp l2,List.append_nil]
   exact ⟨p,vs,rfl,c1,r1⟩
  ·refine q _ _ _ _ hk (Step.new ok.bag hl) ?_
   exact ⟨l,vs ++ vs2,rfl,upd_same,(r1.app r2).step (f:=.fr) (Step.new ok.bag hl) ok.bag⟩
 ·exact hp.elim
section
variable {W:Wd} {ρ:List S} {σ:St} {H Hs:Hp}
theorem RFs.one {x:P} {f:Fl} {vs:List V} (h:RFs W ρ σ Hs H [(x,f)] vs):∃ v,vs=[v]∧RF W ρ σ Hs f H x v:=by
 obtain ⟨v,t,rfl,h2,h3⟩:=h
 cases (show t=[] from h3)
 exact ⟨v,rfl,h2⟩
end
noncomputable def p1 (g:P→Fl→(P→Fl→Prop)→Prop):pC:=fun xs K=>match xs with | [(x,f)]=>g x f K | _=>False
noncomputable def pLen:pC:=p1 fun x _ K=>match x with
 | .lst xs=>K (.int xs.length) .fr
 | .tup xs=>K (.int xs.length) .fr
 | .str z=>z.length≤16777216∧K (.int z.length) .fr
 | _=>False
noncomputable def rLenA:List V→Hp→VK→Prop:=fun xs H Q=>(∃ p ys,xs=[.ref p]∧(H p=some (.lst ys)∨H p=some (.tup ys))∧Q (.int ys.length) H)∨∃ z,xs=[.str z]∧z.length≤sizeLine∧Q (.int z.length) H
theorem call_lenA {X:Cx}:CallR X (.builtin "len") rLenA:=by
 intro pins s σ H xs us Q I r h
 rcases h with ⟨p,ys,rfl,hp,q⟩ | h
 ·exact call_len_seq pins s σ H _ us Q I r ⟨p,ys,rfl,hp.elim (fun z=>.inl (.of z)) (fun z=>.inr (.of z)),q⟩
 ·exact call_len_str pins s σ H _ us Q I r h
theorem r_len:RefC rLenA pLen:=fun W ρ σ Hs H Q K xs vs ok st r hp q=>by
 unfold pLen p1 at hp
 split at hp
 ·obtain ⟨v,rfl,rv⟩:=r.one
  split at hp
  ·obtain ⟨p,us,rfl,c,r1⟩:=lst_cell ok rv
   exact .inl ⟨p,us,rfl,.inl c,by rw [←r1.length];exact q _ _ _ H hp (Step.refl ok.bag) rf_int⟩
  ·obtain ⟨p,us,rfl,c,r1⟩:=tup_cell ok rv
   exact .inl ⟨p,us,rfl,.inr c,by rw [←r1.length];exact q _ _ _ H hp (Step.refl ok.bag) rf_int⟩
  ·cases str_of ok rv
   exact .inr ⟨_,rfl,hp.1,q _ _ _ H hp.2 (Step.refl ok.bag) rf_int⟩
  ·exact hp.elim
 ·exact hp.elim
noncomputable def pListC:pC:=p1 fun x f K=>match x with
 | .lst xs=>K (.lst xs) (topF f xs)
 | .tup xs=>K (.lst xs) (topF f xs)
 | _=>False
theorem r_list:RefC (fun xs H Q=>∃ p ys,xs=[.ref p]∧(H p=some (.lst ys)∨H p=some (.tup ys))∧∀ l,H l=none→Q (.ref l) (upd H l (.lst ys))) pListC:=fun W ρ σ Hs H Q K xs vs ok st r hp q=>by
 unfold pListC p1 at hp
 split at hp
 ·obtain ⟨v,rfl,rv⟩:=r.one
  split at hp
  ·obtain ⟨p,us,rfl,c,r1⟩:=lst_cell ok rv
   exact ⟨p,us,rfl,.inl c,fun l hl=>q _ _ _ _ hp (Step.new ok.bag hl) (RF.newL ok st r1 hl)⟩
  ·obtain ⟨p,us,rfl,c,r1⟩:=tup_cell ok rv
   exact ⟨p,us,rfl,.inr c,fun l hl=>q _ _ _ _ hp (Step.new ok.bag hl) (RF.newL ok st r1 hl)⟩
  ·exact hp.elim
 ·exact hp.elim
noncomputable def pTupC:pC:=p1 fun x f K=>match x with
 | .lst xs=>K (.tup xs) (topF f xs)
 | _=>False
theorem r_tuple:RefC (fun xs H Q=>∃ p ys,xs=[.ref p]∧H p=some (.lst ys)∧∀ l,H l=none→Q (.ref l) (upd H l (.tup ys))) pTupC:=fun W ρ σ Hs H Q K xs vs ok st r hp q=>by
 unfold pTupC p1 at hp
 split at hp
 ·obtain ⟨v,rfl,rv⟩:=r.one
  split at hp
  ·obtain ⟨p,us,rfl,c,r1⟩:=lst_cell ok rv
   exact ⟨p,us,rfl,c,fun l hl=>q _ _ _ _ hp (Step.new ok.bag hl) (RF.newT ok r1 hl)⟩
  ·exact hp.elim
 ·exact hp.elim
noncomputable def pAll:pC:=p1 fun x f K=>∃ bs:List Bool,x=.lst (bs.map P.bl)∧K (.bl (bs.all id)) .fr
theorem r_all {Kf:PySem.W.Frag}:RefC (fun xs H Q=>∃ (p:Addr) (bs:List Bool),xs=[.ref p]∧SqL Kf H p (bs.map V.bl)∧Q (.bl (bs.all id)) H) pAll:=fun W ρ σ Hs H Q K xs vs ok st r hp q=>by
 unfold pAll p1 at hp
 split at hp
 ·obtain ⟨v,rfl,rv⟩:=r.one
  obtain ⟨bs,rfl,hk⟩:=hp
  obtain ⟨p,us,rfl,c,r1⟩:=lst_cell ok rv
  rw [Rps.bls.mp r1] at c
  exact ⟨p,bs,rfl,.of c,q _ _ _ H hk (Step.refl ok.bag) rf_bl⟩
 ·exact hp.elim
noncomputable def pSortS:pC:=p1 fun x f K=>∃ ss:List Str,x=.lst (ss.map P.str)∧ss.length<64∧∀ ss':List Str,ss'.Perm ss→sortedS ss'=true→K (.lst (ss'.map P.str)) .nw
theorem r_sortS:RefC (fun xs H Q=>∃ (p:Addr) (ss:List Str),xs=[.ref p]∧H p=some (.lst (ss.map V.str))∧ss.length<64∧∀ (l:Addr) (ss':List Str),H l=none→ss'.Perm ss→sortedS ss'=true→Q (.ref l) (upd H l (.lst (ss'.map V.str)))) pSortS:=fun W ρ σ Hs H Q K xs vs ok st r hp q=>by
 unfold pSortS p1 at hp
 split at hp
 ·obtain ⟨v,rfl,rv⟩:=r.one
  obtain ⟨ss,rfl,h64,hk⟩:=hp
  obtain ⟨p,us,rfl,c,r1⟩:=lst_cell ok rv
  rw [Rps.strs.mp r1] at c
  exact ⟨p,ss,rfl,c,h64,fun l ss' hl h1 h2=>q _ _ _ _ (hk ss' h1 h2) (Step.new ok.bag hl) (rf_newL (g:=.nw) ok st (by simp) (by simp) (Rps.strs.mpr rfl) hl)⟩
 ·exact hp.elim
noncomputable def tyN:P→String
 | .non=>"NoneType" | .bl _=>"bool" | .int _=>"int" | .str _=>"str" | .tup _=>"tuple" | .lst _=>"list" | .dT _ _=>"dict" | .dK _ _=>"dict" | .bag=>"list"
noncomputable def isTy (n:String) (x:P):Bool:=decide (tyN x=n) || (decide (n="int") && decide (tyN x="bool"))
noncomputable def pIsInst (n:String) (p:pE):pE:=fun ρ K=>p ρ fun x _=>K (.bl (isTy n x)) .fr
theorem kit_ok (K:PySem.W.Frag) {n:String} (hn:n="bool"∨n="int"∨n="tuple"∨n="list"∨n="str") (x:P):PySem.W.kitOne K (.type (tyN x)) (.type n)=some (isTy n x):=by
 rcases hn with rfl | rfl | rfl | rfl | rfl <;> cases x <;> rfl
theorem ty_of {K:PySem.W.Frag} {b a:Addr} {Z:Addr→Prop} {H:Hp} {x:P} {v:V} (hb:Bag H b a) (h:Rp b Z H x v):TyOf K H v (.type (tyN x)):=by
 cases x with
 | non=>rw [show v=_ from h];exact .non
 | bl k=>rw [show v=_ from h];exact .bl k
 | int k=>rw [show v=_ from h];exact .int k
 | str k=>rw [show v=_ from h];exact .str k
 | bag=>rw [show v=_ from h];obtain ⟨l,e⟩:=hb.atb;exact .lst e
 | tup xs=>obtain ⟨p,vs,e,e2,_⟩:=h;rw [e];exact .tup e2
 | lst xs=>obtain ⟨p,vs,e,_,e2,_⟩:=h;rw [e];exact .lst e2
 | dT ks xs=>obtain ⟨p,vs,e,_,e2,_⟩:=h;rw [e];exact .dT e2
 | dK ks xs=>obtain ⟨p,vs,e,_,e2,_⟩:=h;rw [e];exact .dK e2
section
variable {ι:Type} {Xs:ι→Cx} {a:Expr} {pa:pE} {pos:Pos} {Kf:PySem.W.Frag}
theorem qe_isinst {n:String} {x:Str} {p1 p2:Pos} (hn:n="bool"∨n="int"∨n="tuple"∨n="list"∨n="str") (hK:∀ i,(Xs i).K=Kf) (hm:∀ i,(Xs i).mg "isinstance"=none) (hm2:∀ i,(Xs i).mg x=none) (hv2:bootBuiltins x=some (.type n)) (h:QE Xs a pa)
  (hg:∀ i,Gl (Xs i) "isinstance":=by intro _;rfl) (hg2:∀ i,Gl (Xs i) x:=by intro _;rfl) (hx:x≠"__name__":=by decide +kernel) (hdx:(x == ("__debug__":Str))=false:=by decide +kernel)
  (he:∀ i,starEach [a,.Name x p2] (Xs i).env=[(false,eval a (Xs i).env),(false,eval (.Name x p2) (Xs i).env)]:=by intro _;rfl) :
  QE Xs (.Call (.Name "isinstance" p1) [a,.Name x p2] [] pos) (pIsInst n pa):=by
 obtain ⟨t,h1,h2⟩:=h
 refine ⟨tCB (fun xs H Q=>∃ x t n b,xs=[x,.ty n]∧TyOf Kf H x t∧PySem.W.kitOne Kf t (.type n)=some b∧Q (.bl b) H) (tCons t (tCons (tC (.ty n)) tNil)),fun i=>?_,fun W ρ σ H Q K ok hk q=>h2 W ρ σ H _ _ ok hk fun x f v H1 k1 s1 r1=>?_⟩
 ·have hc:CallR (Xs i) (.builtin "isinstance") (fun xs H Q=>∃ x t n b,xs=[x,.ty n]∧TyOf Kf H x t∧PySem.W.kitOne Kf t (.type n)=some b∧Q (.bl b) H):=by
   rw [←hK i];exact call_isinst
  refine pe_callB hc (hg i) (hm i) (by decide +kernel) (pa_cons (h1 i) (pa_cons (pe_bltn (v:=.ty n) (hg2 i) (hm2 i) hv2 rfl hx hdx) pa_nil (by rfl)) ?_) (by decide +kernel) (by decide +kernel) ?_ ?_
  ·exact he i
  ·exact he i
  ·rfl
 ·exact ⟨v,.type (tyN x),n,_,rfl,ty_of s1.bag (r1.any (ok.step s1)),kit_ok Kf hn x,q _ _ _ H1 k1 s1 rf_bl⟩
end
end L2
set_option Elab.async false
set_option linter.all false
set_option maxRecDepth 100000
set_option maxHeartbeats 4000000
namespace L2
open PySem PySem.Spec PyProof.Rows PySem.SeqAt
mutual
noncomputable def eqP:P→P→Bool
 | .non,.non=>true
 | .bl a,.bl b=>a == b
 | .int a,.int b=>a == b
 | .str a,.str b=>a == b
 | .bl a,.int b=>(if a then 1 else 0) == b
 | .int a,.bl b=>a == (if b then 1 else 0)
 | .tup xs,.tup ys=>eqPs xs ys
 | .lst xs,.lst ys=>eqPs xs ys
 | _,_=>false
noncomputable def eqPs:List P→List P→Bool
 | [],[]=>true
 | x :: xs,y :: ys=>eqP x y && eqPs xs ys
 | _,_=>false
end
noncomputable def P.pl:Nat→P→Bool
 | _,.non=>true | _,.bl _=>true | _,.int _=>true | _,.str _=>true
 | n + 1,.tup xs=>xs.all (P.pl n)
 | n + 1,.lst xs=>xs.all (P.pl n)
 | _,_=>false
theorem eqPs_range:∀ {xs ys:List P} {e:Nat→Bool},(∀ j x y,xs[j]?=some x→ys[j]?=some y→e j=eqP x y)→((List.range (min xs.length ys.length)).all e && xs.length == ys.length)=eqPs xs ys
 | [],[],e,_=>rfl
 | [],_ :: _,e,_=>by simp [eqPs]
 | _ :: _,[],e,_=>by simp [eqPs]
 | x :: xs,y :: ys,e,h=>by
  have ih:=eqPs_range (xs:=xs) (ys:=ys) (e:=fun j=>e (j + 1)) fun j a b h1 h2=>h (j + 1) a b (by simpa using h1) (by simpa using h2)
  have h0:=h 0 x y rfl rfl
  rw [eqPs,←ih,←h0]
  have e1:min (x :: xs).length (y :: ys).length=min xs.length ys.length + 1:=by simp
  rw [e1,List.range_succ_eq_map,List.all_cons,List.all_map]
  have e2:((x :: xs).length == (y :: ys).length)=(xs.length == ys.length):=by
   rw [Bool.eq_iff_iff];simp
  rw [e2,Bool.and_assoc]
  rfl
theorem eq_sc {A:Around} {s:Shared} {x y:P} {v u:V} {v' u':Value} (sx:scalV x=some v) (sy:scalV y=some u) (qv:RelV v v') (qu:RelV u u'):EqAt A s v' u' (eqP x y):=by
 cases x with
 | non =>
  cases (Option.some.inj (show some _=some v from sx))
  cases (show _=Value.none from qv)
  cases y with
  | non=>cases (Option.some.inj (show some _=some u from sy));cases (show _=Value.none from qu);simp only [eqP,Bool.not_false,Bool.not_true];exact EqAt.same _
  | bl _=>cases (Option.some.inj (show some _=some u from sy));cases (show _=Value.bool _ from qu);simp only [eqP,Bool.not_false,Bool.not_true];exact EqAt.none_bool _
  | int _=>cases (Option.some.inj (show some _=some u from sy));obtain ⟨_,e_qu⟩:=(show ∃ t,_=Value.int _ t from qu);subst e_qu;simp only [eqP,Bool.not_false,Bool.not_true];exact EqAt.none_int _ _
  | str _=>cases (Option.some.inj (show some _=some u from sy));obtain ⟨_,e_qu⟩:=(show ∃ t,_=Value.str _ t from qu);subst e_qu;simp only [eqP,Bool.not_false,Bool.not_true];exact EqAt.none_str _ _
  | _=>cases sy
 | bl _ =>
  cases (Option.some.inj (show some _=some v from sx))
  cases (show _=Value.bool _ from qv)
  cases y with
  | non=>cases (Option.some.inj (show some _=some u from sy));cases (show _=Value.none from qu);simp only [eqP,Bool.not_false,Bool.not_true];exact EqAt.bool_none _
  | bl _=>cases (Option.some.inj (show some _=some u from sy));cases (show _=Value.bool _ from qu);simp only [eqP,Bool.not_false,Bool.not_true];exact EqAt.bool_bool _ _
  | int _=>cases (Option.some.inj (show some _=some u from sy));obtain ⟨_,e_qu⟩:=(show ∃ t,_=Value.int _ t from qu);subst e_qu;simp only [eqP,Bool.not_false,Bool.not_true];exact EqAt.bool_int _ _ _
  | str _=>cases (Option.some.inj (show some _=some u from sy));obtain ⟨_,e_qu⟩:=(show ∃ t,_=Value.str _ t from qu);subst e_qu;simp only [eqP,Bool.not_false,Bool.not_true];exact EqAt.bool_str _ _ _
  | _=>cases sy
 | int _ =>
  cases (Option.some.inj (show some _=some v from sx))
  obtain ⟨_,e_qv⟩:=(show ∃ t,_=Value.int _ t from qv);subst e_qv
  cases y with
  | non=>cases (Option.some.inj (show some _=some u from sy));cases (show _=Value.none from qu);simp only [eqP,Bool.not_false,Bool.not_true];exact EqAt.int_none _ _
  | bl _=>cases (Option.some.inj (show some _=some u from sy));cases (show _=Value.bool _ from qu);simp only [eqP,Bool.not_false,Bool.not_true];exact EqAt.int_bool _ _ _
  | int _=>cases (Option.some.inj (show some _=some u from sy));obtain ⟨_,e_qu⟩:=(show ∃ t,_=Value.int _ t from qu);subst e_qu;simp only [eqP,Bool.not_false,Bool.not_true];exact EqAt.int_int _ _ _ _
  | str _=>cases (Option.some.inj (show some _=some u from sy));obtain ⟨_,e_qu⟩:=(show ∃ t,_=Value.str _ t from qu);subst e_qu;simp only [eqP,Bool.not_false,Bool.not_true];exact EqAt.int_str _ _ _ _
  | _=>cases sy
 | str _ =>
  cases (Option.some.inj (show some _=some v from sx))
  obtain ⟨_,e_qv⟩:=(show ∃ t,_=Value.str _ t from qv);subst e_qv
  cases y with
  | non=>cases (Option.some.inj (show some _=some u from sy));cases (show _=Value.none from qu);simp only [eqP,Bool.not_false,Bool.not_true];exact EqAt.str_none _ _
  | bl _=>cases (Option.some.inj (show some _=some u from sy));cases (show _=Value.bool _ from qu);simp only [eqP,Bool.not_false,Bool.not_true];exact EqAt.str_bool _ _ _
  | int _=>cases (Option.some.inj (show some _=some u from sy));obtain ⟨_,e_qu⟩:=(show ∃ t,_=Value.int _ t from qu);subst e_qu;simp only [eqP,Bool.not_false,Bool.not_true];exact EqAt.str_int _ _ _ _
  | str _=>cases (Option.some.inj (show some _=some u from sy));obtain ⟨_,e_qu⟩:=(show ∃ t,_=Value.str _ t from qu);subst e_qu;simp only [eqP,Bool.not_false,Bool.not_true];exact EqAt.str_str _ _ _ _
  | _=>cases sy
 | _=>cases sx
theorem ne_sc {A:Around} {s:Shared} {x y:P} {v u:V} {v' u':Value} (sx:scalV x=some v) (sy:scalV y=some u) (qv:RelV v v') (qu:RelV u u'):RcNeAt A s v' u' (!eqP x y):=by
 cases x with
 | non =>
  cases (Option.some.inj (show some _=some v from sx))
  cases (show _=Value.none from qv)
  cases y with
  | non=>cases (Option.some.inj (show some _=some u from sy));cases (show _=Value.none from qu);simp only [eqP,Bool.not_false,Bool.not_true];exact RcNeAt.none_none
  | bl _=>cases (Option.some.inj (show some _=some u from sy));cases (show _=Value.bool _ from qu);simp only [eqP,Bool.not_false,Bool.not_true];exact RcNeAt.none_bool _
  | int _=>cases (Option.some.inj (show some _=some u from sy));obtain ⟨_,e_qu⟩:=(show ∃ t,_=Value.int _ t from qu);subst e_qu;simp only [eqP,Bool.not_false,Bool.not_true];exact RcNeAt.none_int _ _
  | str _=>cases (Option.some.inj (show some _=some u from sy));obtain ⟨_,e_qu⟩:=(show ∃ t,_=Value.str _ t from qu);subst e_qu;simp only [eqP,Bool.not_false,Bool.not_true];exact RcNeAt.none_str _ _
  | _=>cases sy
 | bl _ =>
  cases (Option.some.inj (show some _=some v from sx))
  cases (show _=Value.bool _ from qv)
  cases y with
  | non=>cases (Option.some.inj (show some _=some u from sy));cases (show _=Value.none from qu);simp only [eqP,Bool.not_false,Bool.not_true];exact RcNeAt.bool_none _
  | bl _=>cases (Option.some.inj (show some _=some u from sy));cases (show _=Value.bool _ from qu);simp only [eqP,Bool.not_false,Bool.not_true];exact RcNeAt.bool_bool _ _
  | int _=>cases (Option.some.inj (show some _=some u from sy));obtain ⟨_,e_qu⟩:=(show ∃ t,_=Value.int _ t from qu);subst e_qu;simp only [eqP,Bool.not_false,Bool.not_true];exact RcNeAt.bool_int _ _ _
  | str _=>cases (Option.some.inj (show some _=some u from sy));obtain ⟨_,e_qu⟩:=(show ∃ t,_=Value.str _ t from qu);subst e_qu;simp only [eqP,Bool.not_false,Bool.not_true];exact RcNeAt.bool_str _ _ _
  | _=>cases sy
 | int _ =>
  cases (Option.some.inj (show some _=some v from sx))
  obtain ⟨_,e_qv⟩:=(show ∃ t,_=Value.int _ t from qv);subst e_qv
  cases y with
  | non=>cases (Option.some.inj (show some _=some u from sy));cases (show _=Value.none from qu);simp only [eqP,Bool.not_false,Bool.not_true];exact RcNeAt.int_none _ _
  | bl _=>cases (Option.some.inj (show some _=some u from sy));cases (show _=Value.bool _ from qu);simp only [eqP,Bool.not_false,Bool.not_true];exact RcNeAt.int_bool _ _ _
  | int _=>cases (Option.some.inj (show some _=some u from sy));obtain ⟨_,e_qu⟩:=(show ∃ t,_=Value.int _ t from qu);subst e_qu;simp only [eqP,Bool.not_false,Bool.not_true];exact RcNeAt.int_int _ _ _ _
  | str _=>cases (Option.some.inj (show some _=some u from sy));obtain ⟨_,e_qu⟩:=(show ∃ t,_=Value.str _ t from qu);subst e_qu;simp only [eqP,Bool.not_false,Bool.not_true];exact RcNeAt.int_str _ _ _ _
  | _=>cases sy
 | str _ =>
  cases (Option.some.inj (show some _=some v from sx))
  obtain ⟨_,e_qv⟩:=(show ∃ t,_=Value.str _ t from qv);subst e_qv
  cases y with
  | non=>cases (Option.some.inj (show some _=some u from sy));cases (show _=Value.none from qu);simp only [eqP,Bool.not_false,Bool.not_true];exact RcNeAt.str_none _ _
  | bl _=>cases (Option.some.inj (show some _=some u from sy));cases (show _=Value.bool _ from qu);simp only [eqP,Bool.not_false,Bool.not_true];exact RcNeAt.str_bool _ _ _
  | int _=>cases (Option.some.inj (show some _=some u from sy));obtain ⟨_,e_qu⟩:=(show ∃ t,_=Value.int _ t from qu);subst e_qu;simp only [eqP,Bool.not_false,Bool.not_true];exact RcNeAt.str_int _ _ _ _
  | str _=>cases (Option.some.inj (show some _=some u from sy));obtain ⟨_,e_qu⟩:=(show ∃ t,_=Value.str _ t from qu);subst e_qu;simp only [eqP,Bool.not_false,Bool.not_true];exact RcNeAt.str_str _ _ _ _
  | _=>cases sy
 | _=>cases sx
theorem rc_sc {A:Around} {s:Shared} {x y:P} {v u:V} {v' u':Value} (sx:scalV x=some v) (sy:scalV y=some u) (qv:RelV v v') (qu:RelV u u'):RcAt A s v' u' (eqP x y):=by
 cases x with
 | non =>
  cases (Option.some.inj (show some _=some v from sx))
  cases (show _=Value.none from qv)
  cases y with
  | non=>cases (Option.some.inj (show some _=some u from sy));cases (show _=Value.none from qu);simp only [eqP,Bool.not_false,Bool.not_true];exact RcAt.none_none
  | bl _=>cases (Option.some.inj (show some _=some u from sy));cases (show _=Value.bool _ from qu);simp only [eqP,Bool.not_false,Bool.not_true];exact RcAt.none_bool _
  | int _=>cases (Option.some.inj (show some _=some u from sy));obtain ⟨_,e_qu⟩:=(show ∃ t,_=Value.int _ t from qu);subst e_qu;simp only [eqP,Bool.not_false,Bool.not_true];exact RcAt.none_int _ _
  | str _=>cases (Option.some.inj (show some _=some u from sy));obtain ⟨_,e_qu⟩:=(show ∃ t,_=Value.str _ t from qu);subst e_qu;simp only [eqP,Bool.not_false,Bool.not_true];exact RcAt.none_str _ _
  | _=>cases sy
 | bl _ =>
  cases (Option.some.inj (show some _=some v from sx))
  cases (show _=Value.bool _ from qv)
  cases y with
  | non=>cases (Option.some.inj (show some _=some u from sy));cases (show _=Value.none from qu);simp only [eqP,Bool.not_false,Bool.not_true];exact RcAt.bool_none _
  | bl _=>cases (Option.some.inj (show some _=some u from sy));cases (show _=Value.bool _ from qu);simp only [eqP,Bool.not_false,Bool.not_true];exact RcAt.bool_bool _ _
  | int _=>cases (Option.some.inj (show some _=some u from sy));obtain ⟨_,e_qu⟩:=(show ∃ t,_=Value.int _ t from qu);subst e_qu;simp only [eqP,Bool.not_false,Bool.not_true];exact RcAt.bool_int _ _ _
  | str _=>cases (Option.some.inj (show some _=some u from sy));obtain ⟨_,e_qu⟩:=(show ∃ t,_=Value.str _ t from qu);subst e_qu;simp only [eqP,Bool.not_false,Bool.not_true];exact RcAt.bool_str _ _ _
  | _=>cases sy
 | int _ =>
  cases (Option.some.inj (show some _=some v from sx))
  obtain ⟨_,e_qv⟩:=(show ∃ t,_=Value.int _ t from qv);subst e_qv
  cases y with
  | non=>cases (Option.some.inj (show some _=some u from sy));cases (show _=Value.none from qu);simp only [eqP,Bool.not_false,Bool.not_true];exact RcAt.int_none _ _
  | bl _=>cases (Option.some.inj (show some _=some u from sy));cases (show _=Value.bool _ from qu);simp only [eqP,Bool.not_false,Bool.not_true];exact RcAt.int_bool _ _ _
  | int _=>cases (Option.some.inj (show some _=some u from sy));obtain ⟨_,e_qu⟩:=(show ∃ t,_=Value.int _ t from qu);subst e_qu;simp only [eqP,Bool.not_false,Bool.not_true];exact RcAt.int_int _ _ _ _
  | str _=>cases (Option.some.inj (show some _=some u from sy));obtain ⟨_,e_qu⟩:=(show ∃ t,_=Value.str _ t from qu);subst e_qu;simp only [eqP,Bool.not_false,Bool.not_true];exact RcAt.int_str _ _ _ _
  | _=>cases sy
 | str _ =>
  cases (Option.some.inj (show some _=some v from sx))
  obtain ⟨_,e_qv⟩:=(show ∃ t,_=Value.str _ t from qv);subst e_qv
  cases y with
  | non=>cases (Option.some.inj (show some _=some u from sy));cases (show _=Value.none from qu);simp only [eqP,Bool.not_false,Bool.not_true];exact RcAt.str_none _ _
  | bl _=>cases (Option.some.inj (show some _=some u from sy));cases (show _=Value.bool _ from qu);simp only [eqP,Bool.not_false,Bool.not_true];exact RcAt.str_bool _ _ _
  | int _=>cases (Option.some.inj (show some _=some u from sy));obtain ⟨_,e_qu⟩:=(show ∃ t,_=Value.int _ t from qu);subst e_qu;simp only [eqP,Bool.not_false,Bool.not_true];exact RcAt.str_int _ _ _ _
  | str _=>cases (Option.some.inj (show some _=some u from sy));obtain ⟨_,e_qu⟩:=(show ∃ t,_=Value.str _ t from qu);subst e_qu;simp only [eqP,Bool.not_false,Bool.not_true];exact RcAt.str_str _ _ _ _
  | _=>cases sy
 | _=>cases sx
theorem eq_list_l {A:Around} {s:Shared} {y:P} {u:V} {u':Value} {l:Addr} {its:Array Value} (hl:s.heap.IsList l its) (hu:A.units<cLine) (sy:scalV y=some u) (qu:RelV u u'):EqAt A s (.ref l) u' false:=by
 cases y with
 | non=>cases (Option.some.inj (show some _=some u from sy));cases (show _=Value.none from qu);exact EqAt.list_none hl hu
 | bl _=>cases (Option.some.inj (show some _=some u from sy));cases (show _=Value.bool _ from qu);exact EqAt.list_bool _ hl hu
 | int _=>cases (Option.some.inj (show some _=some u from sy));obtain ⟨_,e_qu⟩:=(show ∃ t,_=Value.int _ t from qu);subst e_qu;exact EqAt.list_int _ _ hl hu
 | str _=>cases (Option.some.inj (show some _=some u from sy));obtain ⟨_,e_qu⟩:=(show ∃ t,_=Value.str _ t from qu);subst e_qu;exact EqAt.list_str _ _ hl hu
 | _=>cases sy
theorem eq_list_r {A:Around} {s:Shared} {y:P} {u:V} {u':Value} {l:Addr} {its:Array Value} (hl:s.heap.IsList l its) (hu:A.units<cLine) (sy:scalV y=some u) (qu:RelV u u'):EqAt A s u' (.ref l) false:=by
 cases y with
 | non=>cases (Option.some.inj (show some _=some u from sy));cases (show _=Value.none from qu);exact EqAt.none_list hl hu
 | bl _=>cases (Option.some.inj (show some _=some u from sy));cases (show _=Value.bool _ from qu);exact EqAt.bool_list _ hl hu
 | int _=>cases (Option.some.inj (show some _=some u from sy));obtain ⟨_,e_qu⟩:=(show ∃ t,_=Value.int _ t from qu);subst e_qu;exact EqAt.int_list _ _ hl hu
 | str _=>cases (Option.some.inj (show some _=some u from sy));obtain ⟨_,e_qu⟩:=(show ∃ t,_=Value.str _ t from qu);subst e_qu;exact EqAt.str_list _ _ hl hu
 | _=>cases sy
theorem eq_tuple_l {A:Around} {s:Shared} {y:P} {u:V} {u':Value} {l:Addr} {its:Array Value} (hl:s.heap.IsTuple l its) (hu:A.units<cLine) (sy:scalV y=some u) (qu:RelV u u'):EqAt A s (.ref l) u' false:=by
 cases y with
 | non=>cases (Option.some.inj (show some _=some u from sy));cases (show _=Value.none from qu);exact EqAt.tuple_none hl hu
 | bl _=>cases (Option.some.inj (show some _=some u from sy));cases (show _=Value.bool _ from qu);exact EqAt.tuple_bool _ hl hu
 | int _=>cases (Option.some.inj (show some _=some u from sy));obtain ⟨_,e_qu⟩:=(show ∃ t,_=Value.int _ t from qu);subst e_qu;exact EqAt.tuple_int _ _ hl hu
 | str _=>cases (Option.some.inj (show some _=some u from sy));obtain ⟨_,e_qu⟩:=(show ∃ t,_=Value.str _ t from qu);subst e_qu;exact EqAt.tuple_str _ _ hl hu
 | _=>cases sy
theorem eq_tuple_r {A:Around} {s:Shared} {y:P} {u:V} {u':Value} {l:Addr} {its:Array Value} (hl:s.heap.IsTuple l its) (hu:A.units<cLine) (sy:scalV y=some u) (qu:RelV u u'):EqAt A s u' (.ref l) false:=by
 cases y with
 | non=>cases (Option.some.inj (show some _=some u from sy));cases (show _=Value.none from qu);exact EqAt.none_tuple hl hu
 | bl _=>cases (Option.some.inj (show some _=some u from sy));cases (show _=Value.bool _ from qu);exact EqAt.bool_tuple _ hl hu
 | int _=>cases (Option.some.inj (show some _=some u from sy));obtain ⟨_,e_qu⟩:=(show ∃ t,_=Value.int _ t from qu);subst e_qu;exact EqAt.int_tuple _ _ hl hu
 | str _=>cases (Option.some.inj (show some _=some u from sy));obtain ⟨_,e_qu⟩:=(show ∃ t,_=Value.str _ t from qu);subst e_qu;exact EqAt.str_tuple _ _ hl hu
 | _=>cases sy
theorem ne_list_l {A:Around} {s:Shared} {y:P} {u:V} {u':Value} {l:Addr} {its:Array Value} (hl:s.heap.IsList l its) (hu:A.units<cLine) (sy:scalV y=some u) (qu:RelV u u'):RcNeAt A s (.ref l) u' true:=by
 cases y with
 | non=>cases (Option.some.inj (show some _=some u from sy));cases (show _=Value.none from qu);exact RcNeAt.list_none hl hu
 | bl _=>cases (Option.some.inj (show some _=some u from sy));cases (show _=Value.bool _ from qu);exact RcNeAt.list_bool _ hl hu
 | int _=>cases (Option.some.inj (show some _=some u from sy));obtain ⟨_,e_qu⟩:=(show ∃ t,_=Value.int _ t from qu);subst e_qu;exact RcNeAt.list_int _ _ hl hu
 | str _=>cases (Option.some.inj (show some _=some u from sy));obtain ⟨_,e_qu⟩:=(show ∃ t,_=Value.str _ t from qu);subst e_qu;exact RcNeAt.list_str _ _ hl hu
 | _=>cases sy
theorem ne_list_r {A:Around} {s:Shared} {y:P} {u:V} {u':Value} {l:Addr} {its:Array Value} (hl:s.heap.IsList l its) (hu:A.units<cLine) (sy:scalV y=some u) (qu:RelV u u'):RcNeAt A s u' (.ref l) true:=by
 cases y with
 | non=>cases (Option.some.inj (show some _=some u from sy));cases (show _=Value.none from qu);exact RcNeAt.none_list hl hu
 | bl _=>cases (Option.some.inj (show some _=some u from sy));cases (show _=Value.bool _ from qu);exact RcNeAt.bool_list _ hl hu
 | int _=>cases (Option.some.inj (show some _=some u from sy));obtain ⟨_,e_qu⟩:=(show ∃ t,_=Value.int _ t from qu);subst e_qu;exact RcNeAt.int_list _ _ hl hu
 | str _=>cases (Option.some.inj (show some _=some u from sy));obtain ⟨_,e_qu⟩:=(show ∃ t,_=Value.str _ t from qu);subst e_qu;exact RcNeAt.str_list _ _ hl hu
 | _=>cases sy
theorem ne_tuple_l {A:Around} {s:Shared} {y:P} {u:V} {u':Value} {l:Addr} {its:Array Value} (hl:s.heap.IsTuple l its) (hu:A.units<cLine) (sy:scalV y=some u) (qu:RelV u u'):RcNeAt A s (.ref l) u' true:=by
 cases y with
 | non=>cases (Option.some.inj (show some _=some u from sy));cases (show _=Value.none from qu);exact RcNeAt.tuple_none hl hu
 | bl _=>cases (Option.some.inj (show some _=some u from sy));cases (show _=Value.bool _ from qu);exact RcNeAt.tuple_bool _ hl hu
 | int _=>cases (Option.some.inj (show some _=some u from sy));obtain ⟨_,e_qu⟩:=(show ∃ t,_=Value.int _ t from qu);subst e_qu;exact RcNeAt.tuple_int _ _ hl hu
 | str _=>cases (Option.some.inj (show some _=some u from sy));obtain ⟨_,e_qu⟩:=(show ∃ t,_=Value.str _ t from qu);subst e_qu;exact RcNeAt.tuple_str _ _ hl hu
 | _=>cases sy
theorem ne_tuple_r {A:Around} {s:Shared} {y:P} {u:V} {u':Value} {l:Addr} {its:Array Value} (hl:s.heap.IsTuple l its) (hu:A.units<cLine) (sy:scalV y=some u) (qu:RelV u u'):RcNeAt A s u' (.ref l) true:=by
 cases y with
 | non=>cases (Option.some.inj (show some _=some u from sy));cases (show _=Value.none from qu);exact RcNeAt.none_tuple hl hu
 | bl _=>cases (Option.some.inj (show some _=some u from sy));cases (show _=Value.bool _ from qu);exact RcNeAt.bool_tuple _ hl hu
 | int _=>cases (Option.some.inj (show some _=some u from sy));obtain ⟨_,e_qu⟩:=(show ∃ t,_=Value.int _ t from qu);subst e_qu;exact RcNeAt.int_tuple _ _ hl hu
 | str _=>cases (Option.some.inj (show some _=some u from sy));obtain ⟨_,e_qu⟩:=(show ∃ t,_=Value.str _ t from qu);subst e_qu;exact RcNeAt.str_tuple _ _ hl hu
 | _=>cases sy
theorem rc_list_l {A:Around} {s:Shared} {y:P} {u:V} {u':Value} {l:Addr} {its:Array Value} (hl:s.heap.IsList l its) (hu:A.units<cLine) (sy:scalV y=some u) (qu:RelV u u'):RcAt A s (.ref l) u' false:=by
 cases y with
 | non=>cases (Option.some.inj (show some _=some u from sy));cases (show _=Value.none from qu);exact RcAt.list_none hl hu
 | bl _=>cases (Option.some.inj (show some _=some u from sy));cases (show _=Value.bool _ from qu);exact RcAt.list_bool _ hl hu
 | int _=>cases (Option.some.inj (show some _=some u from sy));obtain ⟨_,e_qu⟩:=(show ∃ t,_=Value.int _ t from qu);subst e_qu;exact RcAt.list_int _ _ hl hu
 | str _=>cases (Option.some.inj (show some _=some u from sy));obtain ⟨_,e_qu⟩:=(show ∃ t,_=Value.str _ t from qu);subst e_qu;exact RcAt.list_str _ _ hl hu
 | _=>cases sy
theorem rc_list_r {A:Around} {s:Shared} {y:P} {u:V} {u':Value} {l:Addr} {its:Array Value} (hl:s.heap.IsList l its) (hu:A.units<cLine) (sy:scalV y=some u) (qu:RelV u u'):RcAt A s u' (.ref l) false:=by
 cases y with
 | non=>cases (Option.some.inj (show some _=some u from sy));cases (show _=Value.none from qu);exact RcAt.none_list hl hu
 | bl _=>cases (Option.some.inj (show some _=some u from sy));cases (show _=Value.bool _ from qu);exact RcAt.bool_list _ hl hu
 | int _=>cases (Option.some.inj (show some _=some u from sy));obtain ⟨_,e_qu⟩:=(show ∃ t,_=Value.int _ t from qu);subst e_qu;exact RcAt.int_list _ _ hl hu
 | str _=>cases (Option.some.inj (show some _=some u from sy));obtain ⟨_,e_qu⟩:=(show ∃ t,_=Value.str _ t from qu);subst e_qu;exact RcAt.str_list _ _ hl hu
 | _=>cases sy
theorem rc_tuple_l {A:Around} {s:Shared} {y:P} {u:V} {u':Value} {l:Addr} {its:Array Value} (hl:s.heap.IsTuple l its) (hu:A.units<cLine) (sy:scalV y=some u) (qu:RelV u u'):RcAt A s (.ref l) u' false:=by
 cases y with
 | non=>cases (Option.some.inj (show some _=some u from sy));cases (show _=Value.none from qu);exact RcAt.tuple_none hl hu
 | bl _=>cases (Option.some.inj (show some _=some u from sy));cases (show _=Value.bool _ from qu);exact RcAt.tuple_bool _ hl hu
 | int _=>cases (Option.some.inj (show some _=some u from sy));obtain ⟨_,e_qu⟩:=(show ∃ t,_=Value.int _ t from qu);subst e_qu;exact RcAt.tuple_int _ _ hl hu
 | str _=>cases (Option.some.inj (show some _=some u from sy));obtain ⟨_,e_qu⟩:=(show ∃ t,_=Value.str _ t from qu);subst e_qu;exact RcAt.tuple_str _ _ hl hu
 | _=>cases sy
theorem rc_tuple_r {A:Around} {s:Shared} {y:P} {u:V} {u':Value} {l:Addr} {its:Array Value} (hl:s.heap.IsTuple l its) (hu:A.units<cLine) (sy:scalV y=some u) (qu:RelV u u'):RcAt A s u' (.ref l) false:=by
 cases y with
 | non=>cases (Option.some.inj (show some _=some u from sy));cases (show _=Value.none from qu);exact RcAt.none_tuple hl hu
 | bl _=>cases (Option.some.inj (show some _=some u from sy));cases (show _=Value.bool _ from qu);exact RcAt.bool_tuple _ hl hu
 | int _=>cases (Option.some.inj (show some _=some u from sy));obtain ⟨_,e_qu⟩:=(show ∃ t,_=Value.int _ t from qu);subst e_qu;exact RcAt.int_tuple _ _ hl hu
 | str _=>cases (Option.some.inj (show some _=some u from sy));obtain ⟨_,e_qu⟩:=(show ∃ t,_=Value.str _ t from qu);subst e_qu;exact RcAt.str_tuple _ _ hl hu
 | _=>cases sy
theorem scal_or {b:Addr} {Z:Addr→Prop} {H:Hp} {n:Nat} {x:P} {v:V} (hp:x.pl n=true) (r:Rp b Z H x v):scalV x=some v∨(∃ m xs,n=m + 1∧x=.tup xs∧xs.all (P.pl m)=true)∨∃ m xs,n=m + 1∧x=.lst xs∧xs.all (P.pl m)=true:=by
 cases x with
 | non=>exact .inl (by rw [show v=_ from r];rfl)
 | bl k=>exact .inl (by rw [show v=_ from r];rfl)
 | int k=>exact .inl (by rw [show v=_ from r];rfl)
 | str k=>exact .inl (by rw [show v=_ from r];rfl)
 | tup xs=>cases n with
  | zero=>simp [P.pl] at hp
  | succ m=>exact .inr (.inl ⟨m,xs,rfl,rfl,by simpa [P.pl] using hp⟩)
 | lst xs=>cases n with
  | zero=>simp [P.pl] at hp
  | succ m=>exact .inr (.inr ⟨m,xs,rfl,rfl,by simpa [P.pl] using hp⟩)
 | _=>cases n <;> simp [P.pl] at hp
theorem eqP_self:∀ (n:Nat) {x:P},x.pl n=true→eqP x x=true:=by
 intro n
 induction n with
 | zero=>intro x hx;cases x <;> simp [P.pl] at hx <;> simp [eqP]
 | succ n ih =>
  have hs:∀ {xs:List P},xs.all (P.pl n)=true→eqPs xs xs=true:=by
   intro xs
   induction xs with
   | nil=>intro _;rfl
   | cons x r ihr =>
    intro h
    rw [List.all_cons,Bool.and_eq_true] at h
    rw [eqPs,ih h.1,ihr h.2];rfl
  intro x hx
  cases x <;> simp only [P.pl] at hx <;> simp only [eqP,beq_self_eq_true]
  ·cases hx
  ·exact hs hx
  ·exact hs hx
  ·cases hx
  ·cases hx
theorem eqPs_self (n:Nat) (xs:List P) (h:xs.all (P.pl n)=true):eqPs xs xs=true:=by
 induction xs with
 | nil=>rfl
 | cons x r ihr =>
  rw [List.all_cons,Bool.and_eq_true] at h
  rw [eqPs,eqP_self n h.1,ihr h.2];rfl
theorem Rp_inj {b:Addr} {Z:Addr→Prop} {H:Hp}:∀ (n:Nat) {x y:P} {v:V},x.pl n=true→y.pl n=true→Rp b Z H x v→Rp b Z H y v→x=y:=by
 intro n
 induction n with
 | zero =>
  intro x y v hx hy rx ry
  cases x <;> simp [P.pl] at hx <;> cases y <;> simp [P.pl] at hy <;> (rw [show v=_ from rx] at ry) <;> first | rfl | (cases ry;rfl) | cases ry
 | succ n ih =>
  have hs:∀ {xs ys:List P} {vs:List V},xs.all (P.pl n)=true→ys.all (P.pl n)=true→Rps b Z H xs vs→Rps b Z H ys vs→xs=ys:=by
   intro xs
   induction xs with
   | nil =>
    intro ys vs _ _ r1 r2
    rw [show vs=[] from r1] at r2
    cases ys with
    | nil=>rfl
    | cons y r=>obtain ⟨_,_,e,_⟩:=r2;cases e
   | cons x r ihr =>
    intro ys vs h1 h2 r1 r2
    obtain ⟨v,t,rfl,q1,q2⟩:=r1
    cases ys with
    | nil=>cases (show v :: t=[] from r2)
    | cons y ys =>
     obtain ⟨_,_,e,q3,q4⟩:=r2
     cases e
     rw [List.all_cons,Bool.and_eq_true] at h1 h2
     rw [ih h1.1 h2.1 q1 q3,ihr h1.2 h2.2 q2 q4]
  intro x y v hx hy rx ry
  rcases scal_or hx rx with sx | ⟨m,xs,e,rfl,px⟩ | ⟨m,xs,e,rfl,px⟩
  ·rcases scal_or hy ry with sy | ⟨m,ys,e,rfl,py⟩ | ⟨m,ys,e,rfl,py⟩
   ·cases x <;> simp only [scalV] at sx <;> cases sx <;> cases y <;> simp only [scalV] at sy <;> cases sy <;> rfl
   ·obtain ⟨p,us,rfl,_⟩:=ry
    cases x <;> simp [scalV] at sx
   ·obtain ⟨p,us,rfl,_⟩:=ry
    cases x <;> simp [scalV] at sx
  ·cases e
   obtain ⟨p,vs,rfl,e1,r1⟩:=rx
   rcases scal_or hy ry with sy | ⟨m,ys,e,rfl,py⟩ | ⟨m,ys,e,rfl,py⟩
   ·cases y <;> simp [scalV] at sy
   ·cases e
    obtain ⟨p2,us,e3,e2,r2⟩:=ry
    cases e3
    rw [e1] at e2;cases e2
    rw [hs px py r1 r2]
   ·obtain ⟨p2,us,e3,_,e2,r2⟩:=ry
    cases e3
    rw [e1] at e2;cases e2
  ·cases e
   obtain ⟨p,vs,rfl,_,e1,r1⟩:=rx
   rcases scal_or hy ry with sy | ⟨m,ys,e,rfl,py⟩ | ⟨m,ys,e,rfl,py⟩
   ·cases y <;> simp [scalV] at sy
   ·obtain ⟨p2,us,e3,e2,r2⟩:=ry
    cases e3
    rw [e1] at e2;cases e2
   ·cases e
    obtain ⟨p2,us,e3,_,e2,r2⟩:=ry
    cases e3
    rw [e1] at e2;cases e2
    rw [hs px py r1 r2]
theorem Rps_inj {b:Addr} {Z:Addr→Prop} {H:Hp} {n:Nat}:∀ {xs ys:List P} {vs:List V},xs.all (P.pl n)=true→ys.all (P.pl n)=true→Rps b Z H xs vs→Rps b Z H ys vs→xs=ys
 | [],ys,vs,_,_,r1,r2=>by
  rw [show vs=[] from r1] at r2
  cases ys with
  | nil=>rfl
  | cons y r=>obtain ⟨_,_,e,_⟩:=r2;cases e
 | x :: xs,ys,vs,h1,h2,r1,r2=>by
  obtain ⟨v,t,rfl,q1,q2⟩:=r1
  cases ys with
  | nil=>cases (show v :: t=[] from r2)
  | cons y ys =>
   obtain ⟨_,_,e,q3,q4⟩:=r2
   cases e
   rw [List.all_cons,Bool.and_eq_true] at h1 h2
   rw [Rp_inj n h1.1 h2.1 q1 q3,Rps_inj h1.2 h2.2 q2 q4]
section
variable {X:Cx} {pins:List (Addr×Obj)} {σ:St} {H:Hp} {s:Shared}
theorem tup_at (I:Inv X pins σ H s) {p:Addr} {vs:List V} (e:H p=some (.tup vs)):∃ its:List Value,Vals vs its∧s.heap.IsTuple p its.toArray:=by
 obtain ⟨its,r,t,_⟩:=I.tuple (.of e)
 exact ⟨its,r,t⟩
theorem lst_at (I:Inv X pins σ H s) {p:Addr} {vs:List V} (e:H p=some (.lst vs)):∃ its:List Value,Vals vs its∧s.heap.IsList p its.toArray:=by
 obtain ⟨its,r,t,_⟩:=I.list (.of e)
 exact ⟨its,r,t.isList⟩
theorem in1_units (A:Around):A.in1.units=A.units + 1:=rfl
noncomputable def pcs (xs ys:List P) (j:Nat):Bool:=match xs[j]?,ys[j]? with | some x,some y=>eqP x y | _,_=>true
theorem pcs_all {xs ys:List P}:((List.range (min xs.length ys.length)).all (pcs xs ys) && xs.length == ys.length)=eqPs xs ys:=eqPs_range fun j x y h1 h2=>by unfold pcs;rw [h1,h2]
theorem all_get {xs:List P} {m i:Nat} {x:P} (h:xs.all (P.pl m)=true) (e:xs[i]?=some x):x.pl m=true:=List.all_eq_true.mp h x (List.mem_of_getElem? e)
theorem eqAt_P (I:Inv X pins σ H s) {b:Addr} {Z:Addr→Prop}:∀ (n:Nat) {A:Around} {x y:P} {v u:V} {v' u':Value},A.units + n<cLine→x.pl n=true→y.pl n=true→Rp b Z H x v→Rp b Z H y u→RelV v v'→RelV u u'→EqAt A s v' u' (eqP x y):=by
 intro n
 induction n with
 | zero =>
  intro A x y v u v' u' hu hx hy rx ry qv qu
  rcases scal_or hx rx with sx | ⟨m,xs,e,_⟩ | ⟨m,xs,e,_⟩
  ·rcases scal_or hy ry with sy | ⟨m,ys,e,_⟩ | ⟨m,ys,e,_⟩
   ·exact eq_sc sx sy qv qu
   ·cases e
   ·cases e
  ·cases e
  ·cases e
 | succ n ih =>
  intro A x y v u v' u' hu hx hy rx ry qv qu
  have hu0:A.units<cLine:=by lia
  have hu1:A.in1.units + n<cLine:=by rw [in1_units];lia
  -- the pieces
  have pc:∀ {xs ys:List P} {vs us:List V} {its its2:List Value},xs.all (P.pl n)=true→ys.all (P.pl n)=true→Rps b Z H xs vs→Rps b Z H ys us→Vals vs its→Vals us its2→∀ j (h1:j<its.toArray.size) (h2:j<its2.toArray.size),EqAt A.in1 s its.toArray[j] its2.toArray[j] (pcs xs ys j):=by
   intro xs ys vs us its its2 px py r1 r2 w1 w2 j h1 h2
   have l1:=r1.length
   have l2:=r2.length
   have l3:=w1.length
   have l4:=w2.length
   rw [List.size_toArray] at h1 h2
   obtain ⟨v1,e1,q1⟩:=r1.get (i:=j) (x:=xs[j]'(by lia)) (by simp [l1,l3,h1])
   obtain ⟨v2,e2,q2⟩:=r2.get (i:=j) (x:=ys[j]'(by lia)) (by simp [l2,l4,h2])
   obtain ⟨u1,g1,k1⟩:=w1.get e1
   obtain ⟨u2,g2,k2⟩:=w2.get e2
   have ex:xs[j]?=some (xs[j]'(by lia)):=by simp [l1,l3,h1]
   have ey:ys[j]?=some (ys[j]'(by lia)):=by simp [l2,l4,h2]
   have z1:its.toArray[j]=u1:=by
    have:its[j]?=some its[j]:=by simp [h1]
    rw [this] at g1
    simpa using Option.some.inj g1
   have z2:its2.toArray[j]=u2:=by
    have:its2[j]?=some its2[j]:=by simp [h2]
    rw [this] at g2
    simpa using Option.some.inj g2
   rw [z1,z2]
   have:pcs xs ys j=eqP (xs[j]'(by lia)) (ys[j]'(by lia)):=by unfold pcs;rw [ex,ey]
   rw [this]
   exact ih hu1 (all_get px ex) (all_get py ey) q1 q2 k1 k2
  rcases scal_or hx rx with sx | ⟨m,xs,e,rfl,px⟩ | ⟨m,xs,e,rfl,px⟩
  ·rcases scal_or hy ry with sy | ⟨m,ys,e,rfl,py⟩ | ⟨m,ys,e,rfl,py⟩
   ·exact eq_sc sx sy qv qu
   ·obtain ⟨p,us,rfl,e2,r2⟩:=ry
    cases (show u'=Value.ref p from qu)
    obtain ⟨its,_,hl⟩:=tup_at I e2
    have:eqP x (.tup ys)=false:=by cases x <;> simp [scalV] at sx <;> simp only [eqP]
    rw [this]
    exact eq_tuple_r hl hu0 sx qv
   ·obtain ⟨p,us,rfl,_,e2,r2⟩:=ry
    cases (show u'=Value.ref p from qu)
    obtain ⟨its,_,hl⟩:=lst_at I e2
    have:eqP x (.lst ys)=false:=by cases x <;> simp [scalV] at sx <;> simp only [eqP]
    rw [this]
    exact eq_list_r hl hu0 sx qv
  ·cases e
   obtain ⟨p,vs,rfl,e1,r1⟩:=id rx
   cases (show v'=Value.ref p from qv)
   obtain ⟨its,w1,hl⟩:=tup_at I e1
   rcases scal_or hy ry with sy | ⟨m,ys,e,rfl,py⟩ | ⟨m,ys,e,rfl,py⟩
   ·have:eqP (.tup xs) y=false:=by cases y <;> simp [scalV] at sy <;> simp only [eqP]
    rw [this]
    exact eq_tuple_l hl hu0 sy qu
   ·cases e
    obtain ⟨p2,us,rfl,e2,r2⟩:=id ry
    cases (show u'=Value.ref p2 from qu)
    obtain ⟨its2,w2,hl2⟩:=tup_at I e2
    have key:=RcAt.tuples (A:=A) hl hl2 hu0 (pc px py r1 r2 w1 w2)
    rw [List.size_toArray,List.size_toArray,←w1.length,←w2.length,←r1.length,←r2.length,pcs_all] at key
    rw [show eqP (.tup xs) (.tup ys)=eqPs xs ys by simp only [eqP]]
    by_cases hpp:p=p2
    ·subst hpp
     rw [e1] at e2
     cases e2
     have:eqPs xs ys=true:=by
      have h0:∀ zs:List P,zs.all (P.pl n)=true→eqPs zs zs=true:=eqPs_self n
      rw [Rps_inj (b:=b) (H:=H) (n:=n) px py r1 r2]
      exact h0 ys py
     rw [this]
     exact EqAt.same _
    ·exact EqAt.of_refs hpp key
   ·obtain ⟨p2,us,rfl,_,e2,r2⟩:=ry
    cases (show u'=Value.ref p2 from qu)
    obtain ⟨its2,_,hl2⟩:=lst_at I e2
    rw [show eqP (.tup xs) (.lst ys)=false by simp only [eqP]]
    exact EqAt.tuple_list hl hl2 hu0
  ·cases e
   obtain ⟨p,vs,rfl,_,e1,r1⟩:=id rx
   cases (show v'=Value.ref p from qv)
   obtain ⟨its,w1,hl⟩:=lst_at I e1
   rcases scal_or hy ry with sy | ⟨m,ys,e,rfl,py⟩ | ⟨m,ys,e,rfl,py⟩
   ·have:eqP (.lst xs) y=false:=by cases y <;> simp [scalV] at sy <;> simp only [eqP]
    rw [this]
    exact eq_list_l hl hu0 sy qu
   ·obtain ⟨p2,us,rfl,e2,r2⟩:=ry
    cases (show u'=Value.ref p2 from qu)
    obtain ⟨its2,_,hl2⟩:=tup_at I e2
    rw [show eqP (.lst xs) (.tup ys)=false by simp only [eqP]]
    exact EqAt.list_tuple hl hl2 hu0
   ·cases e
    obtain ⟨p2,us,rfl,_,e2,r2⟩:=id ry
    cases (show u'=Value.ref p2 from qu)
    obtain ⟨its2,w2,hl2⟩:=lst_at I e2
    rw [show eqP (.lst xs) (.lst ys)=eqPs xs ys by simp only [eqP]]
    by_cases hpp:p=p2
    ·subst hpp
     rw [e1] at e2
     cases e2
     have:eqPs xs ys=true:=by
      have h0:∀ zs:List P,zs.all (P.pl n)=true→eqPs zs zs=true:=eqPs_self n
      rw [Rps_inj (b:=b) (H:=H) (n:=n) px py r1 r2]
      exact h0 ys py
     rw [this]
     exact EqAt.same _
    ·by_cases hz:its.length=its2.length
     ·have key:=RcAt.lists (A:=A) hl hl2 (by simpa using hz) hu0 (pc px py r1 r2 w1 w2)
      rw [←pcs_all]
      have l1:=r1.length
      have l2:=r2.length
      have l3:=w1.length
      have l4:=w2.length
      have e5:min xs.length ys.length=its.toArray.size:=by rw [List.size_toArray];lia
      have e6:(xs.length == ys.length)=true:=by rw [beq_iff_eq];lia
      rw [e5,e6,Bool.and_true]
      exact EqAt.of_refs hpp key
     ·have l1:=r1.length
      have l2:=r2.length
      have l3:=w1.length
      have l4:=w2.length
      have e6:(xs.length == ys.length)=false:=by rw [beq_eq_false_iff_ne];lia
      rw [←pcs_all,e6,Bool.and_false]
      exact EqAt.of_refs hpp (RcAt.lists_lengths hl hl2 (by simpa using hz) hu0)
end
end L2
set_option Elab.async false
set_option linter.all false
set_option maxRecDepth 100000
set_option maxHeartbeats 4000000
namespace L2
open PySem PySem.Spec PyProof.Rows PySem.SeqAt
section
variable {X:Cx} {pins:List (Addr×Obj)} {σ:St} {H:Hp} {s:Shared}
theorem pieces (I:Inv X pins σ H s) {b:Addr} {Z:Addr→Prop} {n:Nat} {A:Around} (hu1:A.in1.units + n<cLine) {xs ys:List P} {vs us:List V} {its its2:List Value} (px:xs.all (P.pl n)=true) (py:ys.all (P.pl n)=true)
  (r1:Rps b Z H xs vs) (r2:Rps b Z H ys us) (w1:Vals vs its) (w2:Vals us its2):∀ j (h1:j<its.toArray.size) (h2:j<its2.toArray.size),EqAt A.in1 s its.toArray[j] its2.toArray[j] (pcs xs ys j):=by
 intro j h1 h2
 have l1:=r1.length
 have l2:=r2.length
 have l3:=w1.length
 have l4:=w2.length
 rw [List.size_toArray] at h1 h2
 obtain ⟨v1,e1,q1⟩:=r1.get (i:=j) (x:=xs[j]'(by lia)) (by simp [l1,l3,h1])
 obtain ⟨v2,e2,q2⟩:=r2.get (i:=j) (x:=ys[j]'(by lia)) (by simp [l2,l4,h2])
 obtain ⟨u1,g1,k1⟩:=w1.get e1
 obtain ⟨u2,g2,k2⟩:=w2.get e2
 have ex:xs[j]?=some (xs[j]'(by lia)):=by simp [l1,l3,h1]
 have ey:ys[j]?=some (ys[j]'(by lia)):=by simp [l2,l4,h2]
 have z1:its.toArray[j]=u1:=by
  have:its[j]?=some its[j]:=by simp [h1]
  rw [this] at g1
  simpa using Option.some.inj g1
 have z2:its2.toArray[j]=u2:=by
  have:its2[j]?=some its2[j]:=by simp [h2]
  rw [this] at g2
  simpa using Option.some.inj g2
 rw [z1,z2]
 have:pcs xs ys j=eqP (xs[j]'(by lia)) (ys[j]'(by lia)):=by unfold pcs;rw [ex,ey]
 rw [this]
 exact eqAt_P I n hu1 (all_get px ex) (all_get py ey) q1 q2 k1 k2
theorem rc_P (I:Inv X pins σ H s) {b:Addr} {Z:Addr→Prop} {n:Nat} {A:Around} {x y:P} {v u:V} {v' u':Value} (hu:A.units + n + 1<cLine) (hx:x.pl n=true) (hy:y.pl n=true) (rx:Rp b Z H x v) (ry:Rp b Z H y u) (qv:RelV v v') (qu:RelV u u') :
  RcAt A s v' u' (eqP x y)∧RcNeAt A s v' u' (!eqP x y):=by
 have hu0:A.units<cLine:=by lia
 rcases scal_or hx rx with sx | ⟨m,xs,e,rfl,px⟩ | ⟨m,xs,e,rfl,px⟩
 ·rcases scal_or hy ry with sy | ⟨m,ys,e,rfl,py⟩ | ⟨m,ys,e,rfl,py⟩
  ·exact ⟨rc_sc sx sy qv qu,ne_sc sx sy qv qu⟩
  ·obtain ⟨p,us,rfl,e2,r2⟩:=ry
   cases (show u'=Value.ref p from qu)
   obtain ⟨its,_,hl⟩:=tup_at I e2
   have:eqP x (.tup ys)=false:=by cases x <;> simp [scalV] at sx <;> simp only [eqP]
   rw [this]
   exact ⟨rc_tuple_r hl hu0 sx qv,ne_tuple_r hl hu0 sx qv⟩
  ·obtain ⟨p,us,rfl,_,e2,r2⟩:=ry
   cases (show u'=Value.ref p from qu)
   obtain ⟨its,_,hl⟩:=lst_at I e2
   have:eqP x (.lst ys)=false:=by cases x <;> simp [scalV] at sx <;> simp only [eqP]
   rw [this]
   exact ⟨rc_list_r hl hu0 sx qv,ne_list_r hl hu0 sx qv⟩
 ·subst e
  obtain ⟨p,vs,rfl,e1,r1⟩:=id rx
  cases (show v'=Value.ref p from qv)
  obtain ⟨its,w1,hl⟩:=tup_at I e1
  rcases scal_or hy ry with sy | ⟨m',ys,e,rfl,py⟩ | ⟨m',ys,e,rfl,py⟩
  ·have:eqP (.tup xs) y=false:=by cases y <;> simp [scalV] at sy <;> simp only [eqP]
   rw [this]
   exact ⟨rc_tuple_l hl hu0 sy qu,ne_tuple_l hl hu0 sy qu⟩
  ·cases e
   obtain ⟨p2,us,rfl,e2,r2⟩:=id ry
   cases (show u'=Value.ref p2 from qu)
   obtain ⟨its2,w2,hl2⟩:=tup_at I e2
   have hp:=pieces I (A:=A) (n:=m) (by rw [in1_units];lia) px py r1 r2 w1 w2
   have key:=RcAt.tuples (A:=A) hl hl2 hu0 hp
   have key2:=RcNeAt.tuples (A:=A) hl hl2 hu0 hp
   rw [List.size_toArray,List.size_toArray,←w1.length,←w2.length,←r1.length,←r2.length,pcs_all] at key key2
   rw [show eqP (.tup xs) (.tup ys)=eqPs xs ys by simp only [eqP]]
   exact ⟨key,key2⟩
  ·obtain ⟨p2,us,rfl,_,e2,r2⟩:=ry
   cases (show u'=Value.ref p2 from qu)
   obtain ⟨its2,_,hl2⟩:=lst_at I e2
   rw [show eqP (.tup xs) (.lst ys)=false by simp only [eqP]]
   exact ⟨RcAt.tuple_list hl hl2 hu0,RcNeAt.tuple_list hl hl2 hu0⟩
 ·subst e
  obtain ⟨p,vs,rfl,_,e1,r1⟩:=id rx
  cases (show v'=Value.ref p from qv)
  obtain ⟨its,w1,hl⟩:=lst_at I e1
  rcases scal_or hy ry with sy | ⟨m',ys,e,rfl,py⟩ | ⟨m',ys,e,rfl,py⟩
  ·have:eqP (.lst xs) y=false:=by cases y <;> simp [scalV] at sy <;> simp only [eqP]
   rw [this]
   exact ⟨rc_list_l hl hu0 sy qu,ne_list_l hl hu0 sy qu⟩
  ·obtain ⟨p2,us,rfl,e2,r2⟩:=ry
   cases (show u'=Value.ref p2 from qu)
   obtain ⟨its2,_,hl2⟩:=tup_at I e2
   rw [show eqP (.lst xs) (.tup ys)=false by simp only [eqP]]
   exact ⟨RcAt.list_tuple hl hl2 hu0,RcNeAt.list_tuple hl hl2 hu0⟩
  ·cases e
   obtain ⟨p2,us,rfl,_,e2,r2⟩:=id ry
   cases (show u'=Value.ref p2 from qu)
   obtain ⟨its2,w2,hl2⟩:=lst_at I e2
   rw [show eqP (.lst xs) (.lst ys)=eqPs xs ys by simp only [eqP]]
   have l1:=r1.length
   have l2:=r2.length
   have l3:=w1.length
   have l4:=w2.length
   by_cases hz:its.length=its2.length
   ·have hp:=pieces I (A:=A) (n:=m) (by rw [in1_units];lia) px py r1 r2 w1 w2
    have key:=RcAt.lists (A:=A) hl hl2 (by simpa using hz) hu0 hp
    have key2:=RcNeAt.lists (A:=A) hl hl2 (by simpa using hz) hu0 hp
    rw [←pcs_all]
    have e5:min xs.length ys.length=its.toArray.size:=by rw [List.size_toArray];lia
    have e6:(xs.length == ys.length)=true:=by rw [beq_iff_eq];lia
    rw [e5,e6,Bool.and_true]
    exact ⟨key,key2⟩
   ·have e6:(xs.length == ys.length)=false:=by rw [beq_eq_false_iff_ne];lia
    rw [←pcs_all,e6,Bool.and_false]
    exact ⟨RcAt.lists_lengths hl hl2 (by simpa using hz) hu0,RcNeAt.lists_lengths hl hl2 (by simpa using hz) hu0⟩
end
noncomputable def rEqP:R2:=fun v u H Q=>∃ (b:Addr) (Z:Addr→Prop) (x y:P),x.pl 9=true∧y.pl 9=true∧Rp b Z H x v∧Rp b Z H y u∧Q (.bl (eqP x y)) H
noncomputable def rNeP:R2:=fun v u H Q=>∃ (b:Addr) (Z:Addr→Prop) (x y:P),x.pl 9=true∧y.pl 9=true∧Rp b Z H x v∧Rp b Z H y u∧Q (.bl (!eqP x y)) H
theorem op_eqP {X:Cx} {k:Nat} (hr:Room k X.A):OpR X (compareOp .Eq) rEqP:=by
 intro pins s σ H x y v u Q I rx ry h
 obtain ⟨b,Z,px,py,h1,h2,r1,r2,q⟩:=h
 exact (rc_P I (A:=X.A) (by have:=hr.units;lia) h1 h2 r1 r2 rx ry).1 _ _ _ _ ⟨.bl _,H,I,rfl,q⟩
theorem op_neP {X:Cx} {k:Nat} (hr:Room k X.A):OpR X (compareOp .NotEq) rNeP:=by
 intro pins s σ H x y v u Q I rx ry h
 obtain ⟨b,Z,px,py,h1,h2,r1,r2,q⟩:=h
 exact (rc_P I (A:=X.A) (by have:=hr.units;lia) h1 h2 r1 r2 rx ry).2 _ _ _ _ ⟨.bl _,H,I,rfl,q⟩
noncomputable def pEq:p2:=fun x _ y _ K=>(x.pl 9=true∧y.pl 9=true)∧K (.bl (eqP x y)) .fr
noncomputable def pNe:p2:=fun x _ y _ K=>(x.pl 9=true∧y.pl 9=true)∧K (.bl (!eqP x y)) .fr
theorem r_eq:Ref2 rEqP pEq:=fun W ρ σ Hs H Q K x y f h v u ok st rx ry hp q =>
 ⟨W.b,_,x,y,hp.1.1,hp.1.2,rx.any ok,ry.any ok,q _ _ _ H hp.2 (Step.refl ok.bag) rf_bl⟩
theorem r_ne:Ref2 rNeP pNe:=fun W ρ σ Hs H Q K x y f h v u ok st rx ry hp q =>
 ⟨W.b,_,x,y,hp.1.1,hp.1.2,rx.any ok,ry.any ok,q _ _ _ H hp.2 (Step.refl ok.bag) rf_bl⟩
@[simp] theorem pl_int (n:Nat) (i:Int):(P.int i).pl n=true:=by cases n <;> rfl
@[simp] theorem pl_str (n:Nat) (i:Str):(P.str i).pl n=true:=by cases n <;> rfl
@[simp] theorem pl_bl (n:Nat) (i:Bool):(P.bl i).pl n=true:=by cases n <;> rfl
@[simp] theorem pl_non (n:Nat):P.non.pl n=true:=by cases n <;> rfl
@[simp] theorem pl_tup (n:Nat) (xs:List P):(P.tup xs).pl (n + 1)=xs.all (P.pl n):=rfl
@[simp] theorem pl_lst (n:Nat) (xs:List P):(P.lst xs).pl (n + 1)=xs.all (P.pl n):=rfl
theorem pl_map {α:Type} {f:α→P} {n:Nat} (h:∀ a,(f a).pl n=true) (xs:List α):(xs.map f).all (P.pl n)=true:=by
 rw [List.all_map,List.all_eq_true];intro a _;exact h a
@[simp] theorem pl_ints (n:Nat) (xs:List Int):(xs.map P.int).all (P.pl n)=true:=pl_map (fun a=>pl_int n a) xs
@[simp] theorem pl_strs (n:Nat) (xs:List Str):(xs.map P.str).all (P.pl n)=true:=pl_map (fun a=>pl_str n a) xs
mutual
noncomputable def P.nb:P→Bool
 | .non=>true | .int _=>true | .str _=>true | .tup xs=>P.nbs xs | .lst xs=>P.nbs xs | _=>false
noncomputable def P.nbs:List P→Bool
 | []=>true
 | x :: r=>x.nb && P.nbs r
end
mutual
theorem eqP_iff:∀ {x y:P},x.nb=true→y.nb=true→(eqP x y=true ↔ x=y)
 | .non,y,_,hy=>by cases y <;> simp_all [eqP,P.nb]
 | .bl _,y,hx,_=>by simp [P.nb] at hx
 | .int _,y,_,hy=>by cases y <;> simp_all [eqP,P.nb]
 | .str _,y,_,hy=>by cases y <;> simp_all [eqP,P.nb]
 | .bag,y,hx,_=>by simp [P.nb] at hx
 | .tup xs,y,hx,hy=>by
  cases y with
  | tup ys =>
   rw [P.nb] at hx hy
   rw [show eqP (.tup xs) (.tup ys)=eqPs xs ys by simp only [eqP],eqPs_iff hx hy]
   simp
  | _=>simp [eqP]
 | .lst xs,y,hx,hy=>by
  cases y with
  | lst ys =>
   rw [P.nb] at hx hy
   rw [show eqP (.lst xs) (.lst ys)=eqPs xs ys by simp only [eqP],eqPs_iff hx hy]
   simp
  | _=>simp [eqP]
 | .dT _ _,y,hx,_=>by simp [P.nb] at hx
 | .dK _ _,y,hx,_=>by simp [P.nb] at hx
theorem eqPs_iff:∀ {xs ys:List P},P.nbs xs=true→P.nbs ys=true→(eqPs xs ys=true ↔ xs=ys)
 | [],[],_,_=>by simp [eqPs]
 | [],_ :: _,_,_=>by simp [eqPs]
 | _ :: _,[],_,_=>by simp [eqPs]
 | x :: xs,y :: ys,hx,hy=>by
  rw [P.nbs,Bool.and_eq_true] at hx hy
  rw [eqPs,Bool.and_eq_true,eqP_iff hx.1 hy.1,eqPs_iff hx.2 hy.2]
  simp
end
theorem nbs_map {α:Type} {f:α→P} (h:∀ a,(f a).nb=true):∀ xs:List α,P.nbs (xs.map f)=true
 | []=>by simp [P.nbs]
 | x :: r=>by rw [List.map_cons,P.nbs,h x,nbs_map h r];rfl
section
variable {X:Cx} {k:Nat}
end
noncomputable def pInG (neg:Bool):p2:=fun x _ y _ K=>∃ ys,y.items=some ys∧(x.pl 8=true∧ys.all (P.pl 8)=true)∧K (.bl (if neg=true then !(ys.any fun y=>eqP y x) else ys.any fun y=>eqP y x)) .fr
end L2
set_option Elab.async false
set_option linter.all false
set_option maxRecDepth 100000
set_option maxHeartbeats 4000000
namespace L2
open PySem PySem.Spec PyProof.Rows
noncomputable def cut {α:Type} (xs:List α) (lo hi:Option Int):List α:=(xs.drop (HT.sIx xs.length 0 lo)).take (HT.sIx xs.length xs.length hi - HT.sIx xs.length 0 lo)
noncomputable abbrev pO:=List S→(Option Int→Prop)→Prop
noncomputable def pNoPart:pO:=fun _ K=>K none
noncomputable def pPart (p:pE):pO:=fun ρ K=>p ρ fun x _=>match x with | .int i=>K (some i) | _=>False
noncomputable def pSlice (pe:pE) (pl ph:pO):pE:=fun ρ K=>pe ρ fun x f=>pl ρ fun lo=>ph ρ fun hi=>match x with
 | .lst xs=>K (.lst (cut xs lo hi)) (topF f (cut xs lo hi))
 | .tup xs=>K (.tup (cut xs lo hi)) f.el
 | .str z=>z.length≤16777216∧K (.str (Txt.slice z lo hi)) .fr
 | _=>False
section
variable {ι:Type} {Xs:ι→Cx} {e:Expr} {lo hi:Option Expr} {pe:pE} {pl ph:pO} {pos p2:Pos}
end
section
variable {W:Wd} {ρ:List S} {σ:St} {H:Hp} {x x':P} {k:Nat} {p:Addr} {o:HO}
theorem own_keep (ok:Ok W ρ σ H) (h:OwS ρ σ p) {f:Fl} (hf:f=.cl∨f=.fr):(∀ q u,¬ Zof W ρ σ f q→H q=some u→¬ Zof W ρ σ f q∧upd H p o q=some u)∧∀ q us,H q=some (.tup us)→upd H p o q=some (.tup us):=by
 obtain ⟨_,_,_,_,o',q1,q2⟩:=ok.ow (.inr h)
 refine ⟨fun q u hz e=>⟨hz,?_⟩,fun q us e=>?_⟩
 ·rw [upd_ne (fun z=>hz (by subst z;rcases hf with rfl | rfl <;> simp [Zof,Ow,h]))]
  exact e
 ·rw [upd_ne (fun z=>by subst z;rw [e] at q1;cases q1;exact q2 us rfl)]
  exact e
theorem Ok.mut (ok:Ok W ρ σ H) (hk:ρ[k]?=some (.own x)) (hs:σ[k]?=some (some (.ref p))) (no:∀ ys,o≠.tup ys) (hrc:Rc W.b (Zf W ρ σ) (upd H p o) x' p):Ok W (ρ.set k (.own x')) σ (upd H p o):=by
 have how:OwS ρ σ p:=⟨k,x,hk,hs⟩
 obtain ⟨g0,gF,gb,ga,o',q1,q2⟩:=ok.ow (.inr how)
 have kl:k<ρ.length:=by
  rcases Nat.lt_or_ge k ρ.length with q | q
  ·exact q
  ·rw [List.getElem?_eq_none q] at hk;cases hk
 have get:∀ (i:Nat) (y:P),(ρ.set k (S.own x'))[i]?=some (S.own y)→∃ z,ρ[i]?=some (S.own z):=fun i y e=>by
  by_cases hi:k=i
  ·subst hi;exact ⟨x,hk⟩
  ·rw [List.getElem?_set_ne hi] at e;exact ⟨y,e⟩
 have ows:∀ q,OwS (ρ.set k (.own x')) σ q ↔ OwS ρ σ q:=fun q=>by
  constructor
  ·rintro ⟨i,y,h1,h2⟩
   obtain ⟨z,e⟩:=get i y h1
   exact ⟨i,z,e,h2⟩
  ·rintro ⟨i,y,h1,h2⟩
   by_cases hi:k=i
   ·subst hi;exact ⟨k,x',List.getElem?_set_self kl,h2⟩
   ·exact ⟨i,y,by rw [List.getElem?_set_ne hi];exact h1,h2⟩
 have zz:∀ f q,Zof W (ρ.set k (.own x')) σ f q ↔ Zof W ρ σ f q:=fun f q=>by
  have:Ow W (ρ.set k (.own x')) σ q ↔ Ow W ρ σ q:=or_congr Iff.rfl (ows q)
  cases f <;> simp only [Zof,this]
 have zf:∀ f,Zof W (ρ.set k (.own x')) σ f=Zof W ρ σ f:=fun f=>funext fun q=>propext (zz f q)
 refine ⟨ok.bag.put gb ga,ok.fb,fun q u hq e=>?_,fun q u e=>?_,fun q hq=>?_,by rw [List.length_set];exact ok.len,fun i s e=>?_,fun i j y z h1 h2 h3=>?_⟩
 ·rw [upd_ne (fun z=>by subst z;rw [g0] at e;cases e)]
  exact ok.old q u hq e
 ·rw [upd_ne (fun z=>by subst z;rw [gF] at e;cases e)]
  exact ok.frm q u e
 ·obtain ⟨h1,h2,h3,h4,u,h5,h6⟩:=ok.oo q hq
  refine ⟨h1,h2,h3,h4,?_⟩
  by_cases hqp:q=p
  ·subst hqp;exact ⟨o,upd_same,no⟩
  ·exact ⟨u,by rw [upd_ne hqp];exact h5,h6⟩
 ·by_cases hi:k=i
  ·subst hi
   rw [List.getElem?_set_self kl] at e
   cases e
   exact ⟨_,hs,p,rfl,g0,gF,gb,ga,by rw [show Zf W (ρ.set k (.own x')) σ=Zf W ρ σ from zf .fr];exact hrc⟩
  ·rw [List.getElem?_set_ne hi] at e
   obtain ⟨u,h1,h2⟩:=ok.slot i s e
   refine ⟨u,h1,?_⟩
   cases s with
   | emp=>trivial
   | sh y =>
    obtain ⟨v,e1,e2⟩:=h2
    have kk:=own_keep (o:=o) ok how (.inl rfl)
    exact ⟨v,e1,by rw [show Zc W (ρ.set k (.own x')) σ=Zc W ρ σ from zf .cl];exact e2.keep kk.1 kk.2⟩
   | fr y =>
    obtain ⟨v,e1,e2⟩:=h2
    have kk:=own_keep (o:=o) ok how (.inr rfl)
    exact ⟨v,e1,by rw [show Zf W (ρ.set k (.own x')) σ=Zf W ρ σ from zf .fr];exact e2.keep kk.1 kk.2⟩
   | own y =>
    obtain ⟨r,e1,e2,e3,e4,e5,e6⟩:=h2
    have kk:=own_keep (o:=o) ok how (f:=.fr) (.inr rfl)
    have nrp:r≠p:=fun z=>by
     subst z
     exact hi (ok.uniq k i x y hk e (by rw [hs,h1,e1]))
    refine ⟨r,e1,e2,e3,e4,e5,?_⟩
    rw [show Zf W (ρ.set k (.own x')) σ=Zf W ρ σ from zf .fr]
    cases y with
    | lst xs=>obtain ⟨vs,z1,z2⟩:=e6;exact ⟨vs,by rw [upd_ne nrp];exact z1,z2.keep kk.1 kk.2⟩
    | dT ks xs=>obtain ⟨vs,z1,z0,z2⟩:=e6;exact ⟨vs,by rw [upd_ne nrp];exact z1,z0,z2.keep kk.1 kk.2⟩
    | dK ks xs=>obtain ⟨vs,z1,z0,z2⟩:=e6;exact ⟨vs,by rw [upd_ne nrp];exact z1,z0,z2.keep kk.1 kk.2⟩
    | _=>exact e6.elim
 ·obtain ⟨y',e1⟩:=get i y h1
  obtain ⟨z',e2⟩:=get j z h2
  exact ok.uniq i j y' z' e1 e2 h3
theorem Ok.ownL {xs:List P} (ok:Ok W ρ σ H) (hk:ρ[k]?=some (.own (.lst xs))):∃ p vs,σ[k]?=some (some (.ref p))∧H p=some (.lst vs)∧Rps W.b (Zf W ρ σ) H xs vs∧OwS ρ σ p:=by
 obtain ⟨o,h1,p,h2,_,_,_,_,vs,h3,h4⟩:=ok.slot k _ hk
 subst h2
 exact ⟨p,vs,h1,h3,h4,k,_,hk,h1⟩
theorem Ok.mutL {xs ys:List P} {vs us:List V} (ok:Ok W ρ σ H) (hk:ρ[k]?=some (.own (.lst xs))) (hs:σ[k]?=some (some (.ref p))) (hr:Rps W.b (Zf W ρ σ) H ys us):Ok W (ρ.set k (.own (.lst ys))) σ (upd H p (.lst us)):=by
 have kk:=own_keep (o:=HO.lst us) ok ⟨k,_,hk,hs⟩ (f:=.fr) (.inr rfl)
 exact ok.mut hk hs (fun _ z=>nomatch z) ⟨us,upd_same,hr.keep kk.1 kk.2⟩
end
noncomputable def pAppend (k:Nat) (pe:pE):pS:=fun E ρ=>match ρ[k]? with
 | some (.own (.lst xs))=>pe ρ fun y f=>itemF y f=.nw∧xs.length<16777216∧E.nx (ρ.set k (.own (.lst (xs ++ [y]))))
 | _=>False
noncomputable def pInsert (k:Nat) (pi pe:pE):pS:=fun E ρ=>match ρ[k]? with
 | some (.own (.lst xs))=>pi ρ fun i _=>pe ρ fun y f=>∃ n,i=.int n∧0≤n∧n≤xs.length∧itemF y f=.nw∧xs.length<16777216∧E.nx (ρ.set k (.own (.lst (xs.take n.toNat ++ y :: xs.drop n.toNat))))
 | _=>False
noncomputable def pSetIx (k:Nat) (pi pe:pE):pS:=fun E ρ=>match ρ[k]? with
 | some (.own (.lst xs))=>pe ρ fun y f=>pi ρ fun i _=>∃ n j,i=.int n∧ixN xs.length n=some j∧itemF y f=.nw∧E.nx (ρ.set k (.own (.lst (xs.set j y))))
 | _=>False
noncomputable def pAugIx (g:Int→Int→Int) (k:Nat) (pi pe:pE):pS:=fun E ρ=>match ρ[k]? with
 | some (.own (.lst xs))=>pi ρ fun i _=>∃ n j o,i=.int n∧ixN xs.length n=some j∧xs[j]?=some (.int o)∧pe ρ fun y _=>∃ d,y=.int d∧E.nx (ρ.set k (.own (.lst (xs.set j (.int (g o d))))))
 | _=>False
noncomputable def pPopS (j:Nat) (pi:pE):pS:=fun E ρ=>match ρ[j]? with
 | some (.own (.lst ys))=>pi ρ fun i _=>∃ m:Nat,i=.int (m:Int)∧m<2 ^ 62∧m<ys.length∧E.nx (ρ.set j (.own (.lst (ys.eraseIdx m))))
 | _=>False
noncomputable def pAppPop (k j:Nat) (pi:pE):pS:=fun E ρ=>match ρ[k]?,ρ[j]? with
 | some (.own (.lst xs)),some (.own (.lst ys))=>pi ρ fun i _=>∃ (m:Nat) (z:P),i=.int (m:Int)∧m<2 ^ 62∧ys[m]?=some z∧xs.length<16777216∧k≠j∧E.nx ((ρ.set j (.own (.lst (ys.eraseIdx m)))).set k (.own (.lst (xs ++ [z]))))
 | _,_=>False
noncomputable def frzS (k:Nat) (ρ:List S):List S:=match ρ[k]? with
 | some (.own x)=>ρ.set k (.fr x)
 | _=>ρ
noncomputable def pFrz (k:Nat) (p:pS):pS:=fun E ρ=>p E (frzS k ρ)
theorem itemF_nw {W:Wd} {ρ:List S} {σ:St} {H Hs:Hp} {y:P} {f:Fl} {v:V} (ok:Ok W ρ σ H) (r:RF W ρ σ Hs f H y v) (h:itemF y f=.nw):Rp W.b (Zf W ρ σ) H y v:=by
 have:=(itemF_ok ok r).2.2
 rw [h] at this
 exact this
section
variable {ι:Type} {Xs:ι→Cx} {a b:Expr} {pa pb:pE} {pos apos cpos p1:Pos} {x:Str} {k j:Nat} {Kf:PySem.W.Frag} {t u:TE}
theorem Ok.stepL {W:Wd} {ρ:List S} {σ:St} {H H':Hp} {k:Nat} {xs:List P} {p:Addr} {vs:List V} (ok:Ok W ρ σ H) (st:Step W.b W.a H H') (hs:σ[k]?=some (some (.ref p))) (hc:H p=some (.lst vs)) (hr:Rps W.b (Zf W ρ σ) H xs vs) (ho:OwS ρ σ p):H' p=some (.lst vs)∧Rps W.b (Zf W ρ σ) H' xs vs :=
 ⟨st.same p _ (ok.ow (.inr ho)).2.2.1 hc,hr.step (f:=.fr) st ok.bag⟩
theorem refS_append (h2:RefE t pa):RefS (tDrop (tBM Kf "list" rAppend (tVar k) (tCons t tNil))) (pAppend k pa):=fun W ρ σ H D E ok hk r=>by
 unfold pAppend at hk
 split at hk
 ·rename_i xs e
  obtain ⟨p,vs,hs,hc,hr,ho⟩:=ok.ownL e
  refine ⟨.ref p,hs,.inl ⟨rfl,vs,.of hc⟩,h2 W ρ σ H _ _ ok hk fun y f v H1 ⟨k1,k2,k3⟩ s1 r1=>?_⟩
  have ok1:=ok.step s1
  obtain ⟨hc1,hr1⟩:=ok.stepL s1 hs hc hr ho
  refine ⟨p,vs,v,rfl,rfl,hc1,by rw [←hr.length];exact k2,r.nx _ _ _ k3 (ok1.mutL (vs:=vs) e hs (hr1.snoc (itemF_nw ok1 r1 k1)))⟩
 ·exact hk.elim
theorem qs_append (hK:∀ i,(Xs i).K=Kf) (ha:QE Xs a pa) (hN:∀ i,(Xs i).N[k]?=some x:=by intro _;rfl) (hv:∀ i,Vis (Xs i).env.scope x:=by intro _;trivial) (hd:(x == ("__debug__":Str))=false:=by decide) (hcd:(x == ("__classdict__":Str))=false:=by decide)
  (hl:(apos.endLine == cpos.line)=true:=by rfl) (hs:∀ i,swapsWith (.Call (.Attribute (.Name x p1) "append" apos) [a] [] cpos) none pos.line (Xs i).env=pure false:=by intro _;rfl)
  (hb:∀ i,attributeBase (.Name x p1) "append" (Xs i).env (eval (.Name x p1) (Xs i).env)=eval (.Name x p1) (Xs i).env:=by intro _;rfl)
  (hst:∀ i,starEach [a] (Xs i).env=[(false,eval a (Xs i).env)]:=by intro _;rfl):QS Xs (.Expr (.Call (.Attribute (.Name x p1) "append" apos) [a] [] cpos) pos) (pAppend k pa):=by
 obtain ⟨t,h1,h2⟩:=ha
 refine ⟨_,fun i=>?_,refS_append (Kf:=Kf) h2⟩
 rw [←hK i]
 exact ps_expr (pe_bm PySem.F.plainAttrs_list PySem.F.slot_list_append PySem.F.type_list_append mt_append (pe_var (hN i) (hv i) hd hcd) (pa_cons (h1 i) pa_nil (hst i)) (hb i) (by rw [hst i];rfl) hl (hst i) rfl) (hs i)
theorem Ok.frzS {W:Wd} {ρ:List S} {σ:St} {H:Hp} (hO:∀ p,¬ W.O p) (ok:Ok W ρ σ H):Ok W (frzS k ρ) σ H:=by
 unfold L2.frzS
 split
 ·rename_i x e
  obtain ⟨o,h1,p,h2,g0,gF,gb,ga,rc⟩:=ok.slot k _ e
  subst h2
  have kl:k<ρ.length:=by
   rcases Nat.lt_or_ge k ρ.length with q | q
   ·exact q
   ·rw [List.getElem?_eq_none q] at e;cases e
  have hks:k<σ.length:=by rw [ok.len];exact kl
  have eσ:σ.set k (some (.ref p))=σ:=by
   apply List.ext_getElem?
   intro i
   by_cases hi:k=i
   ·subst hi;rw [List.getElem?_set_self hks,h1]
   ·rw [List.getElem?_set_ne hi]
  have hn:=ows_set (ρ:=ρ) (σ:=σ) (k:=k) (v:=.ref p) (s:=.fr x) (fun _ z=>nomatch z)
  have key:=ok.put (v:=.ref p) (s:=.fr x) (Step.refl ok.bag) kl (fun q z=>.inl (hn q z)) ?_ (fun y z=>nomatch z)
  ·rw [eσ] at key;exact key
  ·refine ⟨.ref p,rfl,?_⟩
   rw [eσ] at hn ⊢
   have kk:∀ q o,¬ Zf W ρ σ q→H q=some o→¬ Zf W (ρ.set k (.fr x)) σ q∧H q=some o:=mv1 (f:=.fr) (Step.refl ok.bag) (fun q z=>.inl (hn q z))
   have np:¬ Zf W (ρ.set k (.fr x)) σ p:=by
    intro z
    simp only [Zof] at z
    rcases z with z | (z | z) | z
    ·exact gb z
    ·-- owned around: the same cell
     exact hO p z
    ·obtain ⟨i,y,q1,q2⟩:=z
     by_cases hi:k=i
     ·subst hi;rw [List.getElem?_set_self kl] at q1;cases q1
     ·rw [List.getElem?_set_ne hi] at q1
      exact hi (ok.uniq k i x y e q1 (by rw [h1,q2]))
    ·exact z g0
   cases x with
   | lst xs=>obtain ⟨vs,z1,z2⟩:=rc;exact ⟨p,vs,rfl,np,z1,z2.keep kk fun q us e=>e⟩
   | dT ks xs=>obtain ⟨vs,z1,z0,z2⟩:=rc;exact ⟨p,vs,rfl,np,z1,z0,z2.keep kk fun q us e=>e⟩
   | dK ks xs=>obtain ⟨vs,z1,z0,z2⟩:=rc;exact ⟨p,vs,rfl,np,z1,z0,z2.keep kk fun q us e=>e⟩
   | _=>exact rc.elim
 ·exact ok
theorem qs_frz {st:Stmt} {p:pS} (k:Nat) (h:QS Xs st p):QS Xs st (pFrz k p):=by
 obtain ⟨t,h1,h2⟩:=h
 exact ⟨t,h1,fun W ρ σ H D E ok hk r=>h2 W _ σ H D E (ok.frzS r.noO) hk r⟩
noncomputable def pAug (g:Int→Int→Int) (k:Nat) (pe:pE):pS:=fun E ρ=>match ρ[k]? with
 | some (.sh (.int o))=>pe ρ fun y _=>∃ d,y=.int d∧E.nx (ρ.set k (.sh (.int (g o d))))
 | _=>False
end
end L2
set_option Elab.async false
set_option linter.all false
set_option maxRecDepth 100000
set_option maxHeartbeats 4000000
namespace L2
open PySem PySem.Spec PyProof.Rows PySem.W
section
variable {X:Cx} {pins:List (Addr×Obj)} {σ:St} {H:Hp} {s:Shared}
theorem Inv.laidF {h':Heap} {t':Nat} {D:Addr} {o:HO} {m:Str→Option Value} (I:Inv X pins σ H s) (hm:s.heap.Ns X.env.locals m) (hm':h'.Ns X.env.locals m) (k:∀ b u,b≠X.env.locals→s.heap.get? b=some u→h'.get? b=some u) (hD:H D=none) (nD:∀ u,s.heap.get? D≠some u)
  (new:ObjOk X.prog X.w (upd H D o) h' D o):Inv X pins σ (upd H D o) { s with heap:=h',toks:=t' }:=by
 refine I.step (g':=s.gens) (d':=s.drawn) (ch:=[]) (fun b hb=>nomatch hb) (fun b u n1 _ _ e _=>k b u n1 e) (fun b u n1 _ _ e _=>⟨u.slots,k b u n1 e⟩) (fun b u _ e n=>?_) (fun b u _ e=>?_) (fun b xs e=>?_) (fun b u v e=>?_) (fun b ps e=>⟨#[],?_⟩) (fun m2 h2=>?_) ?_ I.bare
 ·rw [upd_ne (fun z=>by subst z;exact nD u e)];exact n
 ·by_cases hb:b=X.env.locals
  ·subst hb;obtain ⟨o',_,_,e',_⟩:=hm';exact ⟨o',e'⟩
  ·exact ⟨u,k b u hb e⟩
 ·rw [upd_ne (ne_of_none e hD)];exact e
 ·rw [upd_ne (ne_of_none e hD)];exact e
 ·rw [upd_ne (ne_of_none e hD)];simpa using e
 ·rw [h2.eq_nsMap,←hm.eq_nsMap];exact hm'
 ·intro b u e
  by_cases hb:b=D
  ·subst hb;rw [upd_same] at e;cases e;exact new
  ·rw [upd_ne hb] at e
   have nl:∀ c v,H c=some v→c≠X.env.locals:=fun c v q z=>by subst z;rw [I.free] at q;cases q
   refine (I.hok b u e).stay (fun c v hc q=>k c v ?_ q) (fun c q=>?_) fun c xs q=>?_
   ·rcases hc with z | z
    ·rw [z];exact nl b u e
    ·exact nl c _ z
   ·rw [upd_ne (ne_of_none q hD)];exact q
   ·rw [upd_ne (ne_of_none q hD)];exact q
end
section
variable {prog:Program} {w:World} {A:Around} {E:Value→Shared→Prop} {s:Shared}
theorem sort_short {a:Addr} {us:List Value} {n:Nat} {F:PySem.Fin→Shared→Prop} (ho:s.heap.get? a=some (seqObj "list" us.toArray n)) (h2:us.length<2) (h:F (.done (.ret .none)) { s with heap:=sortedHeap s.heap a us us.toArray }) :
  wpAny (model prog w) A (Builtin.«list.sort» ⟨[.ref a],[]⟩) F E s:=by
 have ha:=Heap.lt_size ho
 rw [list_sort_plain]
 refine wpAny_bind (listItems_at ho rfl (wpAny_bind (listUpdate_at ho rfl ?_)))
 have ho1:=get?_update_seq ho (fun _=>#[])
 refine wpAny_bind (seqEpoch_at ho1 rfl (wpAny_bind (wpAny_newTuple (wpAny_bind (wpAny_newList (wpAny_holding ?_))))))
 have ho6:(((s.heap.update a (Obj.mapSeq fun _=>#[])).push (seqObj "tuple" us.toArray 0)).push (seqObj "list" #[] 0)).get? a=_ :=
  (Heap.get?_push_ne _ a _ (by rw [size_push',Heap.size_update];exact Nat.ne_of_lt (Nat.lt_succ_of_lt ha))).trans ((Heap.get?_push_ne _ a _ (by rw [Heap.size_update];exact Nat.ne_of_lt ha)).trans ho1)
 have hz:us.toArray.size<2:=by rw [List.size_toArray];exact h2
 dsimp only
 rw [if_pos hz,if_pos hz]
 refine wpAny_bind (wpAny_pure ?_)
 rw [StateT.run_pure]
 refine wpAny_bind (wpAny_pure (wpAny_bind (seqEpoch_at ho6 rfl (wpAny_bind (listUpdate_at ho6 rfl ?_ (hsz2:=?_))))))
 ·simp only [bne_self_eq_false,Bool.false_eq_true,if_false]
  have e:(arrOf (SortSt.mk' general' (us.toArray.zip us.toArray) #[] 7 none)).map (·.2)=us.toArray:=by
   show ((us.toArray.zip us.toArray).map (·.2))=us.toArray
   apply Array.ext'
   simp [List.map_snd_zip]
  rw [←e] at h
  exact wpAny_pure h
 ·rw [Array.size_map]
  show (us.toArray.zip us.toArray).size≤_
  rw [Array.size_zip,sizeLine_eq]
  lia
theorem sorted_short {l:Addr} {us:List Value} {Q:Value→Shared→Prop} (hl:s.heap.IsList l us.toArray) (h2:us.length<2) (q:Q (.ref (s.heap.objs.size + 1)) { s with heap:=sortedAll s.heap us us.toArray }) :
  wpAny (model prog w) A (call (.builtin "sorted") [.ref l]) Q E s:=by
 refine Calls.call_function_entry kind_sorted plain_sorted entry_sorted (args_sorted1 _) ?_
 unfold Builtin.«sorted»
 refine wpAny_bind (m:=checkCount "sorted" 1 1 _) (wpAny_pure (wpAny_bind (collect_list hl (wpAny_bind (wpAny_newList ?_ (by rw [sizeLine_eq];lia))) (by rw [sizeLine_eq];lia))))
 have hsz:((s.heap.push (seqObj "list" #[] 0)).update s.heap.objs.size (Obj.mapSeq (· ++ us.toArray))).objs.size=s.heap.objs.size + 1:=by
  rw [Heap.size_update,size_push']
 have hoL:=Heap.get?_push_size ((s.heap.push (seqObj "list" #[] 0)).update s.heap.objs.size (Obj.mapSeq (· ++ us.toArray))) (o:=seqObj "list" us.toArray 0) rfl
 rw [hsz] at hoL
 show wpAny _ _ _ _ _ { s with heap:=((s.heap.push (seqObj "list" #[] 0)).update s.heap.objs.size (Obj.mapSeq (· ++ us.toArray))).push (seqObj "list" us.toArray 0) }
 rw [hsz]
 exact wpAny_bind (wpAny_holding (wpAny_call_entry slot_list_sort ⟨_,hoL,rfl⟩ entry_list_sort (sort_short hoL h2 ⟨_,rfl,wpAny_pure ⟨_,rfl,q⟩⟩) (args_list_sort _)))
end
noncomputable abbrev refs (ps:List (Addr×List Int)):List V:=ps.map fun q=>V.ref q.1
noncomputable def SrtR (rs:List (List Int)):Prop:=rs.Pairwise fun a b=>HT.lexLt b a=false
section
variable {X:Cx} {pins:List (Addr×Obj)} {σ:St} {H:Hp} {s:Shared}
theorem vals_refs:∀ {ps:List (Addr×List Int)} {us:List Value},Vals (refs ps) us→us=ps.map fun q=>Value.ref q.1
 | [],_,.nil=>rfl
 | q :: r,_,.cons e t=>by rw [vals_refs t,show _=Value.ref q.1 from e];rfl
theorem refs_vals:∀ (ps:List (Addr×List Int)),Vals (refs ps) (ps.map fun q=>Value.ref q.1)
 | []=>.nil
 | q :: r=>.cons rfl (refs_vals r)
theorem looks_int (M:Model) (h:Heap) (i:Int) (t:Tok):Looks M h (typeOf (.int i t)) (.type "int"):=fun A Q E s _ q=>wpAny_pure q
theorem ObjOk.there {P':Program} {w:World} {h:Heap} {a:Addr} {o:HO} (x:ObjOk P' w H h a o):∃ u,h.get? a=some u:=by
 cases o with
 | lst xs=>obtain ⟨_,_,_,_,e⟩:=x;exact ⟨_,e⟩
 | tup xs=>obtain ⟨_,_,_,u,e,_⟩:=x;exact ⟨u,e⟩
 | dK kvs=>obtain ⟨_,_,_,_,u,_,_,e,_⟩:=x;exact ⟨u,e⟩
 | dT kvs=>obtain ⟨_,_,_,_,u,_,_,e,_⟩:=x;exact ⟨u,e⟩
 | set S n=>obtain ⟨u,_,_,_,e,_⟩:=x;exact ⟨u,e⟩
 | ins C dx fs=>obtain ⟨_,_,_,e,_⟩:=x;exact ⟨_,e⟩
 | own y=>exact x
 | xd fs=>obtain ⟨_,⟨u,_,_,e,_⟩,_⟩:=x;exact ⟨u,e⟩
 | met f y=>exact ⟨_,x⟩
 | rng lo hi=>obtain ⟨_,_,_,e⟩:=x;exact ⟨_,e⟩
 | frz u v=>exact ⟨_,x.1⟩
 | tbl ps=>exact ⟨_,x⟩
 | ext φ=>exact x.2.1
theorem katTups_of {h:Heap}:∀ {ps:List (Addr×List Int)},(∀ q∈ps,∃ us,IntsAre us q.2∧∃ o n,h.get? q.1=some o∧o.cls=.type "tuple"∧o.data=.seq us.toArray n)→(∀ q∈ps,0<q.2.length) →
  ∃ fs,KatTups h (ps.map fun q=>Value.ref q.1) fs∧fs.length=ps.length∧∀ v∈fs,∃ i t,v=Value.int i t
 | [],_,_=>⟨[],.nil,rfl,fun v hv=>nomatch hv⟩
 | q :: r,h1,h2=>by
  obtain ⟨fs,a,b,c⟩:=katTups_of (ps:=r) (fun q hq=>h1 q (List.mem_cons_of_mem _ hq)) fun q hq=>h2 q (List.mem_cons_of_mem _ hq)
  obtain ⟨us,i1,o,n,e1,e2,e3⟩:=h1 q List.mem_cons_self
  have h0:=h2 q List.mem_cons_self
  generalize q.2=qs at i1 h0
  have hl:=i1.length
  match us,i1,e3 with
  | v :: us,i1,e3 =>
   obtain ⟨i,t,ev⟩:∃ i t,v=Value.int i t:=by cases i1 with | cons i t _=>exact ⟨i,t,rfl⟩
   refine ⟨v :: fs,.cons e1 e2 e3 (by simp) a,by simp [b],fun x hx=>?_⟩
   rcases List.mem_cons.mp hx with rfl | hx
   ·exact ⟨i,t,ev⟩
   ·exact c x hx
  | [],i1,e3=>exfalso;simp at hl;lia
end
end L2
set_option Elab.async false
set_option linter.all false
set_option maxRecDepth 100000
set_option maxHeartbeats 4000000
namespace L2
open PySem PySem.Spec PyProof.Rows
section
variable {κ κ':Type} [DecidableEq κ] [DecidableEq κ']
noncomputable def dGetP:List κ→List P→κ→Option P
 | k0 :: ks,v :: vs,k=>if k0=k then some v else dGetP ks vs k
 | _,_,_=>none
noncomputable def dKeys (ks:List κ) (k:κ):List κ:=if k∈ks then ks else ks ++ [k]
noncomputable def dVals (ks:List κ) (vs:List P) (k:κ) (x:P):List P:=if k∈ks then List.zipWith (fun k0 v=>if k0=k then x else v) ks vs else vs ++ [x]
theorem dGet_rp {b:Addr} {Z:Addr→Prop} {H:Hp} {g:κ→κ'} (hg:∀ a c,g a=g c→a=c):∀ {ks:List κ} {xs:List P} {vs:List V} {k:κ},Rps b Z H xs vs→ks.length=xs.length →
  (∀ z,dGetP ks xs k=some z→∃ v,valV ((ks.map g).zip vs) (g k)=some v∧Rp b Z H z v)∧(dGetP ks xs k=none→valV ((ks.map g).zip vs) (g k)=none)
 | [],[],vs,k,_,_=>⟨(fun z h=>(nomatch h)),(fun _=>rfl)⟩
 | k0 :: ks,x :: xs,vs,k,r,hl=>by
  obtain ⟨v,t,rfl,r1,r2⟩:=r
  have ih:=dGet_rp (k:=k) hg r2 (by simpa using hl)
  simp only [dGetP,List.map_cons,List.zip_cons_cons]
  by_cases e:k0=k
  ·subst e
   rw [if_pos rfl,valV_pos rfl]
   exact ⟨(fun z h=>⟨v,rfl,by cases h;exact r1⟩),(fun h=>(nomatch h))⟩
  ·rw [if_neg e]
   have ne:¬ g k0=g k:=fun z=>e (hg _ _ z)
   have:valV ((g k0,v) :: (ks.map g).zip t) (g k)=valV ((ks.map g).zip t) (g k):=by unfold valV;rw [List.find?_cons];simp [ne]
   rw [this]
   exact ih
theorem map_zip_if {g:κ→κ'} (hg:∀ a c,g a=g c→a=c) {k:κ} {v:V}:∀ (ks:List κ) (vs:List V),((ks.map g).zip vs).map (fun kv=>if kv.1=g k then (kv.1,v) else kv)=(ks.map g).zip (List.zipWith (fun k0 u=>if k0=k then v else u) ks vs)
 | [],_=>by simp
 | _ :: _,[]=>by simp
 | k0 :: ks,u :: vs=>by
  simp only [List.map_cons,List.zip_cons_cons,List.zipWith_cons_cons,map_zip_if hg ks vs]
  by_cases e:k0=k
  ·subst e;simp
  ·have ne:¬ g k0=g k:=fun z=>e (hg _ _ z)
   simp [e,ne]
theorem any_keys {g:κ→κ'} (hg:∀ a c,g a=g c→a=c) {k:κ}:∀ {ks:List κ} {vs:List V},ks.length=vs.length→((((ks.map g).zip vs).any fun kv=>decide (kv.1=g k))=true ↔ k∈ks)
 | [],_,_=>by simp
 | k0 :: ks,[],h=>by simp at h
 | k0 :: ks,u :: vs,h=>by
  simp only [List.map_cons,List.zip_cons_cons,List.any_cons,Bool.or_eq_true,decide_eq_true_iff,any_keys (k:=k) hg (show ks.length=vs.length by simpa using h),List.mem_cons]
  constructor
  ·rintro (z | z)
   ·exact .inl (hg _ _ z).symm
   ·exact .inr z
  ·rintro (z | z)
   ·exact .inl (by rw [z])
   ·exact .inr z
theorem dPut_eq {g:κ→κ'} (hg:∀ a c,g a=g c→a=c) {ks:List κ} {vs:List V} {k:κ} {v:V} (hl:ks.length=vs.length):putK ((ks.map g).zip vs) (g k) v=((dKeys ks k).map g).zip (if k∈ks then List.zipWith (fun k0 u=>if k0=k then v else u) ks vs else vs ++ [v]):=by
 unfold putK dKeys
 by_cases hk:k∈ks
 ·rw [if_pos ((any_keys hg hl).mpr hk),if_pos hk,if_pos hk,map_zip_if hg]
 ·rw [if_neg (fun z=>hk ((any_keys hg hl).mp z)),if_neg hk,if_neg hk,List.map_append,List.zip_append (by simpa using hl)]
  rfl
theorem dVals_rp {b:Addr} {Z:Addr→Prop} {H:Hp} {x:P} {v:V} (rx:Rp b Z H x v) {k:κ}:∀ {ks:List κ} {xs:List P} {vs:List V},Rps b Z H xs vs→ks.length=xs.length →
  Rps b Z H (List.zipWith (fun k0 y=>if k0=k then x else y) ks xs) (List.zipWith (fun k0 u=>if k0=k then v else u) ks vs)
 | [],[],vs,r,_=>by simp [Rps]
 | k0 :: ks,y :: xs,vs,r,hl=>by
  obtain ⟨u,t,rfl,r1,r2⟩:=r
  refine ⟨_,_,rfl,?_,dVals_rp rx r2 (by simpa using hl)⟩
  by_cases e:k0=k
  ·dsimp only;rw [if_pos e,if_pos e];exact rx
  ·dsimp only;rw [if_neg e,if_neg e];exact r1
theorem dPut_rp {b:Addr} {Z:Addr→Prop} {H:Hp} {g:κ→κ'} (hg:∀ a c,g a=g c→a=c) {ks:List κ} {xs:List P} {vs:List V} {k:κ} {x:P} {v:V} (r:Rps b Z H xs vs) (hl:ks.length=xs.length) (rx:Rp b Z H x v) :
  ∃ vs',putK ((ks.map g).zip vs) (g k) v=((dKeys ks k).map g).zip vs'∧Rps b Z H (dVals ks xs k x) vs':=by
 refine ⟨_,dPut_eq hg (hl.trans r.length),?_⟩
 unfold dVals
 split
 ·exact dVals_rp rx r hl
 ·exact r.snoc rx
theorem dKeys_length {ks:List κ} {xs:List P} {k:κ} {x:P} (hl:ks.length=xs.length):(dKeys ks k).length=(dVals ks xs k x).length:=by
 unfold dKeys dVals
 split
 ·rw [List.length_zipWith];lia
 ·simp [hl]
end
theorem keyI_inj (a c:List Int) (h:keyI a=keyI c):a=c:=by rw [←unkI_keyI a,h,unkI_keyI]
theorem keyS_inj (a c:Str) (h:keyS a=keyS c):a=c:=Sum.inr.inj h
noncomputable def keyT:P→Option (List Int)
 | .tup xs=>xs.mapM fun x=>match x with | .int i=>some i | _=>none
 | _=>none
@[simp] theorem keyT_ints (r:List Int):keyT (.tup (r.map P.int))=some r:=by
 simp only [keyT]
 induction r with
 | nil=>rfl
 | cons x r ih=>rw [List.map_cons,List.mapM_cons,ih];rfl
theorem keyT_eq {x:P} {r:List Int} (h:keyT x=some r):x=.tup (r.map P.int):=by
 cases x with
 | tup xs =>
  simp only [keyT] at h
  congr 1
  induction xs generalizing r with
  | nil=>cases h;rfl
  | cons y xs ih =>
   rw [List.mapM_cons] at h
   cases y with
   | int i =>
    cases e:(xs.mapM fun x=>match x with | .int i=>some i | _=>none) with
    | none=>rw [e] at h;cases h
    | some r'=>rw [e] at h;cases h;rw [ih e];rfl
   | _=>cases h
 | _=>cases h
noncomputable def pDGet (pd pk:pE):pE:=fun ρ K=>pd ρ fun x f=>pk ρ fun y _=>match x with
 | .dT ks vs=>∃ r z,keyT y=some r∧dGetP ks vs r=some z∧K z f.el
 | .dK ks vs=>match y with | .str k=>∃ z,dGetP ks vs k=some z∧K z f.el | _=>False
 | _=>False
noncomputable def pDGetOr (pd pk px:pE):pE:=fun ρ K=>pd ρ fun x f=>(x.mut=true∧∀ xs,x≠.lst xs)∧pk ρ fun y _=>px ρ fun z _=>match x with
 | .dT ks vs=>∃ r,keyT y=some r∧P.imms vs=true∧z.imm=true∧K ((dGetP ks vs r).getD z) .fr
 | .dK ks vs=>match y with | .str k=>P.imms vs=true∧z.imm=true∧K ((dGetP ks vs k).getD z) .fr | _=>False
 | _=>False
section
variable {W:Wd} {ρ:List S} {σ:St} {Hs H:Hp} {f:Fl} {v:V} {xs:List P}
theorem dT_cell {ks:List (List Int)} (ok:Ok W ρ σ H) (r:RF W ρ σ Hs f H (.dT ks xs) v):∃ p vs,v=.ref p∧p≠W.b∧H p=some (.dT ((ks.map keyI).zip vs))∧ks.length=xs.length∧Rps W.b (Zof W ρ σ f) H xs vs:=by
 cases f with
 | bo=>obtain ⟨p,e,o,us,h1,h2,h3⟩:=r;exact ⟨p,us,e,(ok.ow (.inr o)).2.2.1,h1,h2,h3⟩
 | nw=>obtain ⟨p,us,e,z,h1,h2,h3⟩:=r.1;exact ⟨p,us,e,fun q=>z (q ▸ Zof.b),h1,h2,h3⟩
 | fr=>obtain ⟨p,us,e,z,h1,h2,h3⟩:=r;exact ⟨p,us,e,fun q=>z (q ▸ Zof.b (f:=.fr)),h1,h2,h3⟩
 | cl=>obtain ⟨p,us,e,z,h1,h2,h3⟩:=r;exact ⟨p,us,e,fun q=>z (q ▸ Zof.b (f:=.cl)),h1,h2,h3⟩
 | rf=>obtain ⟨p,us,e,z,h1,h2,h3⟩:=r;exact ⟨p,us,e,fun q=>z (q ▸ Zof.b (f:=.rf)),h1,h2,h3⟩
 | an=>obtain ⟨p,us,e,z,h1,h2,h3⟩:=r;exact ⟨p,us,e,fun q=>z (q ▸ Zof.b (f:=.an)),h1,h2,h3⟩
theorem dK_cell {ks:List Str} (ok:Ok W ρ σ H) (r:RF W ρ σ Hs f H (.dK ks xs) v):∃ p vs,v=.ref p∧p≠W.b∧H p=some (.dK ((ks.map keyS).zip vs))∧ks.length=xs.length∧Rps W.b (Zof W ρ σ f) H xs vs:=by
 cases f with
 | bo=>obtain ⟨p,e,o,us,h1,h2,h3⟩:=r;exact ⟨p,us,e,(ok.ow (.inr o)).2.2.1,h1,h2,h3⟩
 | nw=>obtain ⟨p,us,e,z,h1,h2,h3⟩:=r.1;exact ⟨p,us,e,fun q=>z (q ▸ Zof.b),h1,h2,h3⟩
 | fr=>obtain ⟨p,us,e,z,h1,h2,h3⟩:=r;exact ⟨p,us,e,fun q=>z (q ▸ Zof.b (f:=.fr)),h1,h2,h3⟩
 | cl=>obtain ⟨p,us,e,z,h1,h2,h3⟩:=r;exact ⟨p,us,e,fun q=>z (q ▸ Zof.b (f:=.cl)),h1,h2,h3⟩
 | rf=>obtain ⟨p,us,e,z,h1,h2,h3⟩:=r;exact ⟨p,us,e,fun q=>z (q ▸ Zof.b (f:=.rf)),h1,h2,h3⟩
 | an=>obtain ⟨p,us,e,z,h1,h2,h3⟩:=r;exact ⟨p,us,e,fun q=>z (q ▸ Zof.b (f:=.an)),h1,h2,h3⟩
theorem key_cell {x:P} {r:List Int} (ok:Ok W ρ σ H) (hk:keyT x=some r) (rx:RF W ρ σ Hs f H x v):∃ q,v=.ref q∧H q=some (.tup ((keyI r).map kV)):=by
 rw [keyT_eq hk] at rx
 obtain ⟨q,us,e,c,r1⟩:=tup_cell ok rx
 rw [Rps.ints.mp r1] at c
 exact ⟨q,e,by rw [c];simp [keyI,List.map_map,Function.comp_def,kV]⟩
end
section
variable {ι:Type} {Xs:ι→Cx} {o i e c:Expr} {pd pk px:pE} {pos apos cpos:Pos}
theorem qe_dget (hu:∀ j,(Xs j).A.units + 1<cLine) (ho:QE Xs o pd) (hi:QE Xs i pk) (hs:NoSl i):QE Xs (.Subscript o i pos) (pDGet pd pk):=by
 obtain ⟨td,d1,d2⟩:=ho
 obtain ⟨tk,k1,k2⟩:=hi
 refine ⟨_,fun j=>pe_dget (hu j) (d1 j) (k1 j) hs,fun W ρ σ H Q K ok hk q=>d2 W ρ σ H _ _ ok hk fun x f v H1 h1 s1 r1=>k2 W ρ σ H1 _ _ (ok.step s1) h1 fun y g u H2 h2 s2 r2=>?_⟩
 have s12:=s1.trans s2
 have ok2:=ok.step s12
 have r1':=r1.step (ok.step s1) s2
 split at h2
 ·obtain ⟨r,z,e1,e2,e3⟩:=h2
  obtain ⟨p,us,rfl,_,c1,c2,c3⟩:=dT_cell ok2 r1'
  obtain ⟨q2,rfl,c4⟩:=key_cell ok2 e1 r2
  obtain ⟨w,a1,a2⟩:=(dGet_rp keyI_inj (k:=r) c3 c2).1 z e2
  exact ⟨p,w,rfl,by rw [←a1];exact DGet.t c1 c4,q z _ w H2 e3 s12 (RF.ofEl a2)⟩
 ·split at h2
  ·obtain ⟨z,e2,e3⟩:=h2
   rename_i ks vs _ k
   obtain ⟨p,us,rfl,_,c1,c2,c3⟩:=dK_cell ok2 r1'
   cases str_of ok2 r2
   obtain ⟨w,a1,a2⟩:=(dGet_rp keyS_inj (k:=k) c3 c2).1 z e2
   exact ⟨p,w,rfl,by rw [←a1];exact DGet.k (k:=Sum.inr k) c1,q z _ w H2 e3 s12 (RF.ofEl a2)⟩
  ·exact h2.elim
 ·exact h2.elim
theorem getOr_rp {κ κ':Type} [DecidableEq κ] [DecidableEq κ'] {b:Addr} {Z:Addr→Prop} {H:Hp} {g:κ→κ'} (hg:∀ a c,g a=g c→a=c) {ks:List κ} {xs:List P} {vs:List V} {k:κ} {z:P} {u:V} (r:Rps b Z H xs vs) (hl:ks.length=xs.length) (hi:P.imms xs=true) (hz:z.imm=true) (rz:Rp b Z H z u) :
  Rp b Z H ((dGetP ks xs k).getD z) ((valV ((ks.map g).zip vs) (g k)).getD u)∧((dGetP ks xs k).getD z).imm=true:=by
 cases e:dGetP ks xs k with
 | none=>rw [(dGet_rp hg (k:=k) r hl).2 e];exact ⟨rz,hz⟩
 | some w =>
  obtain ⟨v,a1,a2⟩:=(dGet_rp hg (k:=k) r hl).1 w e
  rw [a1]
  refine ⟨a2,?_⟩
  have:∀ {ks:List κ} {xs:List P},P.imms xs=true→dGetP ks xs k=some w→w.imm=true:=by
   intro ks
   induction ks with
   | nil=>intro xs _ h;cases h
   | cons k0 ks ih =>
    intro xs hx h
    cases xs with
    | nil=>cases h
    | cons x xs =>
     rw [imms_cons,Bool.and_eq_true] at hx
     simp only [dGetP] at h
     split at h
     ·cases h;exact hx.1
     ·exact ih hx.2 h
  exact this hi e
theorem qe_dgetOr (hu:∀ j,(Xs j).A.units + 1<cLine) (ho:QE Xs o pd) (hi:QE Xs e pk) (hx:QE Xs c px)
  (m:∀ j,M2 (Xs j) o "get" apos e c cpos:=by intro _;exact ⟨rfl,rfl,rfl,rfl⟩):QE Xs (.Call (.Attribute o "get" apos) [e,c] [] cpos) (pDGetOr pd pk px):=by
 obtain ⟨td,d1,d2⟩:=ho
 obtain ⟨tk,k1,k2⟩:=hi
 obtain ⟨tx,x1,x2⟩:=hx
 refine ⟨_,fun j=>pe_dget2 (hu j) (d1 j) (k1 j) (x1 j) (m j),fun W ρ σ H Q K ok hk q=>d2 W ρ σ H _ _ ok hk fun x f v H1 ⟨⟨hmu,hnl⟩,h1⟩ s1 r1=>?_⟩
 have ok1:=ok.step s1
 obtain ⟨p,rfl,hd⟩:∃ p,v=.ref p∧IsD H1 p:=by
  cases x with
  | dT ks xs=>obtain ⟨p,us,e,_,c1,_⟩:=dT_cell ok1 r1;exact ⟨p,e,.inr ⟨_,.of c1⟩⟩
  | dK ks xs=>obtain ⟨p,us,e,_,c1,_⟩:=dK_cell ok1 r1;exact ⟨p,e,.inl ⟨_,.of c1⟩⟩
  | lst xs=>exact absurd rfl (hnl xs)
  | _=>simp [P.mut] at hmu
 refine ⟨p,rfl,hd,k2 W ρ σ H1 _ _ ok1 h1 fun y g u H2 h2 s2 r2=>x2 W ρ σ H2 _ _ (ok1.step s2) h2 fun z gz uz H3 h3 s3 r3=>?_⟩
 have s13:=(s1.trans s2).trans s3
 have ok3:=ok.step s13
 have r1':=r1.step ok1 (s2.trans s3)
 have r2':=r2.step (ok1.step s2) s3
 split at h3
 ·obtain ⟨r,e1,e2,e3,e4⟩:=h3
  obtain ⟨p',us,e,_,c1,c2,c3⟩:=dT_cell ok3 r1'
  cases e
  obtain ⟨q2,rfl,c4⟩:=key_cell ok3 e1 r2'
  have c3:Rps W.b (Zf W ρ σ) H3 _ us:=c3.imm e2
  have rz:Rp W.b (Zf W ρ σ) H3 z uz:=(r3.any ok3).imm e3
  exact ⟨_,DGet.t c1 c4,q _ _ _ H3 e4 s13 (getOr_rp keyI_inj (k:=r) c3 c2 e2 e3 rz).1⟩
 ·split at h3
  ·obtain ⟨e2,e3,e4⟩:=h3
   rename_i ks vs _ k
   obtain ⟨p',us,e,_,c1,c2,c3⟩:=dK_cell ok3 r1'
   cases e
   cases str_of ok3 r2'
   have c3:Rps W.b (Zf W ρ σ) H3 _ us:=c3.imm e2
   have rz:Rp W.b (Zf W ρ σ) H3 z uz:=(r3.any ok3).imm e3
   exact ⟨_,DGet.k (k:=Sum.inr k) c1,q _ _ _ H3 e4 s13 (getOr_rp keyS_inj (k:=k) c3 c2 e2 e3 rz).1⟩
  ·exact h3.elim
 ·exact h3.elim
noncomputable def pDNewT:pE:=fun _ K=>K (.dT [] []) .nw
noncomputable def pDNewK:pE:=fun _ K=>K (.dK [] []) .nw
theorem qe_dnewT:QE Xs (.Dict [] [] pos) pDNewT:=⟨_,fun _=>pe_dnewT,fun W ρ σ H Q K ok hk q=>fun p hp=>q _ _ _ _ hk (Step.new ok.bag hp) ⟨⟨p,[],rfl,fun z=>ok.dom (f:=.fr) z hp,upd_same,rfl,rfl⟩,fun _=>⟨p,rfl,hp⟩⟩⟩
end
noncomputable def pDPut (k:Nat) (pk pe:pE):pS:=fun E ρ=>match ρ[k]? with
 | some (.own (.dT ks vs))=>pe ρ fun y f=>pk ρ fun z _=>∃ r,keyT z=some r∧itemF y f=.nw∧ks.length<16777216∧E.nx (ρ.set k (.own (.dT (dKeys ks r) (dVals ks vs r y))))
 | some (.own (.dK ks vs))=>pe ρ fun y f=>pk ρ fun z _=>∃ r,z=.str r∧itemF y f=.nw∧ks.length<16777216∧E.nx (ρ.set k (.own (.dK (dKeys ks r) (dVals ks vs r y))))
 | _=>False
section
variable {ι:Type} {Xs:ι→Cx} {a b:Expr} {pa pb:pE} {pos pos' p1:Pos} {x:Str} {k:Nat} {t u:TE}
theorem refS_dput (h1:RefE t pa) (h2:RefE u pb):RefS (sDPut (tVar k) t u) (pDPut k pa pb):=fun W ρ σ H D E ok hk r=>by
 unfold pDPut at hk
 split at hk
 ·rename_i ks xs e
  obtain ⟨w,hs,p,e2,_,_,gb,_,vs,c1,c2,c3⟩:=ok.slot k _ e
  subst e2
  have ho:OwS ρ σ p:=⟨k,_,e,hs⟩
  refine h2 W ρ σ H _ _ ok hk fun y f v H1 ky s1 ry=>⟨.ref p,hs,h1 W ρ σ H1 _ _ (ok.step s1) ky fun z fz vz H2 ⟨rr,k0,k1,k2,k3⟩ s2 rz=>?_⟩
  have s12:=s1.trans s2
  have ok2:=ok.step s12
  obtain ⟨q,rfl,c4⟩:=key_cell ok2 k0 rz
  have c1':=s12.same p _ gb c1
  have c3':Rps W.b (Zf W ρ σ) H2 xs vs:=c3.step (f:=.fr) s12 ok.bag
  have ry':=itemF_nw ok2 (ry.step (ok.step s1) s2) k1
  refine ⟨p,_,rfl,DPut.t c1' c4 (by rw [List.length_zip,List.length_map];exact Nat.lt_of_le_of_lt (Nat.min_le_left _ _) k2),r.nx _ _ _ k3 ?_⟩
  obtain ⟨vs',f1,f2⟩:=dPut_rp keyI_inj (k:=rr) c3' c2 ry'
  rw [f1]
  have kk:=own_keep (o:=HO.dT (((dKeys ks rr).map keyI).zip vs')) ok2 ho (f:=.fr) (.inr rfl)
  exact ok2.mut e hs (fun _ z=>nomatch z) ⟨vs',upd_same,dKeys_length c2,f2.keep kk.1 kk.2⟩
 ·rename_i ks xs e
  obtain ⟨w,hs,p,e2,_,_,gb,_,vs,c1,c2,c3⟩:=ok.slot k _ e
  subst e2
  have ho:OwS ρ σ p:=⟨k,_,e,hs⟩
  refine h2 W ρ σ H _ _ ok hk fun y f v H1 ky s1 ry=>⟨.ref p,hs,h1 W ρ σ H1 _ _ (ok.step s1) ky fun z fz vz H2 ⟨rr,k0,k1,k2,k3⟩ s2 rz=>?_⟩
  have s12:=s1.trans s2
  have ok2:=ok.step s12
  subst k0
  cases str_of ok2 rz
  have c1':=s12.same p _ gb c1
  have c3':Rps W.b (Zf W ρ σ) H2 xs vs:=c3.step (f:=.fr) s12 ok.bag
  have ry':=itemF_nw ok2 (ry.step (ok.step s1) s2) k1
  refine ⟨p,_,rfl,DPut.k (k:=Sum.inr rr) c1' (by rw [List.length_zip,List.length_map];exact Nat.lt_of_le_of_lt (Nat.min_le_left _ _) k2),r.nx _ _ _ k3 ?_⟩
  obtain ⟨vs',f1,f2⟩:=dPut_rp keyS_inj (k:=rr) c3' c2 ry'
  rw [show (Sum.inr rr:Key)=keyS rr from rfl,f1]
  have kk:=own_keep (o:=HO.dK (((dKeys ks rr).map keyS).zip vs')) ok2 ho (f:=.fr) (.inr rfl)
  exact ok2.mut e hs (fun _ z=>nomatch z) ⟨vs',upd_same,dKeys_length c2,f2.keep kk.1 kk.2⟩
 ·exact hk.elim
theorem qs_dput (hu:∀ i,(Xs i).A.units + 1<cLine) (ha:QE Xs a pa) (hb:QE Xs b pb) (hN:∀ i,(Xs i).N[k]?=some x:=by intro _;rfl) (hv:∀ i,Vis (Xs i).env.scope x:=by intro _;trivial) (hd:(x == ("__debug__":Str))=false:=by decide) (hcd:(x == ("__classdict__":Str))=false:=by decide)
  (hs:∀ i,swapsWith b (some (.Subscript (.Name x p1) a pos')) pos.line (Xs i).env=pure false:=by intro _;rfl):QS Xs (.Assign [.Subscript (.Name x p1) a pos'] b pos) (pDPut k pa pb):=by
 obtain ⟨t,e1,e2⟩:=ha
 obtain ⟨u,g1,g2⟩:=hb
 exact ⟨_,fun i=>ps_dput (hu i) (pe_var (hN i) (hv i) hd hcd) (e1 i) (g1 i) (hs i),refS_dput e2 g2⟩
end
end L2
set_option Elab.async false
set_option linter.all false
set_option maxRecDepth 100000
set_option maxHeartbeats 4000000
namespace L2
open PySem PySem.Spec PyProof.Rows PySem.W
noncomputable def RawD (h:Heap) (d:Addr) (es:Array DictEntry) (ep:Nat):Prop:=∃ o,h.get? d=some o∧o.ExactDict∧o.data=.dict es ep
theorem RawD.typeIs {s:Shared} {d:Addr} {es:Array DictEntry} {ep:Nat} (x:RawD s.heap d es ep):s.TypeIs (.ref d) "dict":=let ⟨o,e,c,_⟩:=x;⟨o,e,c.1⟩
theorem RawD.keep {h h':Heap} {d:Addr} {es:Array DictEntry} {ep:Nat} (x:RawD h d es ep) (k:∀ o,h.get? d=some o→h'.get? d=some o):RawD h' d es ep:=let ⟨o,e,r⟩:=x;⟨o,k o e,r⟩
theorem RawD.lt {h:Heap} {d:Addr} {es:Array DictEntry} {ep:Nat} (x:RawD h d es ep):d<h.objs.size:=let ⟨_,e,_⟩:=x;Heap.lt_size e
section
variable {prog:Program} {w:World} {A:Around} {E:Value→Shared→Prop} {s:Shared} {d it:Addr} {es:Array DictEntry} {ep i:Nat}
theorem raw_iter {Q:Value→Shared→Prop} (hd:(d == sysModules)=false) (hm:RawD s.heap d es ep)
  (hQ:Q (.ref s.heap.objs.size) { s with heap:=s.heap.push { cls:=.type "dict_keyiterator",data:=.fields #[.ref d,.int 0 0,.int es.size 0,.int ep 0] } }):wpAny (model prog w) A (pyIter (.ref d)) Q E s:=by
 obtain ⟨o,ho,hc,hdat⟩:=id hm
 refine wpAny_pyIter_slot hm.typeIs F.slot_dict_iter (wpAny_call_entry F.slot_dict_iter hm.typeIs F.entry_dict_iter ?body (F.args_dict_iter_1 _))
 unfold Builtin.«dict.__iter__» Builtin.Dict.dictSlotNone
 refine wpAny_bind (wpAny_bind (wpAny_notOrdered_dict hm.typeIs ?_))
 show wpAny _ _ (pure (Value.ref d)) _ _ s
 refine wpAny_pure ?_
 show wpAny _ _ (Builtin.Dict.showsAll d >>= _) _ _ s
 unfold Builtin.Dict.showsAll
 rw [if_neg (show ¬ _ by rw [hd];simp)]
 refine wpAny_bind (wpAny_pure (wpAny_bind (wpAny_dictEntries ho hdat (wpAny_bind (wpAny_dictEpoch ho hdat (wpAny_bind (wpAny_newObj_type (wpAny_pure ⟨_,rfl,"dict_keyiterator",_,⟨_,Heap.get?_push_size _ rfl,rfl⟩,F.slot_dict_keyiterator_next.lookup,?_⟩))))))))
 simpa [rawInt] using hQ
theorem raw_item {Q:Option Value→Shared→Prop} (hit:s.heap.IsKeyIter it d i es.size ep) (hm:RawD s.heap d es ep) (hi:i<es.size)
  (hQ:∀ h',h'.IsKeyIter it d (i + 1) es.size ep→Heap.SameBut it s.heap h'→Q (some es[i].key) { s with heap:=h' }):wpAny (model prog w) A (pyNext (.ref it)) Q E s:=by
 obtain ⟨o,ho,hc,hd⟩:=id hit
 obtain ⟨od,hod,hcd,hdd⟩:=id hm
 have hown:Builtin.Dict_items.ownsTuple "dict_keyiterator"=false:=by decide
 unfold pyNext
 refine wpAny_bind (wpAny_attempt (wpAny_callSpecial?_slot (name:=Str.ofString "__next__") hit.typeIs F.slot_dict_keyiterator_next (wpAny_call_entry F.slot_dict_keyiterator_next hit.typeIs F.entry_dict_keyiterator_next ?body (F.args_dict_keyiterator_next_1 _))))
 refine wpAny_bind (wpAny_pure (wpAny_bind (wpAny_bind ?_)))
 first
  | refine wpAny_bind (wpAny_typeNameOfWhole_keyiter hit.typeIs (wpAny_pure (wpAny_bind (wpAny_fieldsOf ho hd ?_))))
  | refine wpAny_bind (wpAny_typeNameOf_keyiter hit.typeIs (wpAny_pure (wpAny_bind (wpAny_fieldsOf ho hd ?_))))
 simp only [hown,Bool.false_eq_true,if_false]
 show wpAny _ _ (if (Value.ref d == Value.none)=true then _ else _) _ _ s
 rw [if_neg (show ¬ (Value.ref d == Value.none)=true from Bool.false_ne_true)]
 refine wpAny_bind (wpAny_pure (wpAny_bind (wpAny_dictEntries hod hdd ?_)))
 rw [if_neg (by simp)]
 refine wpAny_bind (wpAny_pure (wpAny_bind (wpAny_dictEpoch hod hdd ?_)))
 rw [if_neg (by simp)]
 refine wpAny_pure ?_
 simp only [show ¬ ((i:Int)<0) by lia,if_false,Int.toNat_natCast,Array.getElem?_eq_getElem hi]
 refine wpAny_bind ?_
 first
  | refine wpAny_bind (wpAny_typeNameOfWhole_keyiter hit.typeIs (wpAny_pure (wpAny_bind (wpAny_isOneOf_keyiter hit.typeIs ?_))))
  | refine wpAny_bind (wpAny_typeNameOf_keyiter hit.typeIs (wpAny_pure (wpAny_bind (wpAny_isOneOf_keyiter hit.typeIs ?_))))
 show wpAny _ _ (setField (.ref it) 1 (rawInt ((i:Int) + 1)) >>= _) _ _ s
 refine wpAny_bind (wpAny_setField ho hd (by simp) ?_)
 have hit':(s.heap.update it (Obj.mapFields (·.setIfInBounds 1 (rawInt ((i:Int) + 1))))).IsKeyIter it d (i + 1) es.size ep :=
  ⟨_,Heap.get?_update_self _ ho (Obj.isFreed_of_fields (Obj.data_mapFields hd _)),(Obj.cls_mapFields ..).trans hc,by rw [Obj.data_mapFields hd] <;> simp [rawInt]⟩
 refine wpAny_bind (wpAny_holding (wpAny_bind (wpAny_isOneOf_keyiter (s:={ s with heap:=s.heap.update it (Obj.mapFields (·.setIfInBounds 1 (rawInt ((i:Int) + 1)))) }) hit'.typeIs ?_)))
 show wpAny _ _ (pure es[i].key) _ _ _
 exact wpAny_pure (wpAny_pure ⟨_,rfl,wpAny_pure (hQ _ hit' (Heap.SameBut.update ..))⟩)
theorem raw_end {Q:Option Value→Shared→Prop} (hh:A.handled=none) (hit:s.heap.IsKeyIter it d es.size es.size ep) (hm:RawD s.heap d es ep) (hQ:∀ h',Heap.ExtBut it s.heap h'→Q none { s with heap:=h' }):wpAny (model prog w) A (pyNext (.ref it)) Q E s:=by
 obtain ⟨o,ho,hc,hd⟩:=id hit
 obtain ⟨od,hod,hcd,hdd⟩:=id hm
 have hown:Builtin.Dict_items.ownsTuple "dict_keyiterator"=false:=by decide
 unfold pyNext
 refine wpAny_bind (wpAny_attempt (wpAny_callSpecial?_slot (name:=Str.ofString "__next__") hit.typeIs F.slot_dict_keyiterator_next (wpAny_call_entry F.slot_dict_keyiterator_next hit.typeIs F.entry_dict_keyiterator_next ?body (F.args_dict_keyiterator_next_1 _))))
 refine wpAny_bind (wpAny_pure (wpAny_bind (wpAny_bind ?_)))
 first
  | refine wpAny_bind (wpAny_typeNameOfWhole_keyiter hit.typeIs (wpAny_pure (wpAny_bind (wpAny_fieldsOf ho hd ?_))))
  | refine wpAny_bind (wpAny_typeNameOf_keyiter hit.typeIs (wpAny_pure (wpAny_bind (wpAny_fieldsOf ho hd ?_))))
 simp only [hown,Bool.false_eq_true,if_false]
 show wpAny _ _ (if (Value.ref d == Value.none)=true then _ else _) _ _ s
 rw [if_neg (show ¬ (Value.ref d == Value.none)=true from Bool.false_ne_true)]
 refine wpAny_bind (wpAny_pure (wpAny_bind (wpAny_dictEntries hod hdd ?_)))
 rw [if_neg (by simp)]
 refine wpAny_bind (wpAny_pure (wpAny_bind (wpAny_dictEpoch hod hdd ?_)))
 rw [if_neg (by simp)]
 refine wpAny_pure ?_
 simp only [show ¬ ((es.size:Int)<0) by lia,if_false,Int.toNat_natCast,Array.getElem?_eq_none (Nat.le_refl es.size)]
 refine wpAny_bind ?_
 first
  | refine wpAny_bind (wpAny_typeNameOfWhole_keyiter hit.typeIs (wpAny_pure ?_))
  | refine wpAny_bind (wpAny_typeNameOf_keyiter hit.typeIs (wpAny_pure ?_))
 show wpAny _ _ (setField (.ref it) 0 .none >>= _) _ _ s
 refine wpAny_bind (wpAny_setField ho hd (by simp) ?_)
 show wpAny _ _ (newExc (.type "StopIteration") [] >>= _) _ _ _
 refine wpAny_bind ?_
 simp only [newExc,newTuple]
 refine wpAny_bind (wpAny_newObj_type ?nx (by size_fits))
 refine wpAny_bind (m:=firstArgMember _ _) (wpAny_of_eq (a:=Value.none) (by first | rfl | (simp only [firstArgMember];rfl)) (wpAny_newObj_type ?ny (by size_fits)))
 simp only [raiseNew]
 refine wpAny_bind (wpAny_handled ?_)
 rw [show A.in1.handled=none from hh]
 refine wpAny_bind (wpAny_pure (wpAny_throw ?_))
 refine wpAny_bind (wpAny_isInstance (T:="StopIteration") (b:=true) ⟨_,Heap.get?_push_size _ rfl,rfl⟩ isSubtype_stop ?fin)
 exact wpAny_pure (hQ _ (((Heap.SameBut.update ..).extBut.push _).push _))
theorem walks_raw (hh:A.handled=none) (I d:Addr) (hne:d≠I) (es:Array DictEntry) (ep:Nat) :
  Walks prog w A I [I,d] [I] es.size (fun i v=>∃ h:i<es.size,v=es[i].key) (fun i h=>h.IsKeyIter I d i es.size ep∧RawD h d es ep) where
 sub:=fun b hb=>by simp at hb;simp [hb]
 frame:=fun _ _ _ st hk=>⟨st.1.at fun o e=>hk I (by simp) o e,st.2.keep fun o e=>hk d (by simp) o e⟩
 item:=fun i s Q E hi st hQ=>raw_item st.1 st.2 hi fun h' hit' hs' =>
  hQ _ h' s.toks ⟨hi,rfl⟩ ⟨hit',st.2.keep fun o e=>hs'.extBut d o hne e⟩ fun b o hb e=>hs'.extBut b o (fun h=>hb (by simp [h])) e
 done:=fun s Q E st hQ=>raw_end hh st.1 st.2 fun h' he'=>hQ h' s.toks fun b o hb e=>he' b o (fun h=>hb (by simp [h])) e
 self:=fun _ _ _ _ st hQ=>wpAny_pyIter_keyiter st.1 hQ
theorem src_raw (lo:(d == sysModules)=false):KdlSrc prog w "dict" d d es.size (fun i v=>∃ h:i<es.size,v=es[i].key) (fun h=>RawD h d es ep) where
 type:=fun _ hm=>hm.typeIs
 there:=fun _ hm=>⟨hm.lt,hm.lt⟩
 keep:=fun _ _ hm hk=>hm.keep fun o e=>hk d (.inl rfl) o e
 notList:=by decide
 notTuple:=by decide
 hint:=fun _ _ _ _ hm hq=>kdl_hint_dict hm.typeIs hq
 iter:=fun _ _ hh hm=>⟨_,_,(fun _ _ hq=>raw_iter lo hm hq),walks_raw hh _ d (Nat.ne_of_lt hm.lt) es ep,⟨⟨_,Heap.get?_push_size _ rfl,rfl,rfl⟩,hm.keep fun o e=>Heap.get?_push_of_some _ e⟩⟩
end
end L2
set_option Elab.async false
set_option linter.all false
set_option maxRecDepth 100000
set_option maxHeartbeats 4000000
namespace L2
open PySem PySem.Spec PyProof.Rows PySem.W
noncomputable abbrev rowP (r:List Int):P:=.tup (r.map P.int)
noncomputable def rListD:List V→Hp→VK→Prop:=fun xs H Q=>∃ (p:Addr) (kvs:List (List Key×V)),xs=[.ref p]∧H p=some (.dT kvs) ∧
 ∀ (l:Addr) (ps:List (Addr×List Key)),H l=none→ps.map (·.2)=kvs.map (·.1)→(∀ q∈ps,H q.1=some (.tup (q.2.map kV)))→Q (.ref l) (upd H l (.lst (ps.map fun q=>V.ref q.1)))
section
variable {X:Cx} {pins:List (Addr×Obj)} {σ:St} {H:Hp} {s:Shared}
theorem pairs_dT:∀ {kvs:List (List Key×V)} {xs:List (List Key×Addr×Value)},Paired (fun (p:List Key×V) (q:List Key×Addr×Value)=>p.1=q.1∧H q.2.1=some (.tup (p.1.map kV))∧RelV p.2 q.2.2) kvs xs →
  (xs.map fun x=>(x.2.1,x.1)).map (·.2)=kvs.map (·.1)∧∀ q∈(xs.map fun x=>(x.2.1,x.1)),H q.1=some (.tup (q.2.map kV))
 | _,_,.nil=>⟨rfl,fun q hq=>nomatch hq⟩
 | _,_,.cons r t=>by
  obtain ⟨a,b⟩:=pairs_dT t
  refine ⟨by simp only [List.map_cons];rw [a,r.1],fun q hq=>?_⟩
  rw [List.map_cons] at hq
  rcases List.mem_cons.mp hq with rfl | hq
  ·have:=r.2.1;rw [r.1] at this;exact this
  ·exact b q hq
theorem raw_dT {P':Program} {w:World} {h:Heap} {p:Addr} {kvs:List (List Key×V)} (hok:HOk P' w H h) (e:H p=some (.dT kvs)) :
  ∃ (es:Array DictEntry) (ep:Nat) (ps:List (Addr×List Key)),RawD h p es ep∧(p == sysModules)=false∧kvs.length≤sizeLine∧ps.map (·.2)=kvs.map (·.1)∧(∀ q∈ps,H q.1=some (.tup (q.2.map kV)))∧es.toList.map (·.key)=ps.map fun q=>Value.ref q.1:=by
 obtain ⟨z,hd,xs,rel,o,es,ep,h1,h2,h3,h4,_⟩:=hok p _ e
 exact ⟨es,ep,xs.map fun x=>(x.2.1,x.1),⟨o,h1,h2,h3⟩,hd,z,(pairs_dT rel).1,(pairs_dT rel).2,by rw [h4,List.map_map,List.map_map];rfl⟩
theorem items_list {n:Nat} {es:Array DictEntry} {acc:Array Value} (h:ItemsOf (fun i v=>∃ h:i<es.size,v=es[i].key) acc n) (hn:n=es.size):acc.toList=es.toList.map (·.key):=by
 apply List.ext_getElem?
 intro i
 have hl:acc.size=es.size:=by rw [←hn];exact h.1
 by_cases hi:i<acc.size
 ·obtain ⟨h',e⟩:=h.2 i acc[i] (by simp [hi])
  rw [List.getElem?_map]
  simp [hi,h',e]
 ·rw [List.getElem?_eq_none (by simpa using hi),List.getElem?_eq_none (by simp;lia)]
theorem vals_refK (ps:List (Addr×List Key)):Vals (ps.map fun q=>V.ref q.1) (ps.map fun q=>Value.ref q.1):=by
 induction ps with
 | nil=>exact .nil
 | cons q r ih=>exact .cons rfl ih
theorem call_listD (hc:X.calm=true):CallR X (.type "list") rListD:=by
 intro pins s σ H xs us Q I r h
 obtain ⟨p,kvs,rfl,hp,k⟩:=h
 obtain ⟨u,rfl,ru⟩:=r.one
 cases ru
 obtain ⟨es,ep,ps,rd,hd,hz,e1,e2,e3⟩:=raw_dT I.hok hp
 have b:=congrArg List.length e1
 simp at b
 have hl:es.size=kvs.length:=by
  have a:=congrArg List.length e3
  simp at a
  lia
 refine kdl_call (src_raw hd) (I.ok.hd hc) rd (by lia) fun h' tk acc c' hk hS hacc=>?_
 have ei:=items_list hacc rfl
 refine ⟨.ref s.heap.objs.size,_,I.laid (t':=tk) (o:=.lst (ps.map fun q=>V.ref q.1)) hk (Nat.le_refl _) ⟨?_,acc.toList,c',?_,?_⟩,rfl,k _ ps (I.hok.fresh (Nat.le_refl _)) e1 e2⟩
 ·rw [List.length_map];lia
 ·rw [ei,e3];exact vals_refK ps
 ·simpa using hS
end
noncomputable def pListDC:pC:=p1 fun x f K=>match x with
 | .dT ks vs=>K (.lst (ks.map rowP)) .nw
 | _=>False
theorem rps_rows {b:Addr} {Z:Addr→Prop} {H:Hp}:∀ {ps:List (Addr×List Int)},(∀ q∈ps,H q.1=some (.tup (q.2.map V.int)))→Rps b Z H (ps.map fun q=>rowP q.2) (ps.map fun q=>V.ref q.1)
 | [],_=>rfl
 | q :: r,h=>⟨_,_,rfl,⟨q.1,_,rfl,h q List.mem_cons_self,Rps.ints.mpr rfl⟩,rps_rows fun p hp=>h p (List.mem_cons_of_mem _ hp)⟩
theorem kv_ints (r:List Int):(keyI r).map kV=r.map V.int:=by simp [keyI,List.map_map,Function.comp_def,kV]
theorem keys_rows {ps:List (Addr×List Key)} {ks:List (List Int)} (h:ps.map (·.2)=ks.map keyI):∃ ps':List (Addr×List Int),ps'.map (·.1)=ps.map (·.1)∧ps'.map (·.2)=ks∧∀ q'∈ps',(q'.1,keyI q'.2)∈ps:=by
 induction ps generalizing ks with
 | nil =>
  cases ks with
  | nil=>exact ⟨[],rfl,rfl,fun _ h=>nomatch h⟩
  | cons k ks=>simp at h
 | cons q r ih =>
  cases ks with
  | nil=>simp at h
  | cons k ks =>
   simp only [List.map_cons,List.cons.injEq] at h
   obtain ⟨ps',a,b,c⟩:=ih h.2
   refine ⟨(q.1,k) :: ps',by simp [a],by simp [b],fun q' hq=>?_⟩
   rcases List.mem_cons.mp hq with rfl | hq
   ·simp [←h.1]
   ·exact List.mem_cons_of_mem _ (c q' hq)
theorem r_listD:RefC rListD pListDC:=fun W ρ σ Hs H Q K xs vs ok st r hp q=>by
 unfold pListDC p1 at hp
 split at hp
 ·obtain ⟨v,rfl,rv⟩:=r.one
  split at hp
  ·rename_i ks vs2
   obtain ⟨p,us,rfl,_,c1,c2,c3⟩:=dT_cell ok rv
   refine ⟨p,_,rfl,c1,fun l ps hl e1 e2=>q _ _ _ _ hp (Step.new ok.bag hl) ?_⟩
   rw [List.map_fst_zip (by rw [List.length_map,c2,c3.length];exact Nat.le_refl _)] at e1
   obtain ⟨ps',a,b,c⟩:=keys_rows e1
   have hr:Rps W.b (Zof W ρ σ .nw) H (ks.map rowP) (ps.map fun q=>V.ref q.1):=by
    have:=rps_rows (b:=W.b) (Z:=Zof W ρ σ .nw) (H:=H) (ps:=ps') fun q' hq=>by
     have:=e2 _ (c q' hq)
     rw [kv_ints] at this
     exact this
    have e3:(ps'.map fun q=>V.ref q.1)=ps.map fun q=>V.ref q.1:=by
     have:=congrArg (List.map V.ref) a
     simpa [List.map_map,Function.comp_def] using this
    have e4:(ps'.map fun q=>rowP q.2)=ks.map rowP:=by
     rw [←b,List.map_map];rfl
    rw [e3,e4] at this
    exact this
   exact rf_newL ok st (by simp) (by simp) hr hl
  ·exact hp.elim
 ·exact hp.elim
noncomputable def pSortT:pC:=p1 fun x f K=>∃ rs:List (List Int),x=.lst (rs.map rowP)∧rs.length<64∧(rs.length<2∨∃ n,0<n∧∀ r∈rs,r.length=n)∧∀ rs':List (List Int),rs'.Perm rs→SrtR rs'→K (.lst (rs'.map rowP)) .nw
theorem rows_refs {b:Addr} {Z:Addr→Prop} {H:Hp}:∀ {rs:List (List Int)} {vs:List V},Rps b Z H (rs.map rowP) vs→∃ ps:List (Addr×List Int),vs=refs ps∧ps.map (·.2)=rs∧∀ q∈ps,H q.1=some (.tup (q.2.map V.int))
 | [],vs,h=>⟨[],h,rfl,fun _ h=>nomatch h⟩
 | r :: rs,vs,h=>by
  obtain ⟨v,t,rfl,⟨p,us,rfl,e,e2⟩,h2⟩:=h
  obtain ⟨ps,a,b,c⟩:=rows_refs h2
  rw [Rps.ints.mp e2] at e
  refine ⟨(p,r) :: ps,by rw [a];rfl,by rw [List.map_cons,b],fun q hq=>?_⟩
  rcases List.mem_cons.mp hq with rfl | hq
  ·exact e
  ·exact c q hq
end L2
set_option Elab.async false
set_option linter.all false
set_option maxRecDepth 100000
set_option maxHeartbeats 4000000
namespace HT
open PySem PyProof.Rows
section
open PySem.SeqAt
open PySem.AutoSeq1 (wpAny_loadPart')
open PySem.MeetsSeq PySem.MeetsSeq2 PySem.MeetsSeq3
end
section
variable {prog:Program} {w:World} {A:Around} {E:Value→Shared→Prop} {s:Shared}
end
end HT
namespace L2
open PySem PySem.Spec PyProof.Rows
end L2
set_option Elab.async false
set_option linter.all false
set_option maxRecDepth 100000
set_option maxHeartbeats 4000000
namespace L2
open PySem PySem.Spec PyProof.Rows
noncomputable def pTT (g:List Int→List Int→Bool):p2:=fun x _ y _ K=>∃ ns ms,keyT x=some ns∧keyT y=some ms∧K (.bl (g ns ms)) .fr
noncomputable def pairP (x y:P):P:=.tup [x,y]
noncomputable def pZipL (pa pb:pE):pI:=fun ρ K=>pa ρ fun x f=>pb ρ fun y g=>∃ xs ys,x=.lst xs∧y=.lst ys∧(P.imms xs=true∧P.imms ys=true)∧K (List.zipWith pairP xs ys) .fr (stF f && stF g)
section
variable {ι:Type} {Xs:ι→Cx} {a b:Expr} {pa pb:pE} {pos p1 tp:Pos} {elts:List Expr} {x1:Nat} {Kf:PySem.W.Frag}
end
end L2
set_option Elab.async false
set_option linter.all false
set_option maxRecDepth 100000
set_option maxHeartbeats 4000000
namespace L2
open PySem
noncomputable abbrev nmP (ns:List Str):P:=.tup (ns.map P.str)
noncomputable abbrev prP (q:List Int×Int):P:=.tup [rowP q.1,.int q.2]
noncomputable abbrev tlP (t:List (List Int×Int)):P:=.lst (t.map prP)
noncomputable abbrev dcP (t:List (List Int×Int)):P:=.dT (t.map (·.1)) (t.map fun q=>.int q.2)
@[simp] theorem imm_row (r:List Int):(rowP r).imm=true:=by simp
@[simp] theorem imm_pr (q:List Int×Int):(prP q).imm=true:=by simp
@[simp] theorem imms_prs (t:List (List Int×Int)):P.imms (t.map prP)=true:=imms_map imm_pr t
@[simp] theorem imms_rows' (t:List (List Int)):P.imms (t.map rowP)=true:=imms_map imm_row t
@[simp] theorem pl_row (n:Nat) (r:List Int):(rowP r).pl (n + 1)=true:=by simp
@[simp] theorem pl_pr (n:Nat) (q:List Int×Int):(prP q).pl (n + 2)=true:=by simp
@[simp] theorem pl_prs (n:Nat) (t:List (List Int×Int)):(t.map prP).all (P.pl (n + 2))=true:=pl_map (pl_pr n) t
theorem eqP_ii (a b:Int):eqP (.int a) (.int b)=decide (a=b):=by simp only [eqP];rw [Bool.eq_iff_iff];simp
theorem eqP_ss (a b:Str):eqP (.str a) (.str b)=decide (a=b):=by simp only [eqP];rw [Bool.eq_iff_iff];simp
theorem eqP_bb (a b:Bool):eqP (.bl a) (.bl b)=decide (a=b):=by simp only [eqP];rw [Bool.eq_iff_iff];simp
theorem nb_row (r:List Int):(rowP r).nb=true:=by rw [P.nb];exact nbs_map (fun _=>rfl) r
theorem nb_pr (q:List Int×Int):(prP q).nb=true:=by rw [P.nb,P.nbs,P.nbs,P.nbs,nb_row];rfl
theorem nb_tl (t:List (List Int×Int)):(tlP t).nb=true:=by rw [P.nb];exact nbs_map nb_pr t
theorem nb_nm (r:List Str):(nmP r).nb=true:=by rw [P.nb];exact nbs_map (fun _=>rfl) r
theorem ints_inj {a b:List Int} (h:a.map P.int=b.map P.int):a=b:=by
 have:=congrArg (List.map fun p=>match p with | P.int i=>i | _=>0) h
 simpa [List.map_map,Function.comp_def] using this
theorem strs_inj {a b:List Str} (h:a.map P.str=b.map P.str):a=b:=by
 have:=congrArg (List.map fun p=>match p with | P.str i=>i | _=>⟨#[]⟩) h
 simpa [List.map_map,Function.comp_def] using this
theorem row_inj {a b:List Int} (h:rowP a=rowP b):a=b:=ints_inj (P.tup.inj h)
theorem pr_inj {a b:List Int×Int} (h:prP a=prP b):a=b:=by
 have h:=P.tup.inj h
 simp only [List.cons.injEq] at h
 exact Prod.ext (row_inj h.1) (P.int.inj h.2.1)
theorem map_inj {α:Type} {f:α→P} (hf:∀ a b,f a=f b→a=b):∀ {a b:List α},a.map f=b.map f→a=b
 | [],[],_=>rfl
 | [],_ :: _,h=>by simp at h
 | _ :: _,[],h=>by simp at h
 | x :: a,y :: b,h=>by
  simp only [List.map_cons,List.cons.injEq] at h
  rw [hf x y h.1,map_inj hf h.2]
theorem tl_inj {a b:List (List Int×Int)} (h:tlP a=tlP b):a=b:=map_inj (fun _ _=>pr_inj) (P.lst.inj h)
theorem eqP_rr (a b:List Int):eqP (rowP a) (rowP b)=decide (a=b):=by
 rw [Bool.eq_iff_iff,eqP_iff (nb_row a) (nb_row b),decide_eq_true_iff];exact ⟨row_inj,fun h=>by rw [h]⟩
theorem eqP_tt (a b:List (List Int×Int)):eqP (tlP a) (tlP b)=decide (a=b):=by
 rw [Bool.eq_iff_iff,eqP_iff (nb_tl a) (nb_tl b),decide_eq_true_iff];exact ⟨tl_inj,fun h=>by rw [h]⟩
theorem eqP_mm (a b:List Str):eqP (nmP a) (nmP b)=decide (a=b):=by
 rw [Bool.eq_iff_iff,eqP_iff (nb_nm a) (nb_nm b),decide_eq_true_iff];exact ⟨fun h=>strs_inj (P.tup.inj h),fun h=>by rw [h]⟩
noncomputable def putT (t:List (List Int×Int)) (r:List Int) (c:Int):List (List Int×Int):=if r∈t.map (·.1) then t.map (fun q=>if q.1=r then (q.1,c) else q) else t ++ [(r,c)]
noncomputable def getT (t:List (List Int×Int)) (r:List Int):Option Int:=(t.find? fun q=>decide (q.1=r)).map (·.2)
theorem dGet_T (r:List Int):∀ t:List (List Int×Int),dGetP (t.map (·.1)) (t.map fun q=>P.int q.2) r=(getT t r).map P.int
 | []=>rfl
 | q :: t=>by
  simp only [List.map_cons,dGetP]
  unfold getT
  rw [List.find?_cons]
  by_cases e:q.1=r
  ·rw [if_pos e];simp [e]
  ·rw [if_neg e,dGet_T r t];simp [e,getT]
theorem zip_if (r:List Int) (c:Int):∀ t:List (List Int×Int),List.zipWith (fun k0 v=>if k0=r then P.int c else v) (t.map (·.1)) (t.map fun q=>P.int q.2)=(t.map (fun q=>if q.1=r then (q.1,c) else q)).map fun q=>P.int q.2
 | []=>rfl
 | q :: t=>by
  simp only [List.map_cons,List.zipWith_cons_cons,zip_if r c t]
  by_cases e:q.1=r <;> simp [e]
theorem put_T (t:List (List Int×Int)) (r:List Int) (c:Int):P.dT (dKeys (t.map (·.1)) r) (dVals (t.map (·.1)) (t.map fun q=>P.int q.2) r (.int c))=dcP (putT t r c):=by
 unfold dKeys dVals putT dcP
 by_cases h:r∈t.map (·.1)
 ·rw [if_pos h,if_pos h,if_pos h,zip_if]
  congr 1
  rw [List.map_map]
  refine List.map_congr_left fun q _=>?_
  by_cases e:q.1=r <;> simp [e]
 ·rw [if_neg h,if_neg h,if_neg h];simp
theorem putT_len (t:List (List Int×Int)) (r:List Int) (c:Int):(putT t r c).length≤t.length + 1:=by
 unfold putT;split <;> simp
theorem putT_rows {t:List (List Int×Int)} {r:List Int} {c:Int} {n:Nat} (h:∀ q∈t,q.1.length=n) (hr:r.length=n):∀ q∈putT t r c,q.1.length=n:=by
 unfold putT
 split
 ·intro q hq
  obtain ⟨p,hp,rfl⟩:=List.mem_map.mp hq
  split
  ·exact h p hp
  ·exact h p hp
 ·intro q hq
  rcases List.mem_append.mp hq with z | z
  ·exact h q z
  ·rw [List.mem_singleton.mp z];exact hr
theorem putT_keys (t:List (List Int×Int)) (r:List Int) (c:Int):(putT t r c).map (·.1)=if r∈t.map (·.1) then t.map (·.1) else t.map (·.1) ++ [r]:=by
 unfold putT
 split
 ·rw [List.map_map]
  refine List.map_congr_left fun q _=>?_
  by_cases e:q.1=r <;> simp [e]
 ·simp
theorem putT_nodup {t:List (List Int×Int)} {r:List Int} {c:Int} (h:(t.map (·.1)).Nodup):((putT t r c).map (·.1)).Nodup:=by
 rw [putT_keys]
 split
 ·exact h
 ·rename_i hn
  rw [List.nodup_append]
  exact ⟨h,by simp,fun a ha b hb=>by rw [List.mem_singleton.mp hb];exact fun e=>hn (e ▸ ha)⟩
theorem srt_unique:∀ {a b:List (List Int)},a.Perm b→SrtR a→SrtR b→a=b
 | [],b,h,_,_=>(List.nil_perm.mp h).symm
 | x :: xs,[],h,_,_=>absurd h.length_eq (by simp)
 | x :: xs,y :: ys,h,h1,h2=>by
  have e:x=y:=by
   have hx:x∈y :: ys:=h.mem_iff.mp List.mem_cons_self
   have hy:y∈x :: xs:=h.mem_iff.mpr List.mem_cons_self
   rcases List.mem_cons.mp hx with e | hx
   ·exact e
   ·rcases List.mem_cons.mp hy with e | hy
    ·exact e.symm
    ·exact lex_total x y ((List.pairwise_cons.mp h2).1 x hx) ((List.pairwise_cons.mp h1).1 y hy)
  subst e
  rw [srt_unique ((List.perm_cons x).mp h) (List.pairwise_cons.mp h1).2 (List.pairwise_cons.mp h2).2]
noncomputable def insR (x:List Int):List (List Int)→List (List Int)
 | []=>[x]
 | y :: r=>if HT.lexLt y x=true then y :: insR x r else x :: y :: r
noncomputable def sortR:List (List Int)→List (List Int)
 | []=>[]
 | x :: r=>insR x (sortR r)
theorem insR_perm (x:List Int):∀ r,(insR x r).Perm (x :: r)
 | []=>List.Perm.refl _
 | y :: r=>by
  unfold insR
  split
  ·exact ((insR_perm x r).cons y).trans (List.Perm.swap x y r)
  ·exact List.Perm.refl _
theorem sortR_perm:∀ r,(sortR r).Perm r
 | []=>List.Perm.refl _
 | x :: r=>(insR_perm x (sortR r)).trans ((sortR_perm r).cons x)
theorem insR_srt (x:List Int):∀ {r},SrtR r→SrtR (insR x r)
 | [],_=>List.pairwise_singleton _ _
 | y :: r,h=>by
  unfold insR
  have h1:=List.pairwise_cons.mp h
  split
  ·rename_i hl
   refine List.pairwise_cons.mpr ⟨fun z hz=>?_,insR_srt x h1.2⟩
   rcases List.mem_cons.mp ((insR_perm x r).mem_iff.mp hz) with e | hz
   ·rw [e]
    cases e2:HT.lexLt x y
    ·rfl
    ·have:=lex_trans _ _ _ hl e2;rw [lex_irr] at this;cases this
   ·exact h1.1 z hz
  ·rename_i hl
   have hl:HT.lexLt y x=false:=by simpa using hl
   refine List.pairwise_cons.mpr ⟨fun z hz=>?_,h⟩
   rcases List.mem_cons.mp hz with e | hz
   ·rw [e];exact hl
   ·cases e2:HT.lexLt z x
    ·rfl
    ·rcases lex_neg z y x e2 with q | q
     ·rw [h1.1 z hz] at q;cases q
     ·rw [hl] at q;cases q
theorem sortR_srt:∀ r,SrtR (sortR r)
 | []=>List.Pairwise.nil
 | x :: r=>insR_srt x (sortR_srt r)
theorem sortR_of {rs rs':List (List Int)} (h:rs'.Perm rs) (hs:SrtR rs'):rs'=sortR rs:=srt_unique (h.trans (sortR_perm rs).symm) hs (sortR_srt rs)
noncomputable def settleT (t:List (List Int×Int)):List (List Int×Int):=((sortR (t.map (·.1))).filter fun r=>decide ((getT t r).getD 0≠0)).map fun r=>(r,(getT t r).getD 0)
end L2
set_option Elab.async false
set_option linter.all false
set_option maxRecDepth 100000
set_option maxHeartbeats 4000000
namespace L2
open PySem
theorem getT_some {t:List (List Int×Int)} {r:List Int} (h:r∈t.map (·.1)):∃ c,getT t r=some c:=by
 obtain ⟨q,hq,e⟩:=List.mem_map.mp h
 unfold getT
 cases hf:t.find? fun q=>decide (q.1=r) with
 | some p=>exact ⟨p.2,rfl⟩
 | none=>exact absurd (decide_eq_true e) (by simpa using List.find?_eq_none.mp hf q hq)
noncomputable def fAnswers:pF:=fun xs K=>∃ n b:Int,xs=[.bag,.int n,.int b]∧0≤n∧n≤100∧0<b∧b<2 ^ 64∧∀ r:List Int,(r.length:Int)=n→(∀ x∈r,0≤x∧x<b)→K (rowP r)
noncomputable def fMany:pF:=fun xs K=>xs=[.bag]∧∀ c:Int,1≤c→c≤1000000000000→K (.int c)
noncomputable def Rows (t:List (List Int×Int)):Prop:=t.length<2∨∃ n,0<n∧∀ q∈t,q.1.length=n
theorem QS.weak {ι:Type} {Xs:ι→Cx} {st:Stmt} {p m:pS} (h:QS Xs st p) (hw:∀ E ρ,m E ρ→p E ρ):QS Xs st m:=let ⟨t,h1,h2⟩:=h;⟨t,h1,fun W ρ σ H D E ok h r=>h2 W ρ σ H D E ok (hw E ρ h) r⟩
structure Drawn (n:Nat) (t:List (List Int×Int)):Prop where
 len:t.length≤40
 rows:∀ q∈t,q.1.length=n
 nd:(t.map (·.1)).Nodup
 row:∀ q∈t,∀ x∈q.1,0≤x∧x≤9
 cnt:∀ q∈t,1≤q.2∧q.2≤1000000000000
theorem putT_mem {t:List (List Int×Int)} {r:List Int} {c:Int} {q:List Int×Int} (h:q∈putT t r c):q∈t∨q=(r,c):=by
 unfold putT at h
 split at h
 ·obtain ⟨p,hp,e⟩:=List.mem_map.mp h
  by_cases z:p.1=r
  ·rw [if_pos z,z] at e;exact .inr e.symm
  ·rw [if_neg z] at e;exact .inl (e ▸ hp)
 ·rcases List.mem_append.mp h with z | z
  ·exact .inl z
  ·exact .inr (List.mem_singleton.mp z)
structure DrawnI (n i:Nat) (t:List (List Int×Int)):Prop where
 len:t.length≤i
 rows:∀ q∈t,q.1.length=n
 nd:(t.map (·.1)).Nodup
 row:∀ q∈t,∀ x∈q.1,0≤x∧x≤9
 cnt:∀ q∈t,1≤q.2∧q.2≤1000000000000
theorem DrawnI.nil {n:Nat}:DrawnI n 0 []:=⟨by simp,by simp,by simp,by simp,by simp⟩
theorem DrawnI.put {n i:Nat} {t:List (List Int×Int)} (h:DrawnI n i t) {r:List Int} {c:Int} (hr:r.length=n) (hx:∀ x∈r,0≤x∧x≤9) (h1:1≤c) (h2:c≤1000000000000):DrawnI n (i + 1) (putT t r c) where
 len:=Nat.le_trans (putT_len t r c) (Nat.add_le_add_right h.len 1)
 rows:=putT_rows h.rows hr
 nd:=putT_nodup h.nd
 row:=fun q hq=>(putT_mem hq).elim (h.row q) fun e=>by rw [e];exact hx
 cnt:=fun q hq=>(putT_mem hq).elim (h.cnt q) fun e=>by rw [e];exact ⟨h1,h2⟩
theorem DrawnI.out {n i:Nat} {t:List (List Int×Int)} (h:DrawnI n i t) (hi:i≤40):Drawn n t:=⟨Nat.le_trans h.len hi,h.rows,h.nd,h.row,h.cnt⟩
noncomputable def fDrawn:pF:=fun xs K=>∃ room,xs=[.bag,nmP room]∧room.length≤9∧∀ t,Drawn room.length t→K (tlP (settleT t))
end L2
set_option Elab.async false
set_option linter.all false
set_option maxRecDepth 100000
set_option maxHeartbeats 4000000
namespace L2
open PySem PySem.Spec PyProof.Rows
noncomputable def pAppPop1 (k:Nat) (pi:pE):pS:=fun E ρ=>match ρ[k]? with
 | some (.own (.lst ys))=>pi ρ fun i _=>∃ (m:Nat) (z:P),i=.int (m:Int)∧m<2 ^ 62∧ys[m]?=some z∧ys.length<16777216∧E.nx (ρ.set k (.own (.lst (ys.eraseIdx m ++ [z]))))
 | _=>False
section
variable {ι:Type} {Xs:ι→Cx} {a b:Expr} {pa pb:pE} {pos apos cpos p1:Pos} {x:Str} {k j:Nat} {Kf:PySem.W.Frag} {t u:TE}
end
theorem strs_iff {a b:List Str}:(a.map P.str=b.map P.str)=(a=b):=propext ⟨strs_inj,fun h=>by rw [h]⟩
theorem ints_iff {a b:List Int}:(a.map P.int=b.map P.int)=(a=b):=propext ⟨ints_inj,fun h=>by rw [h]⟩
theorem prs_iff {a b:List (List Int×Int)}:(a.map prP=b.map prP)=(a=b):=propext ⟨fun h=>map_inj (fun _ _=>pr_inj) h,fun h=>by rw [h]⟩
theorem rows_iff {a b:List (List Int)}:(a.map rowP=b.map rowP)=(a=b):=propext ⟨fun h=>map_inj (fun _ _=>row_inj) h,fun h=>by rw [h]⟩
theorem settle_len (t:List (List Int×Int)):(settleT t).length≤t.length:=by
 unfold settleT
 rw [List.length_map]
 refine Nat.le_trans (List.length_filter_le _ _) ?_
 rw [(sortR_perm _).length_eq,List.length_map];exact Nat.le_refl _
theorem settle_mem {t:List (List Int×Int)} {q:List Int×Int} (h:q∈settleT t):q.1∈t.map (·.1):=by
 unfold settleT at h
 obtain ⟨r,hr,rfl⟩:=List.mem_map.mp h
 exact (sortR_perm _).mem_iff.mp (List.mem_filter.mp hr).1
end L2
set_option Elab.async false
set_option linter.all false
set_option maxRecDepth 100000
set_option maxHeartbeats 4000000
namespace L2
open PySem PySem.Spec PyProof.Rows PySem.W PySem.SeqAt
end L2
namespace L2
open PySem PySem.Spec PyProof.Rows PySem.W PySem.SeqAt
section
variable {X:Cx} {o e:Expr} {es:List Expr} {to:TE} {t:TA} {name:Str} {apos cpos:Pos} {id:String} {r:V→List V→Hp→VK→Prop}
end
end L2
set_option Elab.async false
set_option linter.all false
set_option maxRecDepth 100000
set_option maxHeartbeats 4000000
namespace L2
open PySem PySem.Spec PyProof.Rows PySem.W
noncomputable def pIndex (po pe:pE):pE:=fun ρ K=>po ρ fun x _=>(∃ xs,x=.tup xs)∧pe ρ fun y _=>∃ (ss:List Str) (z:Str) (j:Nat),x=nmP ss∧y=.str z∧ss[j]?=some z∧(∀ m,m<j→ss[m]?≠some z)∧K (.int j) .fr
section
variable {ι:Type} {Xs:ι→Cx} {o e:Expr} {pe po:pE} {pos apos cpos:Pos}
end
noncomputable def pMin2:pC:=fun xs K=>match xs with
 | [(.int i,_),(.int j,_)]=>K (.int (if j<i then j else i)) .fr
 | _=>False
noncomputable def pMax2:pC:=fun xs K=>match xs with
 | [(.int i,_),(.int j,_)]=>K (.int (if j > i then j else i)) .fr
 | _=>False
noncomputable def rdI (g:Int→Int→Int):V→V→Hp→VK→Prop:=fun x y H Q=>∃ i j,x=.int i∧y=.int j∧Q (.int (g i j)) H
theorem iopd_sub {X:Cx}:InOp X .Sub (rdI (· - ·)):=in_sub
noncomputable def pDAug (g:Int→Int→Int) (k:Nat) (pk pe:pE):pS:=fun E ρ=>match ρ[k]? with
 | some (.own (.dT ks vs))=>pk ρ fun z _=>∃ r o,keyT z=some r∧dGetP ks vs r=some (.int o)∧pe ρ fun y _=>∃ d,y=.int d∧ks.length<16777216∧E.nx (ρ.set k (.own (.dT (dKeys ks r) (dVals ks vs r (.int (g o d))))))
 | _=>False
section
variable {ι:Type} {Xs:ι→Cx} {a b:Expr} {pa pb:pE} {pos pos' p1:Pos} {x:Str} {k:Nat} {t u:TE} {g:Int→Int→Int}
theorem refS_daug (h1:RefE t pa) (h2:RefE u pb):RefS (sDAug (tVar k) t u (rdI g)) (pDAug g k pa pb):=fun W ρ σ H D E ok hk r=>by
 unfold pDAug at hk
 split at hk
 ·rename_i ks xs e
  obtain ⟨w,hs,p,e2,_,_,gb,_,vs,c1,c2,c3⟩:=ok.slot k _ e
  subst e2
  have ho:OwS ρ σ p:=⟨k,_,e,hs⟩
  refine ⟨.ref p,hs,h1 W ρ σ H _ _ ok hk fun z fz vz H1 ⟨rr,o,k0,k1,k2⟩ s1 rz=>?_⟩
  have ok1:=ok.step s1
  obtain ⟨q,rfl,c4⟩:=key_cell ok1 k0 rz
  have c1':=s1.same p _ gb c1
  have c3':Rps W.b (Zf W ρ σ) H1 xs vs:=c3.step (f:=.fr) s1 ok.bag
  obtain ⟨v0,a1,a2⟩:=(dGet_rp keyI_inj (k:=rr) c3' c2).1 _ k1
  cases (show v0=.int o from a2)
  refine ⟨p,.int o,rfl,by rw [←a1];exact DGet.t c1' c4,h2 W ρ σ H1 _ _ ok1 k2 fun y f v H2 ⟨d,k3,k4,k5⟩ s2 r2=>?_⟩
  subst k3
  have s12:=s1.trans s2
  have ok2:=ok.step s12
  cases int_of ok2 r2
  have c1'':=s12.same p _ gb c1
  have c3'':Rps W.b (Zf W ρ σ) H2 xs vs:=c3.step (f:=.fr) s12 ok.bag
  have c4':=(key_cell ok2 k0 (rz.step ok1 s2))
  obtain ⟨q',eq',c5⟩:=c4'
  cases eq'
  refine ⟨o,d,rfl,rfl,_,DPut.t c1'' c5 (by rw [List.length_zip,List.length_map];exact Nat.lt_of_le_of_lt (Nat.min_le_left _ _) k4),r.nx _ _ _ k5 ?_⟩
  obtain ⟨vs',f1,f2⟩:=dPut_rp keyI_inj (k:=rr) c3'' c2 (show Rp W.b (Zf W ρ σ) H2 (.int (g o d)) (.int (g o d)) from rfl)
  rw [f1]
  have kk:=own_keep (o:=HO.dT (((dKeys ks rr).map keyI).zip vs')) ok2 ho (f:=.fr) (.inr rfl)
  exact ok2.mut e hs (fun _ z=>nomatch z) ⟨vs',upd_same,dKeys_length c2,f2.keep kk.1 kk.2⟩
 ·exact hk.elim
theorem qs_daug {op:Operator} (hu:∀ i,(Xs i).A.units + 1<cLine) (hop:∀ i,InOp (Xs i) op (rdI g)) (ha:QE Xs a pa) (hb:QE Xs b pb) (hN:∀ i,(Xs i).N[k]?=some x:=by intro _;rfl) (hv:∀ i,Vis (Xs i).env.scope x:=by intro _;trivial) (hd:(x == ("__debug__":Str))=false:=by decide) (hcd:(x == ("__classdict__":Str))=false:=by decide)
  (hst:∀ ov iv new,augStore a ov iv new=(do holding [new,ov,iv] (setItem ov iv new);release [new,ov,iv] [];pure .next):=by intros;rfl):QS Xs (.AugAssign (.Subscript (.Name x p1) a pos') op b pos) (pDAug g k pa pb):=by
 obtain ⟨t,e1,e2⟩:=ha
 obtain ⟨u,g1,g2⟩:=hb
 exact ⟨_,fun i=>ps_daug (hu i) (pe_var (hN i) (hv i) hd hcd) (e1 i) (g1 i) (hop i) hst,refS_daug e2 g2⟩
end
end L2
set_option Elab.async false
set_option linter.all false
set_option maxRecDepth 100000
set_option maxHeartbeats 4000000
namespace L2
open PySem PySem.Spec PyProof.Rows PySem.W
section
variable {X:Cx} {pins:List (Addr×Obj)} {σ:St} {H:Hp} {s:Shared}
end
end L2
namespace L2
open PySem PySem.Spec PyProof.Rows PySem.W
section
variable {X:Cx} {pins:List (Addr×Obj)} {σ:St} {H:Hp} {s:Shared}
end
noncomputable def pSortD:pC:=p1 fun x f K=>∃ (ks:List (List Int)) (xs:List P),x=.dT ks xs∧ks.length<64∧(ks.length<2∨∃ n,0<n∧∀ r∈ks,r.length=n)∧∀ rs':List (List Int),rs'.Perm ks→SrtR rs'→K (.lst (rs'.map rowP)) .nw
end L2
set_option Elab.async false
set_option linter.all false
set_option maxRecDepth 100000
set_option maxHeartbeats 4000000
namespace PySem
open Sem (wp)
theorem list_keys_miss:typeLookup (.type "list") (Str.ofString "keys")=pure none:=am_miss_of_fast (by decide +kernel)
theorem keys_miss_list {prog:Program} {w:World} {A:Around} {E:Value→Shared→Prop} {s:Shared} {a:Addr} {o:Obj} {xs:Array Value} {k:Nat} {Q:Option Value→Shared→Prop}
  (hx:s.heap.get? a=some o) (hc:o.cls=.type "list") (hdat:o.data=.seq xs k) (hd:o.dict=none) (hA:A.handled=none)
  (h:∀ h' tk e,Heap.NewExcOf s.heap h' e "AttributeError"→Q none { s with heap:=h',toks:=tk }) :
  wpAny (model prog w) A (getAttr? (.ref a) (Str.ofString "keys")) Q E s:=by
 obtain ⟨c,dct,dat,sl⟩:=o
 simp only at hc hdat hd
 subst hc hdat hd
 obtain ⟨hp,g,d,tk,os⟩:=s
 have hT:∀ tk',(⟨hp,g,d,tk',os⟩:Shared).TypeIs (.ref a) "list":=fun _=>⟨_,hx,rfl⟩
 have f1:=sub_AttributeError
 have f3:=F.slot_list_getattribute.lookup
 have f4:=F.slot_list_getattribute.bind (.ref a)
 have f5:=am_list_getattr_none
 have hmiss:=list_keys_miss
 unfold getAttr? getAttrBy? getAttrBy
 repeat (any_goals (first | assumption | exact hT _ | ((with_reducible show wpAny _ _ (call (Value.builtin "list.__getattribute__") _ _) _ _ _);refine call_meets F.slot_list_getattribute (hT _) am_entry_list_getattribute (F.args_list_getattribute_2 _ _) (meets_getattribute_miss_list a xs k sl (Str.ofString "keys") _ hmiss (by decide +kernel)) ⟨hx,by assumption,fun h' tk' e hx'=>?_⟩) | wp_step))
 obtain ⟨t',u',he⟩:=hx'.there
 show wpAny _ _ (getattributeRaised _ _ _ _ _ _ _) _ _ _
 unfold getattributeRaised
 repeat (any_goals (first | assumption | wp_step))
 all_goals first | exact h _ _ _ hx'.of | trace_state
end PySem
namespace L2
open PySem PySem.Spec PyProof.Rows PySem.W
theorem plain_upd:plainId "dict.update.loop"=true:=by decide +kernel
theorem entry_upd:entryFor table "dict.update.loop"=some Builtin.«dict.update.loop»:=entryFor_of_fast (by kernel_rfl)
theorem upd_self {H:Hp} {a:Addr} {o:HO} (e:H a=some o):upd H a o=H:=by
 funext b
 by_cases hb:b=a
 ·subst hb;rw [upd_same,e]
 ·rw [upd_ne hb]
section
variable {X:Cx} {pins:List (Addr×Obj)} {σ:St} {H:Hp} {s:Shared} {E:Value→Shared→Prop}
theorem d_dictSet {kvs:List (List Key×V)} {k:List Key} {a b:Addr} {v:V} {r:Value} {B:Around} {Q:Unit→Shared→Prop} (hr:(tupleKind (mixKind X.prog X.w)).room B) (I:Inv X pins σ H s) (e:H a=some (.dT kvs)) (eb:H b=some (.tup (k.map kV))) (l:kvs.length<sizeLine) (rv:RelV v r)
  (h:∀ s',Inv X pins σ (upd H a (.dT (putK kvs k v))) s'→Heap.SameBut a s.heap s'.heap→Q () s'):wpAny (model X.prog X.w) B (dictSet a (.ref b) r) Q E s:=by
 obtain ⟨z,hd,xs,rel,dd⟩:=dt_of I.hok e
 have hz:xs.length≤sizeLine:=by rw [←Paired.length rel];exact z
 have hl:(putK kvs k v).length≤sizeLine:=by have:=length_putK kvs k v;lia
 refine wpAny_dictSet_heap (hsz:=hz) hr (key_of I.hok eb) dd fun h' dd' hs=>h _ ?_ hs
 obtain ⟨q,es,ep,hq,h2,h3,h4,_,h5⟩:=dd'
 refine d_write I (by rw [e];exact True.intro) hs ⟨q,hq⟩ ⟨hl,hd,_,(rel.put k eb rv).keeps fun c ys ec=>?_,q,es,ep,hq,h2,h3,h4,h5⟩
 rw [upd_ne (ne_of ec e (fun z=>nomatch z))]
 exact ec
noncomputable def putAll (kvs:List (List Key×V)):List (Addr×List Key×Addr×V)→List (List Key×V)
 | []=>kvs
 | p :: r=>putAll (putK kvs p.2.1 p.2.2.2) r
theorem upd_loop {A:Around} (hh:A.handled=none) (hr:(tupleKind (mixKind X.prog X.w)).room A.in1) {R:Result→Shared→Prop} {l d it:Addr} {ps:List (Addr×List Key×Addr×V)}:∀ (n i:Nat) (s:Shared) (H:Hp) (kvs:List (List Key×V)),ps.length - i=n→i≤ps.length→Inv X pins σ H s→H d=some (.dT kvs) →
  H l=some (.lst (ps.map fun p=>V.ref p.1))→(∀ p∈ps,H p.1=some (.tup [.ref p.2.2.1,p.2.2.2])∧H p.2.2.1=some (.tup (p.2.1.map kV)))→s.heap.IsListIter it l i→FpOk X pins H it→kvs.length + n<sizeLine →
  (∀ s',Inv X pins σ (upd H d (.dT (putAll kvs (ps.drop i)))) s'→R (.ok (.ret .none)) s') →
  wpAny (model X.prog X.w) A.in1 (Builtin.«dict.update.loop» ⟨[.ref d,.ref it,rawInt i,.none],[]⟩) (fun fin s'=>match fin with | .done f=>R (.ok f) s' | .again c'=>c'.quiet=true∧codeAny (model X.prog X.w) A c' R s') (fun e s'=>R (.error e) s') s:=by
 intro n
 induction n with
 | zero =>
  intro i s H kvs hn hi I ed el hps st hf hsz k
  have hi':i=ps.length:=by lia
  obtain ⟨its,rv,pl,hz⟩:=I.list (.of el)
  have hl:=rv.length
  rw [List.length_map] at hl
  obtain ⟨f0,f1,f2,f3,f4,f5⟩:=hf
  unfold Builtin.«dict.update.loop»
  refine wpAny_bind (wpAny_pyNext_list_end (A:=A.in1) hh st pl.isList (by simp;lia) fun h' eb=>?_)
  have I1:Inv X pins σ H { s with heap:=h' }:=I.turned (t':=s.toks) (fun b o hb e=>eb b o hb e) f0 f1 f3 f4 f5
  have:=k _ (by rw [hi',List.drop_length];unfold putAll;rw [upd_self ed];exact I1)
  show wpAny _ _ (Builtin.Dict.addKeywords d [] >>= _) _ _ _
  exact wpAny_bind (wpAny_pure (wpAny_pure this))
 | succ n ih =>
  intro i s H kvs hn hi I ed el hps st hf hsz k
  have hlt:i<ps.length:=by lia
  obtain ⟨its,rv,pl,hz⟩:=I.list (.of el)
  obtain ⟨h1,h2⟩:=hps ps[i] (List.getElem_mem hlt)
  obtain ⟨u,hu,ru⟩:=rv.get (i:=i) (x:=V.ref ps[i].1) (by simp [hlt])
  cases ru
  obtain ⟨f0,f1,f2,f3,f4,f5⟩:=id hf
  unfold Builtin.«dict.update.loop»
  refine wpAny_bind (wpAny_pyNext_list_item st pl.isList (x:=.ref ps[i].1) (by simpa using hu) fun h' st' sb=>?_)
  have I1:Inv X pins σ H { s with heap:=h' }:=I.turned (t':=s.toks) (fun b o hb e=>(sb.2 b hb).trans e) f0 f1 f3 f4 f5
  obtain ⟨_,ts,w1,o1,g1,g2,⟨n1,g3⟩,_⟩:=I1.hok _ _ h1
  obtain ⟨u1,u2,rfl,r1,r2⟩:=vals2 w1
  cases r1
  have hT:(⟨h',s.gens,s.drawn,s.toks,s.os⟩:Shared).TypeIs (.ref ps[i].1) "tuple":=⟨o1,g1,g2⟩
  have hid:it≠d:=fun z=>by rw [z,ed] at f0;cases f0
  dsimp only
  refine wpAny_bind (wpAny_holding ?_)
  refine wpAny_bind (wpAny_tryCatch ?_)
  unfold Builtin.Dict.pairItems
  refine wpAny_bind (wpAny_typeOf hT ?_)
  rw [if_pos (by decide)]
  refine wpAny_bind (wpAny_seqItems g1 g3 ?_)
  refine wpAny_pure ?_
  show wpAny _ _ (holding [Value.ref ps[i].2.2.1,u2] (dictSet d (.ref ps[i].2.2.1) u2)) _ _ _
  refine wpAny_holding (d_dictSet hr I1 ed h2 (by lia) r2 fun s2 I2 sb2=>?_)
  refine wpAny_pure ⟨plainId_quiet plain_upd _,codeAny_builtin entry_upd ?_⟩
  rw [Around.under_plainId plain_upd _]
  have hc:((i:Int) + 1)=((i + 1:Nat):Int):=by push_cast;rfl
  rw [hc]
  have nt:∀ b ys,H b=some (HO.tup ys)→b≠d:=fun b ys e=>ne_of e ed (fun z=>nomatch z)
  have hlk:=length_putK kvs ps[i].2.1 ps[i].2.2.2
  refine ih (i + 1) s2 _ _ (by lia) hlt I2 upd_same (by rw [upd_ne (ne_of el ed (fun z=>nomatch z))];exact el) (fun p hp=>?_) ?_ ⟨by rw [upd_ne hid];exact f0,f1,f2,f3,f4,f5⟩ (by lia) fun s' I'=>k s' ?_
  ·obtain ⟨a1,a2⟩:=hps p hp
   exact ⟨by rw [upd_ne (nt _ _ a1)];exact a1,by rw [upd_ne (nt _ _ a2)];exact a2⟩
  ·obtain ⟨o,e,r⟩:=st'
   exact ⟨o,(sb2.2 it hid).trans e,r⟩
  ·rw [upd_upd] at I'
   rw [List.drop_eq_getElem_cons hlt]
   exact I'
end
end L2
namespace L2
open PySem PySem.Spec PyProof.Rows PySem.W
noncomputable def rDictL:List V→Hp→VK→Prop:=fun xs H Q=>∃ (l:Addr) (ps:List (Addr×List Key×Addr×V)),xs=[.ref l]∧H l=some (.lst (ps.map fun p=>V.ref p.1))∧(∀ p∈ps,H p.1=some (.tup [.ref p.2.2.1,p.2.2.2])∧H p.2.2.1=some (.tup (p.2.1.map kV)))∧ps.length<16777216 ∧
 ∀ d,H d=none→Q (.ref d) (upd H d (.dT (putAll [] ps)))
section
variable {X:Cx} {pins:List (Addr×Obj)} {σ:St} {H:Hp} {s:Shared}
theorem call_dictL {k:Nat} (hc:X.calm=true) (hr:Room k X.A):CallR X (.type "dict") rDictL:=by
 intro pins s σ H xs us Q I r h
 obtain ⟨l,ps,rfl,hl,hps,hz,q⟩:=h
 obtain ⟨u,rfl,ru⟩:=r.one
 cases ru
 have hd0:H s.heap.objs.size=none:=I.hok.fresh (Nat.le_refl _)
 have I0:Inv X pins σ (upd H s.heap.objs.size (.dT [])) { s with heap:=s.heap.push { cls:=.type "dict",data:=.dict #[] } } :=
  I.laid (t':=s.toks) (fun b o e=>Heap.get?_push_of_some _ e) (Nat.le_refl _) (dt_empty s.heap (modules_low I.nolimit))
 refine callType_codes (Q₁:=fun obj s₁=>obj=.ref s.heap.objs.size∧s₁={ s with heap:=s.heap.push { cls:=.type "dict",data:=.dict #[] } }) F.kt_called_dict (F.kt_typeCall_dict_1 _) F.entry_dict_init (kt_code_dict_new _ ⟨rfl,rfl⟩) ?_
 rintro obj s₁ ⟨rfl,rfl⟩
 have hT:(⟨s.heap.push { cls:=.type "dict",data:=.dict #[] },s.gens,s.drawn,s.toks,s.os⟩:Shared).TypeIs (.ref s.heap.objs.size) "dict":=⟨_,Heap.get?_push_size _ rfl,rfl⟩
 have el:(upd H s.heap.objs.size (.dT [])) l=some (.lst (ps.map fun p=>V.ref p.1)):=by rw [upd_ne (ne_of_none hl hd0)];exact hl
 refine ⟨hT,F.args_dict_init_2 _ _,?_⟩
 unfold Builtin.«dict.__init__»
 refine wpAny_bind ?_
 unfold Builtin.Dict.selfAndRest
 refine wpAny_bind (wpAny_notOrdered_dict hT ?_)
 show wpAny _ _ (pure (s.heap.objs.size,[Value.ref l])) _ _ _
 refine wpAny_pure ?_
 show wpAny _ _ (Builtin.Dict.updateFrom "dict.__init__" s.heap.objs.size (.ref l) [] .none) _ _ _
 unfold Builtin.Dict.updateFrom
 obtain ⟨its,rv,pl,hzl⟩:=I0.list (.of el)
 obtain ⟨ol,nl,e1,e2,e3,e4⟩:=id pl
 refine wpAny_bind (wpAny_typeOf pl.isList.typeIs ?_)
 rw [if_pos (by decide)]
 refine wpAny_bind (keys_miss_list e1 e2 e4 e3 (I.ok.hd hc) fun h' tk e hx=>?_)
 have I1:=I0.kept (t':=tk) (h':=h') hx.keeps
 simp only [Option.isNone_none,if_true]
 refine wpAny_bind (wpAny_rule ?_)
 obtain ⟨its1,rv1,pl1,_⟩:=I1.list (.of el)
 refine wpAny_bind (wpAny_pyIter_list pl1.isList ?_)
 have I2:=I1.kept (t':=tk) (h':=h'.push { cls:=.type "list_iterator",data:=.fields #[.ref l,.int 0 0] }) fun b o e=>Heap.get?_push_of_some _ e
 refine wpAny_pure ⟨plainId_quiet plain_upd _,codeAny_builtin entry_upd ?_⟩
 rw [Around.under_plainId plain_upd _]
 refine upd_loop (A:=X.A.in1) (l:=l) (ps:=ps) (I.ok.hd hc) (tupleKind_room_in1 (by rw [in1_units];have:=hr.un;lia)) _ 0 _ _ [] rfl (Nat.zero_le _) I2 upd_same el (fun p hp=>?_) ⟨_,Heap.get?_push_size _ rfl,rfl,rfl⟩ (I1.fpOk (Nat.le_refl _) (I1.hok.fresh (Nat.le_refl _))) ?_ fun s' I'=>⟨rfl,.ref s.heap.objs.size,_,?_,rfl,q _ hd0⟩
 ·obtain ⟨a1,a2⟩:=hps p hp
  exact ⟨by rw [upd_ne (ne_of_none a1 hd0)];exact a1,by rw [upd_ne (ne_of_none a2 hd0)];exact a2⟩
 ·show 0 + (ps.length - 0)<16777216
  lia
 ·rw [upd_upd,List.drop_zero] at I'
  exact I'
end
end L2
set_option Elab.async false
set_option linter.all false
set_option maxRecDepth 100000
set_option maxHeartbeats 4000000
namespace L2
open PySem PySem.Spec PyProof.Rows PySem.W
noncomputable def foldT (t:List (List Int×Int)):List (List Int×Int):=t.foldl (fun a q=>putT a q.1 q.2) []
noncomputable def pDictL:pC:=p1 fun x _ K=>∃ t,x=tlP t∧t.length<16777216∧K (dcP (foldT t)) .nw
theorem pairs_refs {b:Addr} {Z:Addr→Prop} {H:Hp}:∀ {t:List (List Int×Int)} {us:List V},Rps b Z H (t.map prP) us→∃ ps:List (Addr×List Key×Addr×V),us=(ps.map fun p=>V.ref p.1)∧ps.map (fun p=>(p.2.1,p.2.2.2))=t.map (fun q=>(keyI q.1,V.int q.2)) ∧
  ∀ p∈ps,H p.1=some (.tup [.ref p.2.2.1,p.2.2.2])∧H p.2.2.1=some (.tup (p.2.1.map kV))
 | [],us,h=>⟨[],h,rfl,fun _ h=>nomatch h⟩
 | q :: t,us,h=>by
  obtain ⟨v,r,rfl,⟨a,ws,rfl,c,w1,r1,rfl,⟨ka,ks,rfl,c2,k2⟩,w2,r2,rfl,e2,e3⟩,h2⟩:=h
  obtain ⟨ps,e4,e5,e6⟩:=pairs_refs h2
  cases (show w2=.int q.2 from e2)
  cases (show r2=[] from e3)
  rw [Rps.ints.mp k2] at c2
  refine ⟨(a,keyI q.1,ka,.int q.2) :: ps,by rw [e4];rfl,by rw [List.map_cons,List.map_cons,e5],fun p hp=>?_⟩
  rcases List.mem_cons.mp hp with rfl | hp
  ·exact ⟨c,by rw [kv_ints];exact c2⟩
  ·exact e6 p hp
theorem putK_T (a:List (List Int×Int)) (r:List Int) (c:Int):putK (a.map fun q=>(keyI q.1,V.int q.2)) (keyI r) (.int c)=(putT a r c).map fun q=>(keyI q.1,V.int q.2):=by
 unfold putK putT
 have e:(a.map fun q=>(keyI q.1,V.int q.2)).any (fun kv=>decide (kv.1=keyI r))=decide (r∈a.map (·.1)):=by
  rw [Bool.eq_iff_iff,List.any_eq_true,decide_eq_true_iff]
  constructor
  ·rintro ⟨x,hx,he⟩
   obtain ⟨q,hq,rfl⟩:=List.mem_map.mp hx
   have:=keyI_inj _ _ (of_decide_eq_true he)
   exact List.mem_map.mpr ⟨q,hq,this⟩
  ·intro h
   obtain ⟨q,hq,rfl⟩:=List.mem_map.mp h
   exact ⟨_,List.mem_map_of_mem hq,decide_eq_true rfl⟩
 rw [e]
 by_cases h:r∈a.map (·.1)
 ·rw [if_pos (decide_eq_true h),if_pos h,List.map_map,List.map_map]
  refine List.map_congr_left fun q _=>?_
  by_cases z:q.1=r
  ·simp [z]
  ·have z':¬ keyI q.1=keyI r:=fun h=>z (keyI_inj _ _ h)
   simp [z,z']
 ·rw [if_neg (by simpa using h),if_neg h]
  simp
theorem putAll_T:∀ (ps:List (Addr×List Key×Addr×V)) (t a:List (List Int×Int)),ps.map (fun p=>(p.2.1,p.2.2.2))=t.map (fun q=>(keyI q.1,V.int q.2))→putAll (a.map fun q=>(keyI q.1,V.int q.2)) ps=(t.foldl (fun a q=>putT a q.1 q.2) a).map fun q=>(keyI q.1,V.int q.2)
 | [],[],a,_=>rfl
 | [],_ :: _,_,h=>by simp at h
 | _ :: _,[],_,h=>by simp at h
 | p :: ps,q :: t,a,h=>by
  simp only [List.map_cons,List.cons.injEq,Prod.mk.injEq] at h
  unfold putAll
  rw [h.1.1,h.1.2,putK_T,List.foldl_cons]
  exact putAll_T ps t _ h.2
theorem zip_T (t:List (List Int×Int)):((t.map (·.1)).map keyI).zip (t.map fun q=>V.int q.2)=t.map fun q=>(keyI q.1,V.int q.2):=by
 induction t with
 | nil=>rfl
 | cons q t ih=>simp only [List.map_cons,List.zip_cons_cons,ih]
theorem rps_T {b:Addr} {Z:Addr→Prop} {H:Hp} (t:List (List Int×Int)):Rps b Z H (t.map fun q=>P.int q.2) (t.map fun q=>V.int q.2):=by
 have:=(Rps.ints (b:=b) (Z:=Z) (H:=H) (ns:=t.map (·.2)) (vs:=(t.map (·.2)).map V.int)).mpr rfl
 simpa [List.map_map,Function.comp_def] using this
theorem r_dictL:RefC rDictL pDictL:=fun W ρ σ Hs H Q K xs vs ok st r hp q=>by
 unfold pDictL p1 at hp
 split at hp
 ·obtain ⟨v,rfl,rv⟩:=r.one
  obtain ⟨t,rfl,hl,hk⟩:=hp
  obtain ⟨p,us,rfl,c,r1⟩:=lst_cell ok rv
  obtain ⟨ps,e1,e2,e3⟩:=pairs_refs r1
  have hlen:ps.length=t.length:=by have:=congrArg List.length e2;simpa using this
  refine ⟨p,ps,rfl,by rw [c,e1],e3,by lia,fun d hd=>q _ _ _ _ hk (Step.new ok.bag hd) ?_⟩
  have hput:=putAll_T ps t [] e2
  rw [List.map_nil] at hput
  rw [hput,show t.foldl (fun a q=>putT a q.1 q.2) []=foldT t from rfl,←zip_T]
  refine ⟨⟨d,_,rfl,fun z=>ok.dom (f:=.fr) z hd,upd_same,by simp,rps_T _⟩,fun _=>⟨d,rfl,st.free hd⟩⟩
 ·exact hp.elim
end L2
namespace L2
open PySem PySem.Spec PyProof.Rows PySem.W
section
variable {X:Cx}
theorem call_sum (hc:X.calm=true):CallR X (.builtin "sum") (fun xs H Q=>∃ (p:Addr) (ns:List Int),xs=[.ref p]∧SqL X.K H p (ns.map V.int)∧Q (.int ns.sum) H):=by
 intro pins s σ H xs us Q I r h
 obtain ⟨p,ns,rfl,hp,q⟩:=h
 obtain ⟨u,rfl,ru⟩:=r.one
 cases ru
 obtain ⟨its,r,pl,hz⟩:=I.list hp
 have hi:=intsAre_of r
 obtain ⟨xs,e⟩:=hi.allInts.items
 have e2:(numsOf its.toArray.toList).sum=ns.sum:=by rw [show its.toArray.toList=its from rfl,hi.numsOf]
 rw [e,nums_intItems] at e2
 refine sum_intListG (I.ok.hd hc) (xs:=xs) (by rw [←e];exact pl.isList) fun h' tk t' hk=>⟨.int ns.sum,H,I.kept (t':=tk) hk,⟨t',?_⟩,q⟩
 rw [preSum_eq,List.take_of_length_le (by simp),e2]
end
noncomputable def pSum:pC:=p1 fun x f K=>∃ ns:List Int,x=.lst (ns.map P.int)∧K (.int ns.sum) .fr
theorem r_sum {Kf:PySem.W.Frag}:RefC (fun xs H Q=>∃ (p:Addr) (ns:List Int),xs=[.ref p]∧SqL Kf H p (ns.map V.int)∧Q (.int ns.sum) H) pSum:=fun W ρ σ Hs H Q K xs vs ok st r hp q=>by
 unfold pSum p1 at hp
 split at hp
 ·obtain ⟨v,rfl,rv⟩:=r.one
  obtain ⟨ns,rfl,hk⟩:=hp
  obtain ⟨p,us,rfl,c,r1⟩:=lst_cell ok rv
  rw [Rps.ints.mp r1] at c
  exact ⟨p,ns,rfl,.of c,q _ _ _ H hk (Step.refl ok.bag) rf_int⟩
 ·exact hp.elim
end L2
set_option Elab.async false
set_option linter.all false
set_option maxRecDepth 100000
set_option maxHeartbeats 4000000
namespace L2
open PySem PySem.Spec PyProof.Rows PySem.W
section
variable {X:Cx} {pins:List (Addr×Obj)} {σ:St}
end
end L2
namespace L2
open PySem PySem.Spec PyProof.Rows PySem.W
section
variable {X:Cx} {pins:List (Addr×Obj)} {σ:St}
end
noncomputable def pMinD (pe pd:pE):pE:=fun ρ K=>pe ρ fun x f=>pd ρ fun y g=>∃ rs:List (List Int),x=.lst (rs.map rowP)∧y.imm=true∧(rs=[]→K y .fr)∧∀ b r,rs=b :: r→K (rowP (r.foldl (fun m x=>if HT.lexLt x m=true then x else m) b)) .fr
section
variable {ι:Type} {Xs:ι→Cx} {e d:Expr} {pe pd:pE} {p pos kpos:Pos}
end
end L2
set_option Elab.async false
set_option linter.all false
set_option maxRecDepth 100000
set_option maxHeartbeats 4000000
namespace L2
open PySem PySem.Spec PyProof.Rows
noncomputable def tsGal:Bool→Keyed→Array Keyed→Nat→Nat→Nat→StateT SortSt Sem (Option Nat):=sortPriv% PySem.Builtin.gallop
noncomputable def tsLo:Array Keyed→Array Keyed→StateT SortSt Sem (Array Keyed):=sortPriv% PySem.Builtin.mergeLo
noncomputable def tsHi:Array Keyed→Array Keyed→StateT SortSt Sem (Array Keyed):=sortPriv% PySem.Builtin.mergeHi
structure Cmp (M:Model) (A:Around) (E:Value→Shared→Prop) (s:Shared) (κ:SortKind) (O:KeyOrd) (ky:Keyed→O.α) (mem:Keyed→Prop):Prop where
 ask:∀ x y,mem x→mem y→∀ (R:Option Bool→SortSt→Prop) (st:SortSt),kindOf st=κ→R (some (O.blt (ky x) (ky y))) st→wpS M A E s (lt' x y) R st
section
variable {M:Model} {A:Around} {E:Value→Shared→Prop} {s:Shared} {κ:SortKind} {O:KeyOrd} {ky:Keyed→O.α} {mem:Keyed→Prop}
theorem ts_elem {arr:Array Keyed} {i:Nat} {x:Keyed} {R:Keyed→SortSt→Prop} {st:SortSt} (e:arr[i]?=some x) (h:R x st):wpS M A E s (elem' arr i) R st:=by
 rw [elem'_eq,e]
 exact wpS_pure h
noncomputable def galP (ky:Keyed→O.α) (left:Bool) (key x:Keyed):Bool:=if left=true then O.blt (ky x) (ky key) else !O.blt (ky key) (ky x)
theorem gal_ok (C:Cmp M A E s κ O ky mem) {left:Bool} {key:Keyed} {arr:Array Keyed} {base n hint:Nat} {R:Option Nat→SortSt→Prop} {st:SortSt} (hk:kindOf st=κ) (hkey:mem key) (p:Nat→Bool)
  (harr:∀ i,i<n→∃ x,arr[base + i]?=some x∧mem x∧p i=galP ky left key x) (hh:hint<n) (mono:∀ i j,i≤j→j<n→p j=true→p i=true)
  (h:∀ k,k≤n→(∀ i,i<k→p i=true)→(∀ i,k≤i→i<n→p i=false)→R (some k) st):wpS M A E s (tsGal left key arr base n hint) R st:=by
 have hb:∀ i,i<n→∀ {R:Option Bool→SortSt→Prop},R (some (p i)) st→wpS M A E s (do let x ←elem' arr (base + i);if left=true then lt' x key else do let z ←lt' key x;pure (z.map fun q=>!q)) R st:=by
  intro i hi R hR
  obtain ⟨x,e,hm,hp⟩:=harr i hi
  refine wpS_bind (ts_elem e ?_)
  cases left with
  | true =>
   rw [if_pos rfl]
   refine C.ask _ _ hm hkey _ _ hk ?_
   rw [hp] at hR;exact hR
  | false =>
   rw [if_neg (by simp)]
   refine wpS_bind (C.ask _ _ hkey hm _ _ hk (wpS_pure ?_))
   rw [hp] at hR;exact hR
 have mono':∀ i j,i≤j→j<n→p i=false→p j=false:=fun i j hij hj hi=>by
  cases e:p j with
  | false=>rfl
  | true=>rw [mono i j hij hj e] at hi;cases hi
 -- the last part: halving
 have half:∀ lo hi,lo≤hi→hi≤n→(∀ i,i<lo→p i=true)→(∀ i,hi≤i→i<n→p i=false)→∀ (F:Nat→Option (Option Nat)×Nat×Nat→StateT SortSt Sem (ForInStep (Option (Option Nat)×Nat×Nat))),
   (∀ x lo hi,¬ lo ≥ hi→lo + (hi - lo) / 2<n→∀ (R':ForInStep (Option (Option Nat)×Nat×Nat)→SortSt→Prop),R' (.yield (if p (lo + (hi - lo) / 2)=true then (none,lo + (hi - lo) / 2 + 1,hi) else (none,lo,lo + (hi - lo) / 2))) st→wpS M A E s (F x (none,lo,hi)) R' st) →
   (∀ x lo hi,lo ≥ hi→∀ (R':ForInStep (Option (Option Nat)×Nat×Nat)→SortSt→Prop),R' (.done (none,lo,hi)) st→wpS M A E s (F x (none,lo,hi)) R' st) →
   ∀ (R':Option (Option Nat)×Nat×Nat→SortSt→Prop),(∀ k,k≤n→(∀ i,i<k→p i=true)→(∀ i,k≤i→i<n→p i=false)→R' (none,k,k) st)→wpS M A E s (forIn [0:n] (none,lo,hi) F) R' st:=by
  intro lo hi h1 h2 h3 h4 F hF hF0 R' hR
  refine wpS_forRange (I:=fun x c st'=>st'=st∧∃ lo hi,c=(none,lo,hi)∧lo≤hi∧hi≤n∧(∀ i,i<lo→p i=true)∧(∀ i,hi≤i→i<n→p i=false)∧hi - lo≤n - x) ?_ ?_ ⟨rfl,lo,hi,rfl,h1,h2,h3,h4,by lia⟩
  ·rintro x c st' _ hx ⟨rfl,lo,hi,rfl,h1,h2,h3,h4,h5⟩
   by_cases hg:lo ≥ hi
   ·refine hF0 x lo hi hg _ ?_
    have e:lo=hi:=by lia
    subst e
    exact hR lo h2 h3 h4
   ·refine hF x lo hi hg (by lia) _ ?_
    cases e:p (lo + (hi - lo) / 2) with
    | true =>
     rw [if_pos rfl]
     exact ⟨rfl,_,_,rfl,by lia,h2,fun i hi'=>mono i _ (by lia) (by lia) e,h4,by lia⟩
    | false =>
     rw [if_neg (by simp)]
     exact ⟨rfl,_,_,rfl,by lia,by lia,h3,fun i h6 h7=>mono' _ i h6 h7 e,by lia⟩
  ·rintro c st' ⟨rfl,lo,hi,rfl,h1,h2,h3,h4,h5⟩
   have e:lo=hi:=by lia
   subst e
   exact hR lo h2 h3 h4
 refine wpS_bind (hb hint hh ?_)
 cases e0:p hint with
 | true =>
  dsimp only
  rw [if_pos rfl]
  refine wpS_bind (wpS_mono (wpS_forRange (I:=fun x c st'=>st'=st∧∃ la o,c=(none,la,o)∧la<o∧x + 1≤o∧hint + la<n∧p (hint + la)=true)
   (Q:=fun c st'=>st'=st∧∃ la o,c=(none,la,o)∧la<o∧hint + la<n∧p (hint + la)=true∧(n - hint≤o∨(hint + o<n∧p (hint + o)=false))) ?s1 ?f1 ⟨rfl,0,1,rfl,by lia,by lia,by lia,e0⟩) ?g1)
  case s1 =>
   rintro x c st' _ hx ⟨rfl,la,o,rfl,h1,h2,h3,h4⟩
   dsimp only
   by_cases hg:o ≥ n - hint
   ·rw [if_pos hg]
    exact wpS_pure ⟨rfl,la,o,rfl,h1,h3,h4,.inl hg⟩
   ·rw [if_neg hg]
    refine wpS_bind (hb (hint + o) (by lia) ?_)
    cases e1:p (hint + o) with
    | true=>exact wpS_pure ⟨rfl,o,2 * o + 1,rfl,by lia,by lia,by lia,e1⟩
    | false=>exact wpS_pure ⟨rfl,la,o,rfl,h1,h3,h4,.inr ⟨by lia,e1⟩⟩
  case f1 =>
   rintro c st' ⟨rfl,la,o,rfl,h1,h2,h3,h4⟩
   exact ⟨rfl,la,o,rfl,h1,h3,h4,.inl (by lia)⟩
  case g1 =>
   rintro c st' ⟨rfl,la,o,rfl,h1,h3,h4,h5⟩
   dsimp only
   refine wpS_bind (half (hint + la + 1) (hint + min o (n - hint)) (by lia) (by lia) (fun i hi=>mono i (hint + la) (by lia) h3 h4) (fun i hi hn=>?_) _ ?_ ?_ _ fun k k1 k2 k3=>wpS_pure (h k k1 k2 k3))
   ·rcases h5 with h5 | ⟨h5,h6⟩
    ·lia
    ·exact mono' (hint + o) i (by lia) hn h6
   ·intro x lo hi hg hm R' hR
    dsimp only
    rw [if_neg hg]
    refine wpS_bind (hb _ hm ?_)
    cases e1:p (lo + (hi - lo) / 2) with
    | true=>rw [e1,if_pos rfl] at hR;exact wpS_pure hR
    | false=>rw [e1,if_neg (by simp)] at hR;exact wpS_pure hR
   ·intro x lo hi hg R' hR
    dsimp only
    rw [if_pos hg]
    exact wpS_pure hR
 | false =>
  dsimp only
  rw [if_neg (by simp)]
  refine wpS_bind (wpS_mono (wpS_forRange (I:=fun x c st'=>st'=st∧∃ la o,c=(none,la,o)∧la<o∧x + 1≤o∧la≤hint∧p (hint - la)=false)
   (Q:=fun c st'=>st'=st∧∃ la o,c=(none,la,o)∧la<o∧la≤hint∧p (hint - la)=false∧(hint + 1≤o∨(o≤hint∧p (hint - o)=true))) ?s1 ?f1 ⟨rfl,0,1,rfl,by lia,by lia,by lia,e0⟩) ?g1)
  case s1 =>
   rintro x c st' _ hx ⟨rfl,la,o,rfl,h1,h2,h3,h4⟩
   dsimp only
   by_cases hg:o ≥ hint + 1
   ·rw [if_pos hg]
    exact wpS_pure ⟨rfl,la,o,rfl,h1,h3,h4,.inl hg⟩
   ·rw [if_neg hg]
    refine wpS_bind (hb (hint - o) (by lia) ?_)
    cases e1:p (hint - o) with
    | true=>exact wpS_pure ⟨rfl,la,o,rfl,h1,h3,h4,.inr ⟨by lia,e1⟩⟩
    | false=>exact wpS_pure ⟨rfl,o,2 * o + 1,rfl,by lia,by lia,by lia,e1⟩
  case f1 =>
   rintro c st' ⟨rfl,la,o,rfl,h1,h2,h3,h4⟩
   exact ⟨rfl,la,o,rfl,h1,h3,h4,.inl (by lia)⟩
  case g1 =>
   rintro c st' ⟨rfl,la,o,rfl,h1,h3,h4,h5⟩
   dsimp only
   refine wpS_bind (half (hint + 1 - min o (hint + 1)) (hint - la) (by lia) (by lia) (fun i hi=>?_) (fun i hi hn=>mono' (hint - la) i hi hn h4) _ ?_ ?_ _ fun k k1 k2 k3=>wpS_pure (h k k1 k2 k3))
   ·rcases h5 with h5 | ⟨h5,h6⟩
    ·lia
    ·exact mono i (hint - o) (by lia) (by lia) h6
   ·intro x lo hi hg hm R' hR
    dsimp only
    rw [if_neg hg]
    refine wpS_bind (hb _ hm ?_)
    cases e1:p (lo + (hi - lo) / 2) with
    | true=>rw [e1,if_pos rfl] at hR;exact wpS_pure hR
    | false=>rw [e1,if_neg (by simp)] at hR;exact wpS_pure hR
   ·intro x lo hi hg R' hR
    dsimp only
    rw [if_pos hg]
    exact wpS_pure hR
end
end L2
set_option Elab.async false
set_option linter.all false
set_option maxRecDepth 100000
set_option maxHeartbeats 4000000
namespace L2
open PySem PySem.Spec PyProof.Rows
section
variable {O:KeyOrd} {ky:Keyed→O.α}
noncomputable abbrev KLe (ky:Keyed→O.α) (x y:Keyed):Prop:=O.kle (ky x) (ky y)
noncomputable abbrev SrtL (ky:Keyed→O.α) (l:List Keyed):Prop:=l.Pairwise (KLe ky)
structure Mi (ky:Keyed→O.α) (a b out:List Keyed) (ia ib:Nat):Prop where
 perm:(out ++ (a.drop ia ++ b.drop ib)).Perm (a ++ b)
 srt:SrtL ky out
 le:∀ x∈out,∀ y,y∈a.drop ia∨y∈b.drop ib→KLe ky x y
variable {a b out:List Keyed} {ia ib k:Nat}
theorem mem_split {l:List Keyed} {k:Nat} {x:Keyed} (h:x∈l.take k∨x∈l.drop k):x∈l:=by
 rw [←List.take_append_drop k l];exact List.mem_append.mpr h
theorem srt_split {l:List Keyed} (h:SrtL ky l) (k:Nat):SrtL ky (l.take k)∧SrtL ky (l.drop k)∧∀ x∈l.take k,∀ y∈l.drop k,KLe ky x y:=by
 have h':SrtL ky (l.take k ++ l.drop k):=by rw [List.take_append_drop];exact h
 obtain ⟨h1,h2,h3⟩:=List.pairwise_append.mp h'
 exact ⟨h1,h2,h3⟩
theorem Mi.manyA (m:Mi ky a b out ia ib) (sa:SrtL ky a) (k:Nat) (hb:∀ x∈(a.drop ia).take k,∀ y∈b.drop ib,KLe ky x y):Mi ky a b (out ++ (a.drop ia).take k) (ia + k) ib where
 perm:=by
  have e:a.drop ia=(a.drop ia).take k ++ a.drop (ia + k):=by rw [←List.drop_drop];exact (List.take_append_drop _ _).symm
  have:=m.perm
  rw [e] at this
  simpa [List.append_assoc] using this
 srt:=by
  refine List.pairwise_append.mpr ⟨m.srt,(srt_split (srt_split sa ia).2.1 k).1,fun x hx y hy=>m.le x hx y (.inl (mem_split (.inl hy)))⟩
 le:=fun x hx y hy=>by
  rcases List.mem_append.mp hx with hx | hx
  ·refine m.le x hx y ?_
   rcases hy with hy | hy
   ·rw [←List.drop_drop] at hy;exact .inl (mem_split (.inr hy))
   ·exact .inr hy
  ·rcases hy with hy | hy
   ·rw [←List.drop_drop] at hy
    exact (srt_split (srt_split sa ia).2.1 k).2.2 x hx y hy
   ·exact hb x hx y hy
theorem Mi.swap (m:Mi ky a b out ia ib):Mi ky b a out ib ia where
 perm:=((List.perm_append_comm).append_left out).trans (m.perm.trans List.perm_append_comm)
 srt:=m.srt
 le:=fun x hx y hy=>m.le x hx y hy.symm
theorem Mi.manyB (m:Mi ky a b out ia ib) (sb:SrtL ky b) (k:Nat) (ha:∀ x∈(b.drop ib).take k,∀ y∈a.drop ia,KLe ky x y):Mi ky a b (out ++ (b.drop ib).take k) ia (ib + k):=(m.swap.manyA sb k ha).swap
theorem take1 {l:List Keyed} {i:Nat} {x:Keyed} (e:l[i]?=some x):(l.drop i).take 1=[x]:=by
 have hi:i<l.length:=by
  rcases Nat.lt_or_ge i l.length with q | q
  ·exact q
  ·rw [List.getElem?_eq_none q] at e;cases e
 rw [List.getElem?_eq_getElem hi] at e
 rw [List.drop_eq_getElem_cons hi]
 simp [Option.some.inj e]
theorem Mi.oneA (m:Mi ky a b out ia ib) (sa:SrtL ky a) {x:Keyed} (e:a[ia]?=some x) (hb:∀ y∈b.drop ib,KLe ky x y):Mi ky a b (out ++ [x]) (ia + 1) ib:=by
 have:=m.manyA sa 1 (by rw [take1 e];intro z hz;rw [List.mem_singleton.mp hz];exact hb)
 rw [take1 e] at this;exact this
theorem Mi.oneB (m:Mi ky a b out ia ib) (sb:SrtL ky b) {x:Keyed} (e:b[ib]?=some x) (ha:∀ y∈a.drop ia,KLe ky x y):Mi ky a b (out ++ [x]) ia (ib + 1):=(m.swap.oneA sb e ha).swap
theorem drop_le {l:List Keyed} (h:SrtL ky l) {i:Nat} {x:Keyed} (e:l[i]?=some x):∀ y∈l.drop i,KLe ky x y:=by
 have hi:i<l.length:=by
  rcases Nat.lt_or_ge i l.length with q | q
  ·exact q
  ·rw [List.getElem?_eq_none q] at e;cases e
 rw [List.getElem?_eq_getElem hi] at e
 have h2:=(srt_split h i).2.1
 rw [List.drop_eq_getElem_cons hi,Option.some.inj e] at h2 ⊢
 intro y hy
 rcases List.mem_cons.mp hy with rfl | hy
 ·exact KeyOrd.kle_refl _
 ·exact (List.pairwise_cons.mp h2).1 y hy
structure MDone (ky:Keyed→O.α) (a b m:List Keyed):Prop where
 perm:m.Perm (a ++ b)
 srt:SrtL ky m
theorem Mi.done (m:Mi ky a b out ia ib) (sa:SrtL ky a) (sb:SrtL ky b) (h:a.length≤ia∨b.length≤ib):MDone ky a b (out ++ a.drop ia ++ b.drop ib) where
 perm:=by rw [List.append_assoc];exact m.perm
 srt:=by
  rw [List.append_assoc]
  refine List.pairwise_append.mpr ⟨m.srt,?_,fun x hx y hy=>m.le x hx y (List.mem_append.mp hy)⟩
  rcases h with h | h
  ·rw [List.drop_eq_nil_of_le h];exact (srt_split sb ib).2.1
  ·rw [List.drop_eq_nil_of_le h,List.append_nil];exact (srt_split sa ia).2.1
theorem Mi.lastA (m:Mi ky a b out ia ib) (sa:SrtL ky a) (sb:SrtL ky b) (h:∀ x∈b.drop ib,∀ y∈a.drop ia,KLe ky x y):MDone ky a b (out ++ b.drop ib ++ a.drop ia) where
 perm:=by rw [List.append_assoc];exact ((List.perm_append_comm).append_left out).trans m.perm
 srt:=by
  rw [List.append_assoc]
  exact List.pairwise_append.mpr ⟨m.srt,List.pairwise_append.mpr ⟨(srt_split sb ib).2.1,(srt_split sa ia).2.1,h⟩,fun x hx y hy=>m.le x hx y (List.mem_append.mp hy).symm⟩
end
theorem ext_toL (a:Array Keyed) (i:Nat):(a.extract i a.size).toList=a.toList.drop i:=by
 rw [Array.toList_extract,List.extract_eq_take_drop]
 rw [List.take_of_length_le (by rw [List.length_drop,Array.length_toList];lia)]
theorem ext_toL2 (a:Array Keyed) (i k:Nat):(a.extract i (i + k)).toList=(a.toList.drop i).take k:=by
 rw [Array.toList_extract,List.extract_eq_take_drop,Nat.add_sub_cancel_left]
section
variable {M:Model} {A:Around} {E:Value→Shared→Prop} {s:Shared} {κ:SortKind} {O:KeyOrd} {ky:Keyed→O.α} {mem:Keyed→Prop}
noncomputable abbrev setG (st:SortSt) (g:Nat):SortSt:=SortSt.mk' (kindOf st) (arrOf st) (pendingOf st) g (failedOf st)
noncomputable def tsSetG:Nat→StateT SortSt Sem Unit:=sortPriv% PySem.Builtin.setMinGallop
theorem ts_setG {g:Nat} {R:Unit→SortSt→Prop} {st:SortSt} (h:R () (setG st g)):wpS M A E s (tsSetG g) R st:=wpS_modify (f:=fun st=>setG st g) h
theorem at_toL {a:Array Keyed} {i:Nat} {x:Keyed} (e:a.toList[i]?=some x):a[i]?=some x:=by rw [←Array.getElem?_toList];exact e
theorem mem_at {l:List Keyed} {i:Nat} (h:i<l.length):∃ x,l[i]?=some x∧x∈l:=⟨l[i],List.getElem?_eq_getElem h,List.getElem_mem h⟩
theorem drop_at {l:List Keyed} {i:Nat} {y:Keyed} (h:y∈l.drop i):∃ j,i≤j∧l[j]?=some y:=by
 obtain ⟨n,hn⟩:=List.getElem?_of_mem h
 exact ⟨i + n,Nat.le_add_right _ _,by rw [←List.getElem?_drop];exact hn⟩
theorem take_at {l:List Keyed} {i k:Nat} {y:Keyed} (h:y∈(l.drop i).take k):∃ j,j<k∧l[i + j]?=some y:=by
 obtain ⟨n,hn⟩:=List.getElem?_of_mem h
 rw [List.getElem?_take] at hn
 split at hn
 ·exact ⟨n,‹_›,by rw [←List.getElem?_drop];exact hn⟩
 ·cases hn
theorem gal_R (C:Cmp M A E s κ O ky mem) {key:Keyed} {arr:Array Keyed} {base n hint:Nat} {R:Option Nat→SortSt→Prop} {st:SortSt} (hk:kindOf st=κ) (hkey:mem key) (hm:∀ x∈arr.toList,mem x)
  (hs:∀ i j x y,base≤i→i≤j→j<base + n→arr.toList[i]?=some x→arr.toList[j]?=some y→KLe ky x y) (hn:base + n≤arr.size) (hh:hint<n)
  (h:∀ k,k≤n→(∀ i x,i<k→arr.toList[base + i]?=some x→KLe ky x key)→(∀ i x,k≤i→i<n→arr.toList[base + i]?=some x→O.klt (ky key) (ky x))→R (some k) st):wpS M A E s (tsGal false key arr base n hint) R st:=by
 have hat:∀ i,i<n→∃ x,arr.toList[base + i]?=some x∧x∈arr.toList:=fun i hi=>mem_at (by rw [Array.length_toList];lia)
 refine gal_ok C hk hkey (fun i=>match arr.toList[base + i]? with | some x=>galP ky false key x | none=>false) (fun i hi=>?_) hh (fun i j hij hj hp=>?_) (fun k k1 k2 k3=>h k k1 (fun i x hi e=>?_) (fun i x hi hin e=>?_))
 ·obtain ⟨x,e,hx⟩:=hat i hi
  exact ⟨x,at_toL e,hm x hx,by rw [e]⟩
 ·obtain ⟨x,e,hx⟩:=hat i (by lia)
  obtain ⟨y,e2,hy⟩:=hat j hj
  simp only [e2,galP,Bool.false_eq_true,if_false,Bool.not_eq_true'] at hp
  simp only [e,galP,Bool.false_eq_true,if_false,Bool.not_eq_true']
  exact KeyOrd.kle_trans (hs _ _ x y (by lia) (by lia) (by lia) e e2) hp
 ·have:=k2 i hi
  simp only [e,galP,Bool.false_eq_true,if_false,Bool.not_eq_true'] at this
  exact this
 ·have:=k3 i hi hin
  simp only [e,galP,Bool.false_eq_true,if_false,Bool.not_eq_false'] at this
  exact this
theorem gal_L (C:Cmp M A E s κ O ky mem) {key:Keyed} {arr:Array Keyed} {base n hint:Nat} {R:Option Nat→SortSt→Prop} {st:SortSt} (hk:kindOf st=κ) (hkey:mem key) (hm:∀ x∈arr.toList,mem x)
  (hs:∀ i j x y,base≤i→i≤j→j<base + n→arr.toList[i]?=some x→arr.toList[j]?=some y→KLe ky x y) (hn:base + n≤arr.size) (hh:hint<n)
  (h:∀ k,k≤n→(∀ i x,i<k→arr.toList[base + i]?=some x→O.klt (ky x) (ky key))→(∀ i x,k≤i→i<n→arr.toList[base + i]?=some x→KLe ky key x)→R (some k) st):wpS M A E s (tsGal true key arr base n hint) R st:=by
 have hat:∀ i,i<n→∃ x,arr.toList[base + i]?=some x∧x∈arr.toList:=fun i hi=>mem_at (by rw [Array.length_toList];lia)
 refine gal_ok C hk hkey (fun i=>match arr.toList[base + i]? with | some x=>galP ky true key x | none=>false) (fun i hi=>?_) hh (fun i j hij hj hp=>?_) (fun k k1 k2 k3=>h k k1 (fun i x hi e=>?_) (fun i x hi hin e=>?_))
 ·obtain ⟨x,e,hx⟩:=hat i hi
  exact ⟨x,at_toL e,hm x hx,by rw [e]⟩
 ·obtain ⟨x,e,hx⟩:=hat i (by lia)
  obtain ⟨y,e2,hy⟩:=hat j hj
  simp only [e2,galP,if_true] at hp
  simp only [e,galP,if_true]
  exact KeyOrd.klt_of_kle_of_klt (hs _ _ x y (by lia) (by lia) (by lia) e e2) hp
 ·have:=k2 i hi
  simp only [e,galP,if_true] at this
  exact this
 ·have:=k3 i hi hin
  simp only [e,galP,if_true] at this
  exact this
theorem srt_at {l:List Keyed} (h:SrtL ky l) {i j:Nat} {x y:Keyed} (hij:i≤j) (e:l[i]?=some x) (e2:l[j]?=some y):KLe ky x y:=by
 refine drop_le h e y ?_
 have:(l.drop i)[j - i]?=some y:=by rw [List.getElem?_drop,show i + (j - i)=j by lia];exact e2
 exact List.mem_of_getElem? this
end
end L2
set_option Elab.async false
set_option linter.all false
set_option maxRecDepth 100000
set_option maxHeartbeats 4000000
namespace L2
open PySem PySem.Spec PyProof.Rows
section
variable {M:Model} {A:Around} {E:Value→Shared→Prop} {s:Shared} {κ:SortKind} {O:KeyOrd} {ky:Keyed→O.α} {mem:Keyed→Prop}
theorem wpS_if {α:Type} {c:Prop} [Decidable c] {x y:StateT SortSt Sem α} {R:α→SortSt→Prop} {st:SortSt} (h1:c→wpS M A E s x R st) (h2:¬ c→wpS M A E s y R st):wpS M A E s (if c then x else y) R st:=by
 split
 ·exact h1 ‹_›
 ·exact h2 ‹_›
structure MLo (ky:Keyed→O.α) (a b out:Array Keyed) (ia ib:Nat):Prop where
 mi:Mi ky a.toList b.toList out.toList ia ib
 ha:ia + 1<a.size
 hb:ib<b.size
theorem wpS_jn {α β γ:Type} {F:β→γ→StateT SortSt Sem α} {I:β→γ→Prop} {c:Prop} [Decidable c] {t:StateT SortSt Sem α} {x:β} {y:γ} {R:α→SortSt→Prop} {st:SortSt} (k:∀ b g,I b g→wpS M A E s (F b g) R st)
  (h1:(∀ b g,I b g→wpS M A E s (F b g) R st)→c→wpS M A E s t R st) (h2:¬ c→I x y):wpS M A E s (if c then t else F x y) R st:=wpS_if (h1 k) (fun h=>k _ _ (h2 h))
theorem wpS_join {α β:Type} {F:β→StateT SortSt Sem α} {c:Prop} [Decidable c] {x y:β} {R:α→SortSt→Prop} {st:SortSt} (k:∀ z,wpS M A E s (F z) R st):wpS M A E s (if c then F x else F y) R st:=wpS_if (fun _=>k _) (fun _=>k _)
theorem lo_ok (C:Cmp M A E s κ O ky mem) {a b:Array Keyed} {R:Array Keyed→SortSt→Prop} {st:SortSt} (hk:kindOf st=κ) (ma:∀ x∈a.toList,mem x) (mb:∀ x∈b.toList,mem x) (sa:SrtL ky a.toList) (sb:SrtL ky b.toList)
  (ha:0<a.size) (hb:0<b.size) (h1:∀ x y,b.toList[0]?=some x→y∈a.toList→KLe ky x y) (h2:∀ x∈b.toList,∀ y,a.toList[a.size - 1]?=some y→KLe ky x y)
  (h:∀ m g,MDone ky a.toList b.toList m.toList→R m (setG st g)):wpS M A E s (tsLo a b) R st:=by
 have la:a.toList.length=a.size:=Array.length_toList
 have lb:b.toList.length=b.size:=Array.length_toList
 have ata:∀ i,i<a.size→∃ x,a.toList[i]?=some x∧mem x:=fun i hi=>let ⟨x,e,hx⟩:=mem_at (l:=a.toList) (i:=i) (by lia);⟨x,e,ma x hx⟩
 have atb:∀ i,i<b.size→∃ x,b.toList[i]?=some x∧mem x:=fun i hi=>let ⟨x,e,hx⟩:=mem_at (l:=b.toList) (i:=i) (by lia);⟨x,e,mb x hx⟩
 -- the ends
 have fin:∀ (out:Array Keyed) ia ib g,Mi ky a.toList b.toList out.toList ia ib→(a.size≤ia∨b.size≤ib)→R (out ++ a.extract ia a.size ++ b.extract ib b.size) (setG st g):=fun out ia ib g m hz=>by
  refine h _ g ?_
  rw [Array.toList_append,Array.toList_append,ext_toL,ext_toL]
  exact m.done sa sb (by rw [la,lb];exact hz)
 have finA:∀ (out:Array Keyed) ia ib g,Mi ky a.toList b.toList out.toList ia ib→ia + 1=a.size→R (out ++ b.extract ib b.size ++ a.extract ia a.size) (setG st g):=fun out ia ib g m hz=>by
  refine h _ g ?_
  rw [Array.toList_append,Array.toList_append,ext_toL,ext_toL]
  refine m.lastA sa sb fun x hx y hy=>?_
  obtain ⟨j,hj,e⟩:=drop_at hy
  have hj2:j<a.toList.length:=by
   rcases Nat.lt_or_ge j a.toList.length with q | q
   ·exact q
   ·rw [List.getElem?_eq_none q] at e;cases e
  have ej:j=a.size - 1:=by lia
  rw [ej] at e
  exact h2 x (List.mem_of_mem_drop hx) y e
 refine wpS_bind (wpS_lift (wpAny_rule ⟨rfl,?_⟩))
 obtain ⟨b0,eb0,mb0⟩:=atb 0 hb
 refine wpS_bind (ts_elem (at_toL eb0) ?_)
 have m0:Mi ky a.toList b.toList (#[b0]:Array Keyed).toList 0 1:=by
  have:Mi ky a.toList b.toList [] 0 0:=⟨by simp,List.Pairwise.nil,fun x hx=>by cases hx⟩
  exact this.oneB sb eb0 (fun y hy=>h1 b0 y eb0 (by simpa using hy))
 dsimp -zeta only
 by_cases hb1:1=b.size
 ·rw [if_pos (by simpa using hb1)]
  exact wpS_pure (fin _ 0 1 (gallopOf st) m0 (.inr (by lia)))
 rw [if_neg (by simpa using hb1)]
 by_cases ha1:0 + 1=a.size
 ·rw [if_pos (by simpa using ha1)]
  exact wpS_pure (finA _ 0 1 (gallopOf st) m0 ha1)
 rw [if_neg (by simpa using ha1)]
 refine wpS_bind (wpS_get ?_)
 refine wpS_bind (wpS_mono (wpS_forRange (I:=fun x c st'=>(∃ g,st'=setG st g)∧∃ out ia ib mg,c=(none,out,ia,ib,mg)∧MLo ky a b out ia ib∧x + 1≤ia + ib)
  (Q:=fun c st'=>∃ m r,c=(some m,r)∧R m st') ?step ?fin ⟨⟨gallopOf st,rfl⟩,_,_,_,_,rfl,⟨m0,by lia,by lia⟩,by lia⟩) ?post)
 case post =>
  rintro c st' ⟨m,r,rfl,hr⟩
  exact wpS_pure hr
 case fin =>
  rintro c st' ⟨_,out,ia,ib,mg,rfl,m,hx⟩
  have:=m.ha
  have:=m.hb
  lia
 case step =>
  rintro x c st' _ hx ⟨⟨g,rfl⟩,out,ia,ib,mg,rfl,m,hx1⟩
  dsimp -zeta only
  refine wpS_bind (wpS_mono (wpS_forRange (I:=fun y c st'=>st'=setG st g∧∃ out ia ib ac bc,c=(none,out,ia,ib,ac,bc)∧MLo ky a b out ia ib∧x + 1 + y≤ia + ib)
   (Q:=fun c st'=>(∃ m r,c=(some m,r)∧R m st')∨(st'=setG st g∧∃ out ia ib ac bc,c=(none,out,ia,ib,ac,bc)∧MLo ky a b out ia ib∧x + 1≤ia + ib)) ?step1 ?fin1 ⟨rfl,_,_,_,_,_,rfl,m,by lia⟩) ?post1)
  case fin1 =>
   rintro c st' ⟨_,out,ia,ib,ac,bc,rfl,m,hx⟩
   have:=m.ha
   have:=m.hb
   lia
  case step1 =>
   rintro y c st' _ hy ⟨rfl,out,ia,ib,ac,bc,rfl,m,hx2⟩
   have hia:=m.ha
   have hib:=m.hb
   obtain ⟨xa,ea,mxa⟩:=ata ia (by lia)
   obtain ⟨xb,eb,mxb⟩:=atb ib hib
   dsimp -zeta only
   refine wpS_bind (ts_elem (at_toL eb) (wpS_bind (ts_elem (at_toL ea) (wpS_bind (C.ask _ _ mxb mxa _ _ hk ?_)))))
   cases hlt:O.blt (ky xb) (ky xa) with
   | true =>
    dsimp -zeta only
    rw [if_pos rfl]
    have m':=m.mi.oneB sb eb fun z hz=>KeyOrd.kle_trans (KeyOrd.kle_of_klt hlt) (drop_le sa ea z hz)
    rw [←Array.toList_push] at m'
    refine wpS_bind (ts_elem (at_toL eb) ?_)
    by_cases hz:ib + 1=b.size
    ·rw [if_pos (by simpa using hz)]
     exact wpS_pure (.inl ⟨_,_,rfl,fin _ _ _ g m' (.inr (by lia))⟩)
    ·rw [if_neg (by simpa using hz)]
     split
     ·exact wpS_pure (.inr ⟨rfl,_,_,_,_,_,rfl,⟨m',hia,by lia⟩,by lia⟩)
     ·exact wpS_pure ⟨rfl,_,_,_,_,_,rfl,⟨m',hia,by lia⟩,by lia⟩
   | false =>
    dsimp -zeta only
    rw [if_neg (by simp)]
    have m':=m.mi.oneA sa ea fun z hz=>KeyOrd.kle_trans hlt (drop_le sb eb z hz)
    rw [←Array.toList_push] at m'
    refine wpS_bind (ts_elem (at_toL ea) ?_)
    by_cases hz:ia + 1 + 1=a.size
    ·rw [if_pos (by simpa using hz)]
     exact wpS_pure (.inl ⟨_,_,rfl,finA _ _ _ g m' hz⟩)
    ·rw [if_neg (by simpa using hz)]
     split
     ·exact wpS_pure (.inr ⟨rfl,_,_,_,_,_,rfl,⟨m',by lia,hib⟩,by lia⟩)
     ·exact wpS_pure ⟨rfl,_,_,_,_,_,rfl,⟨m',by lia,hib⟩,by lia⟩
  case post1 =>
   rintro c st' (⟨m',r,rfl,hr⟩ | ⟨rfl,out,ia,ib,ac,bc,rfl,m,hx1⟩)
   ·exact wpS_pure ⟨m',_,rfl,hr⟩
   dsimp -zeta only
   refine wpS_bind (wpS_lift (wpAny_rule ⟨rfl,?_⟩))
   refine wpS_bind (wpS_mono (wpS_forRange (I:=fun y c st'=>(∃ g,st'=setG st g)∧∃ out ia ib mg ac bc,c=(none,out,ia,ib,mg,ac,bc)∧MLo ky a b out ia ib∧x + 1 + 2 * y≤ia + ib)
    (Q:=fun c st'=>(∃ m r,c=(some m,r)∧R m st')∨((∃ g,st'=setG st g)∧∃ out ia ib mg ac bc,c=(none,out,ia,ib,mg,ac,bc)∧MLo ky a b out ia ib∧x + 2≤ia + ib)) ?step2 ?fin2 ⟨⟨g,rfl⟩,_,_,_,_,_,_,rfl,m,by lia⟩) ?post2)
   case fin2 =>
    rintro c st' ⟨_,out,ia,ib,mg,ac,bc,rfl,m,hx⟩
    have:=m.ha
    have:=m.hb
    lia
   case post2 =>
    rintro c st' (⟨m',r,rfl,hr⟩ | ⟨⟨g,rfl⟩,out,ia,ib,mg,ac,bc,rfl,m,hx1⟩)
    ·exact wpS_pure ⟨m',_,rfl,hr⟩
    ·dsimp -zeta only
     exact wpS_bind (ts_setG (wpS_pure ⟨⟨_,rfl⟩,_,_,_,_,rfl,m,by lia⟩))
   case step2 =>
    rintro y c st' _ hy ⟨⟨g,rfl⟩,out,ia,ib,mg,ac,bc,rfl,m,hx2⟩
    have hia:=m.ha
    have hib:=m.hb
    obtain ⟨xb,eb,mxb⟩:=atb ib hib
    extract_lets -merge c1 c2 c3 c4 c5 c6 c7 c8 c9 c10 c11 c12 jp c13
    refine wpS_join (F:=fun z=>jp () z) fun z=>?_
    subst c13 jp c12 c11 c10 c9 c8 c7 c6 c5 c4 c3 c2 c1
    dsimp -zeta only
    refine wpS_bind (ts_setG ?_)
    refine wpS_bind (ts_elem (at_toL eb) (wpS_bind (gal_R (base:=ia) (n:=a.size - ia) (hint:=0) C hk mxb ma (fun i j x y _ hij _ e1 e2=>srt_at sa hij e1 e2) (by lia) (by lia) fun k k1 k2 k3=>?_)))
    have m1:=m.mi.manyA sa k fun x hx z hz=>by
     obtain ⟨j,hj,e⟩:=take_at hx
     exact KeyOrd.kle_trans (k2 j x hj e) (drop_le sb eb z hz)
    have up:∀ z∈a.toList.drop (ia + k),KLe ky xb z:=fun z hz=>by
     obtain ⟨j,hj,e⟩:=drop_at hz
     have hj2:j<a.toList.length:=by
      rcases Nat.lt_or_ge j a.toList.length with q | q
      ·exact q
      ·rw [List.getElem?_eq_none q] at e;cases e
     exact KeyOrd.kle_of_klt (k3 (j - ia) z (by lia) (by lia) (by rw [show ia + (j - ia)=j by lia];exact e))
    dsimp -zeta only
    extract_lets -merge d1 jp d2 d3
    refine wpS_jn (F:=fun o n=>jp () o n) (I:=fun o nk=>¬ nk + 1=a.size∧nk<a.size∧ia≤nk∧Mi ky a.toList b.toList o.toList nk ib∧∀ z∈a.toList.drop nk,KLe ky xb z) (fun o nk h=>?_) (fun key hk0=>?_) (fun hk0=>?_)
    ·clear m1 up k2 k3
     obtain ⟨hz,hz2,hz3,m1,up⟩:=h
     subst d3 d2 jp d1
     dsimp -zeta only
     refine wpS_bind (ts_elem (at_toL eb) ?_)
     have m2:=m1.oneB sb eb up
     rw [←Array.toList_push] at m2
     refine wpS_if (fun hy=>wpS_pure (.inl ⟨_,_,rfl,fin _ _ _ _ m2 (.inr (by have:=eq_of_beq hy;lia))⟩)) (fun hy=>?_)
     have hy:¬ ib + 1=b.size:=by simpa using hy
     obtain ⟨xa,ea,mxa⟩:=ata nk (by lia)
     refine wpS_bind (ts_elem (at_toL ea) (wpS_bind (gal_L (base:=ib + 1) (n:=b.size - (ib + 1)) (hint:=0) C hk mxa mb (fun i j x y _ hij _ e1 e2=>srt_at sb hij e1 e2) (by lia) (by lia) fun l l1 l2 l3=>?_)))
     have m3:=m2.manyB sb l fun x hx z hz=>by
      obtain ⟨j,hj,e⟩:=take_at hx
      exact KeyOrd.kle_trans (KeyOrd.kle_of_klt (l2 j x hj e)) (drop_le sa ea z hz)
     have up2:∀ z∈b.toList.drop (ib + 1 + l),KLe ky xa z:=fun z hz=>by
      obtain ⟨j,hj,e⟩:=drop_at hz
      have hj2:j<b.toList.length:=by
       rcases Nat.lt_or_ge j b.toList.length with q | q
       ·exact q
       ·rw [List.getElem?_eq_none q] at e;cases e
      exact l3 (j - (ib + 1)) z (by lia) (by lia) (by rw [show ib + 1 + (j - (ib + 1))=j by lia];exact e)
     dsimp -zeta only
     extract_lets -merge e1 e2 jq e3 e4
     refine wpS_jn (F:=fun o n=>jq () o n) (I:=fun o nl=>nl<b.size∧ib + 1≤nl∧Mi ky a.toList b.toList o.toList nk nl∧∀ z∈b.toList.drop nl,KLe ky xa z) (fun o nl h=>?_) (fun key hl0=>?_) (fun hl0=>?_)
     ·clear m3 up2 l2 l3
      obtain ⟨hw,hw2,m3,up2⟩:=h
      subst e4 e3 jq e2 e1
      dsimp -zeta only
      refine wpS_bind (ts_elem (at_toL ea) ?_)
      have m4:=m3.oneA sa ea up2
      rw [←Array.toList_push] at m4
      refine wpS_if (fun hv=>wpS_pure (.inl ⟨_,_,rfl,finA _ _ _ _ m4 (by simpa using hv)⟩)) (fun hv=>?_)
      have hv:¬ nk + 1 + 1=a.size:=by simpa using hv
      exact wpS_if (fun _=>wpS_pure (.inr ⟨⟨_,rfl⟩,_,nk + 1,nl,_,_,_,rfl,⟨m4,by lia,by lia⟩,by lia⟩)) (fun _=>wpS_pure ⟨⟨_,rfl⟩,_,nk + 1,nl,_,_,_,rfl,⟨m4,by lia,by lia⟩,by lia⟩)
     ·rw [←ext_toL2,←Array.toList_append] at m3
      exact wpS_if (fun hw=>wpS_pure (.inl ⟨_,_,rfl,fin _ _ _ _ m3 (.inr (Nat.le_of_eq (eq_of_beq hw).symm))⟩)) (fun hw=>key _ _ ⟨Nat.lt_of_le_of_ne (by lia) fun q=>hw (beq_iff_eq.mpr q),Nat.le_add_right _ _,m3,up2⟩)
     ·have hl1:l=0:=by lia
      clear_value jq
      subst hl1
      rw [List.take_zero,List.append_nil] at m3
      exact ⟨by lia,Nat.le_refl _,m3,up2⟩
    ·rw [←ext_toL2,←Array.toList_append] at m1
     exact wpS_if (fun hz=>wpS_pure (.inl ⟨_,_,rfl,finA _ _ _ _ m1 (eq_of_beq hz)⟩)) (fun hz=>wpS_if (fun hz2=>wpS_pure (.inl ⟨_,_,rfl,fin _ _ _ _ m1 (.inl (Nat.le_of_eq (eq_of_beq hz2).symm))⟩)) (fun hz2=>key _ _ ⟨fun q=>hz (beq_iff_eq.mpr q),Nat.lt_of_le_of_ne (by lia) fun q=>hz2 (beq_iff_eq.mpr q),Nat.le_add_right _ _,m1,up⟩))
    ·have hk1:k=0:=by lia
     clear_value jp
     subst hk1
     rw [List.take_zero,List.append_nil] at m1
     exact ⟨by lia,by lia,Nat.le_refl _,m1,up⟩
end
end L2
set_option Elab.async false
set_option linter.all false
set_option maxRecDepth 100000
set_option maxHeartbeats 4000000
namespace L2
open PySem PySem.Spec PyProof.Rows
section
variable {O:KeyOrd} {ky:Keyed→O.α}
structure Mh (ky:Keyed→O.α) (a b out:List Keyed) (na nb:Nat):Prop where
 perm:((a.take na ++ b.take nb) ++ out.reverse).Perm (a ++ b)
 srt:SrtL ky out.reverse
 le:∀ y∈out,∀ x,x∈a.take na∨x∈b.take nb→KLe ky x y
variable {a b out:List Keyed} {na nb j:Nat}
theorem Mh.swap (m:Mh ky a b out na nb):Mh ky b a out nb na where
 perm:=((List.perm_append_comm).append_right _).trans (m.perm.trans List.perm_append_comm)
 srt:=m.srt
 le:=fun y hy x hx=>m.le y hy x hx.symm
theorem take_split {l:List Keyed} {i n:Nat} (h:i≤n):l.take n=l.take i ++ (l.take n).drop i:=by
 have:=(List.take_append_drop i (l.take n)).symm
 rw [List.take_take,Nat.min_eq_left h] at this
 exact this
theorem Mh.manyA (m:Mh ky a b out na nb) (sa:SrtL ky a) (hj:j≤na) (hb:∀ x∈(a.take na).drop j,∀ y∈b.take nb,KLe ky y x):Mh ky a b (out ++ ((a.take na).drop j).reverse) j nb where
 perm:=by
  have:=m.perm
  rw [take_split hj] at this
  rw [List.reverse_append,List.reverse_reverse]
  generalize (a.take na).drop j=g at this ⊢
  refine List.Perm.trans ?_ this
  rw [List.append_assoc,List.append_assoc,List.append_assoc]
  refine List.Perm.append_left _ ?_
  rw [←List.append_assoc,←List.append_assoc]
  exact List.Perm.append_right _ List.perm_append_comm
 srt:=by
  rw [List.reverse_append,List.reverse_reverse]
  refine List.pairwise_append.mpr ⟨(srt_split (srt_split sa na).1 j).2.1,m.srt,fun x hx y hy=>m.le y (List.mem_reverse.mp hy) x (.inl ?_)⟩
  exact List.mem_of_mem_drop hx
 le:=fun y hy x hx=>by
  rcases List.mem_append.mp hy with hy | hy
  ·refine m.le y hy x ?_
   rcases hx with hx | hx
   ·exact .inl (by rw [take_split hj];exact List.mem_append_left _ hx)
   ·exact .inr hx
  ·have hy:=List.mem_reverse.mp hy
   rcases hx with hx | hx
   ·have s2:=(srt_split sa na).1
    have e:(a.take na).take j=a.take j:=by rw [List.take_take,Nat.min_eq_left hj]
    exact (srt_split s2 j).2.2 x (by rw [e];exact hx) y hy
   ·exact hb y hy x hx
theorem Mh.manyB (m:Mh ky a b out na nb) (sb:SrtL ky b) (hj:j≤nb) (ha:∀ x∈(b.take nb).drop j,∀ y∈a.take na,KLe ky y x):Mh ky a b (out ++ ((b.take nb).drop j).reverse) na j:=(m.swap.manyA sb hj ha).swap
theorem top1 {l:List Keyed} {n:Nat} {x:Keyed} (h:0<n) (e:l[n - 1]?=some x):(l.take n).drop (n - 1)=[x]:=by
 have hi:n - 1<l.length:=by
  rcases Nat.lt_or_ge (n - 1) l.length with q | q
  ·exact q
  ·rw [List.getElem?_eq_none q] at e;cases e
 rw [List.getElem?_eq_getElem hi] at e
 have e1:=Option.some.inj e
 rw [List.drop_take,show n - (n - 1)=1 by lia,List.drop_eq_getElem_cons hi,e1]
 rfl
theorem Mh.oneA (m:Mh ky a b out na nb) (sa:SrtL ky a) (h0:0<na) {x:Keyed} (e:a[na - 1]?=some x) (hb:∀ y∈b.take nb,KLe ky y x):Mh ky a b (out ++ [x]) (na - 1) nb:=by
 have:=m.manyA sa (Nat.sub_le na 1) (by rw [top1 h0 e];intro z hz;rw [List.mem_singleton.mp hz];exact hb)
 rw [top1 h0 e] at this;exact this
theorem Mh.oneB (m:Mh ky a b out na nb) (sb:SrtL ky b) (h0:0<nb) {x:Keyed} (e:b[nb - 1]?=some x) (ha:∀ y∈a.take na,KLe ky y x):Mh ky a b (out ++ [x]) na (nb - 1):=(m.swap.oneA sb h0 e ha).swap
theorem take_le {l:List Keyed} (h:SrtL ky l) {n:Nat} {x:Keyed} (h0:0<n) (e:l[n - 1]?=some x):∀ y∈l.take n,KLe ky y x:=fun y hy=>by
 obtain ⟨i,hi⟩:=List.getElem?_of_mem hy
 rw [List.getElem?_take] at hi
 split at hi
 ·exact srt_at h (by lia) hi e
 ·cases hi
theorem Mh.done (m:Mh ky a b out na nb) (sa:SrtL ky a) (sb:SrtL ky b) (h:na=0∨nb=0):MDone ky a b (a.take na ++ b.take nb ++ out.reverse) where
 perm:=m.perm
 srt:=by
  refine List.pairwise_append.mpr ⟨?_,m.srt,fun x hx y hy=>m.le y (List.mem_reverse.mp hy) x (List.mem_append.mp hx)⟩
  rcases h with h | h
  ·rw [h,List.take_zero,List.nil_append];exact (srt_split sb nb).1
  ·rw [h,List.take_zero,List.append_nil];exact (srt_split sa na).1
theorem Mh.firstB (m:Mh ky a b out na nb) (sa:SrtL ky a) (sb:SrtL ky b) (h:∀ x∈b.take nb,∀ y∈a.take na,KLe ky x y):MDone ky a b (b.take nb ++ a.take na ++ out.reverse) where
 perm:=((List.perm_append_comm).append_right _).trans m.perm
 srt:=List.pairwise_append.mpr ⟨List.pairwise_append.mpr ⟨(srt_split sb nb).1,(srt_split sa na).1,h⟩,m.srt,fun x hx y hy=>m.le y (List.mem_reverse.mp hy) x (List.mem_append.mp hx).symm⟩
end
theorem ext_top (a:Array Keyed) (n:Nat):(a.extract 0 n).toList=a.toList.take n:=by
 rw [Array.toList_extract,List.extract_eq_take_drop]
 simp
theorem ext_seg (a:Array Keyed) (i n:Nat):(a.extract i n).toList=(a.toList.take n).drop i:=by
 rw [Array.toList_extract,List.extract_eq_take_drop,List.drop_take]
section
variable {M:Model} {A:Around} {E:Value→Shared→Prop} {s:Shared} {κ:SortKind} {O:KeyOrd} {ky:Keyed→O.α} {mem:Keyed→Prop}
structure MHi (ky:Keyed→O.α) (a b out:Array Keyed) (na nb:Nat):Prop where
 mi:Mh ky a.toList b.toList out.toList na nb
 ha:0<na
 hb:1<nb
 la:na≤a.size
 lb:nb≤b.size
theorem hi_ok (C:Cmp M A E s κ O ky mem) {a b:Array Keyed} {R:Array Keyed→SortSt→Prop} {st:SortSt} (hk:kindOf st=κ) (ma:∀ x∈a.toList,mem x) (mb:∀ x∈b.toList,mem x) (sa:SrtL ky a.toList) (sb:SrtL ky b.toList)
  (ha:0<a.size) (hb:0<b.size) (h1:∀ x y,b.toList[0]?=some x→y∈a.toList→KLe ky x y) (h2:∀ x∈b.toList,∀ y,a.toList[a.size - 1]?=some y→KLe ky x y)
  (h:∀ m g,MDone ky a.toList b.toList m.toList→R m (setG st g)):wpS M A E s (tsHi a b) R st:=by
 have la:a.toList.length=a.size:=Array.length_toList
 have lb:b.toList.length=b.size:=Array.length_toList
 have ata:∀ i,i<a.size→∃ x,a.toList[i]?=some x∧mem x:=fun i hi=>let ⟨x,e,hx⟩:=mem_at (l:=a.toList) (i:=i) (by lia);⟨x,e,ma x hx⟩
 have atb:∀ i,i<b.size→∃ x,b.toList[i]?=some x∧mem x:=fun i hi=>let ⟨x,e,hx⟩:=mem_at (l:=b.toList) (i:=i) (by lia);⟨x,e,mb x hx⟩
 have fin:∀ (out:Array Keyed) na nb g,Mh ky a.toList b.toList out.toList na nb→(na=0∨nb=0)→R (a.extract 0 na ++ b.extract 0 nb ++ out.reverse) (setG st g):=fun out na nb g m hz=>by
  refine h _ g ?_
  rw [Array.toList_append,Array.toList_append,ext_top,ext_top,Array.toList_reverse]
  exact m.done sa sb hz
 have finB:∀ (out:Array Keyed) na nb g,Mh ky a.toList b.toList out.toList na nb→nb=1→R (b.extract 0 nb ++ a.extract 0 na ++ out.reverse) (setG st g):=fun out na nb g m hz=>by
  refine h _ g ?_
  rw [Array.toList_append,Array.toList_append,ext_top,ext_top,Array.toList_reverse]
  refine m.firstB sa sb fun x hx y hy=>?_
  obtain ⟨i,hi⟩:=List.getElem?_of_mem hx
  rw [List.getElem?_take] at hi
  split at hi
  ·have:i=0:=by lia
   rw [this] at hi
   exact h1 x y hi (List.mem_of_mem_take hy)
  ·cases hi
 refine wpS_bind (wpS_lift (wpAny_rule ⟨rfl,?_⟩))
 obtain ⟨a0,ea0,ma0⟩:=ata (a.size - 1) (by lia)
 refine wpS_bind (ts_elem (at_toL ea0) ?_)
 have m0:Mh ky a.toList b.toList (#[a0]:Array Keyed).toList (a.size - 1) b.size:=by
  have e1:a.toList.take a.size=a.toList:=List.take_of_length_le (by lia)
  have e2:b.toList.take b.size=b.toList:=List.take_of_length_le (by lia)
  have:Mh ky a.toList b.toList [] a.size b.size:=⟨by rw [e1,e2];simp,List.Pairwise.nil,fun x hx=>by cases hx⟩
  exact this.oneA sa ha ea0 (fun y hy=>h2 y (by rw [e2] at hy;exact hy) a0 ea0)
 refine wpS_if (fun hz=>wpS_pure (fin _ _ _ (gallopOf st) m0 (.inl (eq_of_beq hz)))) (fun hz=>?_)
 have hz:¬ a.size - 1=0:=by simpa using hz
 refine wpS_if (fun hw=>wpS_pure (finB _ _ _ (gallopOf st) m0 (eq_of_beq hw))) (fun hw=>?_)
 have hw:¬ b.size=1:=by simpa using hw
 refine wpS_bind (wpS_get ?_)
 refine wpS_bind (wpS_mono (wpS_forRange (I:=fun x c st'=>(∃ g,st'=setG st g)∧∃ na nb out mg,c=(none,na,nb,out,mg)∧MHi ky a b out na nb∧na + nb + x + 1≤a.size + b.size)
  (Q:=fun c st'=>∃ m r,c=(some m,r)∧R m st') ?step ?fin ⟨⟨gallopOf st,rfl⟩,_,_,_,_,rfl,⟨m0,by lia,by lia,by lia,by lia⟩,by lia⟩) ?post)
 case post =>
  rintro c st' ⟨m,r,rfl,hr⟩
  exact wpS_pure hr
 case fin =>
  rintro c st' ⟨_,na,nb,out,mg,rfl,m,hx⟩
  have:=m.ha
  have:=m.hb
  lia
 case step =>
  rintro x c st' _ hx ⟨⟨g,rfl⟩,na,nb,out,mg,rfl,m,hx1⟩
  refine wpS_bind (wpS_mono (wpS_forRange (I:=fun y c st'=>st'=setG st g∧∃ na nb out ac bc,c=(none,na,nb,out,ac,bc)∧MHi ky a b out na nb∧na + nb + x + 1 + y≤a.size + b.size)
   (Q:=fun c st'=>(∃ m r,c=(some m,r)∧R m st')∨(st'=setG st g∧∃ na nb out ac bc,c=(none,na,nb,out,ac,bc)∧MHi ky a b out na nb∧na + nb + x + 1≤a.size + b.size)) ?step1 ?fin1 ⟨rfl,_,_,_,_,_,rfl,m,by lia⟩) ?post1)
  case fin1 =>
   rintro c st' ⟨_,na,nb,out,ac,bc,rfl,m,hx⟩
   have:=m.ha
   have:=m.hb
   lia
  case step1 =>
   rintro y c st' _ hy ⟨rfl,na,nb,out,ac,bc,rfl,m,hx2⟩
   have hia:=m.ha
   have hib:=m.hb
   have hla:=m.la
   have hlb:=m.lb
   obtain ⟨xa,ea,mxa⟩:=ata (na - 1) (by lia)
   obtain ⟨xb,eb,mxb⟩:=atb (nb - 1) (by lia)
   refine wpS_bind (ts_elem (at_toL eb) (wpS_bind (ts_elem (at_toL ea) (wpS_bind (C.ask _ _ mxb mxa _ _ hk ?_)))))
   cases hlt:O.blt (ky xb) (ky xa) with
   | true =>
    refine wpS_if (fun _=>?_) (fun hn=>absurd rfl hn)
    have m':=m.mi.oneA sa hia ea fun z hz=>KeyOrd.kle_trans (take_le sb (by lia) eb z hz) (KeyOrd.kle_of_klt hlt)
    rw [←Array.toList_push] at m'
    refine wpS_bind (ts_elem (at_toL ea) ?_)
    refine wpS_if (fun hz=>wpS_pure (.inl ⟨_,_,rfl,fin _ _ _ g m' (.inl (eq_of_beq hz))⟩)) (fun hz=>?_)
    have hz:¬ na - 1=0:=by simpa using hz
    exact wpS_if (fun _=>wpS_pure (.inr ⟨rfl,na - 1,nb,_,_,_,rfl,⟨m',by lia,hib,by lia,hlb⟩,by lia⟩)) (fun _=>wpS_pure ⟨rfl,na - 1,nb,_,_,_,rfl,⟨m',by lia,hib,by lia,hlb⟩,by lia⟩)
   | false =>
    refine wpS_if (fun hn=>by cases hn) (fun _=>?_)
    have m':=m.mi.oneB sb (by lia) eb fun z hz=>KeyOrd.kle_trans (take_le sa hia ea z hz) hlt
    rw [←Array.toList_push] at m'
    refine wpS_bind (ts_elem (at_toL eb) ?_)
    refine wpS_if (fun hz=>wpS_pure (.inl ⟨_,_,rfl,finB _ _ _ g m' (eq_of_beq hz)⟩)) (fun hz=>?_)
    have hz:¬ nb - 1=1:=by simpa using hz
    exact wpS_if (fun _=>wpS_pure (.inr ⟨rfl,na,nb - 1,_,_,_,rfl,⟨m',hia,by lia,hla,by lia⟩,by lia⟩)) (fun _=>wpS_pure ⟨rfl,na,nb - 1,_,_,_,rfl,⟨m',hia,by lia,hla,by lia⟩,by lia⟩)
  case post1 =>
   rintro c st' (⟨m',r,rfl,hr⟩ | ⟨rfl,na,nb,out,ac,bc,rfl,m,hx1⟩)
   ·exact wpS_pure ⟨m',_,rfl,hr⟩
   refine wpS_bind (wpS_lift (wpAny_rule ⟨rfl,?_⟩))
   refine wpS_bind (wpS_mono (wpS_forRange (I:=fun y c st'=>(∃ g,st'=setG st g)∧∃ na nb out mg ac bc,c=(none,na,nb,out,mg,ac,bc)∧MHi ky a b out na nb∧na + nb + x + 1 + 2 * y≤a.size + b.size)
    (Q:=fun c st'=>(∃ m r,c=(some m,r)∧R m st')∨((∃ g,st'=setG st g)∧∃ na nb out mg ac bc,c=(none,na,nb,out,mg,ac,bc)∧MHi ky a b out na nb∧na + nb + x + 2≤a.size + b.size)) ?step2 ?fin2 ⟨⟨g,rfl⟩,_,_,_,_,_,_,rfl,m,by lia⟩) ?post2)
   case fin2 =>
    rintro c st' ⟨_,na,nb,out,mg,ac,bc,rfl,m,hx⟩
    have:=m.ha
    have:=m.hb
    lia
   case post2 =>
    rintro c st' (⟨m',r,rfl,hr⟩ | ⟨⟨g,rfl⟩,na,nb,out,mg,ac,bc,rfl,m,hx1⟩)
    ·exact wpS_pure ⟨m',_,rfl,hr⟩
    ·exact wpS_bind (ts_setG (wpS_pure ⟨⟨_,rfl⟩,na,nb,_,_,rfl,m,by lia⟩))
   case step2 =>
    rintro y c st' _ hy ⟨⟨g,rfl⟩,na,nb,out,mg,ac,bc,rfl,m,hx2⟩
    have hia:=m.ha
    have hib:=m.hb
    have hla:=m.la
    have hlb:=m.lb
    obtain ⟨xb,eb,mxb⟩:=atb (nb - 1) (by lia)
    extract_lets -merge c1 c2 c3 c4 c5 c6 c7 c8 c9 c10 c11 c12 jp c13
    refine wpS_join (F:=fun z=>jp () z) fun z=>?_
    subst c13 jp c12 c11 c10 c9 c8 c7 c6 c5 c4 c3 c2 c1
    dsimp -zeta only
    refine wpS_bind (ts_setG ?_)
    refine wpS_bind (ts_elem (at_toL eb) (wpS_bind (gal_R (base:=0) (n:=na) (hint:=na - 1) C hk mxb ma (fun i j x y _ hij _ e1 e2=>srt_at sa hij e1 e2) (by lia) (by lia) fun k k1 k2 k3=>?_)))
    have m1:=m.mi.manyA sa k1 fun x hx z hz=>by
     rw [List.drop_take] at hx
     obtain ⟨i,hi,e⟩:=take_at hx
     exact KeyOrd.kle_trans (take_le sb (by lia) eb z hz) (KeyOrd.kle_of_klt (k3 (k + i) x (by lia) (by lia) (by rw [Nat.zero_add];exact e)))
    have up:∀ z∈a.toList.take k,KLe ky z xb:=fun z hz=>by
     obtain ⟨i,hi⟩:=List.getElem?_of_mem hz
     rw [List.getElem?_take] at hi
     split at hi
     ·exact k2 i z (by lia) (by rw [Nat.zero_add];exact hi)
     ·cases hi
    dsimp -zeta only
    extract_lets -merge d1 d2 jp d3 d4
    refine wpS_jn (F:=fun n o=>jp () n o) (I:=fun nk o=>¬ nk=0∧nk≤na∧Mh ky a.toList b.toList o.toList nk nb∧∀ z∈a.toList.take nk,KLe ky z xb) (fun nk o h=>?_) (fun key hk0=>?_) (fun hk0=>?_)
    ·clear m1 up k2 k3
     obtain ⟨hz,k1',m1,up⟩:=h
     subst d4 d3 jp d2 d1
     dsimp -zeta only
     refine wpS_bind (ts_elem (at_toL eb) ?_)
     have m2:=m1.oneB sb (by lia) eb up
     rw [←Array.toList_push] at m2
     refine wpS_if (fun hy=>wpS_pure (.inl ⟨_,_,rfl,finB _ _ _ _ m2 (eq_of_beq hy)⟩)) (fun hy=>?_)
     have hy:¬ nb - 1=1:=fun q=>hy (beq_iff_eq.mpr q)
     obtain ⟨xa,ea,mxa⟩:=ata (nk - 1) (by lia)
     refine wpS_bind (ts_elem (at_toL ea) (wpS_bind (gal_L (base:=0) (n:=nb - 1) (hint:=nb - 1 - 1) C hk mxa mb (fun i j x y _ hij _ e1 e2=>srt_at sb hij e1 e2) (by lia) (by lia) fun l l1 l2 l3=>?_)))
     have m3:=m2.manyB sb l1 fun x hx z hz=>by
      rw [List.drop_take] at hx
      obtain ⟨i,hi,e⟩:=take_at hx
      exact KeyOrd.kle_trans (take_le sa (by lia) ea z hz) (l3 (l + i) x (by lia) (by lia) (by rw [Nat.zero_add];exact e))
     have up2:∀ z∈b.toList.take l,KLe ky z xa:=fun z hz=>by
      obtain ⟨i,hi⟩:=List.getElem?_of_mem hz
      rw [List.getElem?_take] at hi
      split at hi
      ·exact KeyOrd.kle_of_klt (l2 i z (by lia) (by rw [Nat.zero_add];exact hi))
      ·cases hi
     dsimp -zeta only
     extract_lets -merge e1 e2 e3 jq e4 e5
     refine wpS_jn (F:=fun n o=>jq () n o) (I:=fun nl o=>¬ nl=1∧¬ nl=0∧nl≤nb - 1∧Mh ky a.toList b.toList o.toList nk nl∧∀ z∈b.toList.take nl,KLe ky z xa) (fun nl o h=>?_) (fun key hl0=>?_) (fun hl0=>?_)
     ·clear m3 up2 l2 l3
      obtain ⟨hw,hv,l1',m3,up2⟩:=h
      subst e5 e4 jq e3 e2 e1
      dsimp -zeta only
      refine wpS_bind (ts_elem (at_toL ea) ?_)
      have m4:=m3.oneA sa (by lia) ea up2
      rw [←Array.toList_push] at m4
      refine wpS_if (fun hu=>wpS_pure (.inl ⟨_,_,rfl,fin _ _ _ _ m4 (.inl (eq_of_beq hu))⟩)) (fun hu=>?_)
      have hu:¬ nk - 1=0:=by simpa using hu
      exact wpS_if (fun _=>wpS_pure (.inr ⟨⟨_,rfl⟩,nk - 1,nl,_,_,_,_,rfl,⟨m4,by lia,by lia,by lia,by lia⟩,by lia⟩)) (fun _=>wpS_pure ⟨⟨_,rfl⟩,nk - 1,nl,_,_,_,_,rfl,⟨m4,by lia,by lia,by lia,by lia⟩,by lia⟩)
     ·have hl0:0<nb - 1 - l:=hl0
      rw [←ext_seg,←Array.toList_reverse,←Array.toList_append] at m3
      exact wpS_if (fun hw=>wpS_pure (.inl ⟨_,_,rfl,finB _ _ _ _ m3 (eq_of_beq hw)⟩)) (fun hw=>wpS_if (fun hv=>wpS_pure (.inl ⟨_,_,rfl,fin _ _ _ _ m3 (.inr (eq_of_beq hv))⟩)) (fun hv=>key _ _ ⟨fun q=>hw (beq_iff_eq.mpr q),fun q=>hv (beq_iff_eq.mpr q),l1,m3,up2⟩))
     ·have hl0:¬ 0<nb - 1 - l:=hl0
      have hl1:l=nb - 1:=by lia
      clear_value jq
      subst hl1
      rw [List.drop_eq_nil_of_le (by rw [List.length_take];lia),List.reverse_nil,List.append_nil] at m3
      exact ⟨hy,by lia,Nat.le_refl _,m3,up2⟩
    ·have hk0:0<na - k:=hk0
     rw [←ext_seg,←Array.toList_reverse,←Array.toList_append] at m1
     exact wpS_if (fun hz=>wpS_pure (.inl ⟨_,_,rfl,fin _ _ _ _ m1 (.inl (eq_of_beq hz))⟩)) (fun hz=>key _ _ ⟨fun q=>hz (beq_iff_eq.mpr q),k1,m1,up⟩)
    ·have hk0:¬ 0<na - k:=hk0
     have hk1:k=na:=by lia
     clear_value jp
     subst hk1
     rw [List.drop_eq_nil_of_le (by rw [List.length_take];lia),List.reverse_nil,List.append_nil] at m1
     exact ⟨by lia,Nat.le_refl _,m1,up⟩
end
end L2
set_option Elab.async false
set_option linter.all false
set_option maxRecDepth 100000
set_option maxHeartbeats 4000000
namespace L2
open PySem PySem.Spec PyProof.Rows
theorem lay_over:∀ (m:List Keyed) (s0 j0:Nat) (arr:Array Keyed),s0 + j0 + m.length≤arr.size→((m.zipIdx j0).foldl (fun a (q:Keyed×Nat)=>a.setIfInBounds (s0 + q.2) q.1) arr).toList=arr.toList.take (s0 + j0) ++ m ++ arr.toList.drop (s0 + j0 + m.length)
 | [],s0,j0,arr,h=>by simp
 | x :: m,s0,j0,arr,h=>by
  rw [List.zipIdx_cons,List.foldl_cons]
  simp only [List.length_cons] at h
  rw [lay_over m s0 (j0 + 1) _ (by rw [Array.size_setIfInBounds];lia),Array.toList_setIfInBounds]
  have hl:s0 + j0<arr.toList.length:=by rw [Array.length_toList];lia
  rw [List.take_set,List.drop_set,if_pos (by lia)]
  have e:(arr.toList.take (s0 + (j0 + 1))).set (s0 + j0) x=arr.toList.take (s0 + j0) ++ [x]:=by
   rw [show s0 + (j0 + 1)=(s0 + j0) + 1 by lia,List.take_add_one,List.getElem?_eq_getElem hl]
   rw [List.set_append,if_neg (by rw [List.length_take];lia),List.length_take,Nat.min_eq_left (Nat.le_of_lt hl),Nat.sub_self]
   rfl
  rw [e]
  simp only [List.length_cons,List.append_assoc,List.cons_append,List.nil_append]
  rw [show s0 + (j0 + 1) + m.length=s0 + j0 + (m.length + 1) by lia]
section
variable {M:Model} {A:Around} {E:Value→Shared→Prop} {s:Shared} {κ:SortKind} {O:KeyOrd} {ky:Keyed→O.α} {mem:Keyed→Prop}
theorem wpS_set {st st':SortSt} {R:PUnit→SortSt→Prop} (h:R ⟨⟩ st'):wpS M A E s (set st':StateT SortSt Sem PUnit) R st:=by
 unfold wpS;rw [StateT.run_set];exact wpAny_pure ⟨rfl,h⟩
theorem at4 {P X Y S:List Keyed} {i:Nat} (h:i<X.length):(P ++ X ++ Y ++ S)[P.length + i]?=X[i]?:=by
 rw [List.append_assoc,List.append_assoc,List.getElem?_append_right (by lia),Nat.add_sub_cancel_left,List.getElem?_append_left h]
theorem at4' {P X Y S:List Keyed} {i:Nat} (h:i<Y.length):(P ++ X ++ Y ++ S)[P.length + X.length + i]?=Y[i]?:=by
 rw [List.append_assoc,List.getElem?_append_right (by rw [List.length_append];lia),List.length_append,Nat.add_sub_cancel_left,List.getElem?_append_left h]
theorem at_ok (C:Cmp M A E s κ O ky mem) {i sa na pw sb nb pw2:Nat} {P X Y S:List Keyed} {R:Bool→SortSt→Prop} {st:SortSt} (hk:kindOf st=κ) (hf:failedOf st=none) (hm:∀ x∈(arrOf st).toList,mem x)
  (e:(arrOf st).toList=P ++ X ++ Y ++ S) (lP:P.length=sa) (lX:X.length=na) (lY:Y.length=nb) (h0:0<na) (h1:0<nb) (sX:SrtL ky X) (sY:SrtL ky Y)
  (p1:(pendingOf st)[i]?=some (sa,na,pw)) (p2:(pendingOf st)[i + 1]?=some (sb,nb,pw2)) (esb:sb=sa + na)
  (h:∀ Z arr g,Z.Perm (X ++ Y)→SrtL ky Z→arr.toList=P ++ Z ++ S→R true (SortSt.mk' κ arr (((pendingOf st).setIfInBounds i (sa,na + nb,pw)).eraseIdxIfInBounds (i + 1)) g none)):wpS M A E s (mergeAt' i) R st:=by
 obtain ⟨y0,ey0⟩:∃ y,Y[0]?=some y:=⟨Y[0],List.getElem?_eq_getElem (by lia)⟩
 obtain ⟨xl,exl⟩:∃ y,X[na - 1]?=some y:=⟨X[na - 1],List.getElem?_eq_getElem (by lia)⟩
 subst lP
 subst esb
 have eX:∀ i,i<na→(arrOf st).toList[P.length + i]?=X[i]?:=fun i hi=>by rw [e];exact at4 (by lia)
 have eY:∀ i,i<nb→(arrOf st).toList[P.length + na + i]?=Y[i]?:=fun i hi=>by rw [e,←lX];exact at4' (by lia)
 have hsz:(arrOf st).size=P.length + na + nb + S.length:=by
  have:=congrArg List.length e
  rw [Array.length_toList] at this
  simp only [List.length_append] at this
  lia
 have ay0:(arrOf st).toList[P.length + na]?=some y0:=by have:=eY 0 h1;rw [Nat.add_zero] at this;rw [this];exact ey0
 refine wpS_bind (wpS_get ?_)
 rw [p1,p2]
 refine wpS_bind ?_
 refine wpS_set ?_
 refine wpS_bind (ts_elem (at_toL ay0) (wpS_bind (gal_R (arr:=arrOf st) (base:=P.length) (n:=na) (hint:=0) C hk (hm y0 (List.mem_of_getElem? ay0)) hm (fun i j x y hi hij hj e1 e2=>?_) (by lia) h0 fun k k1 k2 k3=>?_)))
 ·rw [show i=P.length + (i - P.length) by lia,eX _ (by lia)] at e1
  rw [show j=P.length + (j - P.length) by lia,eX _ (by lia)] at e2
  exact srt_at sX (by lia) e1 e2
 have k2':∀ x∈X.take k,KLe ky x y0:=fun x hx=>by
  obtain ⟨i,hi⟩:=List.getElem?_of_mem hx
  rw [List.getElem?_take] at hi
  split at hi
  ·exact k2 i x ‹_› (by rw [eX i (by lia)];exact hi)
  ·cases hi
 have k3':∀ x∈X.drop k,KLe ky y0 x:=fun x hx=>by
  obtain ⟨i,hi,e⟩:=drop_at hx
  have hl:i<X.length:=by
   rcases Nat.lt_or_ge i X.length with q | q
   ·exact q
   ·rw [List.getElem?_eq_none q] at e;cases e
  exact KeyOrd.kle_of_klt (k3 i x hi (by lia) (by rw [eX i (by lia)];exact e))
 have y0le:∀ y∈Y,KLe ky y0 y:=fun y hy=>drop_le sY ey0 y (by simpa using hy)
 have whole:(∀ x∈X,∀ y∈Y,KLe ky x y)→R true (SortSt.mk' κ (arrOf st) (((pendingOf st).setIfInBounds i (P.length,na + nb,pw)).eraseIdxIfInBounds (i + 1)) (gallopOf st) none):=fun hx =>
  h (X ++ Y) (arrOf st) (gallopOf st) (List.Perm.refl _) (List.pairwise_append.mpr ⟨sX,sY,hx⟩) (by rw [e,List.append_assoc P X Y])
 have est:SortSt.mk' κ (arrOf st) (((pendingOf st).setIfInBounds i (P.length,na + nb,pw)).eraseIdxIfInBounds (i + 1)) (gallopOf st) none=SortSt.mk' (kindOf st) (arrOf st) (((pendingOf st).setIfInBounds i (P.length,na + nb,pw)).eraseIdxIfInBounds (i + 1)) (gallopOf st) (failedOf st):=by rw [hk,hf]
 refine wpS_if (fun hz=>wpS_pure ?_) (fun hz=>?_)
 ·have hz:na - k=0:=eq_of_beq hz
  rw [est] at whole
  refine whole fun x hx y hy=>KeyOrd.kle_trans (k2' x ?_) (y0le y hy)
  rw [List.take_of_length_le (by lia)];exact hx
 have hz:¬ na - k=0:=by simpa using hz
 have axl:(arrOf st).toList[P.length + k + (na - k) - 1]?=some xl:=by rw [show P.length + k + (na - k) - 1=P.length + (na - 1) by lia,eX _ (by lia)];exact exl
 refine wpS_bind (ts_elem (at_toL axl) (wpS_bind (gal_L (arr:=arrOf st) (base:=P.length + na) (n:=nb) (hint:=nb - 1) C hk (hm xl (List.mem_of_getElem? axl)) hm (fun i j x y hi hij hj e1 e2=>?_) (by lia) (by lia) fun l l1 l2 l3=>?_)))
 ·rw [show i=P.length + na + (i - (P.length + na)) by lia,eY _ (by lia)] at e1
  rw [show j=P.length + na + (j - (P.length + na)) by lia,eY _ (by lia)] at e2
  exact srt_at sY (by lia) e1 e2
 have xle:∀ x∈X,KLe ky x xl:=fun x hx=>take_le sX h0 exl x (by rw [List.take_of_length_le (by lia)];exact hx)
 have l2':∀ y∈Y.take l,KLe ky y xl:=fun x hx=>by
  obtain ⟨i,hi⟩:=List.getElem?_of_mem hx
  rw [List.getElem?_take] at hi
  split at hi
  ·exact KeyOrd.kle_of_klt (l2 i x ‹_› (by rw [eY i (by lia)];exact hi))
  ·cases hi
 have l3':∀ y∈Y.drop l,KLe ky xl y:=fun x hx=>by
  obtain ⟨i,hi,e⟩:=drop_at hx
  have hl:i<Y.length:=by
   rcases Nat.lt_or_ge i Y.length with q | q
   ·exact q
   ·rw [List.getElem?_eq_none q] at e;cases e
  exact l3 i x hi (by lia) (by rw [eY i (by lia)];exact e)
 refine wpS_if (fun hy=>wpS_pure ?_) (fun hy=>?_)
 ·have hy:l=0:=eq_of_beq hy
  rw [est] at whole
  exact whole fun x hx y hy2=>KeyOrd.kle_trans (xle x hx) (l3' y (by rw [hy];exact hy2))
 have hy:¬ l=0:=by simpa using hy
 have ex:((arrOf st).extract (P.length + k) (P.length + na)).toList=X.drop k:=by
  rw [ext_seg,e,List.append_assoc,List.append_assoc,List.take_append,List.take_of_length_le (by lia),Nat.add_sub_cancel_left,List.take_append,List.take_of_length_le (by lia),←lX,Nat.sub_self,List.take_zero,List.append_nil,List.drop_append,List.drop_eq_nil_of_le (by lia),Nat.add_sub_cancel_left]
  rfl
 have ey:((arrOf st).extract (P.length + na) (P.length + na + l)).toList=Y.take l:=by
  rw [ext_toL2,e,List.append_assoc,List.drop_append,List.drop_eq_nil_of_le (by rw [List.length_append];lia),List.length_append,lX,Nat.sub_self,List.nil_append,List.drop_zero,List.take_append_of_le_length (by lia)]
 have sx:((arrOf st).extract (P.length + k) (P.length + na)).size=na - k:=by rw [←Array.length_toList,ex,List.length_drop];lia
 have sy:((arrOf st).extract (P.length + na) (P.length + na + l)).size=l:=by rw [←Array.length_toList,ey,List.length_take];lia
 have post:∀ (m:Array Keyed) g,MDone ky ((arrOf st).extract (P.length + k) (P.length + na)).toList ((arrOf st).extract (P.length + na) (P.length + na + l)).toList m.toList →
   R true (SortSt.mk' (kindOf st) (m.toList.zipIdx.foldl (fun a (q:Keyed×Nat)=>a.setIfInBounds (P.length + k + q.2) q.1) (arrOf st)) (((pendingOf st).setIfInBounds i (P.length,na + nb,pw)).eraseIdxIfInBounds (i + 1)) g (failedOf st)):=fun m g d=>by
  rw [ex,ey] at d
  rw [hk,hf]
  have lm:m.toList.length=na - k + l:=by rw [d.perm.length_eq,List.length_append,List.length_drop,List.length_take];lia
  have hmem:∀ z∈m.toList,z∈X.drop k∨z∈Y.take l:=fun z hz=>List.mem_append.mp (d.perm.mem_iff.mp hz)
  refine h (X.take k ++ (m.toList ++ Y.drop l)) _ g ?_ ?_ ?_
  ·have p3:(m.toList ++ Y.drop l).Perm (X.drop k ++ Y):=by
    have:=d.perm.append_right (Y.drop l)
    rw [List.append_assoc,List.take_append_drop] at this
    exact this
   have p4:=p3.append_left (X.take k)
   rw [←List.append_assoc (X.take k) (X.drop k) Y,List.take_append_drop] at p4
   exact p4
  ·refine List.pairwise_append.mpr ⟨(srt_split sX k).1,List.pairwise_append.mpr ⟨d.srt,(srt_split sY l).2.1,fun x hx y hy2=>?_⟩,fun x hx y hy2=>?_⟩
   ·rcases hmem x hx with z | z
    ·exact KeyOrd.kle_trans (xle x (List.mem_of_mem_drop z)) (l3' y hy2)
    ·exact (srt_split sY l).2.2 x z y hy2
   ·rcases List.mem_append.mp hy2 with z | z
    ·rcases hmem y z with z | z
     ·exact (srt_split sX k).2.2 x hx y z
     ·exact KeyOrd.kle_trans (k2' x hx) (y0le y (List.mem_of_mem_take z))
    ·exact KeyOrd.kle_trans (k2' x hx) (y0le y (List.mem_of_mem_drop z))
  ·have:=lay_over m.toList (P.length + k) 0 (arrOf st) (by lia)
   rw [this,Nat.add_zero,lm,e]
   have e1:(P ++ X ++ Y ++ S).take (P.length + k)=P ++ X.take k:=by
    rw [List.append_assoc,List.append_assoc,List.take_append,List.take_of_length_le (by lia),Nat.add_sub_cancel_left,List.take_append_of_le_length (by lia)]
   have e2:(P ++ X ++ Y ++ S).drop (P.length + k + (na - k + l))=Y.drop l ++ S:=by
    rw [show P.length + k + (na - k + l)=(P ++ X).length + l by rw [List.length_append];lia,List.append_assoc,List.drop_append,List.drop_eq_nil_of_le (by lia),Nat.add_sub_cancel_left,List.nil_append,List.drop_append_of_le_length (by lia)]
   rw [e1,e2]
   simp only [List.append_assoc]
 have mx:∀ z∈((arrOf st).extract (P.length + k) (P.length + na)).toList,mem z:=fun z hz=>hm z (by rw [ex] at hz;rw [e];simp [List.mem_of_mem_drop hz])
 have my:∀ z∈((arrOf st).extract (P.length + na) (P.length + na + l)).toList,mem z:=fun z hz=>hm z (by rw [ey] at hz;rw [e];simp [List.mem_of_mem_take hz])
 have first:∀ x y,((arrOf st).extract (P.length + na) (P.length + na + l)).toList[0]?=some x→y∈((arrOf st).extract (P.length + k) (P.length + na)).toList→KLe ky x y:=fun x y e1 hy2=>by
  rw [ey,List.getElem?_take,if_pos (by lia),ey0] at e1
  cases e1
  rw [ex] at hy2
  exact k3' y hy2
 have last:∀ x∈((arrOf st).extract (P.length + na) (P.length + na + l)).toList,∀ y,((arrOf st).extract (P.length + k) (P.length + na)).toList[((arrOf st).extract (P.length + k) (P.length + na)).size - 1]?=some y→KLe ky x y:=fun x hx y e1=>by
  rw [sx,ex,List.getElem?_drop,show k + (na - k - 1)=na - 1 by lia,exl] at e1
  cases e1
  rw [ey] at hx
  exact l2' x hx
 refine wpS_if (fun _=>wpS_bind (lo_ok (a:=(arrOf st).extract (P.length + k) (P.length + na)) (b:=(arrOf st).extract (P.length + na) (P.length + na + l)) C (by exact hk) mx my (by rw [ex];exact (srt_split sX k).2.1) (by rw [ey];exact (srt_split sY l).1) (by rw [sx];lia) (by rw [sy];lia) first last fun m g d=>?_)) (fun _=>wpS_bind (hi_ok (a:=(arrOf st).extract (P.length + k) (P.length + na)) (b:=(arrOf st).extract (P.length + na) (P.length + na + l)) C (by exact hk) mx my (by rw [ex];exact (srt_split sX k).2.1) (by rw [ey];exact (srt_split sY l).1) (by rw [sx];lia) (by rw [sy];lia) first last fun m g d=>?_))
 all_goals
  refine wpS_bind (wpS_modify ?_)
  refine wpS_bind (wpS_get (wpS_pure ?_))
  have:=post m g d
  have hn:(failedOf st).isNone=true:=by rw [hf];rfl
  show R (failedOf st).isNone _
  rw [hn]
  exact this
end
end L2
set_option Elab.async false
set_option linter.all false
set_option maxRecDepth 100000
set_option maxHeartbeats 4000000
namespace L2
open PySem PySem.Spec PyProof.Rows
section
variable {M:Model} {A:Around} {E:Value→Shared→Prop} {s:Shared} {κ:SortKind} {O:KeyOrd} {ky:Keyed→O.α} {mem:Keyed→Prop}
noncomputable def Kx (ky:Keyed→O.α) (arr:Array Keyed) (i:Nat):O.α:=ky (arr.getD i (Value.none,Value.none))
noncomputable def SegUp (ky:Keyed→O.α) (lo n:Nat) (arr:Array Keyed):Prop:=∀ i j,i≤j→j<n→O.kle (Kx ky arr (lo + i)) (Kx ky arr (lo + j))
noncomputable def SegDn (ky:Keyed→O.α) (lo n:Nat) (arr:Array Keyed):Prop:=∀ i j,i≤j→j<n→O.kle (Kx ky arr (lo + j)) (Kx ky arr (lo + i))
theorem Kx_congr {p q:Array Keyed} {i j:Nat} (h:p[i]?=q[j]?):Kx ky p i=Kx ky q j:=by
 unfold Kx
 rw [Array.getD_eq_getD_getElem?,Array.getD_eq_getD_getElem?,h]
theorem Kx_mirror {p:Array Keyed} {i j:Nat} (hj:j≤p.size) (k:Nat):Kx ky (mirror p i j ((j - i) / 2)) k=if i≤k∧k<j then Kx ky p (i + j - 1 - k) else Kx ky p k:=by
 have e:=getElem?_mirror_all (i:=i) hj k
 split
 ·rw [if_pos ‹_›] at e;exact Kx_congr e
 ·rw [if_neg ‹_›] at e;exact Kx_congr e
theorem Kx_same {p:Array Keyed} {i j:Nat} (hj:j≤p.size) (he:∀ k,i≤k→k<j→Kx ky p k=Kx ky p (j - 1)) (k:Nat):Kx ky (mirror p i j ((j - i) / 2)) k=Kx ky p k:=by
 rw [Kx_mirror hj]
 split
 ·rw [he _ (by lia) (by lia),he k (by lia) (by lia)]
 ·rfl
theorem Kx_at {p:Array Keyed} {i:Nat} (h:i<p.size):∃ x,p[i]?=some x∧x∈p.toList∧Kx ky p i=ky x:=by
 refine ⟨p[i],getElem?_pos _ i h,by simp,?_⟩
 unfold Kx
 rw [Array.getD_eq_getD_getElem?,getElem?_pos _ i h];rfl
structure From (lo:Nat) (p q:Array Keyed):Prop where
 perm:q.Perm p
 low:∀ i,i<lo→q[i]?=p[i]?
theorem From.refl {lo:Nat} {p:Array Keyed}:From lo p p:=⟨Array.Perm.refl _,fun _ _=>rfl⟩
theorem From.trans {lo:Nat} {p q r:Array Keyed} (h:From lo p q) (g:From lo q r):From lo p r:=⟨g.perm.trans h.perm,fun i hi=>(g.low i hi).trans (h.low i hi)⟩
theorem From.size {lo:Nat} {p q:Array Keyed} (h:From lo p q):q.size=p.size:=by have:=(Array.perm_iff_toList_perm.mp h.perm).length_eq;simpa using this
theorem From.mirror {lo i j:Nat} {p:Array Keyed} (hi:lo≤i) (hj:j≤p.size):From lo p (mirror p i j ((j - i) / 2)):=⟨mirror_perm _ _ _ _,fun k hk=>by rw [getElem?_mirror_all hj,if_neg (by lia)]⟩
theorem From.mems {lo:Nat} {p q:Array Keyed} (h:From lo p q) (hm:∀ x∈p.toList,mem x):∀ x∈q.toList,mem x:=fun x hx=>hm x ((Array.perm_iff_toList_perm.mp h.perm).mem_iff.mp hx)
theorem ts_ltAt (C:Cmp M A E s κ O ky mem) {i j:Nat} {R:Option Bool→SortSt→Prop} {st:SortSt} (hk:kindOf st=κ) (hm:∀ x∈(arrOf st).toList,mem x) (hi:i<(arrOf st).size) (hj:j<(arrOf st).size)
  (h:R (some (O.blt (Kx ky (arrOf st) i) (Kx ky (arrOf st) j))) st):wpS M A E s (ltAt' i j) R st:=by
 obtain ⟨x,e1,m1,k1⟩:=Kx_at (ky:=ky) hi
 obtain ⟨y,e2,m2,k2⟩:=Kx_at (ky:=ky) hj
 rw [k1,k2] at h
 exact wpS_bind (wpS_get (wpS_bind (ts_elem e1 (wpS_bind (ts_elem e2 (C.ask _ _ (hm x m1) (hm y m2) _ _ hk h))))))
theorem ts_ltAtB (C:Cmp M A E s κ O ky mem) {i j:Nat} {b:Bool} {R:Option Bool→SortSt→Prop} {st:SortSt} (eb:O.blt (Kx ky (arrOf st) i) (Kx ky (arrOf st) j)=b) (hk:kindOf st=κ) (hm:∀ x∈(arrOf st).toList,mem x) (hi:i<(arrOf st).size) (hj:j<(arrOf st).size)
  (h:R (some b) st):wpS M A E s (ltAt' i j) R st:=ts_ltAt C hk hm hi hj (by rw [eb];exact h)
theorem ts_rev {i j:Nat} {R:Unit→SortSt→Prop} {st:SortSt} (h:R () (setArr st (mirror (arrOf st) i j ((j - i) / 2)))):wpS M A E s (reverseSlice' i j) R st:=by
 rw [reverseSlice'_eq];exact wpS_modify h
theorem seg_asc {lo a nrem:Nat} {arr:Array Keyed} {st:SortSt} {R:Option (Option Nat)×Nat→SortSt→Prop} (F:Nat→Option (Option Nat)×Nat→StateT SortSt Sem (ForInStep (Option (Option Nat)×Nat)))
  (hF:∀ x n (R':ForInStep (Option (Option Nat)×Nat)→SortSt→Prop),1≤n→n<nrem→R' (if O.blt (Kx ky arr (lo + n)) (Kx ky arr (lo + n - 1))=true then .done (none,n) else .yield (none,n + 1)) st→wpS M A E s (F x (none,n)) R' st)
  (h1:1≤a) (ha:a≤nrem) (hs:SegUp ky lo a arr) (h:∀ n,a≤n→n≤nrem→SegUp ky lo n arr→(n=nrem∨O.klt (Kx ky arr (lo + n)) (Kx ky arr (lo + n - 1)))→R (none,n) st):wpS M A E s (forIn [a:nrem] (none,a) F) R st:=by
 refine wpS_forRange (I:=fun x c st'=>st'=st∧c=(none,x)∧SegUp ky lo x arr) ?_ ?_ ⟨rfl,rfl,hs⟩
 ·rintro x c st' hx1 hx2 ⟨rfl,rfl,hs⟩
  refine hF x x _ (by lia) hx2 ?_
  cases e:O.blt (Kx ky arr (lo + x)) (Kx ky arr (lo + x - 1)) with
  | true=>rw [if_pos rfl];exact h x hx1 (by lia) hs (.inr e)
  | false =>
   rw [if_neg (by simp)]
   refine ⟨rfl,rfl,fun i j hij hj=>?_⟩
   by_cases hjx:j=x
   ·subst hjx
    by_cases hi:i=j
    ·subst hi;exact KeyOrd.kle_refl _
    ·have e2:O.kle (Kx ky arr (lo + (j - 1))) (Kx ky arr (lo + j)):=by rw [show lo + (j - 1)=lo + j - 1 by lia];exact e
     exact KeyOrd.kle_trans (hs i (j - 1) (by lia) (by lia)) e2
   ·exact hs i j hij (by lia)
 ·rintro c st' ⟨rfl,rfl,hs⟩
  rw [Nat.max_eq_right ha] at hs ⊢
  exact h nrem ha (Nat.le_refl _) hs (.inl rfl)
theorem count_seg (C:Cmp M A E s κ O ky mem) {lo nrem:Nat} {R:Option Nat→SortSt→Prop} {st:SortSt} (hk:kindOf st=κ) (hm:∀ x∈(arrOf st).toList,mem x) (h1:1≤nrem) (hz:lo + nrem≤(arrOf st).size)
  (h:∀ m arr,From lo (arrOf st) arr→1≤m→m≤nrem→SegUp ky lo m arr→R (some m) (setArr st arr)):wpS M A E s (countRun' lo nrem) R st:=by
 have body:∀ (arr:Array Keyed),From lo (arrOf st) arr→∀ n,1≤n→n<nrem→∀ {R':Option Bool→SortSt→Prop},R' (some (O.blt (Kx ky arr (lo + n)) (Kx ky arr (lo + n - 1)))) (setArr st arr)→wpS M A E s (ltAt' (lo + n) (lo + n - 1)) R' (setArr st arr):=fun arr hF n n1 n2 R' hR =>
  ts_ltAt (st:=setArr st arr) C hk (hF.mems hm) (by show lo + n<arr.size;rw [hF.size];lia) (by show lo + n - 1<arr.size;rw [hF.size];lia) hR
 -- the last part: turned about,then on
 have tail:∀ (arr:Array Keyed) (n:Nat),From lo (arrOf st) arr→1≤n→n≤nrem→SegDn ky lo n arr→SegUp ky lo n (mirror arr lo (lo + n) ((lo + n - lo) / 2)):=fun arr n hF n1 n2 hd i j hij hj=>by
  have hs:lo + n≤arr.size:=by rw [hF.size];lia
  rw [Kx_mirror hs,Kx_mirror hs,if_pos (by lia),if_pos (by lia),show lo + (lo + n) - 1 - (lo + i)=lo + (n - 1 - i) by lia,show lo + (lo + n) - 1 - (lo + j)=lo + (n - 1 - j) by lia]
  exact hd _ _ (by lia) (by lia)
 have eqs:∀ (arr:Array Keyed) (n q:Nat),From lo (arrOf st) arr→n≤nrem→q + 1≤n→(∀ i,n - (q + 1)≤i→i<n→Kx ky arr (lo + i)=Kx ky arr (lo + n - 1))→∀ k,Kx ky (mirror arr (lo + n - (q + 1)) (lo + n) ((lo + n - (lo + n - (q + 1))) / 2)) k=Kx ky arr k:=fun arr n q hF n2 hq he k=>by
  refine Kx_same (by rw [hF.size];lia) (fun k k1 k2=>?_) k
  rw [show k=lo + (k - lo) by lia]
  exact he (k - lo) (by lia) (by lia)
 refine wpS_bind (seg_asc (ky:=ky) (lo:=lo) (arr:=arrOf st) _ (fun x n R' n1 n2 hR=>?_) (Nat.le_refl 1) h1 (fun i j hij hj=>by rw [show i=j by lia];exact KeyOrd.kle_refl _) fun n n1 n2 hs hor=>?_)
 ·refine wpS_bind (body (arrOf st) From.refl n n1 n2 ?_)
  cases e:O.blt (Kx ky (arrOf st) (lo + n)) (Kx ky (arrOf st) (lo + n - 1)) with
  | true=>rw [e,if_pos rfl] at hR;exact wpS_pure hR
  | false=>rw [e,if_neg (by simp)] at hR;exact wpS_pure hR
 refine wpS_if (fun he=>wpS_pure (h n (arrOf st) From.refl n1 n2 hs)) (fun he=>?_)
 have he:¬ n=nrem:=by simpa using he
 have hlt:=hor.resolve_left he
 refine wpS_if (fun hn=>?_) (fun hn=>?_)
 ·refine wpS_bind (ts_ltAt C hk hm (by lia) (by lia) ?_)
  cases hrose:O.blt (Kx ky (arrOf st) lo) (Kx ky (arrOf st) (lo + n - 1)) with
  | true=>exact wpS_if (fun _=>wpS_pure (h n (arrOf st) From.refl n1 n2 hs)) (fun z=>absurd rfl z)
  | false =>
   refine wpS_if (fun z=>by cases z) (fun _=>?_)
   refine wpS_bind (ts_rev ?_)
   have all:∀ k,k<n→Kx ky (arrOf st) (lo + k)=Kx ky (arrOf st) (lo + n - 1):=fun k hk=>by
    have a1:=hs 0 k (by lia) hk
    have a2:=hs k (n - 1) (by lia) (by lia)
    rw [show lo + (n - 1)=lo + n - 1 by lia] at a2
    exact KeyOrd.kle_antisymm a2 (KeyOrd.kle_trans hrose a1)
   have hF1:From lo (arrOf st) (mirror (arrOf st) lo (lo + n) ((lo + n - lo) / 2)):=From.mirror (Nat.le_refl _) (by lia)
   have ek:∀ k,Kx ky (mirror (arrOf st) lo (lo + n) ((lo + n - lo) / 2)) k=Kx ky (arrOf st) k:=Kx_same (by lia) fun k k1 k2=>by
    rw [show k=lo + (k - lo) by lia];exact all _ (by lia)
   have hd:SegDn ky lo (n + 1) (mirror (arrOf st) lo (lo + n) ((lo + n - lo) / 2)):=fun i j hij hj=>by
    rw [ek,ek]
    by_cases hjn:j=n
    ·subst hjn
     by_cases hi:i=j
     ·subst hi;exact KeyOrd.kle_refl _
     ·rw [all i (by lia)];exact KeyOrd.kle_of_klt hlt
    ·rw [all i (by lia),all j (by lia)];exact KeyOrd.kle_refl _
   show wpS M A E s _ R (setArr st (mirror (arrOf st) lo (lo + n) ((lo + n - lo) / 2)))
   generalize mirror (arrOf st) lo (lo + n) ((lo + n - lo) / 2)=arr0 at hF1 hd ⊢
   refine wpS_bind (wpS_lift (wpAny_rule ⟨rfl,?_⟩))
   refine wpS_bind (wpS_mono (wpS_forRange (I:=fun x c st'=>∃ arr q,c=(none,x,q)∧st'=setArr st arr∧From lo (arrOf st) arr∧SegDn ky lo x arr∧q + 1≤x∧∀ i,x - (q + 1)≤i→i<x→Kx ky arr (lo + i)=Kx ky arr (lo + x - 1))
    (Q:=fun c st'=>∃ arr m q,c=(none,m,q)∧st'=setArr st arr∧From lo (arrOf st) arr∧SegDn ky lo m arr∧1≤m∧m≤nrem∧q + 1≤m∧∀ i,m - (q + 1)≤i→i<m→Kx ky arr (lo + i)=Kx ky arr (lo + m - 1)) ?st ?fi ⟨arr0,0,rfl,rfl,hF1,hd,by lia,fun i h1 h2=>by congr 1;lia⟩) ?po)
   case fi =>
    rintro c st' ⟨arr,q,rfl,rfl,hF,hd,hq,he⟩
    rw [Nat.max_eq_right (by lia)] at *
    exact ⟨arr,nrem,q,rfl,rfl,hF,hd,by lia,by lia,hq,he⟩
   case st =>
    rintro x c st' hx1 hx2 ⟨arr,q,rfl,rfl,hF,hd,hq,he⟩
    refine wpS_bind (body arr hF x (by lia) hx2 ?_)
    cases e1:O.blt (Kx ky arr (lo + x)) (Kx ky arr (lo + x - 1)) with
    | true =>
     refine wpS_if (fun _=>?_) (fun z=>absurd rfl z)
     have stp:∀ arr':Array Keyed,(∀ k,Kx ky arr' k=Kx ky arr k)→SegDn ky lo (x + 1) arr':=fun arr' hk' i j hij hj=>by
      rw [hk',hk']
      by_cases hjx:j=x
      ·subst hjx
       by_cases hi:i=j
       ·subst hi;exact KeyOrd.kle_refl _
       ·have e2:O.kle (Kx ky arr (lo + j)) (Kx ky arr (lo + (j - 1))):=by rw [show lo + (j - 1)=lo + j - 1 by lia];exact KeyOrd.kle_of_klt e1
        exact KeyOrd.kle_trans e2 (hd i (j - 1) (by lia) (by lia))
      ·exact hd i j hij (by lia)
     refine wpS_if (fun hq0=>wpS_bind (ts_rev (wpS_pure ⟨_,0,rfl,rfl,hF.trans (From.mirror (i:=lo + x - (q + 1)) (j:=lo + x) (by lia) ?_),stp _ (eqs arr x q hF (by lia) hq he),by lia,fun i h1 h2=>by congr 1;lia⟩))) (fun hq0=>wpS_pure ⟨arr,0,rfl,rfl,hF,stp arr (fun _=>rfl),by lia,fun i h1 h2=>by congr 1;lia⟩)
     show lo + x≤arr.size
     rw [hF.size];lia
    | false =>
     refine wpS_if (fun z=>by cases z) (fun _=>?_)
     have sz1:lo + x<arr.size:=by rw [hF.size];lia
     cases e2:O.blt (Kx ky arr (lo + x - 1)) (Kx ky arr (lo + x)) with
     | true =>
      refine wpS_bind (ts_ltAtB (st:=setArr st arr) C e2 hk (hF.mems hm) (by show lo + x - 1<arr.size;lia) sz1 ?_)
      exact wpS_if (fun _=>wpS_pure ⟨arr,x,q,rfl,rfl,hF,hd,by lia,by lia,hq,he⟩) (fun z=>absurd rfl z)
     | false =>
      refine wpS_bind (ts_ltAtB (st:=setArr st arr) C e2 hk (hF.mems hm) (by show lo + x - 1<arr.size;lia) sz1 ?_)
      have ex:Kx ky arr (lo + x)=Kx ky arr (lo + x - 1):=O.total _ _ e1 e2
      refine wpS_if (fun z=>by cases z) (fun _=>wpS_pure ⟨arr,q + 1,rfl,rfl,hF,fun i j hij hj=>?_,by lia,fun i i1 i2=>?_⟩)
      ·by_cases hjx:j=x
       ·subst hjx
        by_cases hi:i=j
        ·subst hi;exact KeyOrd.kle_refl _
        ·rw [ex,show lo + j - 1=lo + (j - 1) by lia];exact hd i (j - 1) (by lia) (by lia)
       ·exact hd i j hij (by lia)
      ·rw [show lo + (x + 1) - 1=lo + x by lia]
       by_cases hi:i=x
       ·rw [hi]
       ·rw [ex];exact he i (by lia) (by lia)
   case po =>
    rintro c st' ⟨arr,m,q,rfl,rfl,hF,hd,m1,m2,hq,he⟩
    refine wpS_if (fun hq0=>wpS_bind (ts_rev ?_)) (fun hq0=>?_)
    ·have hF2:=hF.trans (From.mirror (i:=lo + m - (q + 1)) (j:=lo + m) (by lia) (by rw [hF.size];lia))
     have hd2:SegDn ky lo m (mirror arr (lo + m - (q + 1)) (lo + m) ((lo + m - (lo + m - (q + 1))) / 2)):=fun i j hij hj=>by rw [eqs arr m q hF m2 hq he,eqs arr m q hF m2 hq he];exact hd i j hij hj
     show wpS M A E s _ R (setArr st (mirror arr (lo + m - (q + 1)) (lo + m) ((lo + m - (lo + m - (q + 1))) / 2)))
     generalize mirror arr (lo + m - (q + 1)) (lo + m) ((lo + m - (lo + m - (q + 1))) / 2)=arr2 at hF2 hd2 ⊢
     refine wpS_bind (ts_rev ?_)
     have hF3:=hF2.trans (From.mirror (i:=lo) (j:=lo + m) (Nat.le_refl lo) (by rw [hF2.size];lia))
     refine wpS_bind (seg_asc (ky:=ky) (lo:=lo) (arr:=mirror arr2 lo (lo + m) ((lo + m - lo) / 2)) _ (fun x n R' n1 n2 hR=>?_) m1 m2 (tail arr2 m hF2 m1 m2 hd2) fun n' a b c _=>wpS_pure (h n' _ hF3 (Nat.le_trans m1 a) b c))
     refine wpS_bind (body _ hF3 n n1 n2 ?_)
     cases e:O.blt (Kx ky (mirror arr2 lo (lo + m) ((lo + m - lo) / 2)) (lo + n)) (Kx ky (mirror arr2 lo (lo + m) ((lo + m - lo) / 2)) (lo + n - 1)) with
     | true=>rw [e,if_pos rfl] at hR;exact wpS_pure hR
     | false=>rw [e,if_neg (by simp)] at hR;exact wpS_pure hR
    ·refine wpS_bind (ts_rev ?_)
     have hF3:=hF.trans (From.mirror (i:=lo) (j:=lo + m) (Nat.le_refl lo) (by rw [hF.size];lia))
     refine wpS_bind (seg_asc (ky:=ky) (lo:=lo) (arr:=mirror arr lo (lo + m) ((lo + m - lo) / 2)) _ (fun x n R' n1 n2 hR=>?_) m1 m2 (tail arr m hF m1 m2 hd) fun n' a b c _=>wpS_pure (h n' _ hF3 (Nat.le_trans m1 a) b c))
     refine wpS_bind (body _ hF3 n n1 n2 ?_)
     cases e:O.blt (Kx ky (mirror arr lo (lo + m) ((lo + m - lo) / 2)) (lo + n)) (Kx ky (mirror arr lo (lo + m) ((lo + m - lo) / 2)) (lo + n - 1)) with
     | true=>rw [e,if_pos rfl] at hR;exact wpS_pure hR
     | false=>rw [e,if_neg (by simp)] at hR;exact wpS_pure hR
 ·have hn1:n=1:=by lia
  subst hn1
  have hF1:From lo (arrOf st) (arrOf st):=From.refl
  have hd:SegDn ky lo (1 + 1) (arrOf st):=fun i j hij hj=>by
   by_cases hi:i=j
   ·subst hi;exact KeyOrd.kle_refl _
   ·have h0:i=0:=by lia
    have h1:j=1:=by lia
    subst h0;subst h1
    exact KeyOrd.kle_of_klt hlt
  obtain ⟨arr0,hF1,hd,e0⟩:∃ arr0,From lo (arrOf st) arr0∧SegDn ky lo (1 + 1) arr0∧arr0=arrOf st:=⟨_,hF1,hd,rfl⟩
  refine (show wpS M A E s _ R (setArr st arr0)→_ from fun hh=>by rw [e0] at hh;exact hh) ?_
  refine wpS_bind (wpS_lift (wpAny_rule ⟨rfl,?_⟩))
  refine wpS_bind (wpS_mono (wpS_forRange (I:=fun x c st'=>∃ arr q,c=(none,x,q)∧st'=setArr st arr∧From lo (arrOf st) arr∧SegDn ky lo x arr∧q + 1≤x∧∀ i,x - (q + 1)≤i→i<x→Kx ky arr (lo + i)=Kx ky arr (lo + x - 1))
   (Q:=fun c st'=>∃ arr m q,c=(none,m,q)∧st'=setArr st arr∧From lo (arrOf st) arr∧SegDn ky lo m arr∧1≤m∧m≤nrem∧q + 1≤m∧∀ i,m - (q + 1)≤i→i<m→Kx ky arr (lo + i)=Kx ky arr (lo + m - 1)) ?st ?fi ⟨arr0,0,rfl,rfl,hF1,hd,by lia,fun i h1 h2=>by congr 1;lia⟩) ?po)
  case fi =>
   rintro c st' ⟨arr,q,rfl,rfl,hF,hd,hq,he⟩
   rw [Nat.max_eq_right (by lia)] at *
   exact ⟨arr,nrem,q,rfl,rfl,hF,hd,by lia,by lia,hq,he⟩
  case st =>
   rintro x c st' hx1 hx2 ⟨arr,q,rfl,rfl,hF,hd,hq,he⟩
   refine wpS_bind (body arr hF x (by lia) hx2 ?_)
   cases e1:O.blt (Kx ky arr (lo + x)) (Kx ky arr (lo + x - 1)) with
   | true =>
    refine wpS_if (fun _=>?_) (fun z=>absurd rfl z)
    have stp:∀ arr':Array Keyed,(∀ k,Kx ky arr' k=Kx ky arr k)→SegDn ky lo (x + 1) arr':=fun arr' hk' i j hij hj=>by
     rw [hk',hk']
     by_cases hjx:j=x
     ·subst hjx
      by_cases hi:i=j
      ·subst hi;exact KeyOrd.kle_refl _
      ·have e2:O.kle (Kx ky arr (lo + j)) (Kx ky arr (lo + (j - 1))):=by rw [show lo + (j - 1)=lo + j - 1 by lia];exact KeyOrd.kle_of_klt e1
       exact KeyOrd.kle_trans e2 (hd i (j - 1) (by lia) (by lia))
     ·exact hd i j hij (by lia)
    refine wpS_if (fun hq0=>wpS_bind (ts_rev (wpS_pure ⟨_,0,rfl,rfl,hF.trans (From.mirror (i:=lo + x - (q + 1)) (j:=lo + x) (by lia) ?_),stp _ (eqs arr x q hF (by lia) hq he),by lia,fun i h1 h2=>by congr 1;lia⟩))) (fun hq0=>wpS_pure ⟨arr,0,rfl,rfl,hF,stp arr (fun _=>rfl),by lia,fun i h1 h2=>by congr 1;lia⟩)
    show lo + x≤arr.size
    rw [hF.size];lia
   | false =>
    refine wpS_if (fun z=>by cases z) (fun _=>?_)
    have sz1:lo + x<arr.size:=by rw [hF.size];lia
    cases e2:O.blt (Kx ky arr (lo + x - 1)) (Kx ky arr (lo + x)) with
    | true =>
     refine wpS_bind (ts_ltAtB (st:=setArr st arr) C e2 hk (hF.mems hm) (by show lo + x - 1<arr.size;lia) sz1 ?_)
     exact wpS_if (fun _=>wpS_pure ⟨arr,x,q,rfl,rfl,hF,hd,by lia,by lia,hq,he⟩) (fun z=>absurd rfl z)
    | false =>
     refine wpS_bind (ts_ltAtB (st:=setArr st arr) C e2 hk (hF.mems hm) (by show lo + x - 1<arr.size;lia) sz1 ?_)
     have ex:Kx ky arr (lo + x)=Kx ky arr (lo + x - 1):=O.total _ _ e1 e2
     refine wpS_if (fun z=>by cases z) (fun _=>wpS_pure ⟨arr,q + 1,rfl,rfl,hF,fun i j hij hj=>?_,by lia,fun i i1 i2=>?_⟩)
     ·by_cases hjx:j=x
      ·subst hjx
       by_cases hi:i=j
       ·subst hi;exact KeyOrd.kle_refl _
       ·rw [ex,show lo + j - 1=lo + (j - 1) by lia];exact hd i (j - 1) (by lia) (by lia)
      ·exact hd i j hij (by lia)
     ·rw [show lo + (x + 1) - 1=lo + x by lia]
      by_cases hi:i=x
      ·rw [hi]
      ·rw [ex];exact he i (by lia) (by lia)
  case po =>
   rintro c st' ⟨arr,m,q,rfl,rfl,hF,hd,m1,m2,hq,he⟩
   refine wpS_if (fun hq0=>wpS_bind (ts_rev ?_)) (fun hq0=>?_)
   ·have hF2:=hF.trans (From.mirror (i:=lo + m - (q + 1)) (j:=lo + m) (by lia) (by rw [hF.size];lia))
    have hd2:SegDn ky lo m (mirror arr (lo + m - (q + 1)) (lo + m) ((lo + m - (lo + m - (q + 1))) / 2)):=fun i j hij hj=>by rw [eqs arr m q hF m2 hq he,eqs arr m q hF m2 hq he];exact hd i j hij hj
    show wpS M A E s _ R (setArr st (mirror arr (lo + m - (q + 1)) (lo + m) ((lo + m - (lo + m - (q + 1))) / 2)))
    generalize mirror arr (lo + m - (q + 1)) (lo + m) ((lo + m - (lo + m - (q + 1))) / 2)=arr2 at hF2 hd2 ⊢
    refine wpS_bind (ts_rev ?_)
    have hF3:=hF2.trans (From.mirror (i:=lo) (j:=lo + m) (Nat.le_refl lo) (by rw [hF2.size];lia))
    refine wpS_bind (seg_asc (ky:=ky) (lo:=lo) (arr:=mirror arr2 lo (lo + m) ((lo + m - lo) / 2)) _ (fun x n R' n1 n2 hR=>?_) m1 m2 (tail arr2 m hF2 m1 m2 hd2) fun n' a b c _=>wpS_pure (h n' _ hF3 (Nat.le_trans m1 a) b c))
    refine wpS_bind (body _ hF3 n n1 n2 ?_)
    cases e:O.blt (Kx ky (mirror arr2 lo (lo + m) ((lo + m - lo) / 2)) (lo + n)) (Kx ky (mirror arr2 lo (lo + m) ((lo + m - lo) / 2)) (lo + n - 1)) with
    | true=>rw [e,if_pos rfl] at hR;exact wpS_pure hR
    | false=>rw [e,if_neg (by simp)] at hR;exact wpS_pure hR
   ·refine wpS_bind (ts_rev ?_)
    have hF3:=hF.trans (From.mirror (i:=lo) (j:=lo + m) (Nat.le_refl lo) (by rw [hF.size];lia))
    refine wpS_bind (seg_asc (ky:=ky) (lo:=lo) (arr:=mirror arr lo (lo + m) ((lo + m - lo) / 2)) _ (fun x n R' n1 n2 hR=>?_) m1 m2 (tail arr m hF m1 m2 hd) fun n' a b c _=>wpS_pure (h n' _ hF3 (Nat.le_trans m1 a) b c))
    refine wpS_bind (body _ hF3 n n1 n2 ?_)
    cases e:O.blt (Kx ky (mirror arr lo (lo + m) ((lo + m - lo) / 2)) (lo + n)) (Kx ky (mirror arr lo (lo + m) ((lo + m - lo) / 2)) (lo + n - 1)) with
    | true=>rw [e,if_pos rfl] at hR;exact wpS_pure hR
    | false=>rw [e,if_neg (by simp)] at hR;exact wpS_pure hR
end
end L2
set_option Elab.async false
set_option linter.all false
set_option maxRecDepth 100000
set_option maxHeartbeats 4000000
namespace L2
open PySem PySem.Spec PyProof.Rows
section
variable {M:Model} {A:Around} {E:Value→Shared→Prop} {s:Shared} {κ:SortKind} {O:KeyOrd} {ky:Keyed→O.α} {mem:Keyed→Prop}
theorem Kx_bubble {p:Array Keyed} {src d:Nat} (hs:src<p.size) (hd:d≤src) (k:Nat):Kx ky (bubble p src d) k=if k=src - d then Kx ky p src else if src - d<k∧k≤src then Kx ky p (k - 1) else Kx ky p k:=by
 have e:=getElem?_bubble hs d hd k
 split
 ·rw [if_pos ‹_›] at e;exact Kx_congr e
 ·rw [if_neg ‹_›] at e
  split
  ·rw [if_pos ‹_›] at e;exact Kx_congr e
  ·rw [if_neg ‹_›] at e;exact Kx_congr e
theorem ts_move {i j:Nat} {R:Unit→SortSt→Prop} {st:SortSt} (h:R () (setArr st (bubble (arrOf st) i (i - j)))):wpS M A E s (moveDown' i j) R st:=by
 rw [moveDown'_eq];exact wpS_modify h
theorem bin_seg (C:Cmp M A E s κ O ky mem) {lo n ok:Nat} {R:Bool→SortSt→Prop} {st:SortSt} (hk:kindOf st=κ) (hm:∀ x∈(arrOf st).toList,mem x) (hok:ok≤n) (hz:lo + n≤(arrOf st).size) (hs:SegUp ky lo ok (arrOf st))
  (h:∀ arr,From lo (arrOf st) arr→SegUp ky lo n arr→R true (setArr st arr)):wpS M A E s (binarySort' lo n ok) R st:=by
 refine wpS_bind (wpS_mono (wpS_forRange (I:=fun k c st'=>∃ arr,c=(none,())∧st'=setArr st arr∧From lo (arrOf st) arr∧SegUp ky lo (min k n) arr)
  (Q:=fun c st'=>∃ arr,c=(none,())∧st'=setArr st arr∧From lo (arrOf st) arr∧SegUp ky lo n arr) ?step ?fin ⟨arrOf st,rfl,rfl,From.refl,?init⟩) ?post)
 case post =>
  rintro c st' ⟨arr,rfl,rfl,hF,hu⟩
  exact wpS_pure (h arr hF hu)
 case init =>
  intro i j hij hj
  by_cases h0:ok=0
  ·rw [show i=j by lia];exact KeyOrd.kle_refl _
  ·exact hs i j hij (by lia)
 case fin =>
  rintro c st' ⟨arr,rfl,rfl,hF,hu⟩
  refine ⟨arr,rfl,rfl,hF,?_⟩
  rwa [show min (max (max ok 1) n) n=n by lia] at hu
 case step =>
  rintro k c st' hk1 hk2 ⟨arr,rfl,rfl,hF,hu⟩
  rw [show min k n=k by lia] at hu
  have hsz:lo + k<arr.size:=by rw [hF.size];lia
  refine wpS_bind (wpS_mono (wpS_forRange (I:=fun x c st'=>st'=setArr st arr∧∃ l r,c=(none,l,r)∧l≤r∧r≤k∧r - l≤k - x∧(∀ i,i<l→O.kle (Kx ky arr (lo + i)) (Kx ky arr (lo + k)))∧∀ i,r≤i→i<k→O.klt (Kx ky arr (lo + k)) (Kx ky arr (lo + i)))
   (Q:=fun c st'=>st'=setArr st arr∧∃ l r,c=(none,l,r)∧l≤k∧(∀ i,i<l→O.kle (Kx ky arr (lo + i)) (Kx ky arr (lo + k)))∧∀ i,l≤i→i<k→O.klt (Kx ky arr (lo + k)) (Kx ky arr (lo + i))) ?st2 ?fi2 ⟨rfl,0,k,rfl,by lia,by lia,by lia,fun i hi=>by lia,fun i h1 h2=>by lia⟩) ?po2)
  case fi2 =>
   rintro c st' ⟨rfl,l,r,rfl,h1,h2,h3,h4,h5⟩
   have:l=r:=by lia
   subst this
   exact ⟨rfl,l,l,rfl,h2,h4,h5⟩
  case st2 =>
   rintro x c st' _ hx ⟨rfl,l,r,rfl,h1,h2,h3,h4,h5⟩
   refine wpS_if (fun hg=>wpS_pure ?_) (fun hg=>?_)
   ·have hg:l ≥ r:=hg
    have:l=r:=by lia
    subst this
    exact ⟨rfl,l,l,rfl,h2,h4,h5⟩
   ·have hg:¬ l ≥ r:=hg
    have hmid:lo + (l + r) / 2<arr.size:=by lia
    cases e1:O.blt (Kx ky arr (lo + k)) (Kx ky arr (lo + (l + r) / 2)) with
    | true =>
     refine wpS_bind (ts_ltAtB (st:=setArr st arr) C e1 hk (hF.mems hm) hsz hmid ?_)
     exact wpS_if (fun _=>wpS_pure ⟨rfl,l,(l + r) / 2,rfl,by lia,by lia,by lia,h4,fun i i1 i2=>KeyOrd.klt_of_klt_of_kle e1 (hu _ _ i1 i2)⟩) (fun z=>absurd rfl z)
    | false =>
     refine wpS_bind (ts_ltAtB (st:=setArr st arr) C e1 hk (hF.mems hm) hsz hmid ?_)
     exact wpS_if (fun z=>by cases z) (fun _=>wpS_pure ⟨rfl,(l + r) / 2 + 1,r,rfl,by lia,by lia,by lia,fun i i1=>KeyOrd.kle_trans (hu i ((l + r) / 2) (by lia) (by lia)) e1,h5⟩)
  case po2 =>
   rintro c st' ⟨rfl,l,r,rfl,h2,h4,h5⟩
   refine wpS_bind (ts_move (wpS_pure ⟨_,rfl,rfl,hF.trans ⟨bubble_perm _ _ _,fun i hi=>?_⟩,?_⟩))
   ·show (bubble arr (lo + k) (lo + k - (lo + l)))[i]?=_
    rw [getElem?_bubble hsz _ (by lia),if_neg (by lia),if_neg (by lia)]
   ·show SegUp ky lo (min (k + 1) n) (bubble arr (lo + k) (lo + k - (lo + l)))
    rw [show min (k + 1) n=k + 1 by lia]
    have kb:∀ i,i≤k→Kx ky (bubble arr (lo + k) (lo + k - (lo + l))) (lo + i)=if i=l then Kx ky arr (lo + k) else if l<i then Kx ky arr (lo + (i - 1)) else Kx ky arr (lo + i):=fun i hi=>by
     rw [Kx_bubble hsz (by lia),show lo + k - (lo + k - (lo + l))=lo + l by lia]
     by_cases e1:i=l
     ·rw [if_pos (by lia),if_pos e1]
     ·rw [if_neg (by lia),if_neg e1]
      by_cases e2:l<i
      ·rw [if_pos (by lia),if_pos e2,show lo + i - 1=lo + (i - 1) by lia]
      ·rw [if_neg (by lia),if_neg e2]
    intro i j hij hj
    rw [kb i (by lia),kb j (by lia)]
    by_cases a1:i=l
    ·rw [if_pos a1]
     by_cases b1:j=l
     ·rw [if_pos b1];exact KeyOrd.kle_refl _
     ·rw [if_neg b1,if_pos (by lia)]
      exact KeyOrd.kle_of_klt (h5 (j - 1) (by lia) (by lia))
    ·rw [if_neg a1]
     by_cases a2:l<i
     ·rw [if_pos a2,if_neg (by lia),if_pos (by lia)]
      exact hu _ _ (by lia) (by lia)
     ·rw [if_neg a2]
      by_cases b1:j=l
      ·rw [if_pos b1];exact h4 i (by lia)
      ·rw [if_neg b1]
       by_cases b2:l<j
       ·rw [if_pos b2];exact hu _ _ (by lia) (by lia)
       ·rw [if_neg b2];exact hu _ _ hij (by lia)
noncomputable def PendOk (ky:Keyed→O.α):List (Nat×Nat×Nat)→List (List Keyed)→Nat→Prop
 | [],[],_=>True
 | q :: p,r :: rs,b=>q.1=b∧q.2.1=r.length∧0<r.length∧SrtL ky r∧PendOk ky p rs (b + r.length)
 | _,_,_=>False
theorem PendOk.len:∀ {p:List (Nat×Nat×Nat)} {rs:List (List Keyed)} {b:Nat},PendOk ky p rs b→p.length=rs.length
 | [],[],_,_=>rfl
 | q :: p,r :: rs,b,h=>by simp [PendOk.len h.2.2.2.2]
 | [],_ :: _,_,h=>h.elim
 | _ :: _,[],_,h=>h.elim
theorem PendOk.few:∀ {p:List (Nat×Nat×Nat)} {rs:List (List Keyed)} {b:Nat},PendOk ky p rs b→rs.length≤rs.flatten.length
 | [],[],_,_=>by simp
 | q :: p,r :: rs,b,h=>by have:=PendOk.few h.2.2.2.2;have:=h.2.2.1;simp only [List.length_cons,List.flatten_cons,List.length_append];lia
 | [],_ :: _,_,h=>h.elim
 | _ :: _,[],_,h=>h.elim
theorem PendOk.snoc:∀ {p:List (Nat×Nat×Nat)} {rs:List (List Keyed)} {b:Nat},PendOk ky p rs b→∀ {r:List Keyed} {q:Nat×Nat×Nat},q.1=b + rs.flatten.length→q.2.1=r.length→0<r.length→SrtL ky r→PendOk ky (p ++ [q]) (rs ++ [r]) b
 | [],[],b,_,r,q,h1,h2,h3,h4=>⟨by simpa using h1,h2,h3,h4,trivial⟩
 | q' :: p,r' :: rs,b,h,r,q,h1,h2,h3,h4=>⟨h.1,h.2.1,h.2.2.1,h.2.2.2.1,PendOk.snoc h.2.2.2.2 (by rw [h1];simp only [List.flatten_cons,List.length_append];lia) h2 h3 h4⟩
 | [],_ :: _,_,h,_,_,_,_,_,_=>h.elim
 | _ :: _,[],_,h,_,_,_,_,_,_=>h.elim
theorem PendOk.pow {f:Nat→Nat}:∀ {p:List (Nat×Nat×Nat)} {rs:List (List Keyed)} {b i:Nat},PendOk ky p rs b→PendOk ky (p.modify i fun q=>(q.1,q.2.1,f q.2.2)) rs b
 | [],[],_,i,_=>by cases i <;> trivial
 | q :: p,r :: rs,b,0,h=>h
 | q :: p,r :: rs,b,i + 1,h=>⟨h.1,h.2.1,h.2.2.1,h.2.2.2.1,PendOk.pow h.2.2.2.2⟩
 | [],_ :: _,_,_,h=>h.elim
 | _ :: _,[],_,_,h=>h.elim
theorem PendOk.split:∀ {p:List (Nat×Nat×Nat)} {rs:List (List Keyed)} {b:Nat} (i:Nat),PendOk ky p rs b→i + 1<p.length →
  ∃ rs1 X Y rs2 pw pw2,rs=rs1 ++ X :: Y :: rs2∧p[i]?=some (b + rs1.flatten.length,X.length,pw)∧p[i + 1]?=some (b + rs1.flatten.length + X.length,Y.length,pw2)∧0<X.length∧0<Y.length∧SrtL ky X∧SrtL ky Y ∧
   ∀ Z,SrtL ky Z→Z.length=X.length + Y.length→PendOk ky ((p.set i (b + rs1.flatten.length,X.length + Y.length,pw)).eraseIdx (i + 1)) (rs1 ++ Z :: rs2) b
 | q :: q2 :: p,r :: r2 :: rs,b,0,h,_=>by
  obtain ⟨h1,h2,h3,h4,g1,g2,g3,g4,g5⟩:=h
  obtain ⟨a1,a2,a3⟩:=q
  obtain ⟨c1,c2,c3⟩:=q2
  simp only at h1 h2 g1 g2
  subst h1;subst h2;subst g1;subst g2
  refine ⟨[],r,r2,rs,a3,c3,rfl,by simp,by simp,h3,g3,h4,g4,fun Z hz hl=>?_⟩
  exact ⟨by simp,by simp [hl],by lia,hz,by rw [hl,←Nat.add_assoc];exact g5⟩
 | q :: p,r :: rs,b,i + 1,h,hi=>by
  obtain ⟨h1,h2,h3,h4,h5⟩:=h
  obtain ⟨rs1,X,Y,rs2,pw,pw2,e1,e2,e3,e4,e5,e6,e7,e8⟩:=PendOk.split i h5 (by simpa using hi)
  refine ⟨r :: rs1,X,Y,rs2,pw,pw2,by rw [e1];rfl,?_,?_,e4,e5,e6,e7,fun Z hz hl=>?_⟩
  ·rw [List.getElem?_cons_succ,e2,List.flatten_cons,List.length_append,Nat.add_assoc]
  ·rw [List.getElem?_cons_succ,e3,List.flatten_cons,List.length_append,Nat.add_assoc b]
  ·have:=e8 Z hz hl
   refine ⟨h1,h2,h3,h4,?_⟩
   rw [List.flatten_cons,List.length_append,←Nat.add_assoc]
   exact this
 | [],_,_,_,_,hi=>by simp at hi
 | [_],_,_,0,_,hi=>by simp at hi
 | _ :: _,[],_,_,h,_=>h.elim
 | _ :: _ :: _,[_],_,0,h,_=>h.2.2.2.2.elim
theorem SegUp.srt {lo n:Nat} {arr:Array Keyed} (h:SegUp ky lo n arr) (hz:lo + n≤arr.size):SrtL ky ((arr.toList.drop lo).take n):=by
 refine List.pairwise_iff_getElem.mpr fun i j hi hj hij=>?_
 have li:i<n:=by rw [List.length_take] at hi;lia
 have lj:j<n:=by rw [List.length_take] at hj;lia
 have e:∀ k (hk:k<((arr.toList.drop lo).take n).length),k<n→ky ((arr.toList.drop lo).take n)[k]=Kx ky arr (lo + k):=fun k hk hn=>by
  rw [List.getElem_take,List.getElem_drop]
  unfold Kx
  rw [Array.getD_eq_getD_getElem?,getElem?_pos arr (lo + k) (by lia)]
  simp
 show O.kle _ _
 rw [e i hi li,e j hj lj]
 exact h i j (by lia) lj
end
end L2
set_option Elab.async false
set_option linter.all false
set_option maxRecDepth 100000
set_option maxHeartbeats 4000000
namespace L2
open PySem PySem.Spec PyProof.Rows
section
variable {M:Model} {A:Around} {E:Value→Shared→Prop} {s:Shared} {κ:SortKind} {O:KeyOrd} {ky:Keyed→O.α} {mem:Keyed→Prop}
structure Rn (κ:SortKind) (ky:Keyed→O.α) (a0:Array Keyed) (st:SortSt) (rs:List (List Keyed)) (rest:List Keyed):Prop where
 kind:kindOf st=κ
 failed:failedOf st=none
 perm:(arrOf st).Perm a0
 eq:(arrOf st).toList=rs.flatten ++ rest
 pend:PendOk ky (pendingOf st).toList rs 0
variable {a0:Array Keyed} {st:SortSt} {rs:List (List Keyed)} {rest:List Keyed}
theorem Rn.mems (r:Rn κ ky a0 st rs rest) (hm:∀ x∈a0.toList,mem x):∀ x∈(arrOf st).toList,mem x:=fun x hx=>hm x ((Array.perm_iff_toList_perm.mp r.perm).mem_iff.mp hx)
theorem Rn.size (r:Rn κ ky a0 st rs rest):(arrOf st).size=a0.size:=by have:=(Array.perm_iff_toList_perm.mp r.perm).length_eq;simpa using this
theorem Rn.psize (r:Rn κ ky a0 st rs rest):(pendingOf st).size=rs.length:=by rw [←r.pend.len,Array.length_toList]
theorem Rn.merge (C:Cmp M A E s κ O ky mem) (r:Rn κ ky a0 st rs rest) (hm:∀ x∈a0.toList,mem x) {i:Nat} (hi:i + 1<rs.length) {R:Bool→SortSt→Prop}
  (h:∀ st' rs',Rn κ ky a0 st' rs' rest→rs'.flatten.length=rs.flatten.length→rs'.length + 1=rs.length→R true st'):wpS M A E s (mergeAt' i) R st:=by
 obtain ⟨rs1,X,Y,rs2,pw,pw2,e1,e2,e3,e4,e5,e6,e7,e8⟩:=r.pend.split i (by rw [r.pend.len];exact hi)
 rw [Nat.zero_add,Array.getElem?_toList] at e2 e3
 have earr:(arrOf st).toList=rs1.flatten ++ X ++ Y ++ (rs2.flatten ++ rest):=by rw [r.eq,e1];simp [List.append_assoc]
 refine at_ok C r.kind r.failed (r.mems hm) earr rfl rfl rfl e4 e5 e6 e7 e2 e3 rfl fun Z arr g pz sz ez=>?_
 have lz:Z.length=X.length + Y.length:=by rw [pz.length_eq,List.length_append]
 refine h _ (rs1 ++ Z :: rs2) ⟨rfl,rfl,?_,?_,?_⟩ ?_ ?_
 ·show arr.Perm a0
  refine Array.Perm.trans (Array.perm_iff_toList_perm.mpr ?_) r.perm
  rw [ez,earr]
  refine List.Perm.append_right _ ?_
  rw [List.append_assoc]
  exact pz.append_left _
 ·show arr.toList=_
  rw [ez];simp [List.append_assoc]
 ·show PendOk ky (((pendingOf st).setIfInBounds i (rs1.flatten.length,X.length + Y.length,pw)).eraseIdxIfInBounds (i + 1)).toList _ 0
  have:=e8 Z sz lz
  rw [Nat.zero_add] at this
  rw [Array.eraseIdxIfInBounds_eq]
  split
  ·rw [Array.toList_eraseIdx,Array.toList_setIfInBounds];exact this
  ·rename_i hn
   rw [Array.size_setIfInBounds,r.psize] at hn
   lia
 ·rw [e1];simp [lz];lia
 ·rw [e1];simp;lia
theorem runs_ok (C:Cmp M A E s κ O ky mem) {R:Unit→SortSt→Prop} (hk:kindOf st=κ) (hf:failedOf st=none) (hp:pendingOf st=#[]) (hm:∀ x∈(arrOf st).toList,mem x)
  (h:∀ st',(arrOf st').Perm (arrOf st)→failedOf st'=none→SrtL ky (arrOf st').toList→R () st'):wpS M A E s sortRuns' R st:=by
 have r0:Rn κ ky (arrOf st) st [] (arrOf st).toList:=⟨hk,hf,Array.Perm.refl _,rfl,by rw [hp];trivial⟩
 refine wpS_bind (wpS_get ?_)
 refine wpS_bind (wpS_mono (wpS_forRange (I:=fun x c st'=>∃ rs rest,c=(none,rs.flatten.length)∧Rn κ ky (arrOf st) st' rs rest∧(x≤rs.flatten.length∨(arrOf st).size≤rs.flatten.length))
  (Q:=fun c st'=>∃ rs rest,c=(none,rs.flatten.length)∧Rn κ ky (arrOf st) st' rs rest∧(arrOf st).size≤rs.flatten.length) ?step ?fin ⟨[],_,rfl,r0,.inl (Nat.zero_le _)⟩) ?post)
 case fin =>
  rintro c st' ⟨rs,rest,rfl,r,hx⟩
  exact ⟨rs,rest,rfl,r,hx.elim (fun hx=>Nat.le_trans (Nat.le_max_right _ _) hx) id⟩
 case post =>
  rintro c st' ⟨rs,rest,rfl,r,hx⟩
  have hl:rest=[]:=by
   have:=congrArg List.length r.eq
   rw [Array.length_toList,r.size,List.length_append] at this
   exact List.eq_nil_of_length_eq_zero (by lia)
  subst hl
  have hfew:=r.pend.few
  have hsz:rs.flatten.length=(arrOf st).size:=by
   have:=congrArg List.length r.eq
   rw [Array.length_toList,r.size,List.append_nil] at this
   exact this.symm
  refine wpS_bind (wpS_mono (wpS_forRange (I:=fun y c st'=>∃ rs,c=(none,())∧Rn κ ky (arrOf st) st' rs []∧(rs.length≤(arrOf st).size - y∨rs.length≤1)) (Q:=fun c st'=>∃ rs,c=(none,())∧Rn κ ky (arrOf st) st' rs []∧rs.length≤1) ?st ?fi ⟨rs,rfl,r,.inl (by lia)⟩) ?po)
  case po =>
   rintro c st' ⟨rs,rfl,r,h1⟩
   refine wpS_pure (h st' r.perm r.failed ?_)
   rw [r.eq,List.append_nil]
   have hpd:=r.pend
   generalize (pendingOf st').toList=pl at hpd
   match rs,h1,pl,hpd with
   | [],_,_,_=>exact List.Pairwise.nil
   | [x],_,[q],hpd=>simpa using hpd.2.2.2.1
  case fi =>
   rintro c st' ⟨rs,rfl,r,h1⟩
   refine ⟨rs,rfl,r,?_⟩
   rcases h1 with h1 | h1
   ·have:max 0 (arrOf st).size=(arrOf st).size:=Nat.max_eq_right (Nat.zero_le _)
    have h1:rs.length≤(arrOf st).size - max 0 (arrOf st).size:=h1
    lia
   ·exact h1
  case st =>
   rintro y c st' _ hy ⟨rs,rfl,r,h1⟩
   refine wpS_bind (wpS_get ?_)
   have hps:=r.psize
   refine wpS_if (fun hz=>wpS_pure ⟨rs,rfl,r,?_⟩) (fun hz=>?_)
   ·have hz:(pendingOf st').size≤1:=hz
    lia
   ·have hz:¬ (pendingOf st').size≤1:=hz
    have fin:∀ i,i + 1<rs.length→wpS M A E s (mergeAt' i) (fun b st''=>b=true∧∃ rs',Rn κ ky (arrOf st) st'' rs' []∧rs'.length + 1=rs.length) st':=fun i hi=>r.merge C hm hi fun st'' rs' r' _ h2=>⟨rfl,rs',r',h2⟩
    refine wpS_bind (wpS_mono (fin _ ?_) ?_)
    ·have q1:(pendingOf st').size - 2 - 1 + 1<rs.length:=by lia
     have q2:(pendingOf st').size - 2 + 1<rs.length:=by lia
     repeat' split
     all_goals first | exact q1 | exact q2
    ·rintro b st'' ⟨rfl,rs',r',h2⟩
     refine wpS_if (fun z=>by cases z) (fun _=>wpS_pure ⟨rs',rfl,r',?_⟩)
     lia
 case step =>
  rintro x c st' _ hx ⟨rs,rest,rfl,r,hxl⟩
  have hsz:rs.flatten.length + rest.length=(arrOf st).size:=by
   have:=congrArg List.length r.eq
   rw [Array.length_toList,r.size,List.length_append] at this
   exact this.symm
  have hx:x<(arrOf st).size:=hx
  refine wpS_if (fun hz=>wpS_pure ⟨rs,rest,rfl,r,hz⟩) (fun hz=>?_)
  have hz:¬ rs.flatten.length ≥ (arrOf st).size:=hz
  -- a run is found,and made longer where it is short
  have after:∀ (n:Nat) (arr:Array Keyed),From rs.flatten.length (arrOf st') arr→1≤n→rs.flatten.length + n≤(arrOf st).size→SegUp ky rs.flatten.length n arr →
    Rn κ ky (arrOf st) (setArr st' arr) rs (arr.toList.drop rs.flatten.length)∧SrtL ky ((arr.toList.drop rs.flatten.length).take n)∧arr.size=(arrOf st).size:=fun n arr hF n1 n2 hu=>by
   have esz:arr.size=(arrOf st).size:=by rw [hF.size,r.size]
   have elow:arr.toList.take rs.flatten.length=rs.flatten:=by
    have e1:arr.toList.take rs.flatten.length=(arrOf st').toList.take rs.flatten.length:=by
     apply List.ext_getElem?
     intro i
     rw [List.getElem?_take,List.getElem?_take]
     split
     ·rw [Array.getElem?_toList,Array.getElem?_toList];exact hF.low i ‹_›
     ·rfl
    rw [e1,r.eq,List.take_left]
   refine ⟨⟨r.kind,r.failed,hF.perm.trans r.perm,?_,r.pend⟩,hu.srt (by lia),esz⟩
   show arr.toList=_
   have:=(List.take_append_drop rs.flatten.length arr.toList).symm
   rw [elow] at this
   exact this
  refine wpS_bind (count_seg C r.kind (r.mems hm) (by show 1≤(arrOf st).size - rs.flatten.length;lia) (by rw [r.size];show rs.flatten.length + ((arrOf st).size - rs.flatten.length)≤_;lia) fun m arr hF m1 m2 hu=>?_)
  have m2:m≤(arrOf st).size - rs.flatten.length:=m2
  refine wpS_if (fun hlt=>?_) (fun hlt=>?_)
  ·have hlt:m<minRun' (arrOf st).size (arrOf st).size 0:=hlt
   refine wpS_bind (wpS_lift (wpAny_rule ⟨rfl,?_⟩))
   refine wpS_bind (bin_seg (st:=setArr st' arr) (lo:=rs.flatten.length) (n:=(min ((arrOf st).size - rs.flatten.length) (minRun' (arrOf st).size (arrOf st).size 0))) (ok:=m) C r.kind (hF.mems (r.mems hm)) (by lia) (by show _≤arr.size;rw [hF.size,r.size];lia) hu fun arr2 hF2 hu2=>?_)
   have hF3:From rs.flatten.length (arrOf st') arr2:=hF.trans hF2
   refine wpS_if (fun z=>by cases z) (fun _=>?_)
   obtain ⟨r1,s1,esz⟩:=after (min ((arrOf st).size - rs.flatten.length) (minRun' (arrOf st).size (arrOf st).size 0)) arr2 hF3 (by lia) (by lia) hu2
   have jp:∀ (st2:SortSt) (rs2:List (List Keyed)),Rn κ ky (arrOf st) st2 rs2 (arr2.toList.drop rs.flatten.length)→rs2.flatten.length=rs.flatten.length→∃ rs3 rest3,((none:Option Unit),rs.flatten.length + (min ((arrOf st).size - rs.flatten.length) (minRun' (arrOf st).size (arrOf st).size 0)))=(none,rs3.flatten.length)∧Rn κ ky (arrOf st) (setPending st2 ((pendingOf st2).push (rs.flatten.length,(min ((arrOf st).size - rs.flatten.length) (minRun' (arrOf st).size (arrOf st).size 0)),0))) rs3 rest3∧(x + 1≤rs3.flatten.length∨(arrOf st).size≤rs3.flatten.length):=fun st2 rs2 r2 l2=>by
    have lt:((arr2.toList.drop rs.flatten.length).take (min ((arrOf st).size - rs.flatten.length) (minRun' (arrOf st).size (arrOf st).size 0))).length=(min ((arrOf st).size - rs.flatten.length) (minRun' (arrOf st).size (arrOf st).size 0)):=by have:=Array.length_toList (xs:=arr2);rw [List.length_take,List.length_drop];lia
    have lf:(rs2 ++ [(arr2.toList.drop rs.flatten.length).take (min ((arrOf st).size - rs.flatten.length) (minRun' (arrOf st).size (arrOf st).size 0))]).flatten.length=rs.flatten.length + (min ((arrOf st).size - rs.flatten.length) (minRun' (arrOf st).size (arrOf st).size 0)):=by
     rw [List.flatten_append,List.length_append,l2]
     simp only [List.flatten_cons,List.flatten_nil,List.append_nil,lt]
    refine ⟨rs2 ++ [(arr2.toList.drop rs.flatten.length).take (min ((arrOf st).size - rs.flatten.length) (minRun' (arrOf st).size (arrOf st).size 0))],(arr2.toList.drop rs.flatten.length).drop (min ((arrOf st).size - rs.flatten.length) (minRun' (arrOf st).size (arrOf st).size 0)),by rw [lf],⟨r2.kind,r2.failed,r2.perm,?_,?_⟩,?_⟩
    ·show (arrOf st2).toList=_
     rw [r2.eq]
     simp only [List.flatten_append,List.flatten_cons,List.flatten_nil,List.append_nil,List.append_assoc,List.take_append_drop]
    ·show PendOk ky ((pendingOf st2).push (rs.flatten.length,(min ((arrOf st).size - rs.flatten.length) (minRun' (arrOf st).size (arrOf st).size 0)),0)).toList _ 0
     rw [Array.toList_push]
     exact r2.pend.snoc (by rw [Nat.zero_add,l2]) (by rw [lt]) (by rw [lt];lia) s1
    ·rw [lf];lia
   refine wpS_bind (wpS_get ?_)
   cases hb:(pendingOf (setArr st' arr2)).back? with
   | none=>exact wpS_bind (wpS_modify (wpS_pure (jp (setArr st' arr2) rs r1 rfl)))
   | some q =>
    obtain ⟨q1,q2,q3⟩:=q
    refine wpS_bind (wpS_mono (wpS_forRange (I:=fun _ c st2=>∃ rs2,c=(none,())∧Rn κ ky (arrOf st) st2 rs2 (arr2.toList.drop rs.flatten.length)∧rs2.flatten.length=rs.flatten.length) (Q:=fun c st2=>∃ rs2,c=(none,())∧Rn κ ky (arrOf st) st2 rs2 (arr2.toList.drop rs.flatten.length)∧rs2.flatten.length=rs.flatten.length) ?a ?b ⟨rs,rfl,r1,rfl⟩) ?c)
    case b=>intro c st2 hh;exact hh
    case c =>
     rintro c st2 ⟨rs2,rfl,r2,l2⟩
     refine wpS_bind (wpS_modify (wpS_bind (wpS_modify (wpS_pure (jp _ rs2 ⟨r2.kind,r2.failed,r2.perm,r2.eq,?_⟩ l2)))))
     show PendOk ky ((pendingOf st2).modify ((pendingOf st2).size - 1) fun q=>(q.1,q.2.1,_)).toList rs2 0
     rw [Array.toList_modify]
     exact r2.pend.pow (f:=fun _=>_)
    case a =>
     rintro y c st2 _ _ ⟨rs2,rfl,r2,l2⟩
     refine wpS_bind (wpS_get ?_)
     have hps:=r2.psize
     dsimp only
     cases he:(if (pendingOf st2).size > 1 then (pendingOf st2)[(pendingOf st2).size - 2]? else none) with
     | none=>exact wpS_pure ⟨rs2,rfl,r2,l2⟩
     | some q =>
      have hp1:(pendingOf st2).size > 1:=by
       by_cases z:(pendingOf st2).size > 1
       ·exact z
       ·rw [if_neg z] at he;cases he
      exact wpS_if (fun _=>wpS_pure ⟨rs2,rfl,r2,l2⟩) (fun _=>wpS_bind (r2.merge C hm (i:=(pendingOf st2).size - 2) (by lia) fun st3 rs3 r3 l3 _=>wpS_if (fun z=>by cases z) (fun _=>wpS_pure ⟨rs3,rfl,r3,by rw [l3,l2]⟩)))
  ·obtain ⟨r1,s1,esz⟩:=after m arr hF m1 (by lia) hu
   have jp:∀ (st2:SortSt) (rs2:List (List Keyed)),Rn κ ky (arrOf st) st2 rs2 (arr.toList.drop rs.flatten.length)→rs2.flatten.length=rs.flatten.length→∃ rs3 rest3,((none:Option Unit),rs.flatten.length + m)=(none,rs3.flatten.length)∧Rn κ ky (arrOf st) (setPending st2 ((pendingOf st2).push (rs.flatten.length,m,0))) rs3 rest3∧(x + 1≤rs3.flatten.length∨(arrOf st).size≤rs3.flatten.length):=fun st2 rs2 r2 l2=>by
    have lt:((arr.toList.drop rs.flatten.length).take m).length=m:=by have:=Array.length_toList (xs:=arr);rw [List.length_take,List.length_drop];lia
    have lf:(rs2 ++ [(arr.toList.drop rs.flatten.length).take m]).flatten.length=rs.flatten.length + m:=by
     rw [List.flatten_append,List.length_append,l2]
     simp only [List.flatten_cons,List.flatten_nil,List.append_nil,lt]
    refine ⟨rs2 ++ [(arr.toList.drop rs.flatten.length).take m],(arr.toList.drop rs.flatten.length).drop m,by rw [lf],⟨r2.kind,r2.failed,r2.perm,?_,?_⟩,?_⟩
    ·show (arrOf st2).toList=_
     rw [r2.eq]
     simp only [List.flatten_append,List.flatten_cons,List.flatten_nil,List.append_nil,List.append_assoc,List.take_append_drop]
    ·show PendOk ky ((pendingOf st2).push (rs.flatten.length,m,0)).toList _ 0
     rw [Array.toList_push]
     exact r2.pend.snoc (by rw [Nat.zero_add,l2]) (by rw [lt]) (by rw [lt];lia) s1
    ·rw [lf];lia
   refine wpS_bind (wpS_get ?_)
   cases hb:(pendingOf (setArr st' arr)).back? with
   | none=>exact wpS_bind (wpS_modify (wpS_pure (jp (setArr st' arr) rs r1 rfl)))
   | some q =>
    obtain ⟨q1,q2,q3⟩:=q
    refine wpS_bind (wpS_mono (wpS_forRange (I:=fun _ c st2=>∃ rs2,c=(none,())∧Rn κ ky (arrOf st) st2 rs2 (arr.toList.drop rs.flatten.length)∧rs2.flatten.length=rs.flatten.length) (Q:=fun c st2=>∃ rs2,c=(none,())∧Rn κ ky (arrOf st) st2 rs2 (arr.toList.drop rs.flatten.length)∧rs2.flatten.length=rs.flatten.length) ?a ?b ⟨rs,rfl,r1,rfl⟩) ?c)
    case b=>intro c st2 hh;exact hh
    case c =>
     rintro c st2 ⟨rs2,rfl,r2,l2⟩
     refine wpS_bind (wpS_modify (wpS_bind (wpS_modify (wpS_pure (jp _ rs2 ⟨r2.kind,r2.failed,r2.perm,r2.eq,?_⟩ l2)))))
     show PendOk ky ((pendingOf st2).modify ((pendingOf st2).size - 1) fun q=>(q.1,q.2.1,_)).toList rs2 0
     rw [Array.toList_modify]
     exact r2.pend.pow (f:=fun _=>_)
    case a =>
     rintro y c st2 _ _ ⟨rs2,rfl,r2,l2⟩
     refine wpS_bind (wpS_get ?_)
     have hps:=r2.psize
     dsimp only
     cases he:(if (pendingOf st2).size > 1 then (pendingOf st2)[(pendingOf st2).size - 2]? else none) with
     | none=>exact wpS_pure ⟨rs2,rfl,r2,l2⟩
     | some q =>
      have hp1:(pendingOf st2).size > 1:=by
       by_cases z:(pendingOf st2).size > 1
       ·exact z
       ·rw [if_neg z] at he;cases he
      exact wpS_if (fun _=>wpS_pure ⟨rs2,rfl,r2,l2⟩) (fun _=>wpS_bind (r2.merge C hm (i:=(pendingOf st2).size - 2) (by lia) fun st3 rs3 r3 l3 _=>wpS_if (fun z=>by cases z) (fun _=>wpS_pure ⟨rs3,rfl,r3,by rw [l3,l2]⟩)))
end
end L2
set_option Elab.async false
set_option linter.all false
set_option maxRecDepth 100000
set_option maxHeartbeats 4000000
namespace L2
open PySem PySem.Spec PyProof.Rows PySem.W
section
variable {prog:Program} {w:World} {A:Around} {E:Value→Shared→Prop} {s:Shared} {κ:SortKind} {O:KeyOrd} {ky:Keyed→O.α}
noncomputable def midHeap (h:Heap) (a:Addr) (us:List Value):Heap:=((h.update a (Obj.mapSeq fun _=>#[])).push (seqObj "tuple" us.toArray 0)).push (seqObj "list" #[] 0)
theorem midHeap_old {h:Heap} {a b:Addr} {us:List Value} {o:Obj} (hb:b≠a) (e:h.get? b=some o):(midHeap h a us).get? b=some o:=by
 have hlt:=Heap.lt_size e
 refine (Heap.get?_push_ne _ b _ (by rw [size_push',Heap.size_update];exact Nat.ne_of_lt (Nat.lt_succ_of_lt hlt))).trans ((Heap.get?_push_ne _ b _ (by rw [Heap.size_update];exact Nat.ne_of_lt hlt)).trans ?_)
 rw [Heap.get?_update_ne _ _ _ _ hb];exact e
theorem sort_any {a:Addr} {us:List Value} {n:Nat} {F:PySem.Fin→Shared→Prop} (ho:s.heap.get? a=some (seqObj "list" us.toArray n)) (h2:¬ us.length<2) (hz:us.length≤16777216)
  (hK:wpAny (model prog w) A (keyKind' us.toArray) (fun κ' s'=>κ'=κ∧s'={ s with heap:=midHeap s.heap a us }) E { s with heap:=midHeap s.heap a us })
  (hC:Cmp (model prog w) A E { s with heap:=midHeap s.heap a us } κ O ky (·∈(pairsOf us).toList))
  (h:∀ st:Array Keyed,st.Perm (pairsOf us)→SrtL ky st.toList→F (.done (.ret .none)) { s with heap:=sortedHeap s.heap a us (st.map (·.2)) }) :
  wpAny (model prog w) A (Builtin.«list.sort» ⟨[.ref a],[]⟩) F E s:=by
 have ha:=Heap.lt_size ho
 have hsl:us.toArray.size≤sizeLine:=by rw [List.size_toArray,sizeLine_eq];exact hz
 rw [list_sort_plain]
 refine wpAny_bind (listItems_at ho rfl (wpAny_bind (listUpdate_at ho rfl ?_ hsl (Nat.zero_le _))))
 have ho1:=get?_update_seq ho (fun _=>#[])
 refine wpAny_bind (seqEpoch_at ho1 rfl (wpAny_bind (wpAny_newTuple (wpAny_bind (wpAny_newList (wpAny_holding ?_) (Nat.zero_le _))) hsl)))
 have ho6:(midHeap s.heap a us).get? a=_ :=
  (Heap.get?_push_ne _ a _ (by rw [size_push',Heap.size_update];exact Nat.ne_of_lt (Nat.lt_succ_of_lt ha))).trans ((Heap.get?_push_ne _ a _ (by rw [Heap.size_update];exact Nat.ne_of_lt ha)).trans ho1)
 have hz:¬ us.toArray.size<2:=by rw [List.size_toArray];exact h2
 dsimp only
 rw [if_neg hz,if_neg hz]
 refine wpAny_bind (wpAny_mono hK ?_ fun _ _ e=>e)
 rintro κ' s' ⟨rfl,rfl⟩
 have run:=runs_ok (st:=SortSt.mk' κ' (us.toArray.zip us.toArray) #[] 7 none) (R:=fun _ st'=>(arrOf st').Perm (pairsOf us)∧failedOf st'=none∧SrtL ky (arrOf st').toList) hC rfl rfl rfl (fun x hx=>hx) fun st' a1 a2 a3=>⟨a1,a2,a3⟩
 refine wpAny_bind (wpAny_mono run ?_ fun _ _ e=>e)
 rintro ⟨⟨⟩,st'⟩ s' ⟨rfl,hp,hf,hs⟩
 dsimp only
 have hsz:((arrOf st').map (·.2)).size≤sizeLine:=by
  rw [Array.size_map]
  have:=(Array.perm_iff_toList_perm.mp hp).length_eq
  rw [Array.length_toList,Array.length_toList,pairsOf_size] at this
  rw [this,sizeLine_eq];assumption
 refine wpAny_bind (seqEpoch_at ho6 rfl (wpAny_bind (listUpdate_at ho6 rfl ?_ (Nat.zero_le _) (Nat.le_succ_of_le hsz))))
 rw [hf]
 simp only [bne_self_eq_false,Bool.false_eq_true,if_false]
 exact wpAny_pure (h _ hp hs)
theorem sorted_any {l:Addr} {us:List Value} {Q:Value→Shared→Prop} (hl:s.heap.IsList l us.toArray) (h2:¬ us.length<2) (hz:us.length≤16777216)
  (hK:∀ (A':Around) (h1:Heap),A'.units≤A.units + 2→(∀ b o,s.heap.get? b=some o→h1.get? b=some o)→wpAny (model prog w) A' (keyKind' us.toArray) (fun κ' s'=>κ'=κ∧s'={ s with heap:=h1 }) E { s with heap:=h1 })
  (hC:∀ (A':Around) (h1:Heap),A'.units≤A.units + 2→(∀ b o,s.heap.get? b=some o→h1.get? b=some o)→Cmp (model prog w) A' E { s with heap:=h1 } κ O ky (·∈(pairsOf us).toList))
  (q:∀ st:Array Keyed,st.Perm (pairsOf us)→SrtL ky st.toList→Q (.ref (s.heap.objs.size + 1)) { s with heap:=sortedAll s.heap us (st.map (·.2)) }) :
  wpAny (model prog w) A (call (.builtin "sorted") [.ref l]) Q E s:=by
 have hsl:us.length≤sizeLine:=by rw [sizeLine_eq];exact hz
 refine Calls.call_function_entry kind_sorted plain_sorted entry_sorted (args_sorted1 _) ?_
 unfold Builtin.«sorted»
 refine wpAny_bind (m:=checkCount "sorted" 1 1 _) (wpAny_pure (wpAny_bind (collect_list hl (wpAny_bind (wpAny_newList ?_ hsl)) hsl)))
 have hsz:((s.heap.push (seqObj "list" #[] 0)).update s.heap.objs.size (Obj.mapSeq (· ++ us.toArray))).objs.size=s.heap.objs.size + 1:=by
  rw [Heap.size_update,size_push']
 have hoL:=Heap.get?_push_size ((s.heap.push (seqObj "list" #[] 0)).update s.heap.objs.size (Obj.mapSeq (· ++ us.toArray))) (o:=seqObj "list" us.toArray 0) rfl
 rw [hsz] at hoL
 show wpAny _ _ _ _ _ { s with heap:=((s.heap.push (seqObj "list" #[] 0)).update s.heap.objs.size (Obj.mapSeq (· ++ us.toArray))).push (seqObj "list" us.toArray 0) }
 rw [hsz]
 have keep:∀ b o,s.heap.get? b=some o→(((s.heap.push (seqObj "list" #[] 0)).update s.heap.objs.size (Obj.mapSeq (· ++ us.toArray))).push (seqObj "list" us.toArray 0)).get? b=some o:=fun b o e=>by
  have hlt:=Heap.lt_size e
  refine (Heap.get?_push_ne _ b _ (by rw [hsz];exact Nat.ne_of_lt (Nat.lt_succ_of_lt hlt))).trans ?_
  rw [Heap.get?_update_ne _ _ _ _ (Nat.ne_of_lt hlt)]
  exact (Heap.get?_push_ne _ b _ (Nat.ne_of_lt hlt)).trans e
 have keep2:∀ b o,s.heap.get? b=some o→(midHeap (((s.heap.push (seqObj "list" #[] 0)).update s.heap.objs.size (Obj.mapSeq (· ++ us.toArray))).push (seqObj "list" us.toArray 0)) (s.heap.objs.size + 1) us).get? b=some o:=fun b o e=>midHeap_old (Nat.ne_of_lt (Nat.lt_succ_of_lt (Heap.lt_size e))) (keep b o e)
 exact wpAny_bind (wpAny_holding (wpAny_call_entry slot_list_sort ⟨_,hoL,rfl⟩ entry_list_sort (sort_any (κ:=κ) (ky:=ky) (s:={ s with heap:=((s.heap.push (seqObj "list" #[] 0)).update s.heap.objs.size (Obj.mapSeq (· ++ us.toArray))).push (seqObj "list" us.toArray 0) }) hoL h2 hz (hK _ _ (by simp) keep2) (hC _ _ (by simp) keep2) fun st a1 a2=>⟨_,rfl,wpAny_pure ⟨_,rfl,q st a1 a2⟩⟩) (args_list_sort _)))
end
end L2
set_option Elab.async false
set_option linter.all false
set_option maxRecDepth 100000
set_option maxHeartbeats 4000000
namespace L2
open PySem PySem.Spec PyProof.Rows PySem.W
noncomputable def kyR (ps:List (Addr×List Int)):Keyed→List Int:=fun k=>match k.1 with
 | .ref x=>((ps.find? fun q=>decide (q.1=x)).map (·.2)).getD []
 | _=>[]
theorem kyR_at {ps:List (Addr×List Int)} (hc:∀ q∈ps,∀ q'∈ps,q.1=q'.1→q.2=q'.2) {q:Addr×List Int} (hq:q∈ps) (v:Value):kyR ps (.ref q.1,v)=q.2:=by
 unfold kyR
 cases hf:ps.find? fun q'=>decide (q'.1=q.1) with
 | none=>exact absurd (rfl:q.1=q.1) (by simpa using List.find?_eq_none.mp hf q hq)
 | some p =>
  have h1:=List.find?_some hf
  have h2:=List.mem_of_find?_eq_some hf
  show ((ps.find? fun q'=>decide (q'.1=q.1)).map (·.2)).getD []=q.2
  rw [hf]
  exact hc p h2 q hq (by simpa using h1)
noncomputable abbrev rv (ps:List (Addr×List Int)):List Value:=ps.map fun q=>Value.ref q.1
theorem pairs_rv (ps:List (Addr×List Int)):(pairsOf (rv ps)).toList=ps.map fun q=>((Value.ref q.1,Value.ref q.1):Keyed):=by
 show ((rv ps).toArray.zip (rv ps).toArray).toList=_
 rw [Array.toList_zip]
 show (rv ps).zip (rv ps)=_
 induction ps with
 | nil=>rfl
 | cons q ps ih=>simp only [rv,List.map_cons,List.zip_cons_cons] at ih ⊢;rw [ih]
noncomputable def TupsAt (h:Heap) (ps:List (Addr×List Int)):Prop:=∀ q∈ps,∃ us,IntsAre us q.2∧∃ o n,h.get? q.1=some o∧o.cls=.type "tuple"∧o.data=.seq us.toArray n
section
variable {prog:Program} {w:World} {A:Around} {E:Value→Shared→Prop} {s:Shared}
theorem ask_of {κ:SortKind} {x y:Keyed} {b:Bool} {R:Option Bool→SortSt→Prop} {st:SortSt} (hk:kindOf st=κ) (h:R (some b) st) (q:∀ (E':Value→Shared→Prop) (Q:Bool→Shared→Prop),Q b s→wpAny (model prog w) A (keyLt' κ x.1 y.1) Q E' s):wpS (model prog w) A E s (lt' x y) R st:=by
 rw [lt'_eq]
 refine wpS_bind (wpS_get ?_)
 rw [hk]
 exact wpS_bind (wpS_lift (wpAny_attempt (q _ _ ⟨rfl,wpS_pure h⟩)))
theorem cmp_rows {ps:List (Addr×List Int)} (ht:TupsAt s.heap ps) (hc:∀ q∈ps,∀ q'∈ps,q.1=q'.1→q.2=q'.2) {n:Nat} (hn:∀ q∈ps,q.2.length=n):Cmp (model prog w) A E s (tuples' true) lexO (kyR ps) (·∈(pairsOf (rv ps)).toList) where
 ask:=fun x y hx hy R st hk h=>by
  rw [pairs_rv] at hx hy
  obtain ⟨p,hp,rfl⟩:=List.mem_map.mp hx
  obtain ⟨q,hq,rfl⟩:=List.mem_map.mp hy
  rw [kyR_at hc hp,kyR_at hc hq] at h
  refine ask_of hk h fun E' Q hQ=>?_
  obtain ⟨us,a1,o1,n1,b1,c1,d1⟩:=ht p hp
  obtain ⟨vs,a2,o2,n2,b2,c2,d2⟩:=ht q hq
  have l1:=a1.length
  have l2:=a2.length
  have l3:=hn p hp
  have l4:=hn q hq
  refine kat_lt b1 d1 b2 d2 ?_
  rw [show decide (us.toArray.size<vs.toArray.size)=false by rw [List.size_toArray,List.size_toArray];exact decide_eq_false (by lia)]
  exact katLex_ints 0 a1 a2 (by lia) hQ
theorem kind_rows {ps:List (Addr×List Int)} (ht:TupsAt s.heap ps) {n:Nat} (n0:0<n) (hn:∀ q∈ps,q.2.length=n) (h2:¬ ps.length<2):wpAny (model prog w) A (keyKind' (rv ps).toArray) (fun κ' s'=>κ'=tuples' true∧s'=s) E s:=by
 obtain ⟨fs,kt,fl,fi⟩:=katTups_of ht (fun q hq=>by rw [hn q hq];exact n0)
 refine kat_kind (T:=.type "int") kt (by lia) (fun v hv=>?_) rfl ⟨rfl,rfl⟩
 obtain ⟨i,t,rfl⟩:=fi v hv
 exact looks_int _ _ i t
theorem empty_lt {x y:Addr} {ox oy:Obj} {n k:Nat} (hu:A.units<cLine) (hx:s.heap.get? x=some ox) (cx:ox.cls=.type "tuple") (dx:ox.data=.seq #[] n) (hy:s.heap.get? y=some oy) (cy:oy.cls=.type "tuple") (dy:oy.data=.seq #[] k)
  {E':Value→Shared→Prop} {Q:Bool→Shared→Prop} (h:Q false s):wpAny (model prog w) A (keyLt' oneType' (.ref x) (.ref y)) Q E' s:=by
 rw [keyLt'_oneType,oneLt'_eq]
 simp only [if_true]
 refine wpAny_bind (wpAny_cRoomFor hu ?_)
 obtain ⟨ocls,od,odt,osl⟩:=ox
 obtain ⟨pcls,pd,pdt,psl⟩:=oy
 simp only at cx dx cy dy
 subst cx;subst dx;subst cy;subst dy
 have hcall:wpAny (model prog w) A (call (.builtin "tuple.__lt__") [.ref x,.ref y]) (fun v s'=>v=.bool false∧s'=s) E' s :=
  wpAny_call (codeAny_call_builtin (R:=wants (fun v s'=>v=.bool false∧s'=s) E') PySem.F.slot_tuple_lt.plain PySem.F.entry_tuple_lt (PySem.F.slot_tuple_lt.check _ _ _ _ _ _ _ _ ⟨_,hx,rfl⟩ (PySem.F.args_tuple_lt_2 _ _)
   (HT.tuple_lt_ints x y #[] #[] n k od pd osl psl [] [] .nil .nil prog w A (wants (fun v s'=>v=.bool false∧s'=s) E') s ⟨hx,hy,rfl,rfl⟩)))
 refine wpAny_bind (wpAny_callSpecialIfBound?_slot ⟨_,hx,rfl⟩ PySem.F.slot_tuple_lt (wpAny_mono hcall ?_ fun _ _ e=>e))
 rintro v s' ⟨rfl,rfl⟩
 exact wpAny_truthy_bool h
theorem cmp_empty {ps:List (Addr×List Int)} (hu:A.units<cLine) (ht:TupsAt s.heap ps) (hc:∀ q∈ps,∀ q'∈ps,q.1=q'.1→q.2=q'.2) (hn:∀ q∈ps,q.2.length=0):Cmp (model prog w) A E s oneType' lexO (kyR ps) (·∈(pairsOf (rv ps)).toList) where
 ask:=fun x y hx hy R st hk h=>by
  rw [pairs_rv] at hx hy
  obtain ⟨p,hp,rfl⟩:=List.mem_map.mp hx
  obtain ⟨q,hq,rfl⟩:=List.mem_map.mp hy
  rw [kyR_at hc hp,kyR_at hc hq,List.eq_nil_of_length_eq_zero (hn p hp),List.eq_nil_of_length_eq_zero (hn q hq)] at h
  refine ask_of hk h fun E' Q hQ=>?_
  obtain ⟨us,a1,o1,n1,b1,c1,d1⟩:=ht p hp
  obtain ⟨vs,a2,o2,n2,b2,c2,d2⟩:=ht q hq
  have l1:=a1.length
  have l2:=a2.length
  have e1:us=[]:=List.eq_nil_of_length_eq_zero (by rw [l1,hn p hp])
  have e2:vs=[]:=List.eq_nil_of_length_eq_zero (by rw [l2,hn q hq])
  subst e1;subst e2
  exact empty_lt hu b1 c1 d1 b2 c2 d2 hQ
theorem kind_empty {ps:List (Addr×List Int)} (ht:TupsAt s.heap ps) (hn:∀ q∈ps,q.2.length=0) (h2:¬ ps.length<2):wpAny (model prog w) A (keyKind' (rv ps).toArray) (fun κ' s'=>κ'=oneType'∧s'=s) E s:=by
 have hty:∀ v∈rv ps,∀ {Q':Value→Shared→Prop},Q' (.type "tuple") s→wpAny (model prog w) A (typeOf v) Q' E s:=fun v hv Q' hq=>by
  obtain ⟨q,hq2,rfl⟩:=List.mem_map.mp hv
  obtain ⟨us,a1,o1,n1,b1,c1,d1⟩:=ht q hq2
  exact wpAny_typeOf_ref b1 (by rw [c1];exact hq)
 obtain ⟨v₁,v₂,rest,e⟩:∃ v₁ v₂ rest,rv ps=v₁ :: v₂ :: rest:=by
  match ps,h2 with
  | [],h2=>simp at h2
  | [_],h2=>simp at h2
  | a :: b :: r,_=>exact ⟨_,_,_,rfl⟩
 rw [kat_kind_eq,List.mapM_toArray,map_eq_pure_bind]
 refine wpAny_bind (wpAny_bind (kas_mapM (r:=none) _ (fun v hv Q' hq=>?_) (wpAny_pure ?_)))
 ·rw [kas_first_eq]
  refine wpAny_bind (hty v hv ?_)
  rw [if_neg (by decide)]
  obtain ⟨q,hq2,rfl⟩:=List.mem_map.mp hv
  obtain ⟨us,a1,o1,n1,b1,c1,d1⟩:=ht q hq2
  have e1:us=[]:=List.eq_nil_of_length_eq_zero (by rw [a1.length,hn q hq2])
  subst e1
  exact wpAny_bind (listItems_at b1 d1 (wpAny_pure hq))
 ·rw [e]
  rw [if_neg (by simp),if_neg (by simp)]
  rw [←e,oneTypeOnly'_eq,List.mapM_toArray,map_eq_pure_bind]
  refine wpAny_bind (wpAny_bind (wpAny_bind (kas_mapM (r:=.type "tuple") _ (fun v hv Q' hq=>hty v hv hq) (wpAny_pure ?_))))
  have h0:(List.map (fun _=>Value.type "tuple") (rv ps)).toArray[0]?=some (.type "tuple"):=by rw [e];simp
  have hall:((List.map (fun _=>Value.type "tuple") (rv ps)).toArray.all fun x=>x == Value.type "tuple")=true:=by
   simp only [List.all_toArray,List.all_map,List.all_eq_true]
   intro _ _
   rfl
  rw [h0]
  simp only [hall,if_true]
  exact wpAny_pure (wpAny_pure ⟨rfl,rfl⟩)
end
end L2
set_option Elab.async false
set_option linter.all false
set_option maxRecDepth 100000
set_option maxHeartbeats 4000000
namespace L2
open PySem PySem.Spec PyProof.Rows PySem.W
theorem out_rows {ps:List (Addr×List Int)} (hc:∀ q∈ps,∀ q'∈ps,q.1=q'.1→q.2=q'.2) {st:Array Keyed} (hp:st.Perm (pairsOf (rv ps))) (hs:SrtL (O:=lexO) (kyR ps) st.toList) :
  ∃ ps':List (Addr×List Int),ps'.Perm ps∧SrtR (ps'.map (·.2))∧st.map (·.2)=(rv ps').toArray:=by
 have hpl:=Array.perm_iff_toList_perm.mp hp
 rw [pairs_rv] at hpl
 let g:Keyed→Addr×List Int:=fun k=>((match k.1 with | .ref x=>x | _=>0),kyR ps k)
 have eg:∀ q∈ps,g (Value.ref q.1,Value.ref q.1)=q:=fun q hq=>by
  show (q.1,kyR ps (Value.ref q.1,Value.ref q.1))=q
  rw [kyR_at hc hq]
 refine ⟨st.toList.map g,?_,?_,?_⟩
 ·have:=hpl.map g
  rw [List.map_map] at this
  have e:ps.map (g ∘ fun q=>(Value.ref q.1,Value.ref q.1))=ps:=by
   conv=>rhs;rw [←List.map_id ps]
   exact List.map_congr_left fun q hq=>eg q hq
  rw [e] at this
  exact this
 ·unfold SrtR
  rw [List.map_map]
  exact List.Pairwise.map _ (fun a b h=>h) hs
 ·apply Array.ext'
  rw [Array.toList_map]
  show _=(st.toList.map g).map fun q=>Value.ref q.1
  rw [List.map_map]
  refine List.map_congr_left fun k hk=>?_
  obtain ⟨q,hq,rfl⟩:=List.mem_map.mp (hpl.mem_iff.mp hk)
  rfl
noncomputable def rSortU:List V→Hp→VK→Prop:=fun xs H Q=>∃ (p:Addr) (ps:List (Addr×List Int)),xs=[.ref p]∧H p=some (.lst (refs ps))∧(∀ q∈ps,H q.1=some (.tup (q.2.map V.int)))∧ps.length≤16777216∧(∃ n,∀ q∈ps,q.2.length=n) ∧
 ∀ (l:Addr) (ps':List (Addr×List Int)),H l=none→ps'.Perm ps→SrtR (ps'.map (·.2))→Q (.ref l) (upd H l (.lst (refs ps')))
theorem ints_injV {a b:List Int} (h:a.map V.int=b.map V.int):a=b:=by
 have:=congrArg (List.map fun p=>match p with | V.int i=>i | _=>0) h
 simpa [List.map_map,Function.comp_def] using this
section
variable {X:Cx} {pins:List (Addr×Obj)} {σ:St} {H:Hp} {s:Shared}
theorem rows_one {ps:List (Addr×List Int)} (ht:∀ q∈ps,H q.1=some (.tup (q.2.map V.int))):∀ q∈ps,∀ q'∈ps,q.1=q'.1→q.2=q'.2:=fun q hq q' hq' e=>by
 have h1:=ht q hq
 have h2:=ht q' hq'
 rw [e,h2] at h1
 injection h1 with h1
 injection h1 with h1
 exact (ints_injV h1).symm
theorem rows_at (I:Inv X pins σ H s) {ps:List (Addr×List Int)} (ht:∀ q∈ps,H q.1=some (.tup (q.2.map V.int))) {h1:Heap} (k:∀ q∈ps,∀ o,s.heap.get? q.1=some o→h1.get? q.1=some o):TupsAt h1 ps:=fun q hq=>by
 obtain ⟨us,w1,tt,_⟩:=I.tuple (.of (ht q hq))
 obtain ⟨o,e1,e2,n',e3⟩:=tt
 exact ⟨us,intsAre_of w1,o,n',k q hq o e1,e2,e3⟩
theorem call_sorted_U {k:Nat} (hr:Room k X.A):CallR X (.builtin "sorted") rSortU:=by
 intro pins s σ H xs us Q I r h
 obtain ⟨p,ps,rfl,hp,ht,hz,⟨n,hn⟩,k⟩:=h
 obtain ⟨u,rfl,ru⟩:=r.one
 cases ru
 obtain ⟨its,r,pl,hz'⟩:=I.list (.of hp)
 have hits:=vals_refs r
 subst hits
 have fin:∀ ps':List (Addr×List Int),ps'.Perm ps→SrtR (ps'.map (·.2))→EP X pins σ Q (.ref (s.heap.objs.size + 1)) { s with heap:=sortedAll s.heap (rv ps) (rv ps').toArray }:=fun ps' h1 h2=>by
  obtain ⟨e,he⟩:=sortedAll_at s.heap (rv ps) (rv ps').toArray
  refine ⟨.ref (s.heap.objs.size + 1),_,I.laid (t':=s.toks) (o:=.lst (refs ps')) (fun b o q=>sortedAll_old q) (Nat.le_succ _) ⟨?_,_,e,refs_vals ps',he⟩,rfl,k _ ps' (I.hok.fresh (Nat.le_succ _)) h1 h2⟩
  rw [List.length_map,h1.length_eq,sizeLine_eq];exact hz
 by_cases h2:ps.length<2
 ·refine sorted_short pl.isList (by simpa using h2) (fin ps (List.Perm.refl _) ?_)
  match ps,h2 with
  | [],_=>exact List.Pairwise.nil
  | [_],_=>exact List.pairwise_singleton _ _
 ·have hc:=rows_one ht
  have hu:=hr.un
  rcases Nat.eq_zero_or_pos n with e | n0
  ·subst e
   refine sorted_any (κ:=oneType') (O:=lexO) (ky:=kyR ps) pl.isList (by simpa using h2) (by simpa using hz) (fun A' h1 _ k1=>kind_empty (s:={ s with heap:=h1 }) (rows_at I ht fun q _ o e=>k1 _ o e) hn h2) (fun A' h1 ha k1=>cmp_empty (s:={ s with heap:=h1 }) (by lia) (rows_at I ht fun q _ o e=>k1 _ o e) hc hn) fun st hp hs=>?_
   obtain ⟨ps',a1,a2,a3⟩:=out_rows hc hp hs
   rw [a3]
   exact fin ps' a1 a2
  ·refine sorted_any (κ:=tuples' true) (O:=lexO) (ky:=kyR ps) pl.isList (by simpa using h2) (by simpa using hz) (fun A' h1 _ k1=>kind_rows (s:={ s with heap:=h1 }) (rows_at I ht fun q _ o e=>k1 _ o e) n0 hn h2) (fun A' h1 ha k1=>cmp_rows (s:={ s with heap:=h1 }) (rows_at I ht fun q _ o e=>k1 _ o e) hc hn) fun st hp hs=>?_
   obtain ⟨ps',a1,a2,a3⟩:=out_rows hc hp hs
   rw [a3]
   exact fin ps' a1 a2
end
noncomputable def pSortU:pC:=p1 fun x f K=>∃ rs:List (List Int),x=.lst (rs.map rowP)∧rs.length≤16777216∧(∃ n,∀ r∈rs,r.length=n)∧∀ rs':List (List Int),rs'.Perm rs→SrtR rs'→K (.lst (rs'.map rowP)) .nw
theorem r_sortU:RefC rSortU pSortU:=fun W ρ σ Hs H Q K xs vs ok st r hp q=>by
 unfold pSortU p1 at hp
 split at hp
 ·obtain ⟨v,rfl,rv⟩:=r.one
  obtain ⟨rs,rfl,hz,⟨n,hn⟩,hk⟩:=hp
  obtain ⟨p,us,rfl,c,r1⟩:=lst_cell ok rv
  obtain ⟨ps,rfl,e,ht⟩:=rows_refs r1
  have hl:ps.length=rs.length:=by rw [←e,List.length_map]
  refine ⟨p,ps,rfl,c,ht,by lia,⟨n,fun q hq=>hn _ (by rw [←e];exact List.mem_map_of_mem hq)⟩,fun l ps' hl' h1 h2=>q _ _ _ _ (hk (ps'.map (·.2)) (by rw [←e];exact h1.map _) h2) (Step.new ok.bag hl') ?_⟩
  have:=rps_rows (b:=W.b) (Z:=Zof W ρ σ .nw) (H:=H) (ps:=ps') fun q hq=>ht q (h1.mem_iff.mp hq)
  rw [show (ps'.map fun q=>rowP q.2)=(ps'.map (·.2)).map rowP by rw [List.map_map];rfl] at this
  exact rf_newL ok st (by simp) (by simp) this hl'
 ·exact hp.elim
noncomputable def rSortDU:List V→Hp→VK→Prop:=fun xs H Q=>∃ (p:Addr) (ks:List (List Int)) (vs:List V),xs=[.ref p]∧H p=some (.dT ((ks.map keyI).zip vs))∧ks.length=vs.length∧ks.length≤1000000∧(∃ n,∀ r∈ks,r.length=n) ∧
 ∀ (l:Addr) (ps':List (Addr×List Int)),H l=none→(∀ q∈ps',H q.1=some (.tup (q.2.map V.int)))→(ps'.map (·.2)).Perm ks→SrtR (ps'.map (·.2))→Q (.ref l) (upd H l (.lst (refs ps')))
section
variable {X:Cx} {pins:List (Addr×Obj)} {σ:St} {H:Hp} {s:Shared}
theorem call_sortedDU (hc:X.calm=true) {k:Nat} (hr:Room k X.A):CallR X (.builtin "sorted") rSortDU:=by
 intro pins s σ H xs us Q I r h
 obtain ⟨p,ks,vs,rfl,hp,hlv,hz0,⟨n,hn⟩,k⟩:=h
 obtain ⟨u,rfl,ru⟩:=r.one
 cases ru
 obtain ⟨es,ep,ps0,rd,hd,hz,e1,e2,e3⟩:=raw_dT I.hok hp
 rw [List.map_fst_zip (by rw [List.length_map,hlv];exact Nat.le_refl _)] at e1
 obtain ⟨ps,a1,a2,a3⟩:=keys_rows e1
 have ht:∀ q∈ps,H q.1=some (.tup (q.2.map V.int)):=fun q hq=>by
  have:=e2 _ (a3 q hq)
  rw [kv_ints] at this
  exact this
 have er:(es.toList.map (·.key))=rv ps:=by
  rw [e3]
  have:=congrArg (List.map Value.ref) a1
  simpa [List.map_map,Function.comp_def] using this.symm
 have hpl:ps.length=ks.length:=by rw [←a2,List.length_map]
 have hes:es.size=ps.length:=by
  have:=congrArg List.length er
  simpa using this
 obtain ⟨m,hm,_⟩:=I.loc
 refine kdu_sorted (src_raw hd) (I.ok.hd hc) (Att.fr_all hm) (news_all (g:=Att.noObjs s.heap) (L:=X.env.locals)) rd (by rw [hes,hpl,sizeLine_eq];lia) fun D h' tk ws F' N' hD hl hv=>?_
 have ew:ws=rv ps:=by
  rw [←er]
  apply List.ext_getElem?
  intro j
  by_cases hj:j<ws.length
  ·obtain ⟨hj2,e⟩:=hv j ws[j] (by simp [hj])
   rw [List.getElem?_eq_getElem hj,e,List.getElem?_map]
   simp [hj2]
  ·rw [List.getElem?_eq_none (by lia),List.getElem?_eq_none (by simp;lia)]
 subst ew
 have nD:∀ u,s.heap.get? D≠some u:=fun u e=>Nat.lt_irrefl _ (hD (D,u) (mem_allNews (N' _ List.mem_cons_self).2.1 (Att.noObjs_get _ _) e))
 have hDn:H D=none:=by
  cases e:H D with
  | none=>rfl
  | some o=>obtain ⟨u,e2⟩:=(I.hok D o e).there;exact absurd e2 (nD u)
 have hDg:h'.get? D=some (seqObj "list" (rv ps).toArray 0):=N'.get (a:=D) List.mem_cons_self
 have hLD:X.env.locals≠D:=fun z=>(N' _ List.mem_cons_self).2.1 z.symm
 have fin:∀ ps':List (Addr×List Int),ps'.Perm ps→SrtR (ps'.map (·.2))→EP X pins σ Q (.ref D) { s with heap:=sortedHeap h' D (rv ps) (rv ps').toArray,toks:=tk }:=fun ps' h1 h2=>by
  obtain ⟨e,he⟩:=sortedHeap_at (out:=(rv ps').toArray) hDg
  have hns:(sortedHeap h' D (rv ps) (rv ps').toArray).Ns X.env.locals m:=by
   obtain ⟨o',x,y,e',rr⟩:=F'.ns
   exact ⟨o',x,y,(sortedHeap_old hLD (Heap.lt_size e')).trans e',rr⟩
  refine ⟨.ref D,_,I.laidF (t':=tk) (o:=.lst (refs ps')) hm hns (fun b u nb eb=>?_) hDn nD ⟨?_,_,e,refs_vals ps',he⟩,rfl,k D ps' hDn (fun q hq=>ht q (h1.mem_iff.mp hq)) (by rw [←a2];exact h1.map _) h2⟩
  ·have e4:=N'.get (List.mem_cons_of_mem _ (mem_allNews nb (Att.noObjs_get _ _) eb))
   rw [sortedHeap_old (show b≠D from fun z=>nD u (by rw [←z];exact eb)) (Heap.lt_size e4)]
   exact e4
  ·rw [List.length_map,h1.length_eq,sizeLine_eq];lia
 have nL:∀ b o,H b=some o→b≠X.env.locals:=fun b o e z=>by subst z;rw [I.free] at e;cases e
 have keepT:∀ q∈ps,∀ o,s.heap.get? q.1=some o→(midHeap h' D (rv ps)).get? q.1=some o:=fun q hq o e =>
  midHeap_old (fun z=>nD o (by rw [←z];exact e)) (N'.get (List.mem_cons_of_mem _ (mem_allNews (nL _ _ (ht q hq)) (Att.noObjs_get _ _) e)))
 by_cases h2:ps.length<2
 ·refine wpAny_call_entry slot_list_sort ⟨_,hDg,rfl⟩ entry_list_sort (sort_short hDg (by simpa using h2) ⟨_,rfl,fin ps (List.Perm.refl _) ?_⟩) (args_list_sort _)
  match ps,h2 with
  | [],_=>exact List.Pairwise.nil
  | [_],_=>exact List.pairwise_singleton _ _
 ·have hco:=rows_one ht
  have hn':∀ q∈ps,q.2.length=n:=fun q hq=>hn _ (by rw [←a2];exact List.mem_map_of_mem hq)
  have hu:=hr.un
  rcases Nat.eq_zero_or_pos n with e | n0
  ·subst e
   refine wpAny_call_entry slot_list_sort ⟨_,hDg,rfl⟩ entry_list_sort (sort_any (κ:=oneType') (O:=lexO) (ky:=kyR ps) (s:={ s with heap:=h',toks:=tk }) hDg (by simpa using h2) (by simp;lia) (kind_empty (s:={ s with heap:=_,toks:=tk }) (rows_at I ht keepT) hn' h2) (cmp_empty (s:={ s with heap:=_,toks:=tk }) (by simp;lia) (rows_at I ht keepT) hco hn') fun st hp hs=>⟨_,rfl,?_⟩) (args_list_sort _)
   obtain ⟨ps',b1,b2,b3⟩:=out_rows hco hp hs
   rw [b3]
   exact fin ps' b1 b2
  ·refine wpAny_call_entry slot_list_sort ⟨_,hDg,rfl⟩ entry_list_sort (sort_any (κ:=tuples' true) (O:=lexO) (ky:=kyR ps) (s:={ s with heap:=h',toks:=tk }) hDg (by simpa using h2) (by simp;lia) (kind_rows (s:={ s with heap:=_,toks:=tk }) (rows_at I ht keepT) n0 hn' h2) (cmp_rows (s:={ s with heap:=_,toks:=tk }) (rows_at I ht keepT) hco hn') fun st hp hs=>⟨_,rfl,?_⟩) (args_list_sort _)
   obtain ⟨ps',b1,b2,b3⟩:=out_rows hco hp hs
   rw [b3]
   exact fin ps' b1 b2
end
noncomputable def pSortDU:pC:=p1 fun x f K=>∃ (ks:List (List Int)) (xs:List P),x=.dT ks xs∧ks.length≤1000000∧(∃ n,∀ r∈ks,r.length=n)∧∀ rs':List (List Int),rs'.Perm ks→SrtR rs'→K (.lst (rs'.map rowP)) .nw
theorem r_sortDU:RefC rSortDU pSortDU:=fun W ρ σ Hs H Q K xs vs ok st r hp q=>by
 unfold pSortDU p1 at hp
 split at hp
 ·obtain ⟨v,rfl,rv⟩:=r.one
  obtain ⟨ks,xs,rfl,hz,hn,hk⟩:=hp
  obtain ⟨p,us,rfl,_,c1,c2,c3⟩:=dT_cell ok rv
  refine ⟨p,ks,us,rfl,c1,by rw [c2,c3.length],hz,hn,fun l ps' hl ht hp' hs'=>q _ _ _ _ (hk _ hp' hs') (Step.new ok.bag hl) ?_⟩
  have hr:Rps W.b (Zof W ρ σ .nw) H ((ps'.map (·.2)).map rowP) (refs ps'):=by
   have:=rps_rows (b:=W.b) (Z:=Zof W ρ σ .nw) (H:=H) (ps:=ps') ht
   rw [List.map_map]
   exact this
  exact rf_newL ok st (by simp) (by simp) hr hl
 ·exact hp.elim
end L2
set_option Elab.async false
set_option linter.all false
set_option maxRecDepth 100000
set_option maxHeartbeats 4000000
namespace L2
open PySem
noncomputable abbrev Tl:=List (List Int×Int)
theorem getT_put (t:Tl) (r:List Int) (c:Int) (r':List Int):getT (putT t r c) r'=if r'=r then some c else getT t r':=by
 unfold putT
 split
 ·rename_i hm
  by_cases e:r'=r
  ·subst e
   rw [if_pos rfl]
   obtain ⟨q,hq,e⟩:=List.mem_map.mp hm
   unfold getT
   induction t with
   | nil=>simp at hq
   | cons p t ih =>
    rw [List.map_cons,List.find?_cons]
    by_cases hp:p.1=r'
    ·simp [hp]
    ·rw [if_neg hp]
     simp only [hp,decide_false]
     refine ih ?_ ?_
     ·rcases List.mem_map.mp hm with ⟨z,hz,ez⟩
      rcases List.mem_cons.mp hz with rfl | hz
      ·exact absurd ez hp
      ·exact List.mem_map.mpr ⟨z,hz,ez⟩
     ·rcases List.mem_cons.mp hq with rfl | hq
      ·exact absurd e hp
      ·exact hq
  ·rw [if_neg e]
   unfold getT
   clear hm
   induction t with
   | nil=>rfl
   | cons p t ih =>
    rw [List.map_cons,List.find?_cons,List.find?_cons]
    by_cases hp:p.1=r
    ·rw [if_pos hp]
     have:¬ p.1=r':=fun z=>e (by rw [←z,hp])
     simp only [this,decide_false]
     exact ih
    ·rw [if_neg hp]
     by_cases hp':p.1=r'
     ·simp [hp']
     ·simp only [hp',decide_false];exact ih
 ·rename_i hm
  unfold getT
  rw [List.find?_append]
  by_cases e:r'=r
  ·subst e
   rw [if_pos rfl]
   have:t.find? (fun q=>decide (q.1=r'))=none:=List.find?_eq_none.mpr fun q hq=>by
    simp only [decide_eq_true_eq]
    exact fun z=>hm (List.mem_map.mpr ⟨q,hq,z⟩)
   rw [this];simp
  ·rw [if_neg e]
   have:([(r,c)]:Tl).find? (fun q=>decide (q.1=r'))=none:=by
    have:¬ r=r':=fun z=>e z.symm
    simp [this]
   rw [this];cases t.find? (fun q=>decide (q.1=r')) <;> rfl
theorem getT_none {t:Tl} {r:List Int} (h:r ∉ t.map (·.1)):getT t r=none:=by
 unfold getT
 rw [List.find?_eq_none.mpr fun q hq=>?_]
 ·rfl
 ·simp only [decide_eq_true_eq]
  exact fun z=>h (List.mem_map.mpr ⟨q,hq,z⟩)
theorem getT_nd {t:Tl} (nd:(t.map (·.1)).Nodup) {q:List Int×Int} (h:q∈t):getT t q.1=some q.2:=by
 induction t with
 | nil=>cases h
 | cons p t ih =>
  unfold getT
  rw [List.find?_cons]
  rw [List.map_cons,List.nodup_cons] at nd
  rcases List.mem_cons.mp h with rfl | h
  ·simp
  ·have:¬ p.1=q.1:=fun z=>nd.1 (by rw [z];exact List.mem_map_of_mem h)
   simp only [this,decide_false]
   exact ih nd.2 h
theorem putT_mem_row (t:Tl) (r:List Int) (c:Int) (r':List Int):r'∈(putT t r c).map (·.1) ↔ r'=r∨r'∈t.map (·.1):=by
 rw [putT_keys]
 split
 ·rename_i h
  exact ⟨.inr,fun z=>z.elim (fun z=>z ▸ h) id⟩
 ·rw [List.mem_append,List.mem_singleton,or_comm]
noncomputable def addT (a:Tl) (q:List Int×Int):Tl:=putT a q.1 ((getT a q.1).getD 0 + q.2)
noncomputable def sumT (t:Tl):Tl:=t.foldl addT []
noncomputable def cnt (t:Tl) (r:List Int):Int:=(t.map fun q=>if q.1=r then q.2 else 0).sum
theorem addT_get (a:Tl) (q:List Int×Int) (r:List Int):(getT (addT a q) r).getD 0=(getT a r).getD 0 + if q.1=r then q.2 else 0:=by
 unfold addT
 rw [getT_put]
 by_cases e:r=q.1
 ·subst e;simp
 ·rw [if_neg e,if_neg (fun z=>e z.symm)];simp
theorem foldl_get (t:Tl):∀ (a:Tl) (r:List Int),(getT (t.foldl addT a) r).getD 0=(getT a r).getD 0 + cnt t r:=by
 induction t with
 | nil=>intro a r;simp [cnt]
 | cons q t ih =>
  intro a r
  rw [List.foldl_cons,ih,addT_get]
  unfold cnt
  rw [List.map_cons,List.sum_cons]
  lia
theorem sumT_get (t:Tl) (r:List Int):(getT (sumT t) r).getD 0=cnt t r:=by
 unfold sumT
 rw [foldl_get]
 simp [getT]
theorem foldl_rows (t:Tl):∀ (a:Tl) (r:List Int),r∈(t.foldl addT a).map (·.1) ↔ r∈a.map (·.1)∨r∈t.map (·.1):=by
 induction t with
 | nil=>intro a r;simp
 | cons q t ih =>
  intro a r
  rw [List.foldl_cons,ih]
  unfold addT
  rw [putT_mem_row,List.map_cons,List.mem_cons]
  constructor
  ·rintro ((h | h) | h)
   ·exact .inr (.inl h)
   ·exact .inl h
   ·exact .inr (.inr h)
  ·rintro (h | h | h)
   ·exact .inl (.inr h)
   ·exact .inl (.inl h)
   ·exact .inr h
theorem sumT_rows (t:Tl) (r:List Int):r∈(sumT t).map (·.1) ↔ r∈t.map (·.1):=by
 unfold sumT;rw [foldl_rows];simp
theorem sum_len (t:Tl):∀ a:Tl,(t.foldl addT a).length≤a.length + t.length:=by
 induction t with
 | nil=>intro a;simp
 | cons q t ih =>
  intro a
  have h1:=ih (addT a q)
  have h2:(addT a q).length≤a.length + 1:=putT_len _ _ _
  simp only [List.foldl_cons,List.length_cons]
  lia
theorem sumT_len (t:Tl):(sumT t).length≤t.length:=by have:=sum_len t [];simpa [sumT] using this
theorem sum_nd (t:Tl):∀ a:Tl,(a.map (·.1)).Nodup→((t.foldl addT a).map (·.1)).Nodup:=by
 induction t with
 | nil=>intro a h;exact h
 | cons q t ih=>intro a h;exact ih (addT a q) (putT_nodup h)
theorem sumT_nd (t:Tl):((sumT t).map (·.1)).Nodup:=sum_nd t [] (by simp)
theorem sumT_uni {t:Tl} {n:Nat} (h:∀ q∈t,q.1.length=n):∀ q∈sumT t,q.1.length=n:=fun q hq=>by
 have:q.1∈(sumT t).map (·.1):=List.mem_map_of_mem hq
 obtain ⟨p,hp,e⟩:=List.mem_map.mp ((sumT_rows t q.1).mp this)
 rw [←e];exact h p hp
noncomputable def posT (t:Tl):Tl:=((sortR (t.map (·.1))).filter fun r=>decide (0<(getT t r).getD 0)).map fun r=>(r,(getT t r).getD 0)
theorem pos_settle {t:Tl} (h:∀ r,0≤(getT t r).getD 0):posT t=settleT t:=by
 unfold posT settleT
 congr 1
 refine List.filter_congr fun r _=>?_
 have:=h r
 by_cases e:(getT t r).getD 0=0
 ·simp [e]
 ·have:0<(getT t r).getD 0:=by lia
  simp [e,this]
theorem cnt_nonneg {t:Tl} (h:∀ q∈t,0≤q.2) (r:List Int):0≤cnt t r:=by
 unfold cnt
 induction t with
 | nil=>simp
 | cons q t ih =>
  rw [List.map_cons,List.sum_cons]
  have h1:=ih fun p hp=>h p (List.mem_cons_of_mem _ hp)
  have h2:=h q List.mem_cons_self
  split <;> lia
theorem settle_get (t:Tl) (r:List Int):(getT (settleT t) r).getD 0=(getT t r).getD 0:=by
 by_cases h:r∈t.map (·.1)∧(getT t r).getD 0≠0
 ·have hm:(r,(getT t r).getD 0)∈settleT t:=by
   unfold settleT
   exact List.mem_map.mpr ⟨r,List.mem_filter.mpr ⟨(sortR_perm _).mem_iff.mpr h.1,by simpa using h.2⟩,rfl⟩
  unfold getT at *
  cases hf:(settleT t).find? fun q=>decide (q.1=r) with
  | none=>have:=List.find?_eq_none.mp hf _ hm;simp at this
  | some p =>
   have h1:p.1=r:=by simpa using List.find?_some hf
   have h2:=List.mem_of_find?_eq_some hf
   unfold settleT at h2
   obtain ⟨r2,_,e⟩:=List.mem_map.mp h2
   rw [←e] at h1 ⊢
   simp only at h1
   subst h1
   rfl
 ·have hn:r ∉ (settleT t).map (·.1):=fun z=>by
   obtain ⟨q,hq,e⟩:=List.mem_map.mp z
   unfold settleT at hq
   obtain ⟨r2,hr2,e2⟩:=List.mem_map.mp hq
   rw [←e2] at e
   simp only at e
   subst e
   obtain ⟨h1,h2⟩:=List.mem_filter.mp hr2
   exact h ⟨(sortR_perm _).mem_iff.mp h1,by simpa using h2⟩
  rw [getT_none hn]
  by_cases h1:r∈t.map (·.1)
  ·have:(getT t r).getD 0=0:=Classical.byContradiction fun z=>h ⟨h1,z⟩
   rw [this];rfl
  ·rw [getT_none h1]
theorem settle_nd {t:Tl} (h:(t.map (·.1)).Nodup):((settleT t).map (·.1)).Nodup:=by
 unfold settleT
 rw [List.map_map,show ((fun q:List Int×Int=>q.1) ∘ fun r=>(r,(getT t r).getD 0))=id from rfl,List.map_id]
 exact ((sortR_perm _).nodup_iff.mpr h).filter _
theorem settle_uni {t:Tl} {n:Nat} (h:∀ q∈t,q.1.length=n):∀ q∈settleT t,q.1.length=n:=fun q hq=>by
 obtain ⟨p,hp,e⟩:=List.mem_map.mp (settle_mem hq)
 rw [←e];exact h p hp
theorem settle_cnt {t:Tl} {q:List Int×Int} (h:q∈settleT t):q.2=(getT t q.1).getD 0∧q.2≠0:=by
 unfold settleT at h
 obtain ⟨r,hr,rfl⟩:=List.mem_map.mp h
 exact ⟨rfl,by simpa using (List.mem_filter.mp hr).2⟩
theorem foldT_nd {t:Tl} (h:(t.map (·.1)).Nodup):foldT t=t:=by
 have key:∀ (t a:Tl),(∀ q∈t,q.1 ∉ a.map (·.1))→(t.map (·.1)).Nodup→t.foldl (fun a q=>putT a q.1 q.2) a=a ++ t:=by
  intro t
  induction t with
  | nil=>intro a _ _;simp
  | cons q t ih =>
   intro a h1 h2
   rw [List.map_cons,List.nodup_cons] at h2
   rw [List.foldl_cons,show putT a q.1 q.2=a ++ [q] by unfold putT;rw [if_neg (h1 q List.mem_cons_self)]]
   rw [ih _ (fun p hp=>?_) h2.2]
   ·simp
   ·rw [List.map_append,List.mem_append]
    rintro (z | z)
    ·exact h1 p (List.mem_cons_of_mem _ hp) z
    ·have:p.1=q.1:=by simpa using z
     exact h2.1 (by rw [←this];exact List.mem_map_of_mem hp)
 have:=key t [] (by simp) h
 simpa [foldT] using this
structure Sh (room:List Str) (t:Tl) (part:List Str):Prop where
 len:part.length≤100
 sub:∀ n∈part,n∈room
 few:t.length≤100000
 rows:∀ q∈t,q.1.length=room.length
structure Tal (n:Nat) (t:Tl):Prop where
 few:t.length≤1000
 rows:∀ q∈t,q.1.length=n
 pos:∀ q∈t,0<q.2
 nd:(t.map (·.1)).Nodup
theorem settle_tal {n:Nat} {t:Tl} (hl:t.length≤1000) (h1:∀ q∈t,q.1.length=n) (h2:(t.map (·.1)).Nodup) (h3:∀ r,0≤(getT t r).getD 0):Tal n (settleT t) where
 few:=Nat.le_trans (settle_len t) hl
 rows:=settle_uni h1
 pos:=fun q hq=>by
  obtain ⟨a,b⟩:=settle_cnt hq
  have:=h3 q.1
  lia
 nd:=settle_nd h2
theorem tal_nn {n:Nat} {t:Tl} (h:Tal n t):∀ q∈t,0≤q.2:=fun q hq=>Int.le_of_lt (h.pos q hq)
end L2
set_option Elab.async false
set_option linter.all false
set_option maxRecDepth 100000
set_option maxHeartbeats 4000000
namespace L2
open PySem PyProof.Rows
noncomputable abbrev leS (a b:Str):Prop:=¬ (b.cps.toList<a.cps.toList)
noncomputable abbrev SrtS (l:List Str):Prop:=l.Pairwise leS
structure Rm (ns r:List Str):Prop where
 sub:∀ n∈r,n∈ns
 nd:r.Nodup
 srt:SrtS r
structure Nms (ns:List Str):Prop where
 pos:1≤ns.length
 len:ns.length≤6
 nd:ns.Nodup
 srt:SrtS ns
structure Er (ns:List Str) (fd:List (List Str)) (sp fr:List Str):Prop where
 fnd:∀ r∈fd,Rm ns r
 nd:(sp ++ fr).Nodup
 sub:∀ n∈sp ++ fr,n∈ns
 ap:∀ r∈fd,∀ n∈r,n ∉ sp ++ fr
end L2
set_option Elab.async false
set_option linter.all false
set_option maxRecDepth 100000
set_option maxHeartbeats 4000000
namespace L2
open PySem PySem.Spec PyProof.Rows
noncomputable abbrev nStr (i:Int):Str:=Str.ofString (toString i)
noncomputable abbrev Lo (i:Int):Prop:=-(10 ^ 30)<i∧i<10 ^ 30
section
variable {X:Cx}
end
end L2
set_option Elab.async false
set_option linter.all false
set_option maxRecDepth 100000
set_option maxHeartbeats 4000000
namespace L2
open PySem PySem.Spec PyProof.Rows
noncomputable def pStrI:pC:=p1 fun x _ K=>match x with
 | .int i=>Lo i∧K (.str (nStr i)) .fr
 | _=>False
noncomputable def pFmt (pa:pE):pE:=fun ρ K=>pa ρ fun x _=>match x with
 | .str z=>z.length≤16777216∧K (.str z) .fr
 | .int i=>Lo i∧K (.str (nStr i)) .fr
 | _=>False
noncomputable abbrev pJ:=Str→pE
noncomputable def pJ0:pJ:=fun out _ K=>out.length≤16777216∧K (.str out) .fr
noncomputable def pJ1 (pa:pE) (r:pJ):pJ:=fun out ρ K=>pa ρ fun x _=>∃ y,x=.str y∧(out ++ y).length≤16777216∧r (out ++ y) ρ K
noncomputable def pJoinK (z:Str) (y:P) (K:P→Fl→Prop):Prop:=∃ ys:List Str,(y=.lst (ys.map P.str)∨y=.tup (ys.map P.str))∧(ys.map (·.length)).sum + ys.length * z.length≤16777216∧K (.str (Txt.join z ys)) .fr
noncomputable def pJoin (po pe:pE):pE:=fun ρ K=>po ρ fun x _=>∃ z,x=.str z∧pe ρ fun y _=>pJoinK z y K
section
variable {ι:Type} {Xs:ι→Cx} {a b o e:Expr} {es:List Expr} {pa pe po:pE} {r:pJ} {pos apos cpos:Pos} {Kf:PySem.W.Frag}
end
end L2
set_option Elab.async false
set_option linter.all false
set_option maxRecDepth 100000
set_option maxHeartbeats 4000000
namespace L2
open PySem PySem.Spec PyProof.Rows
structure Chg (fs xs:List Addr) (h h':Heap):Prop where
 keep:∀ b o,b ∉ fs→b ∉ xs→h.get? b=some o→h'.get? b=some o
 slot:∀ b o,b∈fs→b ∉ xs→h.get? b=some o→∃ sl,h'.get? b=some { o with slots:=sl }
 there:∀ b o,h.get? b=some o→∃ o',h'.get? b=some o'
noncomputable def Trc (h:Heap) (e:Addr) (cls:Value) (d:Option Addr) (fl:Value) (T:Addr):Prop :=
 T≠e∧(∃ oe vs,h.get? e=some oe∧oe.cls=cls∧oe.dict=d∧oe.data=.fields vs∧vs[1]?=some (.ref T))∧∃ oT ts,h.get? T=some oT∧oT.data=.fields ts∧ts[3]?=some fl
noncomputable def Air (h:Heap) (e:Addr) (cls:Value) (d:Option Addr) (xs:List Addr):Prop :=
 (xs=[e]∧∃ oe vs,h.get? e=some oe∧oe.cls=cls∧oe.dict=d∧oe.data=.fields vs∧vs[1]?=some .none)∨∃ T,xs=[e,T]∧Trc h e cls d .none T
theorem Chg.trans {fs xs:List Addr} {h h1 h2:Heap} (a:Chg fs xs h h1) (b:Chg fs xs h1 h2):Chg fs xs h h2 :=
 ⟨fun c o n m e=>b.keep c o n m (a.keep c o n m e),fun c o n m e=>let ⟨_,e1⟩:=a.slot c o n m e;let ⟨sl,e2⟩:=b.slot c _ n m e1;⟨sl,e2⟩,fun c o e=>let ⟨_,e1⟩:=a.there c o e;b.there c _ e1⟩
theorem Chg.mono {fs fs' xs xs':List Addr} {h h1:Heap} (a:Chg fs xs h h1) (hf:∀ b∈fs,b∈fs') (hx:∀ b∈xs,b∈xs'):Chg fs' xs' h h1 :=
 ⟨fun c o n m e=>a.keep c o (fun z=>n (hf c z)) (fun z=>m (hx c z)) e,fun c o n m e=>by
  by_cases hc:c∈fs
  ·exact a.slot c o hc (fun z=>m (hx c z)) e
  ·exact ⟨o.slots,a.keep c o hc (fun z=>m (hx c z)) e⟩,a.there⟩
section
variable {M:Model} {A:Around} {E:Value→Shared→Prop} {s:Shared} {base:Heap} {env:Env} {outer:List Env} {L e:Addr}
theorem entryX {oe:Obj} {vs:Array Value} {head:Value} {hadNext:Bool} {Q:Unit→Shared→Prop}
  (fr0:A.frames=some (env :: outer)) (ff0:s.heap.FunFrames base (env :: outer)) (fm0:env.frame=some L) (ge0:s.heap.get? e=some oe) (dt0:oe.data=.fields vs) (sz1:1<vs.size)
  (h:∀ h' T,Chg (frs (env :: outer)) [e] s.heap h'→s.heap.objs.size≤T→Trc h' e oe.cls oe.dict (rawInt L) T→Q () { s with heap:=h' }) :
  wpAny M A (do let fa ←frameOf env;let pl ←entryPlaceOf L hadNext;let nb ←EntryCells.newEntry head fa .none (rawInt L) .none pl;setField (.ref e) 1 nb) Q E s:=by
 have nef:e ∉ (env :: outer).filterMap (·.frame):=fun hm=>by
  obtain ⟨_,o,gob,nfl⟩:=ff0.mem hm
  rw [ge0] at gob;injection gob with gob;subst gob;exact nfl vs dt0
 refine wpAny_bind (wpAny_frameOf_fun fr0 ff0 fm0 fun g1 so=>?_)
 refine wpAny_bind (wpAny_entryPlaceOf fun pl plk=>?_)
 delta EntryCells.newEntry newFields
 refine wpAny_bind (wpAny_newObj_type ?_ (plk.sizeOk5 _ _ _ _ _))
 have eg1:g1.get? e=some oe:=(so.2.1 e nef).trans ge0
 generalize hob:({ cls:=.type "traceback",dict:=none,data:=.fields ([head,.ref L,.none,rawInt L,.none] ++ (if pl.isEmpty then List.replicate 6 Value.none else pl)).toArray }:Obj)=ob
 have eg2:=Heap.get?_push_of_some (h:=g1) ob eg1
 refine wpAny_setField eg2 dt0 sz1 (h _ g1.objs.size ?_ (Nat.le_of_eq so.1.symm) ?_)
 ·have keep:∀ b o,b≠e→g1.get? b=some o→((g1.push ob).update e (Obj.mapFields (·.setIfInBounds 1 (Value.ref g1.objs.size)))).get? b=some o:=fun b o hbe hb=>by
   refine (Heap.get?_update_other _ _ (Ne.symm hbe)).trans ?_
   exact Heap.get?_push_of_some _ hb
  have eg3:=Heap.get?_update_self (Obj.mapFields (·.setIfInBounds 1 (Value.ref g1.objs.size))) eg2 (Obj.isFreed_of_fields (Obj.data_mapFields dt0 (·.setIfInBounds 1 (Value.ref g1.objs.size))))
  refine ⟨fun b o n m q=>keep b o (fun z=>m (by rw [z];exact List.mem_singleton_self _)) ((so.2.1 b n).trans q),fun b o n m q=>?_,fun b o q=>?_⟩
  ·obtain ⟨sl,hs⟩:=so.2.2 b o q
   exact ⟨sl,keep b _ (fun z=>m (by rw [z];exact List.mem_singleton_self _)) hs⟩
  ·by_cases hbe:b=e
   ·subst hbe;exact ⟨_,eg3⟩
   ·obtain ⟨sl,hs⟩:=so.2.2 b o q
    exact ⟨_,keep b _ hbe hs⟩
 ·have hTe:g1.objs.size≠e:=Nat.ne_of_gt (Heap.lt_size eg1)
  have dt3:=Obj.data_mapFields dt0 (·.setIfInBounds 1 (Value.ref g1.objs.size))
  have eg3:=Heap.get?_update_self (Obj.mapFields (·.setIfInBounds 1 (Value.ref g1.objs.size))) eg2 (Obj.isFreed_of_fields dt3)
  have gT3:=(Heap.get?_update_other (g1.push ob) (Obj.mapFields (·.setIfInBounds 1 (Value.ref g1.objs.size))) (Ne.symm hTe)).trans (Heap.get?_push_size g1 (by rw [←hob];rfl))
  refine ⟨hTe,⟨_,_,eg3,Obj.cls_mapFields _ _,?_,dt3,by simp [sz1]⟩,_,_,gT3,by rw [←hob],?_⟩
  ·unfold Obj.mapFields;split <;> rfl
  ·first | (simp;done) | (rcases plk with rfl | ⟨_,_,_,_,_,_,_,rfl⟩ <;> simp)
theorem flightX {cls fl:Value} {d:Option Addr} {T:Addr} {Q:Unit→Shared→Prop} (ht:Trc s.heap e cls d fl T) (h:∀ h',Chg [] [T] s.heap h'→Trc h' e cls d .none T→Q () { s with heap:=h' }):wpAny M A (setFlight (.ref e) none) Q E s:=by
 obtain ⟨hTe,⟨oe,vs,ge0,hc,hdc,dt0,v1⟩,oT,ts,gT0,dT0,v3⟩:=ht
 have sz3:3<ts.size:=(Array.getElem?_eq_some_iff.mp v3).1
 have oth:∀ b,b≠T→(s.heap.update T (Obj.mapFields (·.setIfInBounds 3 ((none:Option Addr).elim Value.none fun f=>rawInt f)))).get? b=s.heap.get? b:=fun b hb=>Heap.get?_update_other _ _ (Ne.symm hb)
 have hTn:=Heap.get?_update_self (Obj.mapFields (·.setIfInBounds 3 ((none:Option Addr).elim Value.none fun f=>rawInt f))) gT0 (Obj.isFreed_of_fields (Obj.data_mapFields dT0 _))
 unfold setFlight
 refine wpAny_bind (wpAny_field ge0 dt0 v1 ?_)
 rw [if_pos (by simp:(Value.ref T != Value.none)=true)]
 refine wpAny_setField gT0 dT0 sz3 (h _ ⟨fun b o _ m q=>(oth b fun z=>m (by rw [z];exact List.mem_singleton_self _)).trans q,fun b o n _ _=>absurd n (by simp),fun b o q=>?_⟩ ?_)
 ·by_cases hb:b=T
  ·subst hb;exact ⟨_,hTn⟩
  ·exact ⟨o,(oth b hb).trans q⟩
 ·exact ⟨hTe,⟨oe,vs,(oth e (Ne.symm hTe)).trans ge0,hc,hdc,dt0,v1⟩,_,_,hTn,Obj.data_mapFields dT0 _,by simp [sz3]⟩
theorem noteX {cls:Value} {d:Option Addr} {xs:List Addr} {Q:Unit→Shared→Prop} (fr0:A.frames=some (env :: outer)) (ff0:s.heap.FunFrames base (env :: outer)) (fm0:env.frame=some L) (ha:Air s.heap e cls d xs)
  (h:∀ h' T,Chg (frs (env :: outer)) xs s.heap h'→s.heap.objs.size≤T→Trc h' e cls d (rawInt L) T→Q () { s with heap:=h' }):wpAny M A (noteFrame (.ref e) env) Q E s:=by
 rcases ha with ⟨rfl,oe,vs,ge0,rfl,rfl,dt0,v1⟩ | ⟨T,rfl,hTe,⟨oe,vs,ge0,rfl,rfl,dt0,v1⟩,oT,ts,gT0,dT0,v3⟩
 ·unfold noteFrame
  simp only [fm0]
  refine wpAny_bind (wpAny_field ge0 dt0 v1 ?_)
  rw [if_neg (by decide)]
  exact entryX fr0 ff0 fm0 ge0 dt0 (Array.getElem?_eq_some_iff.mp v1).1 h
 ·unfold noteFrame
  simp only [fm0]
  refine wpAny_bind (wpAny_field ge0 dt0 v1 ?_)
  rw [if_pos (by simp:(Value.ref T != Value.none)=true)]
  refine wpAny_bind (wpAny_field gT0 dT0 v3 ?_)
  rw [if_neg (by simp [rawInt]:¬ ((Value.none == rawInt L)=true))]
  refine wpAny_bind (wpAny_setField gT0 dT0 (Array.getElem?_eq_some_iff.mp v3).1 ?_)
  have oth:∀ b,b≠T→(s.heap.update T (Obj.mapFields (·.setIfInBounds 3 Value.none))).get? b=s.heap.get? b:=fun b hb=>Heap.get?_update_other _ _ (Ne.symm hb)
  have nrec:∀ b o,s.heap.get? b=some o→(∀ vs,o.data≠.fields vs)→b≠T:=fun b o hb nfl q=>by
   rw [q,gT0] at hb;injection hb with hb;subst hb;exact nfl ts dT0
  have hTn:=Heap.get?_update_self (Obj.mapFields (·.setIfInBounds 3 Value.none)) gT0 (Obj.isFreed_of_fields (Obj.data_mapFields dT0 _))
  refine entryX fr0 (ff0.of_keeps fun b o hb nfl=>⟨o,(oth b (nrec b o hb nfl)).trans hb,rfl⟩) fm0 ((oth e (Ne.symm hTe)).trans ge0) dt0 (Array.getElem?_eq_some_iff.mp v1).1 fun h' T' c hT' tr=>h h' T' ?_ (by simpa using hT') tr
  refine Chg.trans (h1:=s.heap.update T (Obj.mapFields (·.setIfInBounds 3 Value.none))) ⟨fun b o _ m q=>(oth b fun z=>m (by simp [z])).trans q,fun b o _ m q=>⟨o.slots,(oth b fun z=>m (by simp [z])).trans q⟩,fun b o q=>?_⟩ (c.mono (fun _ z=>z) fun b z=>by simp at z;simp [z])
  by_cases hb:b=T
  ·subst hb;exact ⟨_,hTn⟩
  ·exact ⟨o,(oth b hb).trans q⟩
theorem leaveX {cls:Value} {d:Option Addr} {xs:List Addr} {Q:Unit→Shared→Prop} (fr0:A.frames=some (env :: outer)) (ff0:s.heap.FunFrames base (env :: outer)) (fm0:env.frame=some L) (ha:Air s.heap e cls d xs)
  (h:∀ h' T,Chg (frs (env :: outer)) xs s.heap h'→s.heap.objs.size≤T→Trc h' e cls d .none T→Q () { s with heap:=h' }):wpAny M A (leaving env (.ref e)) Q E s:=by
 unfold leaving
 refine wpAny_bind (noteX fr0 ff0 fm0 ha fun v1 T c gT0 tr=>flightX tr fun h2 c2 tr2=>h h2 T ?_ gT0 tr2)
 have nb:∀ b o,s.heap.get? b=some o→b ∉ [T]:=fun b o q z=>by
  rw [List.mem_singleton.mp z] at q
  exact absurd (Heap.lt_size q) (Nat.not_lt.mpr gT0)
 refine ⟨fun b o n m q=>c2.keep b o (by simp) (nb b o q) (c.keep b o n m q),fun b o n m q=>?_,fun b o q=>?_⟩
 ·obtain ⟨sl,e1⟩:=c.slot b o n m q
  exact ⟨sl,c2.keep b _ (by simp) (nb b o q) e1⟩
 ·obtain ⟨o1,e1⟩:=c.there b o q
  exact c2.there b o1 e1
end
end L2
set_option Elab.async false
set_option linter.all false
set_option maxRecDepth 100000
set_option maxHeartbeats 4000000
namespace L2
open PySem PySem.Spec PyProof.Rows
noncomputable def CXE (P:Program) (w:World):CXT:=fun outer H s E e s'=>∃ (a:Addr) (cls:Value) (d:Option Addr) (T:Addr) (H':Hp),e=.ref a∧s'.os=s.os∧AllBare s'.gens∧Un (frs outer) [] H H' s.heap s'.heap∧HOk P w H' s'.heap ∧
 Trc s'.heap a cls d .none T∧s.heap.get? a=none∧s.heap.get? T=none∧H' a=none∧H' T=none∧E cls d H'
theorem HOk.chg {P:Program} {w:World} {H:Hp} {h h':Heap} (x:HOk P w H h) (k:∀ b o u,H b=some u→h.get? b=some o→h'.get? b=some o):HOk P w H h':=fun a o e =>
 (x a o e).stay (fun b u z q=>by
  rcases z with rfl | z
  ·exact k b u _ e q
  ·exact k b u _ z q) (fun _ q=>q) fun _ _ q=>q
section
variable {X:Cx} {pins:List (Addr×Obj)} {σ:St} {H:Hp} {s:Shared}
structure Own (X:Cx):Prop where
 stk:X.stack=X.env :: X.outer
 frm:X.env.frame=some X.env.locals
 ex:X.ex=[]
theorem Own.frs (o:Own X):frs (X.env :: X.outer)=X.env.locals :: X.fs:=by
 unfold L2.frs;rw [List.filterMap_cons,o.frm];rfl
structure Apart (X:Cx) (pins:List (Addr×Obj)) (H:Hp) (b:Addr):Prop where
 new:X.s₀.heap.get? b=none
 free:H b=none
 loc:b≠X.env.locals
 cell:∀ y k,X.env.cells.lookup y=some k→k≠b
 pin:∀ p∈X.pn ++ pins,p.1≠b
theorem Inv.apart {H':Hp} {b:Addr} (I:Inv X pins σ H s) (hex:X.ex=[]) (n:s.heap.get? b=none) (f:H' b=none):Apart X pins H' b where
 new:=by
  cases e:X.s₀.heap.get? b with
  | none=>rfl
  | some o=>obtain ⟨o',e1⟩:=I.base.there b o e (by rw [hex];simp);rw [n] at e1;cases e1
 free:=f
 loc:=fun z=>by obtain ⟨m,⟨o,_,_,ho,_⟩,_⟩:=I.loc;rw [z,ho] at n;cases n
 cell:=fun y k e z=>by obtain ⟨v,o,ho,_⟩:=I.cell y k e;rw [z,n] at ho;cases ho
 pin:=fun p hp z=>by have:=(I.pin p hp).1;rw [z,n] at this;cases this
theorem Inv.chg {xs:List Addr} {h':Heap} (ow:Own X) (I:Inv X pins σ H s) (c:Chg (L2.frs (X.env :: X.outer)) xs s.heap h') (hx:∀ b∈xs,Apart X pins H b):Inv X pins σ H { s with heap:=h' }:=by
 rw [ow.frs] at c
 have nx:∀ b o,X.s₀.heap.get? b=some o→b ∉ xs:=fun b o e z=>by rw [(hx b z).new] at e;cases e
 have neL:∀ b o,X.s₀.heap.get? b=some o→b≠X.env.locals:=fun b o e=>Nat.ne_of_lt (Nat.lt_of_lt_of_le (Heap.lt_size e) I.ok.above)
 have any:∀ b o,b ∉ xs→s.heap.get? b=some o→∃ sl,h'.get? b=some { o with slots:=sl }:=fun b o m q=>by
  by_cases hb:b∈X.env.locals :: X.fs
  ·exact c.slot b o hb m q
  ·exact ⟨o.slots,c.keep b o hb m q⟩
 have cellK:∀ x k,X.env.cells.lookup x=some k→∀ v,s.heap.IsCell k v→h'.IsCell k v:=fun x k e v ⟨o,ho,hd⟩=>by
  obtain ⟨sl,q⟩:=any k o (fun z=>(hx k z).cell x k e rfl) ho
  exact ⟨_,q,hd⟩
 have hfr:∀ b,b∈X.env.locals :: X.fs→H b=none:=fun b hb=>I.stkFree b (by rw [ow.stk,ow.frs];exact hb)
 exact {
  ok:=I.ok,os:=I.os,bare:=I.bare
  base:=⟨fun b o e n hb he=>c.keep b o (fun z=>(List.mem_cons.mp z).elim (neL b o e) hb) (nx b o e) (I.base.keep b o e n hb he),fun b o e n hb he=>by
    obtain ⟨sl,e1⟩:=I.base.slot b o e n hb he
    obtain ⟨sl',e2⟩:=any b _ (nx b o e) e1
    exact ⟨sl',e2⟩,I.base.free,fun b o e he=>by
    obtain ⟨o',e1⟩:=I.base.there b o e he
    exact c.there b o' e1,I.base.tups,I.base.frzs,I.base.tbls⟩
  loc:=by
   obtain ⟨m,⟨o,es,ep,ho,r⟩,hl⟩:=I.loc
   obtain ⟨sl,hL⟩:=any _ o (fun z=>(hx _ z).loc rfl) ho
   refine ⟨m,⟨_,es,ep,hL,r⟩,fun i x v e1 e2 e3=>?_⟩
   obtain ⟨u,r,l⟩:=hl i x v e1 e2 e3
   refine ⟨u,r,?_⟩
   rcases l with l | ⟨k,c',e,z⟩
   ·exact .inl l
   ·exact .inr ⟨k,c',e,cellK x c' e _ z⟩
  cell:=fun x k e=>by
   obtain ⟨v,z⟩:=I.cell x k e
   exact ⟨v,cellK x k e v z⟩
  free:=I.free,freeC:=I.freeC
  pin:=fun p hp=>by
   obtain ⟨e,n,ne,nf,d⟩:=I.pin p hp
   exact ⟨c.keep p.1 p.2 (fun z=>(List.mem_cons.mp z).elim ne nf) (fun z=>(hx _ z).pin p hp rfl) e,n,ne,nf,d⟩
  hok:=I.hok.chg fun b o u hb q=>c.keep b o (fun z=>by rw [hfr b z] at hb;cases hb) (fun z=>by rw [(hx b z).free] at hb;cases hb) q
  len:=I.len }
theorem leave_ok {e:Addr} {cls:Value} {d:Option Addr} {xs:List Addr} {E:XK} (ow:Own X) (I:Inv X pins σ H s) (air:Air s.heap e cls d xs) (hx:∀ b∈xs,Apart X pins H b) (hE:E cls d H) {R:Value→Shared→Prop} :
  wpAny (model X.prog X.w) X.A (leaving X.env (.ref e)) (fun _ s''=>CXE X.prog X.w X.outer X.H₀ X.s₀ E (.ref e) s'') R s:=by
 have hex:e∈xs:=by rcases air with ⟨rfl,_⟩ | ⟨T,rfl,_⟩ <;> simp
 refine leaveX (base:=X.base) (by rw [I.ok.frames,ow.stk]) (by have:=I.stack;rwa [ow.stk] at this) ow.frm air fun h' T c hT tr=>?_
 have J:=I.chg ow c hx
 have hn:s.heap.get? T=none:=Heap.get?_none_of_le hT
 have ap:=I.apart (H':=H) (b:=T) ow.ex hn (I.hok.fresh hT)
 have hb:=J.base
 rw [ow.ex] at hb
 exact ⟨e,cls,d,T,H,rfl,J.os,J.bare,hb,J.hok,tr,(hx e hex).new,ap.new,(hx e hex).free,ap.free,hE⟩
end
section
variable {P:Program} {w:World} {K:PySem.W.Frag} {mg:Str→Option Value} {base:Heap} {N:List Str} {qual:Str} {sc:Scope} {f:Addr} {cd:Value} {A:Around} {outer:List Env} {s₀:Shared} {H₀:Hp} {E:XK}
noncomputable abbrev cxE (P:Program) (w:World) (K:PySem.W.Frag) (mg:Str→Option Value) (base:Heap) (N:List Str) (qual:Str) (sc:Scope) (f:Addr) (cd:Value) (A:Around) (outer:List Env) (s:Shared) (H:Hp) (E:XK):Cx:=cxOf (CXE P w) P w K mg base N qual sc f cd A outer s H E
theorem own_cxOf:Own (cxE P w K mg base N qual sc f cd A outer s₀ H₀ E):=⟨rfl,rfl,rfl⟩
end
end L2
set_option Elab.async false
set_option linter.all false
set_option maxRecDepth 100000
set_option maxHeartbeats 4000000
namespace L2
open PySem PySem.Spec PyProof.Rows
noncomputable abbrev vE:List Value:=[.type "ValueError",.type "Exception",.type "BaseException",.type "object"]
structure XCls (K:PySem.W.Frag) (mg:Str→Option Value) (x:Str) (C:Addr):Prop where
 bd:mg x=some (.ref C)
 ok:PySem.W.excIn K C vE "ValueError.__new__"=true
noncomputable def mroIn (K:PySem.W.Frag) (C C':Addr):Bool:=match K.lookup C with
 | some ⟨_,_,.cls cd,_⟩=>cd.mro.contains (.ref C')
 | _=>true
theorem own_obj {K:PySem.W.Frag} {h:Heap} {C:Addr} {bmB:List Value} {newId:String} (X:K.In h) (q:PySem.W.excIn K C bmB newId=true):∃ bm N nm qn bs hdct sn sub ab col dd k0 k1 k2 k3 k5 mN,
  K.lookup C=some (excClassObj nm qn C N bs bm hdct sn sub ab col dd k0 k1 k2 k3 k5 newId)∧h.Ns N mN∧mN "__init__"=none∧OwnTail h bmB bm:=by
 unfold PySem.W.excIn at q
 split at q
 ·rename_i dd cd sl look
  split at q
  ·rename_i C2 bm k0 k1 k2 k3 nw k5 em es
   simp only [Bool.and_eq_true,beq_iff_eq,Bool.not_eq_true'] at q
   obtain ⟨⟨⟨⟨⟨e1,e2⟩,e3⟩,e4⟩,e5⟩,e6⟩:=q
   subst e1 e2
   obtain ⟨nm,bs,mro,ns,qn,hd,sn,sub,ab,col,del⟩:=cd
   dsimp only at em e3 e5 e6
   subst em e3
   obtain ⟨sl⟩:=sl
   simp only at es
   subst es
   exact ⟨bm,ns,nm,qn,bs,hd,sn,sub,ab,col,dd,k0,k1,k2,k3,k5,_,look,.of_isNs (PySem.W.isNs_of_in X e5),PySem.W.nsMap_none_of_in X e5 e6,PySem.W.tail_of_in X e4⟩
  ·cases q
 ·cases q
section
variable {M:Model} {A:Around} {E:Value→Shared→Prop} {nm q:Str} {C N:Addr} {bs bm:List Value} {hdct:Bool} {sn:List Str} {sub:List Value} {ab:Bool} {col:Option Bool} {dd:Option Addr} {k0 k1 k2 k3 k5:Option Value} {newId:String}
 {nm' q':Str} {C' N':Addr} {bs' bm':List Value} {hdct':Bool} {sn':List Str} {sub':List Value} {ab':Bool} {col':Option Bool} {dd':Option Addr} {l0 l1 l2 l3 l5:Option Value} {newId':String}
theorem excM_own {h:Heap} {g:Array GenState} {d:PySem.Drawn} {t:Nat} {os:OsState} {e:Addr} {oe:Obj} {Q:Bool→Shared→Prop} (gC:h.get? C=some (excClassObj nm q C N bs bm hdct sn sub ab col dd k0 k1 k2 k3 k5 newId))
  (gC':h.get? C'=some (excClassObj nm' q' C' N' bs' bm' hdct' sn' sub' ab' col' dd' l0 l1 l2 l3 l5 newId')) (ge:h.get? e=some oe) (ec:oe.cls=.ref C) (eb:bm'.contains (.type "BaseException")=true)
  (hq:Q ((Value.ref C :: bm).contains (.ref C')) ⟨h,g,d,t,os⟩):wpAny M A (excMatches (.ref e) (.ref C')) Q E ⟨h,g,d,t,os⟩:=by
 have eB:(Value.ref C' :: bm').contains (.type "BaseException")=true:=by rw [List.contains_cons,eb,Bool.or_true]
 have f:=tc_notTuple
 unfold excMatches
 repeat (first | (with_reducible refine wpAny_loadPart_at ge ?_;rw [ec]) | with_reducible refine wpAny_loadPart_at gC' ?_ | (with_reducible refine wpAny_isSubtype_exc gC' ?_;rw [eB]) | (with_reducible refine wpAny_isSubtype_exc gC ?_) | wp_step)
 cases hb:(Value.ref C :: bm).contains (.ref C') <;> (rw [hb] at hq;wp_walk;exact hq)
end
section
variable {X:Cx}
noncomputable def FnE (P:Program) (w:World) (K:PySem.W.Frag) (mg:Str→Option Value) (base:Heap) (x:Str) (k:Nat) (ps:List Str) (sp:Sp):Prop :=
 ∃ (f:Addr) (fd:FuncData),FnOk P w K mg base (CXE P w) k f fd ps sp∧mg x=some (.ref f)∧PySem.W.keepIn K (.ref f)=true∧Binds K fd ps []
theorem fn_defE {P:Program} {w:World} {K:PySem.W.Frag} {mg:Str→Option Value} {base:Heap} {x:Str} {st:Stmt} {N ps:List Str} {k:Nat} {sp:Sp} (D:DefAt K mg x st) (S:FnScope N ps (defScope st))
  (hb:∀ (kV doc pm:Value) (an:Option Addr) (cdv ct:Value) (us:List Value),us.length=ps.length→bindArgs (PySem.W.fnOf x x (defArgs st) (defBody st) (defScope st) .none kV doc pm an cdv ct) ⟨us,[]⟩=pure (ps.zip us))
  (len:∀ vs H Q E,sp vs H Q E→vs.length=ps.length)
  (hbody:∀ (f:Addr) (cdv:Value) (A:Around) (outer:List Env) (s:Shared) (H:Hp) (vs:List V) (Q:VK) (E:XK),Room k (A.deeper (PyProof.Rows.envOfC x (defScope st) s.heap.objs.size f cdv))→sp vs H Q E →
   ∃ t,PSs (cxE P w K mg base N x (defScope st) f cdv A outer s H E) (defBody st) t∧t { nx:=fun _ H'=>Q .non H',rt:=Q } (start N vs) H):FnE P w K mg base x (k + 1) ps sp:=by
 obtain ⟨f,fd,F,hm⟩:=D
 refine ⟨f,fd,?_,hm,F.kp,F.binds hb⟩
 obtain ⟨oc,od,kV,doc,pm,an,cdv,ct,osl,rfl,lk,hcd⟩:=F.ex
 exact fn_of lk hcd S len fun A outer s H vs Q E hr hsp=>hbody f cdv A outer s H vs Q E hr hsp
noncomputable def tTry (sp:Sp) (i:Nat) (t:TA) (th:Value→Option Addr→TS):TS:=fun D σ H=>t σ H fun vs H1=>sp vs H1 (fun v H2=>D.nx (σ.set i (some v)) H2) (fun cls d H2=>th cls d D σ H2)
noncomputable def HdOk (X:Cx) (hs:List ExceptHandler) (th:Value→Option Addr→TS):Prop:=∀ (pins:List (Addr×Obj)) (s:Shared) (σ:St) (H:Hp) (D:Ends) (a T:Addr) (cls:Value) (d:Option Addr),Inv X pins σ H s→Trc s.heap a cls d .none T→Apart X pins H a→Apart X pins H T →
 th cls d D σ H→wpAny (model X.prog X.w) X.A (handleBy (.ref a) X.env hs) (SP X pins D) X.xe s
theorem ps_try {x y:Str} {i k:Nat} {ps:List Str} {sp:Sp} {t:TA} {th:Value→Option Addr→TS} {e:Expr} {es:List Expr} {h0:ExceptHandler} {hs:List ExceptHandler} {p yp pos apos tpos:Pos}
  (ow:Own X) (G:FnE X.prog X.w X.K X.mg X.base x k ps sp) (hr:Room k X.A) (ha:PA X.nox (e :: es) t) (hh:HdOk X (h0 :: hs) th) (hN:X.N.Nodup) (hi:X.N[i]?=some y) (hx:Loc X.env.scope y)
  (hg:Gl X x:=by rfl) (hdb:(x == ("__debug__":Str))=false:=by decide +kernel) (he:starEach (e :: es) X.env=(false,eval e X.env) :: starEach es X.env:=by rfl) (hpl:(backTo pos (starEach es X.env)).any (·.1)=false:=by rfl)
  (hs':swapsWith (.Call (.Name x p) (e :: es) [] pos) (some (.Name y yp)) apos.line X.env=pure false:=by rfl) (hf:X.fn y=true∨X.env.scope.names.lookup y=some .local:=by trivial) :
  PS X (.Try [.Assign [.Name y yp] (.Call (.Name x p) (e :: es) [] pos) apos] (h0 :: hs) [] [] tpos) (tTry sp i t th):=by
 intro pins s σ H D I h
 obtain ⟨f,fd,F,hm,hk,hb⟩:=G
 refine wpAny_Try_except (wpAny_execs_cons (wpAny_Assign_Name ?_ hs'))
 refine wpAny_Call_Name_kw (ld_glob I hg hm ?_ hdb)
 refine PySem.W.callWith_K (h₀:=X.base) I.ok.mod.kin hk (wpAny_mono (ha pos pins s σ H _ (I.wish _) h) (fun us s1 ⟨vs,H1,I0,r,hsp⟩=>?_) fun _ _ z=>False.elim z) he hpl
 have I1:=I0.unwish
 refine ⟨I1.kIn,?_⟩
 have hl:(us ++ []).length=ps.length:=by rw [List.append_nil,←r.length];exact F.len _ _ _ _ hsp
 have hbb:=hb s1 us I1.kIn hl
 rw [List.append_nil] at hbb
 refine wpAny_call (codeAny_mono (F.run X.A X.stack s1 H1 ⟨us,[]⟩ us vs _ _ hr I1.env0 hbb r hsp) fun res s' hq=>?_)
 cases res with
 | ok fl =>
  cases fl with
  | ret u =>
   obtain ⟨v,H2,I2,rv,q⟩:=I1.after hq
   exact store_ok I2 hN hi hx rv (fun s2 I3=>wpAny_execs_nil (wpAny_execs_nil ⟨_,H2,I3,q⟩)) hf
  | next=>exact False.elim hq
  | brk=>exact False.elim hq
  | cont=>exact False.elim hq
 | error ev =>
  obtain ⟨a,cls,d,T,H',rfl,os,bare,un,hok,tr,na,nT,fa,fT,hE⟩:=hq
  have J:=I1.call' os un hok bare (fun b z=>absurd z (by simp))
  have pa:=I1.apart ow.ex na fa
  have pT:=I1.apart ow.ex nT fT
  have stk:=J.stack
  rw [ow.stk] at stk
  refine noteX (base:=X.base) (by rw [J.ok.frames,ow.stk]) stk ow.frm (.inr ⟨T,rfl,tr⟩) fun h2 T2 c2 hT2 tr2=>?_
  have J2:=J.chg ow c2 fun b hb=>by
   rcases List.mem_cons.mp hb with z | z
   ·rw [z];exact pa
   ·rw [List.mem_singleton.mp z];exact pT
  have p2:=J.apart (H':=H') (b:=T2) ow.ex (Heap.get?_none_of_le hT2) (J.hok.fresh hT2)
  refine flightX tr2 fun h3 c3 tr3=>?_
  have J3:=J2.chg ow (c3.mono (fun _ z=>absurd z (by simp)) fun _ z=>z) fun b hb=>by rw [List.mem_singleton.mp hb];exact p2
  exact hh pins _ σ H' D a T2 cls d J3 tr3 pa p2 hE
end
end L2
set_option Elab.async false
set_option linter.all false
set_option maxRecDepth 100000
set_option maxHeartbeats 4000000
namespace L2
open PySem PySem.Spec PyProof.Rows
noncomputable abbrev Cx.mark (X:Cx) (a:Addr):Cx:={ X with A:=X.A.mark (some (.ref a)),calm:=false,xe:=fun _ _=>False }
section
variable {X:Cx} {pins:List (Addr×Obj)} {σ:St} {H:Hp} {s:Shared} {a:Addr}
theorem Inv.mark (I:Inv X pins σ H s):Inv (X.mark a) pins σ H s :=
 ⟨⟨I.ok.mod,I.ok.kind,I.ok.glob,I.ok.blt,I.ok.above,I.ok.inj,I.ok.has,I.ok.cab,fun z=>(by cases z),I.ok.frames,I.ok.stk,I.ok.exf,I.ok.bs,I.ok.bsz,I.ok.noex,I.ok.exfs,I.ok.funs,I.ok.frf⟩,I.os,I.bare,I.base,I.loc,I.cell,I.free,I.freeC,I.pin,I.hok,I.len⟩
noncomputable def tHd0:Value→Option Addr→TS:=fun _ _ _ _ _=>False
theorem hd_nil:HdOk X [] tHd0:=fun _ _ _ _ _ _ _ _ _ _ _ _ _ h=>h.elim
end
end L2
set_option Elab.async false
set_option linter.all false
set_option maxRecDepth 100000
set_option maxHeartbeats 4000000
namespace L2
open PySem PySem.Spec PyProof.Rows PySem.W Builtin Builtin.ObjectAttr
noncomputable def overV:List Value→Bool
 | .ref _ :: r=>overV r
 | l=>l == vE
theorem overV_pass (self:Value):∀ {l:List Value},overV l=true→refuseLoop self "__setattr__" l=pure ()∧l.contains (.type "object")=true∧l.isEmpty=false
 | .ref c :: r,e=>by
  have e':overV r=true:=by unfold overV at e;exact e
  obtain ⟨h1,h2,_⟩:=overV_pass self e'
  exact ⟨by rw [refuseLoop_ref];exact h1,by rw [List.contains_cons,h2,Bool.or_true],rfl⟩
 | [],e=>by simp [overV] at e
 | .type n :: r,e=>by
  have q:Value.type n :: r=vE:=by unfold overV at e;exact beq_iff_eq.mp e
  rw [q]
  exact ⟨PySem.F.store_ValueError.passes self,by decide,rfl⟩
 | .none :: r,e=>by unfold overV at e;exact absurd (beq_iff_eq.mp e) (by simp)
 | .bool _ :: r,e=>by unfold overV at e;exact absurd (beq_iff_eq.mp e) (by simp)
 | .int _ _ :: r,e=>by unfold overV at e;exact absurd (beq_iff_eq.mp e) (by simp)
 | .float _ _ :: r,e=>by unfold overV at e;exact absurd (beq_iff_eq.mp e) (by simp)
 | .str _ _ :: r,e=>by unfold overV at e;exact absurd (beq_iff_eq.mp e) (by simp)
 | .bytes _ _ :: r,e=>by unfold overV at e;exact absurd (beq_iff_eq.mp e) (by simp)
 | .builtin _ :: r,e=>by unfold overV at e;exact absurd (beq_iff_eq.mp e) (by simp)
 | .ellipsis :: r,e=>by unfold overV at e;exact absurd (beq_iff_eq.mp e) (by simp)
 | .notImplemented :: r,e=>by unfold overV at e;exact absurd (beq_iff_eq.mp e) (by simp)
theorem overV_base:∀ {l:List Value},overV l=true→l.contains (.type "BaseException")=true
 | .ref c :: r,e=>by
  have e':overV r=true:=by unfold overV at e;exact e
  rw [List.contains_cons,overV_base e',Bool.or_true]
 | [],e=>by simp [overV] at e
 | .type n :: r,e=>by
  have q:Value.type n :: r=vE:=by unfold overV at e;exact beq_iff_eq.mp e
  rw [q];decide
 | .none :: r,e=>by unfold overV at e;exact absurd (beq_iff_eq.mp e) (by simp)
 | .bool _ :: r,e=>by unfold overV at e;exact absurd (beq_iff_eq.mp e) (by simp)
 | .int _ _ :: r,e=>by unfold overV at e;exact absurd (beq_iff_eq.mp e) (by simp)
 | .float _ _ :: r,e=>by unfold overV at e;exact absurd (beq_iff_eq.mp e) (by simp)
 | .str _ _ :: r,e=>by unfold overV at e;exact absurd (beq_iff_eq.mp e) (by simp)
 | .bytes _ _ :: r,e=>by unfold overV at e;exact absurd (beq_iff_eq.mp e) (by simp)
 | .builtin _ :: r,e=>by unfold overV at e;exact absurd (beq_iff_eq.mp e) (by simp)
 | .ellipsis :: r,e=>by unfold overV at e;exact absurd (beq_iff_eq.mp e) (by simp)
 | .notImplemented :: r,e=>by unfold overV at e;exact absurd (beq_iff_eq.mp e) (by simp)
structure XHas (K:Frag) (C:Addr) (f:Str):Prop where
 over:(clsIn K C).any (fun cd=>overV cd.mro)=true
 hd:hasDictIn K C=true
 sa:findIn K (.ref C) "__setattr__"=some (some (.builtin "object.__setattr__"))
 ga:findIn K (.ref C) "__getattribute__"=some (some (.builtin "BaseException.__getattribute__"))
 gh:findIn K (.ref C) "__getattr__"=some none
 na:findIn K (.ref C) f=some none
section
variable {prog:Program} {w:World} {A:Around} {E:Value→Shared→Prop} {s:Shared} {K:Frag} {x C:Addr} {o:Obj} {f:Str} {v:Value}
theorem sa_exc {tk:Tok} {R:Result→Shared→Prop} (X:K.In s.heap) (hx:s.heap.get? x=some o) (hc:o.cls=.ref C) (hn:∀ c,o.data≠.cls c) (hd:o.dict=none) (c:XHas K C f)
  (h:∀ h',h'.get? x=some { o with dict:=some s.heap.objs.size }→h'.Ns1 s.heap.objs.size (fun y=>if y=f then some v else none)→(∀ b ob,b≠x→s.heap.get? b=some ob→h'.get? b=some ob)→R (.ok (.ret .none)) { s with heap:=h',toks:=s.toks + 1 }) :
  codeAny (model prog w) A (.call (.builtin "object.__setattr__") ⟨[.ref x,.str f tk,v],[]⟩) R s:=by
 have SF:=PySem.F.store_object
 obtain ⟨cd,hcl,ho⟩:=any_some c.over
 obtain ⟨pass,top,ne⟩:=overV_pass (.ref x) ho
 have I:InstAt s.heap x o C none:=⟨hx,hc,by obtain ⟨_,_,dd,_⟩:=o;cases dd <;> first | rfl | exact absurd rfl (hn _),by rw [hd];trivial⟩
 have sub:Looks (model prog w) s.heap (isInstance (.ref x) (.type "object")) true:=I.type.andThen (looks_mroIn X (by unfold PySem.W.mroIn;rw [hcl,Option.bind_some,if_neg (by rw [ne];decide),top]))
 refine codeAny_call_builtin SF.slot.plain SF.entry (@check_slot (model prog w) _ _ s "object.__setattr__" "object" "__setattr__" (.ref x) [.str f tk,v] [] _ SF.kind SF.split sub (SF.args (.ref x) (.str f tk) v) ?_)
 have hm:Looks (model prog w) s.heap (mroOf (.ref C)) cd.mro:=(looks_clsIn X hcl).andThen .now
 rw [osa_eq,refuse_eq]
 refine wpAny_bind (wpAny_bind (I.type.here (wpAny_bind (hm.here ?_))))
 rw [pass]
 refine wpAny_pure (wpAny_bind (I.type.here (wpAny_bind ((looks_findIn X c.na).here (wpAny_bind (wpAny_pure ?_))))))
 obtain ⟨cd2,hc2,hd2⟩:=any_some c.hd
 obtain ⟨oc,od,dt,sl⟩:=o
 cases hc
 cases hd
 show wpAny _ _ (storeInOwnDict (.ref x) (.ref C) (.str f tk) f v _) _ _ _
 refine wpAny_bind (wpAny_pure (wpAny_bind (wpAny_bind (wpAny_loadPart hx (wpAny_bind ((looks_clsIn X hc2).here ?_))))))
 rw [hd2]
 have hx1:(s.heap.push { cls:=.type "dict",data:=.dict #[] }).get? x=some ⟨.ref C,none,dt,sl⟩:=Heap.get?_push_of_some _ hx
 have hxs:x≠s.heap.objs.size:=Nat.ne_of_lt (Heap.lt_size hx)
 rw [if_neg (by simp)]
 dsimp only
 rw [if_neg (by simp [typeHasDict])]
 split
 ·exact absurd rfl (hn _)
 refine wpAny_bind (wpAny_alloc' (wpAny_bind (wpAny_update' hx1 (wpAny_pure ?_))))
 have hgd:((s.heap.push { cls:=.type "dict",data:=.dict #[] }).update x fun o=>{ cls:=o.cls,dict:=some s.heap.objs.size,data:=o.data,slots:=o.slots }).get? s.heap.objs.size=some { cls:=.type "dict",data:=.dict #[] } :=
  (Heap.get?_update_ne _ _ _ _ hxs.symm).trans (Heap.get?_push_at rfl rfl)
 have hnd:((s.heap.push { cls:=.type "dict",data:=.dict #[] }).update x fun o=>{ cls:=o.cls,dict:=some s.heap.objs.size,data:=o.data,slots:=o.slots }).Ns s.heap.objs.size (fun _=>none) :=
  ⟨_,#[],_,hgd,rfl,fun e he=>absurd he (by simp),fun _=>rfl⟩
 show wpAny _ _ (storeInDict s.heap.objs.size (.str f tk) f v) _ _ _
 unfold storeInDict newKeyGuard
 refine wpAny_bind (wpAny_pure (wpAny_bind (wpAny_nsSet1 (Heap.Ns1.of_empty hnd) fun h' hn' hs=>?_)))
 obtain ⟨oD,esD,epD,hoD,hdD,hcD⟩:=hn'.count (Within.cons f v Within.nil)
 refine wpAny_bind (wpAny_lookBehind hoD (by rw [hdD];exact pastItsLine_dict (Nat.le_trans hcD (by rw [List.length_cons,List.length_nil,sizeLine_eq];lia))) ?_)
 refine wpAny_pure (h h' ?_ hn' fun b ob hbx hb=>?_)
 ·refine (hs.2 x hxs).trans (Heap.get?_update_self _ hx1 ?_)
  have hfr:=(Heap.get?_some_iff.mp hx).2
  cases dt <;> first | rfl | exact hfr
 ·exact (hs.2 b (Nat.ne_of_lt (Heap.lt_size hb))).trans ((Heap.get?_update_ne _ _ _ _ hbx).trans (Heap.get?_push_of_some _ hb))
theorem setattr_exc {Q:Unit→Shared→Prop} (X:K.In s.heap) (hx:s.heap.get? x=some o) (hc:o.cls=.ref C) (hn:∀ c,o.data≠.cls c) (hd:o.dict=none) (c:XHas K C f)
  (h:∀ h' t',h'.get? x=some { o with dict:=some s.heap.objs.size }→h'.Ns1 s.heap.objs.size (fun y=>if y=f then some v else none)→(∀ b ob,b≠x→s.heap.get? b=some ob→h'.get? b=some ob)→Q () { s with heap:=h',toks:=t' }) :
  wpAny (model prog w) A (setAttr (.ref x) f v) Q E s:=by
 have I:InstAt s.heap x o C none:=⟨hx,hc,by obtain ⟨_,_,dd,_⟩:=o;cases dd <;> first | rfl | exact absurd rfl (hn _),by rw [hd];trivial⟩
 exact set_plain X I c.sa (sa_exc (s:={ s with toks:=s.toks + 1 }) X hx hc hn hd c fun h' e1 e2 e3=>h h' _ e1 e2 e3)
theorem getattr_exc {dx:Addr} {mA:Str→Option Value} {expr:Bool} {Q:Value→Shared→Prop} (X:K.In s.heap) (hx:s.heap.get? x=some o) (hc:o.cls=.ref C) (hn:∀ c,o.data≠.cls c) (hd:o.dict=some dx) (n:s.heap.Ns1 dx mA) (c:XHas K C f)
  (hv:mA f=some v) (hv':handedIn v=true) (h:Q v { s with toks:=s.toks + 1 }):wpAny (model prog w) A (getAttr (.ref x) f expr) Q E s:=by
 obtain ⟨od,ho,hl⟩:=lookIn_ns n
 have I:InstAt s.heap x o C (some od):=⟨hx,hc,by obtain ⟨_,_,dd,_⟩:=o;cases dd <;> first | rfl | exact absurd rfl (hn _),by rw [hd];exact ho⟩
 have FB:=PySem.F.attrBase_ValueError
 obtain ⟨cd,hcl,hov⟩:=any_some c.over
 obtain ⟨hh,g,d,t,os⟩:=s
 have L0:=I.type (M:=model prog w)
 have L1:=looks_findIn (M:=model prog w) X c.ga
 have L2:=looks_findIn (M:=model prog w) X c.gh
 have L3:=looks_find (M:=model prog w) X I (findObj_own (name:=f) c.hd c.na rfl (by rw [hl,hv]))
 have nq:(Value.builtin "BaseException.__getattribute__" == Value.builtin "object.__getattribute__")=false:=by decide +kernel
 have nq1:(onTheHeap (Value.ref C) && Value.builtin "BaseException.__getattribute__" == Value.builtin "object.__getattribute__")=false:=by rw [nq];rfl
 unfold getAttr getAttrBy
 refine wpAny_bind (wpAny_mkText (wpAny_holding (wpAny_bind (L0.at (wpAny_bind (L1.at ?_))))))
 dsimp only
 rw [nq1,if_neg (by decide)]
 unfold getAttrByItsOwn hookBefore
 rw [if_pos (show onTheHeap (Value.ref C)=true from rfl)]
 refine wpAny_bind (L2.at (wpAny_bind (wpAny_attempt (wpAny_holding ?_))))
 unfold callGetattribute
 rw [if_neg (by cases expr <;> decide)]
 unfold boundAndCalled
 rw [FB.ga.bind (.ref x)]
 refine wpAny_bind (wpAny_pure (wpAny_call ?_))
 have sub:Looks (model prog w) hh (isInstance (.ref x) (.type "BaseException")) true:=L0.andThen (looks_mroIn X (by unfold PySem.W.mroIn;rw [hcl,Option.bind_some,if_neg (by rw [(overV_pass .none hov).2.2];decide),overV_base hov]))
 refine codeAny_call_builtin FB.ga.plain F.entry_bexc_ga (@check_slot (model prog w) _ _ _ "BaseException.__getattribute__" "BaseException" "__getattribute__" (.ref x) [.str f t] [] _ (by decide +kernel) (by decide +kernel) sub (F.args_bexc_ga (.ref x) (.str f t)) ?_)
 unfold Builtin.«object.__getattribute__»
 refine wpAny_bind (wpAny_pure (wpAny_bind (wpAny_pure (wpAny_bind (L0.at (wpAny_bind (L3.at (wpAny_pure ?_))))))))
 show wpAny _ _ (handedOut v) _ _ _
 rw [handedOut_of hv'];exact wpAny_pure h
end
end L2
set_option Elab.async false
set_option linter.all false
set_option maxRecDepth 100000
set_option maxHeartbeats 4000000
namespace L2
open PySem PySem.Spec PyProof.Rows PySem.W
noncomputable abbrev exO (C t:Addr) (d:Option Addr):Obj:={ cls:=.ref C,dict:=d,data:=.fields #[.ref t,.none,.none,.none,.bool false,.none] }
noncomputable abbrev tpO (vs:List Value):Obj:={ cls:=.type "tuple",data:=.seq vs.toArray }
theorem ns_some_in {K:Frag} {h:Heap} {N:Addr} {m:Str→Option Value} {n:Str} {v:Value} (X:K.In h) (G:h.Ns N m) (e:nsIn K N n=some (some v)):m n=some v:=by
 obtain ⟨o,es,ep,ho,hd,_,hf⟩:=G
 unfold nsIn at e
 split at e
 ·rename_i q
  have z:=X _ _ q
  rw [ho] at z
  cases z
  cases hd
  split at e
  ·rename_i he
   rw [←hf]
   unfold nsFind findBy
   rw [←Array.find?_toList,he]
   simpa using e
  ·split at e <;> cases e
 ·cases e
noncomputable def excInI (K:Frag) (C:Addr) (newId:String) (fI:Addr):Bool:=(K.lookup C).any fun o=>o.cls == .type "type" && (match o.data with
 | .cls cd=>(match cd.mro with
  | v :: bm=>v == .ref C && tailIn K vE bm
  | []=>false) && o.slots.size == 6 && (o.slots.toList[4]?).join == some (.builtin newId) && !cd.hasDel && nsOkIn K cd.ns && nsIn K cd.ns "__init__" == some (some (.ref fI))
 | _=>false)
theorem own_objI {K:Frag} {h:Heap} {C fI:Addr} {newId:String} (X:K.In h) (q:excInI K C newId fI=true):∃ bm N nm qn bs hdct sn sub ab col dd k0 k1 k2 k3 k5 mN,
  K.lookup C=some (excClassObj nm qn C N bs bm hdct sn sub ab col dd k0 k1 k2 k3 k5 newId)∧h.Ns N mN∧mN "__init__"=some (.ref fI)∧OwnTail h vE bm:=by
 obtain ⟨o,look,q⟩:=any_some q
 obtain ⟨oc,dd,dt,⟨sl⟩⟩:=o
 simp only [Bool.and_eq_true,beq_iff_eq] at q
 obtain ⟨rfl,q⟩:=q
 cases dt with
 | cls cd =>
  simp only [Bool.and_eq_true,beq_iff_eq,Bool.not_eq_true'] at q
  obtain ⟨⟨⟨⟨⟨q1,q2⟩,q3⟩,q4⟩,q5⟩,q6⟩:=q
  obtain ⟨nm,bs,mro,ns,qn,hd,sn,sub,ab,col,del⟩:=cd
  dsimp only at q1 q4 q5 q6
  cases mro with
  | nil=>cases q1
  | cons v bm =>
   simp only [Bool.and_eq_true,beq_iff_eq] at q1
   obtain ⟨rfl,q1⟩:=q1
   subst q4
   match sl,q2 with
   | [k0,k1,k2,k3,k4,k5],_ =>
    have e4:k4=some (.builtin newId):=by simpa using q3
    subst e4
    exact ⟨bm,ns,nm,qn,bs,hd,sn,sub,ab,col,dd,k0,k1,k2,k3,k5,_,look,.of_isNs (isNs_of_in X q5),ns_some_in X (.of_isNs (isNs_of_in X q5)) q6,tail_of_in X q1⟩
 | _=>cases q
section
variable {prog:Program} {w:World} {A:Around} {E:Value→Shared→Prop} {h:Heap} {g:Array GenState} {d:PySem.Drawn} {t:Nat} {os:PySem.OsState}
variable {nm q:Str} {C N fI:Addr} {bs bm bmB:List Value} {hdct:Bool} {sn:List Str} {sub:List Value} {ab:Bool} {col:Option Bool} {dd:Option Addr} {k0 k1 k2 k3 k5:Option Value} {B newId initId:String} {mN:Str→Option Value} {us:List Value} {oI:Obj}
theorem cls_call {Q:Fin→Shared→Prop} (F:ExcBaseFacts B newId initId bmB) (T:OwnTail h bmB bm) (gC:h.get? C=some (excClassObj nm q C N bs bm hdct sn sub ab col dd k0 k1 k2 k3 k5 newId)) (gN:h.Ns N mN) (gi:mN "__init__"=some (.ref fI))
  (gf:h.get? fI=some oI) (cf:oI.cls=.type "function") (hl:us.length≤sizeLine)
  (k:wpAny (model prog w) A (call (.ref fI) (.ref (h.objs.size + 1) :: us)) (fun r s'=>r=.none∧Q (.done (.ret (.ref (h.objs.size + 1)))) s') E ⟨(h.push (tpO us)).push (exO C h.objs.size none),g,d,t,os⟩) :
  wpAny (model prog w) A (Builtin.«type.__call__» ⟨.ref C :: us,[]⟩) Q E ⟨h,g,d,t,os⟩:=by
 repeat (first | with_reducible refine wpAny_loadPart_at gC ?_ | with_reducible refine wpAny_madeBy_exc gC ?_ | wp_step)
 refine codeAny_call_builtin_code (Code.quiet_builtin _ F.quiet) (wpAny_check_new_subT F T gC (codeAny_exc_new_subT F T gC ?_ hl))
 have kp:∀ b o,h.get? b=some o→((h.push (tpO us)).push (exO C h.objs.size none)).get? b=some o:=fun b o e=>Heap.get?_push_of_some _ (Heap.get?_push_of_some _ e)
 have gC1:=kp _ _ gC
 have gf1:=kp _ _ gf
 have gN1:((h.push (tpO us)).push (exO C h.objs.size none)).Ns N mN:=let ⟨o,es,ep,e,r⟩:=gN;⟨o,es,ep,kp _ _ e,r⟩
 have T1:=T.keeps kp
 have ge:((h.push (tpO us)).push (exO C h.objs.size none)).get? (h.objs.size + 1)=some (exO C h.objs.size none):=by heap_get
 have self:(Value.ref C :: bm).contains (.ref C)=true:=by simp
 show wpAny _ _ _ _ _ _
 unfold isInstance
 repeat (first | with_reducible refine wpAny_loadPart_at ge ?_ | (with_reducible refine wpAny_isSubtype_exc gC1 ?_;rw [self]) | wp_step)
 show wpAny _ _ (typeLookup (.ref C) _) _ _ _
 refine wpAny_typeLookup_tail gC1 gN1 T1 F.mroIs F.init.lookup ?_
 rw [gi]
 refine wpAny_holding (wpAny_bind ?_)
 unfold bindSpecial
 refine wpAny_bind (wpAny_typeOf (T:="function") ⟨_,gf1,cf⟩ ?_)
 rw [if_pos (by decide)]
 refine wpAny_pure (wpAny_bind (wpAny_mono k (fun r s' hr=>?_) fun _ _ x=>x))
 obtain ⟨rfl,hQ⟩:=hr
 wp_walk
 exact hQ
theorem call_cls {Q:Value→Shared→Prop} (F:ExcBaseFacts B newId initId bmB) (T:OwnTail h bmB bm) (gC:h.get? C=some (excClassObj nm q C N bs bm hdct sn sub ab col dd k0 k1 k2 k3 k5 newId)) (gN:h.Ns N mN) (gi:mN "__init__"=some (.ref fI))
  (gf:h.get? fI=some oI) (cf:oI.cls=.type "function") (hl:us.length≤sizeLine)
  (k:wpAny (model prog w) (A.under (.builtin "type.__call__" ⟨.ref C :: us,[]⟩)) (call (.ref fI) (.ref (h.objs.size + 1) :: us)) (fun r s'=>r=.none∧Q (.ref (h.objs.size + 1)) s') E ⟨(h.push (tpO us)).push (exO C h.objs.size none),g,d,t,os⟩) :
  wpAny (model prog w) A (call (.ref C) us) Q E ⟨h,g,d,t,os⟩:=by
 have f1:=tc_lookup
 have f2:=tc_bind (.ref C)
 have ty:(⟨h,g,d,t,os⟩:Shared).TypeIs (.ref C) "type":=⟨_,gC,rfl⟩
 refine wpAny_call (codeAny_of_tree ?_)
 show wpAny _ _ (callAny (.ref C) _) _ _ _
 repeat (any_goals (first | assumption | with_reducible refine wpAny_loadPart_at gC ?_ | wp_step))
 exact ⟨rfl,codeAny_call_builtin_at (Code.quiet_builtin _ (by decide +kernel)) entry_typeCall (wpAny_check_type_call_sub gC (cls_call F T gC gN gi gf cf hl k))⟩
end
section
variable {M:Model} {A:Around} {E:Value→Shared→Prop} {env:Env} {nm q:Str} {C N:Addr} {bs bm:List Value} {hdct:Bool} {sn:List Str} {sub:List Value} {ab:Bool} {col:Option Bool} {dd:Option Addr} {k0 k1 k2 k3 k5:Option Value} {newId:String}
theorem raise_obj {s:Shared} {x:Sem Value} {Q:Flow→Shared→Prop} (hb:bm.contains (.type "BaseException")=true) (hh:A.handled=none)
  (h:wpAny M A x (fun v s1=>∃ e t d,v=.ref e∧s1.heap.get? C=some (excClassObj nm q C N bs bm hdct sn sub ab col dd k0 k1 k2 k3 k5 newId)∧s1.heap.get? e=some (exO C t d)∧E (.ref e) s1) E s) :
  wpAny M A (raiseStmt env (some x) none) Q E s:=by
 have isB:(Value.ref C :: bm).contains (.type "BaseException")=true:=by rw [List.contains_cons,hb,Bool.or_true]
 unfold raiseStmt
 refine wpAny_bind (wpAny_mono h (fun v s1 ⟨e,t,d,ev,gC,ge,hE⟩=>?_) fun _ _ x=>x)
 subst ev
 obtain ⟨hp,gn,dr,tk,os⟩:=s1
 repeat (first | with_reducible refine wpAny_loadPart_at ge ?_ | with_reducible refine wpAny_loadPart_at gC ?_ | (with_reducible refine wpAny_isSubtype_exc gC ?_;rw [isB]) | wp_step)
 exact wpAny_raiseNew_none hh hE
end
section
variable {prog:Program} {w:World} {A:Around} {E:Value→Shared→Prop} {s:Shared} {env:Env}
variable {nm q:Str} {C N fI:Addr} {bs bm bmB:List Value} {hdct:Bool} {sn:List Str} {sub:List Value} {ab:Bool} {col:Option Bool} {dd:Option Addr} {k0 k1 k2 k3 k5:Option Value} {B newId initId:String} {mN:Str→Option Value}
theorem raise_call {x:Str} {np cpos pos:Pos} {args:List Expr} {Q:Flow→Shared→Prop} (F:ExcBaseFacts B newId initId bmB) (hb:bm.contains (.type "BaseException")=true) (hh:A.handled=none) (hpl:(backTo cpos (starEach args env)).any (·.1)=false)
  (h:wpAny (model prog w) A (eval (.Name x np) env) (fun c s1=>c=.ref C∧wpAny (model prog w) A (evalArgs (.ref C) true (backTo cpos (starEach args env)) [])
   (fun a s2=>a.kw=[]∧a.pos.length≤sizeLine∧s2.heap.get? C=some (excClassObj nm q C N bs bm hdct sn sub ab col dd k0 k1 k2 k3 k5 newId)∧s2.heap.Ns N mN∧mN "__init__"=some (.ref fI)∧OwnTail s2.heap bmB bm∧(∃ oI,s2.heap.get? fI=some oI∧oI.cls=.type "function") ∧
    wpAny (model prog w) (A.under (.builtin "type.__call__" ⟨.ref C :: a.pos,[]⟩)) (call (.ref fI) (.ref (s2.heap.objs.size + 1) :: a.pos))
     (fun r s3=>r=.none∧s3.heap.get? C=some (excClassObj nm q C N bs bm hdct sn sub ab col dd k0 k1 k2 k3 k5 newId)∧(∃ t d,s3.heap.get? (s2.heap.objs.size + 1)=some (exO C t d))∧E (.ref (s2.heap.objs.size + 1)) s3) E { s2 with heap:=(s2.heap.push (tpO a.pos)).push (exO C s2.heap.objs.size none) }) E s1) E s) :
  wpAny (model prog w) A (exec (.Raise (some (.Call (.Name x np) args [] cpos)) none pos) env) Q E s:=by
 rw [arm_exec_Raise]
 simp only [evalOpt,Option.map]
 refine wpAny_bind (wpAny_standAt (raise_obj (C:=C) (nm:=nm) (q:=q) (N:=N) (bs:=bs) (bm:=bm) (hdct:=hdct) (sn:=sn) (sub:=sub) (ab:=ab) (col:=col) (dd:=dd) (k0:=k0) (k1:=k1) (k2:=k2) (k3:=k3) (k5:=k5) (newId:=newId) hb hh ?_))
 refine wpAny_bind (wpAny_mono (wpAny_Call_ofName (wpAny_mono h (fun c s1 h1=>?_) fun _ _ x=>x)) (fun v s3 h3=>wpAny_bind (wpAny_standAt (wpAny_pure h3))) fun _ _ x=>x)
 obtain ⟨rfl,h1⟩:=h1
 unfold callWith
 refine wpAny_bind (wpAny_holding (wpAny_mono h1 (fun a s2 h2=>wpAny_bind (wpAny_standAt ?_)) fun _ _ x=>x))
 obtain ⟨ap,ak⟩:=a
 obtain ⟨e0,hl,gC,gN,gi,T,⟨oI,gf,cf⟩,h2⟩:=h2
 obtain rfl:ak=[]:=e0
 obtain ⟨hp,gn,dr,tk,os⟩:=s2
 simp only [hpl]
 refine wpAny_bind (wpAny_keeperOf_exc gC ?_)
 refine wpAny_bind (call_cls F T gC gN gi gf cf hl (wpAny_mono h2 (fun r s3 h3=>⟨h3.1,wpAny_bind (wpAny_holding (wpAny_point (wpAny_pure ?_)))⟩) fun _ _ x=>x))
 obtain ⟨_,gC3,⟨t,d,ge⟩,hE⟩:=h3
 exact ⟨_,t,d,rfl,gC3,ge,hE⟩
end
end L2
set_option Elab.async false
set_option linter.all false
set_option maxRecDepth 100000
set_option maxHeartbeats 4000000
namespace L2
open PySem PySem.Spec PyProof.Rows PySem.W
noncomputable def XO (a C t:Addr) (d:Option Addr):HO:=.ext fun h=>h.get? a=some (exO C t d)
section
variable {X:Cx} {pins:List (Addr×Obj)} {σ:St} {H:Hp} {s:Shared} {a C t dx:Addr} {d:Option Addr} {o:HO}
theorem xo_ok {P:Program} {w:World} {h:Heap} (e:h.get? a=some (exO C t d)):ObjOk P w H h a (XO a C t d):=⟨e,⟨_,e⟩,fun _ _ h1 k=>k _ h1⟩
theorem Inv.track (I:Inv X pins σ H s) (ap:Apart X pins H a) (new:ObjOk X.prog X.w (upd H a o) s.heap a o):Inv X pins σ (upd H a o) s:=by
 have ne:∀ b u,H b=some u→b≠a:=fun b u e z=>by rw [z,ap.free] at e;cases e
 exact {
  ok:=I.ok,os:=I.os,bare:=I.bare
  base:=⟨I.base.keep,I.base.slot,fun b u e n hx=>by rw [upd_ne (fun z=>by rw [z,ap.new] at e;cases e)];exact I.base.free b u e n hx,I.base.there,fun b xs e=>by rw [upd_ne (ne b _ (I.base.tups b xs e))];exact I.base.tups b xs e,
   fun b u v e=>by rw [upd_ne (ne b _ (I.base.frzs b u v e))];exact I.base.frzs b u v e,fun b ps e=>by
    obtain ⟨more,q⟩:=I.base.tbls b ps e
    exact ⟨more,by rw [upd_ne (ne b _ q)];exact q⟩⟩
  loc:=I.loc,cell:=I.cell
  free:=by rw [upd_ne ap.loc.symm];exact I.free
  freeC:=fun x c e=>by rw [upd_ne (ap.cell x c e)];exact I.freeC x c e
  pin:=fun p hp=>by
   obtain ⟨e,n,r⟩:=I.pin p hp
   exact ⟨e,by rw [upd_ne (ap.pin p hp)];exact n,r⟩
  hok:=fun b u e=>by
   by_cases hb:b=a
   ·subst hb;rw [upd_same] at e;cases e;exact new
   ·rw [upd_ne hb] at e
    exact (I.hok b u e).stay (fun _ _ _ q=>q) (fun c q=>by rw [upd_ne (ne c _ q)];exact q) fun c xs q=>by rw [upd_ne (ne c _ q)];exact q
  len:=I.len }
noncomputable def offH (H:Hp) (a:Addr):Hp:=fun b=>if b=a then none else H b
theorem offH_ne {b:Addr} (h:b≠a):offH H a b=H b:=if_neg h
theorem Inv.drop {φ:Heap→Prop} (I:Inv X pins σ H s) (ha:H a=some (.ext φ)):Inv X pins σ (offH H a) s:=by
 have ne:∀ b u,H b=some u→(∀ φ,u≠.ext φ)→b≠a:=fun b u e n z=>by rw [z,ha] at e;cases e;exact n _ rfl
 have non:∀ b,H b=none→offH H a b=none:=fun b e=>by
  unfold offH;split
  ·rfl
  ·exact e
 exact {
  ok:=I.ok,os:=I.os,bare:=I.bare
  base:=⟨I.base.keep,I.base.slot,fun b u e n hx=>non b (I.base.free b u e n hx),I.base.there,fun b xs e=>by rw [offH_ne (ne b _ (I.base.tups b xs e) fun _ z=>nomatch z)];exact I.base.tups b xs e,
   fun b u v e=>by rw [offH_ne (ne b _ (I.base.frzs b u v e) fun _ z=>nomatch z)];exact I.base.frzs b u v e,fun b ps e=>by
    obtain ⟨more,q⟩:=I.base.tbls b ps e
    exact ⟨more,by rw [offH_ne (ne b _ q fun _ z=>nomatch z)];exact q⟩⟩
  loc:=I.loc,cell:=I.cell,free:=non _ I.free,freeC:=fun x c e=>non _ (I.freeC x c e)
  pin:=fun p hp=>by
   obtain ⟨e,n,r⟩:=I.pin p hp
   exact ⟨e,non _ n,r⟩
  hok:=fun b u e=>by
   have hb:b≠a:=fun z=>by rw [z] at e;unfold offH at e;rw [if_pos rfl] at e;cases e
   rw [offH_ne hb] at e
   exact (I.hok b u e).stay (fun _ _ _ q=>q) (fun c q=>by rw [offH_ne (ne c _ q fun _ z=>nomatch z)];exact q) fun c xs q=>by rw [offH_ne (ne c _ q fun _ z=>nomatch z)];exact q
  len:=I.len }
end
noncomputable def sXF (K:Frag) (ta tv:TE) (f:Str):TS:=fun D σ H=>tv σ H fun y H1=>ta σ H1 fun x H2=>∃ a C t,x=.ref a∧H2 a=some (XO a C t none)∧XHas K C f∧∀ dx,H2 dx=none→D.nx σ (upd (upd H2 a (XO a C t (some dx))) dx (.xd [(f,y)]))
section
variable {X:Cx} {o value:Expr} {f:Str} {pos pos':Pos} {ta tv:TE}
theorem ps_xfld (hex:X.ex=[]) (ha:PE X o ta) (hv:PE X value tv) (hs:swapsWith value (some (.Attribute o f pos')) pos.line X.env=pure false):PS X (.Assign [.Attribute o f pos'] value pos) (sXF X.K ta tv f):=by
 intro pins s σ H D I h
 refine plainObj_wpAny_Assign_Attribute (thn (hv pins s σ H _ I h) fun u s1 ⟨y,H1,I1,ry,q⟩=>thn (ha pins s1 σ H1 _ I1 q) fun ov s2 ⟨x,H2,I2,rx,a,C,t,ex,ea,c,k⟩=>?_) hs
 subst ex
 obtain rfl:ov=Value.ref a:=rx
 have ge:s2.heap.get? a=some (exO C t none):=(I2.hok a _ ea).1
 have nd:H2 s2.heap.objs.size=none:=I2.hok.fresh (Nat.le_refl _)
 refine setattr_exc I2.kIn ge rfl (fun c z=>nomatch z) rfl c fun h' t' e1 e2 e3=>⟨σ,_,?_,k _ nd⟩
 have ne:s2.heap.objs.size≠a:=(ne_of_none ea nd).symm
 have J:=I2.write (x:=a) (e:=a) (t':=t') (o:=XO a C t (some s2.heap.objs.size)) (by rw [ea];exact True.intro) (.inl rfl) (fun b u hb q=>e3 b u hb q) ⟨_,e1⟩ (xo_ok e1)
 have nd2:(upd H2 a (XO a C t (some s2.heap.objs.size))) s2.heap.objs.size=none:=by rw [upd_ne ne];exact nd
 refine J.track (I2.apart hex (Heap.get?_none_of_le (Nat.le_refl _)) nd2) ⟨_,e2,fun g=>?_⟩
 by_cases hg:g=f
 ·subst hg
  simp only [List.lookup,beq_self_eq_true,if_true]
  exact ry
 ·have hb:(g == f)=false:=beq_eq_false_iff_ne.mpr hg
  simp only [List.lookup,hb,if_neg hg]
  trivial
end
noncomputable def spInit (K:Frag) (f:Str):Sp:=fun vs H Q _=>∃ a C t v,vs=[.ref a,v]∧H a=some (XO a C t none)∧XHas K C f∧∀ dx,H dx=none→Q .non (upd (upd H a (XO a C t (some dx))) dx (.xd [(f,v)]))
theorem fn_init {CX:CXT} {P:Program} {w:World} {K:Frag} {mg:Str→Option Value} {base:Heap} {fI:Addr} {qual f p:Str} {st:Stmt} {kV doc pm cdv ct oc:Value} {an od:Option Addr} {osl:Array (Option Value)} {p1 p2 p3 p4:Pos}
  (lk:K.lookup fI=some ⟨oc,od,.func (fnOf "__init__" qual (defArgs st) (defBody st) (defScope st) .none kV doc pm an cdv ct),osl⟩) (hcd:codeIn K cdv qual=true) (S:FnScope ["self",p] ["self",p] (defScope st))
  (hb:defBody st=[.Assign [.Attribute (.Name "self" p1) f p2] (.Name p p3) p4]) (hd:(p == ("__debug__":Str))=false) (hc:(p == ("__classdict__":Str))=false) :
  FnOk P w K mg base CX 1 fI (fnOf "__init__" qual (defArgs st) (defBody st) (defScope st) .none kV doc pm an cdv ct) ["self",p] (spInit K f):=by
 have vis:∀ y∈[("self":Str),p],Vis (defScope st) y:=fun y hy=>(S.par y hy).imp_right Or.inl
 refine fn_of lk hcd S (fun vs H Q E h=>?_) fun A outer s H vs Q E hr h=>?_
 ·obtain ⟨_,_,_,_,rfl,_⟩:=h;rfl
 ·obtain ⟨a,C,t,v,rfl,ea,c,k⟩:=h
  rw [hb]
  refine ⟨_,pss_one (ps_xfld rfl (pe_var (i:=0) rfl (vis _ (by simp)) (by decide) (by decide)) (pe_var (i:=1) rfl (vis _ (by simp)) hd hc) rfl),?_⟩
  exact ⟨v,rfl,.ref a,rfl,a,C,t,rfl,ea,c,k⟩
structure XClsV (K:Frag) (mg:Str→Option Value) (x f:Str) (C:Addr):Prop where
 bd:mg x=some (.ref C)
 has:XHas K C f
 init:∃ (fI:Addr) (fd:FuncData) (p:Str),excInI K C "ValueError.__new__" fI=true∧isFn K (.ref fI)=true∧Binds K fd ["self",p] []∧∀ (P:Program) (w:World) (base:Heap) (CX:CXT),FnOk P w K mg base CX 1 fI fd ["self",p] (spInit K f)
noncomputable def RaisesV (X:Cx) (E:XK):Prop:=∀ (pins:List (Addr×Obj)) (σ:St) (H:Hp) (s:Shared) (e C t:Addr) (d:Option Addr),Inv X pins σ H s→s.heap.get? e=some (exO C t d)→Apart X pins H e→E (.ref C) d H→X.xe (.ref e) s
theorem raisesV_cxOf {P:Program} {w:World} {K:Frag} {mg:Str→Option Value} {base:Heap} {N:List Str} {qual:Str} {sc:Scope} {f:Addr} {cd:Value} {A:Around} {outer:List Env} {s₀:Shared} {H₀:Hp} {E:XK}:RaisesV (cxE P w K mg base N qual sc f cd A outer s₀ H₀ E) E :=
 fun pins σ H s e C t d I ge ap hE=>leave_ok (xs:=[e]) own_cxOf I (.inl ⟨rfl,_,_,ge,rfl,rfl,rfl,rfl⟩) (fun b hb=>by rw [List.mem_singleton.mp hb];exact ap) hE
section
variable {X:Cx}
noncomputable def tRaiseV (C:Addr) (f:Str) (E:XK) (ta:TE):TS:=fun _ σ H=>ta σ H fun v H1=>∀ dx,H1 dx=none→E (.ref C) (some dx) (upd H1 dx (.xd [(f,v)]))
theorem ps_raiseV {x f:Str} {C:Addr} {E:XK} {ta:TE} {e0:Expr} {np cpos pos:Pos} (hc:X.calm=true) (hex:X.ex=[]) (hR:RaisesV X E) (xc:XClsV X.K X.mg x f C) (hr:Room 2 X.A) (ha:PE X e0 ta) (hg:Gl X x:=by rfl) (hdb:(x == ("__debug__":Str))=false:=by decide +kernel)
  (hs:starEach [e0] X.env=(false,eval e0 X.env) :: starEach [] X.env:=by rfl) (hpl:(backTo cpos (starEach [e0] X.env)).any (·.1)=false:=by rfl):PS X (.Raise (some (.Call (.Name x np) [e0] [] cpos)) none pos) (tRaiseV C f E ta):=by
 intro pins s σ H D I h
 obtain ⟨fI,fd,p,ok,fn,hb,F⟩:=xc.init
 obtain ⟨bm,N,nm,qn,bs,hdct,sn,sub,ab,col,dd,k0,k1,k2,k3,k5,mN,look,hN,gi,tl⟩:=own_objI I.mod.kin ok
 refine raise_call (C:=C) (fI:=fI) (nm:=nm) (q:=qn) (N:=N) (bs:=bs) (bm:=bm) (hdct:=hdct) (sn:=sn) (sub:=sub) (ab:=ab) (col:=col) (dd:=dd) (k0:=k0) (k1:=k1) (k2:=k2) (k3:=k3) (k5:=k5) (mN:=mN) PySem.F.excBase_ValueError (tl.hasType (by decide +kernel)) (I.ok.hd hc) hpl (ld_glob I hg xc.bd ⟨rfl,?_⟩ hdb)
 have hA:=(pa_cons ha pa_nil hs) cpos pins s σ H (fun vs H1=>∃ v,vs=[v]∧∀ dx,H1 dx=none→E (.ref C) (some dx) (upd H1 dx (.xd [(f,v)]))) I (by
  show ta σ H _
  refine Eq.mp ?_ h
  unfold tRaiseV
  congr 1
  funext v H1
  simp [tNil])
 rw [hs] at hA ⊢
 refine Calls.evalArgs_plain (thn hA fun us s2 ⟨vs,H1,I2,r,v,ev,hE⟩=>?_)
 subst ev
 obtain ⟨u,rest,eu,ru,rr⟩:∃ u rest,us=u :: rest∧RelV v u∧rest=[]:=by
  cases r with
  | cons ru rr=>cases rr;exact ⟨_,_,rfl,ru,rfl⟩
 subst rr eu
 have kp:∀ b o,s2.heap.get? b=some o→((s2.heap.push (tpO [u])).push (exO C s2.heap.objs.size none)).get? b=some o:=fun b o e=>Heap.get?_push_of_some _ (Heap.get?_push_of_some _ e)
 have ge:((s2.heap.push (tpO [u])).push (exO C s2.heap.objs.size none)).get? (s2.heap.objs.size + 1)=some (exO C s2.heap.objs.size none):=by heap_get
 have I3:=I2.laid (a:=s2.heap.objs.size + 1) (o:=XO (s2.heap.objs.size + 1) C s2.heap.objs.size none) (h':=(s2.heap.push (tpO [u])).push (exO C s2.heap.objs.size none)) (t':=s2.toks) kp (Nat.le_succ _) (xo_ok ge)
 obtain ⟨oI,gI,cI⟩:∃ oI,X.K.lookup fI=some oI∧oI.cls=.type "function":=by
  obtain ⟨oI,q1,q2⟩:=Option.map_eq_some_iff.mp (show (X.K.lookup fI).map (·.cls)=some (.type "function") from beq_iff_eq.mp fn)
  exact ⟨oI,q1,q2⟩
 refine ⟨rfl,(by show 1≤16777216;decide),I2.kIn _ _ look,hN.keeps I2.bk,gi,tl.keeps I2.bk,⟨oI,I2.kIn _ _ gI,cI⟩,?_⟩
 have ne1:H1 (s2.heap.objs.size + 1)=none:=I2.hok.fresh (Nat.le_succ _)
 refine wpAny_call (codeAny_mono ((F X.prog X.w X.base CX0).run _ X.stack _ _ ⟨[.ref (s2.heap.objs.size + 1),u],[]⟩ [.ref (s2.heap.objs.size + 1),u] [.ref (s2.heap.objs.size + 1),v]
  (fun z H'=>z=.non∧∃ dx,H1 dx=none∧dx≠s2.heap.objs.size + 1∧H'=upd (upd H1 (s2.heap.objs.size + 1) (XO (s2.heap.objs.size + 1) C s2.heap.objs.size (some dx))) dx (.xd [(f,v)])) E0 (hr.make C [u] []) (I3.env0.make C [u] [])
  (hb _ [.ref (s2.heap.objs.size + 1),u] I3.kIn rfl) (.cons rfl (.cons ru .nil)) ⟨_,C,_,v,rfl,upd_same,xc.has,fun dx hdx=>⟨rfl,dx,?_,?_,?_⟩⟩) fun res s' hq=>?_)
 ·have:dx≠s2.heap.objs.size + 1:=fun z=>by rw [z,upd_same] at hdx;cases hdx
  rwa [upd_ne this] at hdx
 ·exact fun z=>by rw [z,upd_same] at hdx;cases hdx
 ·rw [upd_upd]
 cases res with
 | error ev=>exact hq.elim
 | ok fl =>
  cases fl with
  | ret z =>
   obtain ⟨zv,H',I4,rz,ez,dx,hdx,ndx,eH⟩:=I3.after hq
   subst ez eH
   obtain rfl:z=Value.none:=rz
   have e4:(upd (upd H1 (s2.heap.objs.size + 1) (XO (s2.heap.objs.size + 1) C s2.heap.objs.size (some dx))) dx (.xd [(f,v)])) (s2.heap.objs.size + 1)=some (XO (s2.heap.objs.size + 1) C s2.heap.objs.size (some dx)):=by rw [upd_ne ndx.symm,upd_same]
   have ge4:s'.heap.get? (s2.heap.objs.size + 1)=some (exO C s2.heap.objs.size (some dx)):=(I4.hok _ _ e4).1
   have I5:=I4.drop e4
   have eH:offH (upd (upd H1 (s2.heap.objs.size + 1) (XO (s2.heap.objs.size + 1) C s2.heap.objs.size (some dx))) dx (.xd [(f,v)])) (s2.heap.objs.size + 1)=upd H1 dx (.xd [(f,v)]):=by
    funext b
    by_cases hb:b=s2.heap.objs.size + 1
    ·subst hb
     rw [upd_ne ndx.symm,ne1]
     exact if_pos rfl
    ·rw [offH_ne hb]
     by_cases hd:b=dx
     ·subst hd;rw [upd_same,upd_same]
     ·rw [upd_ne hd,upd_ne hb,upd_ne hd]
   rw [eH] at I5
   refine ⟨rfl,I4.kIn _ _ look,⟨_,_,ge4⟩,hR pins σ _ s' _ C _ (some dx) I5 ge4 (I2.apart hex (Heap.get?_none_of_le (Nat.le_succ _)) ?_) (hE dx hdx)⟩
   rw [upd_ne ndx.symm];exact ne1
  | next=>exact hq.elim
  | brk=>exact hq.elim
  | cont=>exact hq.elim
end
end L2
set_option Elab.async false
set_option linter.all false
set_option maxRecDepth 100000
set_option maxHeartbeats 4000000
namespace L2
open PySem PySem.Spec PyProof.Rows PySem.W
noncomputable def xok (K:Frag) (C:Addr):Prop:=excIn K C vE "ValueError.__new__"=true∨∃ fI,excInI K C "ValueError.__new__" fI=true
theorem own_any {K:Frag} {h:Heap} {C:Addr} (X:K.In h) (q:xok K C):∃ bm N nm qn bs hdct sn sub ab col dd k0 k1 k2 k3 k5,K.lookup C=some (excClassObj nm qn C N bs bm hdct sn sub ab col dd k0 k1 k2 k3 k5 "ValueError.__new__")∧OwnTail h vE bm:=by
 rcases q with q | ⟨fI,q⟩
 ·obtain ⟨bm,N,nm,qn,bs,hdct,sn,sub,ab,col,dd,k0,k1,k2,k3,k5,mN,look,_,_,tl⟩:=own_obj X q
  exact ⟨bm,N,nm,qn,bs,hdct,sn,sub,ab,col,dd,k0,k1,k2,k3,k5,look,tl⟩
 ·obtain ⟨bm,N,nm,qn,bs,hdct,sn,sub,ab,col,dd,k0,k1,k2,k3,k5,mN,look,_,_,tl⟩:=own_objI X q
  exact ⟨bm,N,nm,qn,bs,hdct,sn,sub,ab,col,dd,k0,k1,k2,k3,k5,look,tl⟩
noncomputable abbrev Cx.markE (X:Cx) (a:Addr) (oe:Obj):Cx:={ X with A:=X.A.mark (some (.ref a)),calm:=false,xe:=fun _ _=>False,pn:=(a,oe) :: X.pn }
section
variable {X:Cx} {pins:List (Addr×Obj)} {σ σ':St} {H:Hp} {s:Shared} {a:Addr} {oe:Obj}
theorem Inv.markE (I:Inv X pins σ H s) (ap:Apart X pins H a) (e:s.heap.get? a=some oe) (nc:∀ v,oe.data≠.cell v):Inv (X.markE a oe) pins σ H s:=by
 refine ⟨⟨I.ok.mod,I.ok.kind,I.ok.glob,I.ok.blt,I.ok.above,I.ok.inj,I.ok.has,I.ok.cab,fun z=>(by cases z),I.ok.frames,I.ok.stk,I.ok.exf,I.ok.bs,I.ok.bsz,I.ok.noex,I.ok.exfs,I.ok.funs,I.ok.frf⟩,I.os,I.bare,I.base,I.loc,I.cell,I.free,I.freeC,fun p hp=>?_,I.hok,I.len⟩
 rcases List.mem_cons.mp hp with rfl | hp
 ·refine ⟨e,ap.free,ap.loc,fun z=>?_,nc⟩
  obtain ⟨_,o,q,_⟩:=I.ok.funs.mem z
  rw [ap.new] at q;cases q
 ·exact I.pin p hp
theorem Inv.unmarkE (J:X.Ok) (I:Inv (X.markE a oe) pins σ H s):Inv X pins σ H s:=⟨J,I.os,I.bare,I.base,I.loc,I.cell,I.free,I.freeC,fun p hp=>I.pin p (List.mem_cons_of_mem _ hp),I.hok,I.len⟩
theorem Inv.relocal {h':Heap} {t':Nat} {m':Str→Option Value} (I:Inv X pins σ H s) (hs:Heap.SameBut X.env.locals s.heap h') (hn:h'.Ns X.env.locals m')
  (hl:∀ (i:Nat) (x:Str) (v:V),X.N[i]?=some x→σ'[i]?=some (some v)→Vis X.env.scope x→∃ u,RelV v u∧Look X.env h' m' x u) (len:σ'.length=σ.length):Inv X pins σ' H { s with heap:=h',toks:=t' }:=by
 have ne:∀ b o,X.s₀.heap.get? b=some o→b≠X.env.locals:=fun b o e=>Nat.ne_of_lt (Nat.lt_of_lt_of_le (Heap.lt_size e) I.ok.above)
 refine ⟨I.ok,I.os,I.bare,⟨fun b o e n hb hx=>?_,fun b o e n hb hx=>?_,I.base.free,fun b o e hx=>?_,I.base.tups,I.base.frzs,I.base.tbls⟩,⟨m',hn,hl⟩,fun y c e=>?_,I.free,I.freeC,fun p hp=>?_,fun b u e=>?_,len.trans I.len⟩
 ·exact (hs.2 b (ne b o e)).trans (I.base.keep b o e n hb hx)
 ·obtain ⟨sl,e1⟩:=I.base.slot b o e n hb hx
  exact ⟨sl,(hs.2 b (ne b o e)).trans e1⟩
 ·obtain ⟨o',e1⟩:=I.base.there b o e hx
  exact ⟨o',(hs.2 b (ne b o e)).trans e1⟩
 ·obtain ⟨w',z⟩:=I.cell y c e
  exact ⟨w',z.sameBut hs (I.cne y c e)⟩
 ·obtain ⟨e,n,ne,nf,d⟩:=I.pin p hp
  exact ⟨(hs.2 p.1 ne).trans e,n,ne,nf,d⟩
 ·refine (I.hok b u e).stay (fun c w' hc q=>(hs.2 c ?_).trans q) (fun _ q=>q) fun _ _ q=>q
  rintro rfl
  rcases hc with rfl | hc
  ·rw [I.free] at e;cases e
  ·rw [I.free] at hc;cases hc
theorem name_goes {M:Model} {A:Around} {E:Value→Shared→Prop} {k:Nat} {n:Str} {pos:Pos} {Q:Unit→Shared→Prop} (I:Inv X pins σ H s) (hN:X.N.Nodup) (hi:X.N[k]?=some n) (hl:X.env.scope.names.lookup n=some .local)
  (h:∀ s',Inv X pins (σ.set k none) H s'→Q () s'):wpAny M A (do bindName X.env n .none;unbindBehindTheSuite X.env n pos) Q E s:=by
 have hcls:(X.env.scope.kind == .class || (X.env.scope.kind == .module && X.env.locals != X.env.globals))=false:=by rw [I.ok.kind];rfl
 have hiσ:k<σ.length:=by rw [I.len];exact (List.getElem?_eq_some_iff.mp hi).1
 refine wpAny_bind (wpAny_bindName (store_ok (v:=.non) I hN hi (.inl hl) rfl (fun s1 I1=>?_) (.inr hl)))
 obtain ⟨m,hn,hlk⟩:=id I1.loc
 obtain ⟨u,_,q⟩:=hlk k n .non hi (List.getElem?_set_self hiσ) (.inl hl)
 have hv:m n=some u:=by
  rcases q with ⟨_,q⟩ | ⟨q,_⟩
  ·exact q
  ·have q':X.env.scope.names.lookup n=some .cell∨X.env.scope.names.lookup n=some .free:=q
   rw [hl] at q'
   rcases q' with q' | q' <;> cases q'
 unfold unbindBehindTheSuite
 refine wpAny_onRaise (wpAny_unbindName_local hl hn hv hcls fun h' u' hn' hs=>h _ (I1.relocal (t':=s1.toks) hs hn' (fun i x v e1 e2 e3=>?_) (by simp)))
 by_cases hik:i=k
 ·subst hik
  rw [List.getElem?_set_self hiσ] at e2;cases e2
 ·rw [List.getElem?_set_ne (Ne.symm hik)] at e2
  obtain ⟨u2,r2,q2⟩:=hlk i x v e1 (by rw [List.getElem?_set_ne (Ne.symm hik)];exact e2) e3
  refine ⟨u2,r2,?_⟩
  have hxn:x≠n:=fun e=>hik (nodup_ix hN e1 (e ▸ hi))
  rcases q2 with ⟨k1,e⟩ | ⟨k1,c,e,z⟩
  ·exact .inl ⟨k1,by simp [hxn,e]⟩
  ·exact .inr ⟨k1,c,e,z.sameBut hs (I1.cne x c e)⟩
noncomputable def tXF (K:Frag) (k:Nat) (a dx C:Addr) (f:Str):TE:=fun σ H Q=>σ[k]?=some (some (.ref a))∧XHas K C f∧∃ fs v,H dx=some (.xd fs)∧fs.lookup f=some v∧Q v H
theorem pe_xf {k:Nat} {n f:Str} {dx C:Addr} {p pos:Pos} (hp:(a,oe)∈X.pn) (hc:oe.cls=.ref C) (hd:oe.dict=some dx) (hn:∀ c,oe.data≠.cls c) (hN:X.N[k]?=some n) (hv:Vis X.env.scope n) (hb:attributeBase (.Name n p) f X.env (eval (.Name n p) X.env)=eval (.Name n p) X.env)
  (hd1:(n == ("__debug__":Str))=false:=by decide) (hd2:(n == ("__classdict__":Str))=false:=by decide):PE X (.Attribute (.Name n p) f pos) (tXF X.K k a dx C f):=by
 rintro pins s σ H Q I ⟨h1,c,fs,v,hx,l,q⟩
 refine attr_of hb (thn (pe_var hN hv hd1 hd2 pins s σ H (fun z H'=>z=.ref a∧H'=H) I ⟨_,h1,rfl,rfl⟩) fun u s1 ⟨z,H1,I1,rz,ez,eH⟩=>?_)
 subst ez eH
 obtain rfl:u=Value.ref a:=rz
 obtain ⟨mA,ns,r⟩:=I1.hok dx _ hx
 obtain ⟨u',hu,ru⟩:=RelO.some_of (v:=v) (o:=mA f) (by rw [←l];exact r f)
 exact getattr_exc I1.kIn (I1.pin _ (List.mem_append_left _ hp)).1 hc hn hd ns c hu (handed_of ru) ⟨v,_,I1.tok _,ru,q⟩
noncomputable def tHdA (K:Frag) (C:Addr) (k:Nat) (ts:Addr→Addr→Addr→TS) (thr:Value→Option Addr→TS):Value→Option Addr→TS:=fun cls d D σ H=>∃ C1,cls=.ref C1∧xok K C1∧if mroIn K C1 C=true then ∃ dx,d=some dx∧∀ a,ts a dx C1 { nx:=fun σ' H'=>D.nx (σ'.set k none) H',rt:=D.rt,bk:=fun σ' H'=>D.bk (σ'.set k none) H',ct:=fun σ' H'=>D.ct (σ'.set k none) H' } (σ.set k (some (.ref a))) H else thr cls d D σ H
theorem hd_consA {x n:Str} {C:Addr} {k:Nat} {ts:Addr→Addr→Addr→TS} {thr:Value→Option Addr→TS} {b0:Stmt} {suite:List Stmt} {rest:List ExceptHandler} {np pos:Pos} (ow:Own X) (hm:X.mg x=some (.ref C)) (xc:xok X.K C) (hN:X.N.Nodup) (hi:X.N[k]?=some n) (hl:X.env.scope.names.lookup n=some .local)
  (hs:∀ a oe dx C1,oe.cls=.ref C1→oe.dict=some dx→(∃ vs,oe.data=.fields vs)→PSs (X.markE a oe) (b0 :: suite) (ts a dx C1)) (hr:HdOk X rest thr)
  (hg:Gl X x:=by rfl) (hdb:(x == ("__debug__":Str))=false:=by decide +kernel):HdOk X (.ExceptHandler (some (.Name x np)) (some n) (b0 :: suite) pos :: rest) (tHdA X.K C k ts thr):=by
 intro pins s σ H D a T cls d I tr pa pT h
 obtain ⟨C1,rfl,ok1,h⟩:=h
 obtain ⟨bm,N,nm,qn,bs,hdct,sn,sub,ab,col,dd,k0,k1,k2,k3,k5,look,tl⟩:=own_any I.mod.kin ok1
 obtain ⟨bm',N',nm',qn',bs',hdct',sn',sub',ab',col',dd',l0,l1,l2,l3,l5,look',tl'⟩:=own_any I.mod.kin xc
 obtain ⟨hTe,⟨oe,vs,ge,ec,ed,edt,_⟩,_⟩:=id tr
 have em:mroIn X.K C1 C=(Value.ref C1 :: bm).contains (.ref C):=by unfold mroIn;rw [look]
 refine wpAny_handleBy_cons (codeAny_handlers_test (ld_glob (X:=X.mark a) (I.mark (a:=a)) hg hm ?_ hdb)) (by intro q;cases q)
 obtain ⟨hp,gn,dr,tk,os⟩:=s
 refine excM_own (I.kIn _ _ look) (I.kIn _ _ look') ge ec (tl'.hasType (by decide +kernel)) ?_
 rw [←em]
 cases hb:mroIn X.K C1 C with
 | false =>
  rw [hb] at h
  exact hr pins _ σ H D a T _ d I tr pa pT h
 | true =>
  rw [hb,if_pos rfl] at h
  obtain ⟨dx,rfl,h⟩:=h
  refine codeAny_handlers_suite_as (flightX tr fun h3 c3 tr3=>?_)
  have J:=I.chg ow (c3.mono (fun _ z=>absurd z (by simp)) fun _ z=>z) fun b hb=>by rw [List.mem_singleton.mp hb];exact pT
  have ge3:h3.get? a=some oe:=c3.keep a oe (by simp) (fun z=>hTe (List.mem_singleton.mp z).symm) ge
  refine store_ok2 (v:=.ref a) J hN hi (.inl hl) rfl (fun s2 J2 ⟨b,sb,hbb⟩=>?_) (.inr hl)
  have ne:a≠b:=by
   rcases hbb with z | z
   ·rw [z];exact pa.loc
   ·exact (pa.cell _ _ z).symm
  have ge2:s2.heap.get? a=some oe:=(sb.2 a ne).trans ge3
  have J3:=J2.markE pa ge2 fun v z=>by rw [edt] at z;cases z
  refine wpAny_mono (hs a oe dx C1 ec ed ⟨vs,edt⟩ pins s2 _ H _ J3 (h a)) (fun fl s4 q=>?_) fun _ _ z=>False.elim z
  cases fl with
  | next=>obtain ⟨σ',H',I',q⟩:=q;exact name_goes (I'.unmarkE J.ok) hN hi hl fun s5 I5=>⟨_,H',I5,q⟩
  | brk=>obtain ⟨σ',H',I',q⟩:=q;exact name_goes (I'.unmarkE J.ok) hN hi hl fun s5 I5=>⟨_,H',I5,q⟩
  | cont=>obtain ⟨σ',H',I',q⟩:=q;exact name_goes (I'.unmarkE J.ok) hN hi hl fun s5 I5=>⟨_,H',I5,q⟩
  | ret u=>obtain ⟨v,σ',H',I',r,q⟩:=q;exact name_goes (I'.unmarkE J.ok) hN hi hl fun s5 I5=>⟨v,_,H',I5,r,q⟩
end
end L2
set_option Elab.async false
set_option linter.all false
set_option maxRecDepth 100000
set_option maxHeartbeats 4000000
namespace L2
open PySem PySem.Spec PyProof.Rows
mutual
noncomputable def P.dry:P→Bool
 | .lst _=>false | .dT _ _=>false | .dK _ _=>false | .bag=>false
 | .tup xs=>P.drys xs
 | .non=>true | .bl _=>true | .int _=>true | .str _=>true
noncomputable def P.drys:List P→Bool
 | []=>true
 | x :: r=>x.dry && P.drys r
end
@[simp] theorem dry_int (i:Int):(P.int i).dry=true:=by simp [P.dry]
@[simp] theorem dry_str (i:Str):(P.str i).dry=true:=by simp [P.dry]
@[simp] theorem dry_tup (xs:List P):(P.tup xs).dry=P.drys xs:=by simp [P.dry]
@[simp] theorem drys_nil:P.drys []=true:=by simp [P.drys]
@[simp] theorem drys_cons (x:P) (xs:List P):P.drys (x :: xs)=(x.dry && P.drys xs):=by simp [P.drys]
@[simp] theorem drys_ints:∀ ns:List Int,P.drys (ns.map P.int)=true
 | []=>by simp
 | n :: r=>by simp [drys_ints r]
section
variable {b b':Addr} {Z Z':Addr→Prop} {H:Hp}
mutual
theorem Rp.dry:∀ {x:P} {v:V},x.dry=true→Rp b Z H x v→Rp b' Z' H x v
 | .non,_,_,h=>h
 | .bl _,_,_,h=>h
 | .int _,_,_,h=>h
 | .str _,_,_,h=>h
 | .bag,_,hi,_=>by simp [P.dry] at hi
 | .tup xs,v,hi,h=>by
  obtain ⟨p,vs,h1,h2,h3⟩:=h
  exact ⟨p,vs,h1,h2,Rps.dry (by simpa using hi) h3⟩
 | .lst _,_,hi,_=>by simp [P.dry] at hi
 | .dT _ _,_,hi,_=>by simp [P.dry] at hi
 | .dK _ _,_,hi,_=>by simp [P.dry] at hi
theorem Rps.dry:∀ {xs:List P} {vs:List V},P.drys xs=true→Rps b Z H xs vs→Rps b' Z' H xs vs
 | [],_,_,h=>h
 | x :: xs,vs,hi,h=>by
  obtain ⟨v,r,h1,h2,h3⟩:=h
  rw [drys_cons,Bool.and_eq_true] at hi
  exact ⟨v,r,h1,Rp.dry hi.1 h2,Rps.dry hi.2 h3⟩
end
end
mutual
theorem dry_imm:∀ {x:P},x.dry=true→x.imm=true
 | .non,_=>rfl
 | .bl _,_=>rfl
 | .int _,_=>rfl
 | .str _,_=>rfl
 | .bag,h=>by simp [P.dry] at h
 | .tup xs,h=>by rw [imm_tup];exact drys_imms (by simpa using h)
 | .lst _,h=>by simp [P.dry] at h
 | .dT _ _,h=>by simp [P.dry] at h
 | .dK _ _,h=>by simp [P.dry] at h
theorem drys_imms:∀ {xs:List P},P.drys xs=true→P.imms xs=true
 | [],_=>by simp
 | x :: xs,h=>by
  rw [drys_cons,Bool.and_eq_true] at h
  rw [imms_cons,dry_imm h.1,drys_imms h.2];rfl
end
noncomputable abbrev pFX:=List P→(P→Prop)→(Xn→Prop)→Prop
noncomputable abbrev EXT:=Xn→Hp→Prop
noncomputable def EXof (Kf:PySem.W.Frag) (mg:Str→Option Value) (E:XK):EXT
 | .nm n,H'=>∀ C,XCls Kf mg n C→E (.ref C) none H'
 | .vl n f x,H'=>∀ C dx v,XClsV Kf mg n f C→x.dry=true→H' dx=some (.xd [(f,v)])→(∀ b Z,Rp b Z H' x v)→E (.ref C) (some dx) H'
noncomputable def spX (Kf:PySem.W.Frag) (mg:Str→Option Value) (f:pFX):Sp:=fun vs H Q E=>∃ (b a:Addr) (xs:List P) (K:P→Prop) (Kx:Xn→Prop),Bag H b a∧Rps b (fun p=>p=b) H xs vs∧f xs K Kx∧(∀ x v H',K x→Step b a H H'→Rp b (fun p=>H p≠none) H' x v→Q v H') ∧
 ∀ n H',Kx n→Step b a H H'→EXof Kf mg E n H'
section
variable {P':Program} {w:World} {K:PySem.W.Frag} {mg:Str→Option Value} {base:Heap}
theorem fnX {x:Str} {st:Stmt} {N ps:List Str} {k:Nat} {f:pFX} (D:DefAt K mg x st) (S:FnScope N ps (defScope st))
  (hb:∀ (kV doc pm:Value) (an:Option Addr) (cdv ct:Value) (us:List Value),us.length=ps.length→bindArgs (PySem.W.fnOf x x (defArgs st) (defBody st) (defScope st) .none kV doc pm an cdv ct) ⟨us,[]⟩=pure (ps.zip us))
  (len:∀ xs K Kx,f xs K Kx→xs.length=ps.length) (hN:ps.length≤N.length)
  (hbody:∀ (fa:Addr) (cdv:Value) (A:Around) (outer:List Env) (s:Shared) (H:Hp) (E:XK),Room k (A.deeper (PyProof.Rows.envOfC x (defScope st) s.heap.objs.size fa cdv)) →
   ∃ p,QSs (fun _:Unit=>cxE P' w K mg base N x (defScope st) fa cdv A outer s H E) (defBody st) p∧∀ xs Kn Kx,f xs Kn Kx→p { nx:=fun _=>Kn .non,rt:=Kn,ex:=fun n X=>Kx n∧X=EXof K mg E } (startP N.length xs)):FnE P' w K mg base x (k + 1) ps (spX K mg f):=by
 refine fn_defE D S hb (fun vs H Q E h=>?_) (fun fa cdv A outer s H vs Q E hr h=>?_)
 ·obtain ⟨b,a,xs,K,Kx,_,r,hf,_⟩:=h
  rw [←r.length];exact len xs K Kx hf
 ·obtain ⟨b,a,xs,K',Kx,hbag,r,hf,hQ,hE⟩:=h
  obtain ⟨p,⟨t,h1,h2⟩,h3⟩:=hbody fa cdv A outer s H E hr
  refine ⟨t,h1 (),h2 _ _ _ H _ _ (ok_start hbag r (by rw [len xs K' Kx hf];exact hN)) (h3 xs K' Kx hf) ⟨fun ρ σ H' e ok=>?_,fun y v H' e ro=>?_,fun _ _ _ e=>e.elim,fun _ _ _ e=>e.elim,fun _ z=>z,fun n H' EX e bag old=>?_⟩⟩
  ·exact hQ _ _ H' e ⟨ok.bag,ok.old⟩ rfl
  ·exact hQ y v H' e ⟨ro.1,ro.2.1⟩ ro.2.2
  ·obtain ⟨kn,rfl⟩:=e
   exact hE n H' kn ⟨bag,old⟩
end
noncomputable abbrev pX:=List S→(P→Fl→Prop)→(Xn→Prop)→Prop
noncomputable abbrev pAX:=List S→(List (P×Fl)→Prop)→(Xn→Prop)→Prop
noncomputable def pPure (p:pE):pX:=fun ρ K _=>p ρ K
noncomputable def pNilX:pAX:=fun _ K _=>K []
noncomputable def pConsX (pa:pX) (pr:pAX):pAX:=fun ρ K Kx=>pa ρ (fun x f=>pr ρ (fun xs=>K ((x,f) :: xs)) Kx) Kx
noncomputable def pFnX (f:pFX) (pa:pAX):pX:=fun ρ K Kx=>pa ρ (fun xs=>f (xs.map (·.1)) (fun z=>K z .nw) Kx) Kx
noncomputable def pFn0 (f:pF) (pa:pAX):pX:=fun ρ K Kx=>pa ρ (fun xs=>f (xs.map (·.1)) fun z=>K z .nw) Kx
section
variable {ι:Type}
variable {Xs:ι→Cx} {EX:EXT} {a e:Expr} {es:List Expr} {pa:pX} {pr:pAX} {pos:Pos}
theorem fn_res {W:Wd} {ρ:List S} {σ:St} {H H1 H':Hp} {x:P} {v:V} (ok1:Ok W ρ σ H1) (s1:Step W.b W.a H H1) (r2:Rp W.b (fun p=>H1 p≠none) H' x v):RF W ρ σ H .nw H' x v:=by
 refine ⟨r2.keep (fun p o hz e=>⟨fun z=>hz (ok1.dom z),e⟩) fun p vs e=>e,fun m=>?_⟩
 have k2:∀ p,¬ H1 p≠none→H p=none:=fun p z=>s1.free (Classical.not_not.mp z)
 cases x with
 | lst xs=>obtain ⟨p,us,e,z,_⟩:=r2;exact ⟨p,e,k2 p z⟩
 | dT ks xs=>obtain ⟨p,us,e,z,_⟩:=r2;exact ⟨p,e,k2 p z⟩
 | dK ks xs=>obtain ⟨p,us,e,z,_⟩:=r2;exact ⟨p,e,k2 p z⟩
 | _=>simp [P.mut] at m
noncomputable def pRetX (EX:EXT) (p:pX):pS:=fun E ρ=>p ρ (fun x f=>retF x f=true∧E.rt x) fun n=>E.ex n EX
noncomputable def pAsgX (EX:EXT) (p:pX) (k:Nat):pS:=fun E ρ=>p ρ (fun x f=>pSet k x f ρ E.nx) fun n=>E.ex n EX
noncomputable def pDropX (EX:EXT) (p:pX):pS:=fun E ρ=>p ρ (fun _ _=>E.nx ρ) fun n=>E.ex n EX
noncomputable def pRaise (EX:EXT) (n:Str) (p:pA):pS:=fun E ρ=>p ρ fun xs=>xs.length≤100∧E.ex n EX
theorem ex_of {W:Wd} {ρ:List S} {σ:St} {H:Hp} {D:Ends} {E:PEnds} (ok:Ok W ρ σ H) (r:RelD W E D):∀ n H',E.ex n EX→Step W.b W.a H H'→EX n H':=fun n H' e s=>r.ex n H' EX e s.bag (ok.step s).old
noncomputable def pRaiseV (EX:EXT) (n f:Str) (p:pE):pS:=fun E ρ=>p ρ fun x _=>x.dry=true∧E.ex (.vl n f x) EX
theorem qs_raiseV {x f:Str} {C:Addr} {np cpos:Pos} {pa:pE} {Kf:PySem.W.Frag} {mg:Str→Option Value} {E:XK} (xc:XClsV Kf mg x f C) (hK:∀ i,(Xs i).K=Kf) (hm:∀ i,(Xs i).mg=mg) (hc:∀ i,(Xs i).calm=true) (hex:∀ i,(Xs i).ex=[]) (hR:∀ i,RaisesV (Xs i) E) (hr:∀ i,Room 2 (Xs i).A) (ha:QE Xs e pa)
  (hg:∀ i,Gl (Xs i) x:=by intro _;rfl) (hdb:(x == ("__debug__":Str))=false:=by decide +kernel) (hs:∀ i,starEach [e] (Xs i).env=(false,eval e (Xs i).env) :: starEach [] (Xs i).env:=by intro _;rfl) (hpl:∀ i,(backTo cpos (starEach [e] (Xs i).env)).any (·.1)=false:=by intro _;rfl) :
  QS Xs (.Raise (some (.Call (.Name x np) [e] [] cpos)) none pos) (pRaiseV (EXof Kf mg E) x f pa):=by
 obtain ⟨t,h1,h2⟩:=ha
 refine ⟨tRaiseV C f E t,fun i=>ps_raiseV (hc i) (hex i) (hR i) (by rw [hK i,hm i];exact xc) (hr i) (h1 i) (hg i) hdb (hs i) (hpl i),fun W ρ σ H D E' ok h r=>h2 W ρ σ H _ _ ok h fun y fl v H1 ⟨k0,k1⟩ s1 r1 dx hdx=>?_⟩
 have ok1:=ok.step s1
 have st:Step W.b W.a H1 (upd H1 dx (.xd [(f,v)])):=Step.new ok1.bag hdx
 refine ex_of ok r (.vl x f y) _ k1 (s1.trans st) C dx v xc k0 upd_same fun b Z=>?_
 exact (((r1.any ok1).step st ok1.bag).dry k0)
noncomputable def RefH (Kf:PySem.W.Frag) (mg:Str→Option Value) (th:Value→Option Addr→TS):Xn→pS→Prop
 | .nm n,p=>∀ C,XCls Kf mg n C→RefS (th (.ref C) none) p
 | .vl n f x,p=>∀ C dx v,XClsV Kf mg n f C→x.dry=true→∀ (W:Wd) (ρ:List S) (σ:St) (H:Hp) (D:Ends) (E:PEnds),Ok W ρ σ H→H dx=some (.xd [(f,v)])→(∀ b Z,Rp b Z H x v)→p E ρ→RelD W E D→th (.ref C) (some dx) D σ H
noncomputable def QH (Xs:ι→Cx) (Kf:PySem.W.Frag) (mg:Str→Option Value) (hs:List ExceptHandler) (ph:Xn→pS):Prop:=∃ th,(∀ i,HdOk (Xs i) hs th)∧∀ n,RefH Kf mg th n (ph n)
noncomputable def pHd0:Xn→pS:=fun _ _ _=>False
noncomputable def pHd (x:Str) (no:List Str) (p:pS) (r:Xn→pS):Xn→pS
 | .nm n=>fun E ρ=>(n=x∧p E ρ)∨(n∈no∧r (.nm n) E ρ)
 | .vl n f v=>fun E ρ=>(n=x∧p E ρ)∨(n∈no∧r (.vl n f v) E ρ)
noncomputable def keepE (k:Nat) (E:PEnds):PEnds:={ E with nx:=fun ρ=>ρ[k]?=some .emp∧E.nx ρ,bk:=fun ρ=>ρ[k]?=some .emp∧E.bk ρ,ct:=fun ρ=>ρ[k]?=some .emp∧E.ct ρ }
noncomputable def pHdV (x g:Str) (k:Nat) (no:List Str) (p:P→pS) (r:Xn→pS):Xn→pS
 | .nm n=>fun E ρ=>n∈no∧r (.nm n) E ρ
 | .vl n f v=>fun E ρ=>(n=x∧f=g∧ρ[k]?=some .emp∧p v (keepE k E) ρ)∨(n∈no∧r (.vl n f v) E ρ)
noncomputable def NoSub (Kf:PySem.W.Frag) (mg:Str→Option Value) (n x:Str):Prop:=∀ C C',mg n=some (.ref C)→mg x=some (.ref C')→mroIn Kf C C'=false
theorem qh_nil {Kf:PySem.W.Frag} {mg:Str→Option Value}:QH Xs Kf mg [] pHd0:=⟨_,fun _=>hd_nil,fun n=>match n with
 | .nm _=>fun _ _ _ _ _ _ _ _ _ h _=>h.elim
 | .vl _ _ _=>fun _ _ _ _ _ _ _ _ _ _ _ _ _ _ h _=>h.elim⟩
theorem XCls.xok {Kf:PySem.W.Frag} {mg:Str→Option Value} {n:Str} {C:Addr} (x:XCls Kf mg n C):xok Kf C:=.inl x.ok
theorem XClsV.xok {Kf:PySem.W.Frag} {mg:Str→Option Value} {n f:Str} {C:Addr} (x:XClsV Kf mg n f C):xok Kf C:=let ⟨fI,_,_,q,_⟩:=x.init;.inr ⟨fI,q⟩
theorem mro_xc {K:PySem.W.Frag} {C:Addr} {id:String} (q:PySem.W.excIn K C vE id=true):mroIn K C C=true:=by
 unfold PySem.W.excIn at q
 unfold mroIn
 split at q
 ·rename_i look
  rw [look]
  split at q
  ·rename_i em _
   simp only [Bool.and_eq_true,beq_iff_eq] at q
   show List.contains _ _=true
   rw [em,←q.1.1.1.1.1]
   simp
  ·cases q
 ·cases q
theorem mro_xi {K:PySem.W.Frag} {C fI:Addr} {id:String} (q:excInI K C id fI=true):mroIn K C C=true:=by
 obtain ⟨o,look,q⟩:=PySem.W.any_some q
 obtain ⟨oc,dd,dt,sl⟩:=o
 simp only [Bool.and_eq_true,beq_iff_eq] at q
 unfold mroIn
 rw [look]
 obtain ⟨_,q⟩:=q
 cases dt with
 | cls cd =>
  simp only [Bool.and_eq_true,beq_iff_eq] at q
  obtain ⟨⟨⟨⟨⟨q,_⟩,_⟩,_⟩,_⟩,_⟩:=q
  show cd.mro.contains _=true
  cases hm:cd.mro with
  | nil=>rw [hm] at q;cases q
  | cons v bm =>
   rw [hm] at q
   simp only [Bool.and_eq_true,beq_iff_eq] at q
   rw [q.1];simp
 | _=>cases q
theorem xok_self {K:PySem.W.Frag} {C:Addr} (q:xok K C):mroIn K C C=true:=by
 rcases q with q | ⟨fI,q⟩
 ·exact mro_xc q
 ·exact mro_xi q
theorem OwS.hide {ρ:List S} {σ:St} {k:Nat} {o:Option V} (hk:ρ[k]?=some .emp) (p:Addr):OwS ρ (σ.set k o) p ↔ OwS ρ σ p:=by
 constructor
 ·rintro ⟨i,x,h1,h2⟩
  have hi:k≠i:=fun z=>by rw [←z,hk] at h1;cases h1
  rw [List.getElem?_set_ne hi] at h2
  exact ⟨i,x,h1,h2⟩
 ·rintro ⟨i,x,h1,h2⟩
  have hi:k≠i:=fun z=>by rw [←z,hk] at h1;cases h1
  exact ⟨i,x,h1,by rw [List.getElem?_set_ne hi];exact h2⟩
theorem Zof.hide {W:Wd} {ρ:List S} {σ:St} {k:Nat} {o:Option V} (hk:ρ[k]?=some .emp) (f:Fl):Zof W ρ (σ.set k o) f=Zof W ρ σ f:=by
 have e:Ow W ρ (σ.set k o)=Ow W ρ σ:=by funext p;unfold Ow;rw [OwS.hide hk p]
 funext p
 cases f <;> simp only [Zof,e]
theorem Ok.hide {W:Wd} {ρ:List S} {σ:St} {H:Hp} {k:Nat} {o:Option V} (hk:ρ[k]?=some .emp) (ok:Ok W ρ σ H):Ok W ρ (σ.set k o) H where
 bag:=ok.bag
 fb:=ok.fb
 old:=ok.old
 frm:=ok.frm
 oo:=ok.oo
 len:=by rw [List.length_set];exact ok.len
 slot:=fun i s e=>by
  obtain ⟨u,h1,h2⟩:=ok.slot i s e
  by_cases hi:k=i
  ·subst hi
   rw [hk] at e;cases e
   have:=(List.getElem?_eq_some_iff.mp h1).1
   exact ⟨o,List.getElem?_set_self this,trivial⟩
  ·refine ⟨u,by rw [List.getElem?_set_ne hi];exact h1,?_⟩
   have z:=fun f=>Zof.hide (W:=W) (σ:=σ) (o:=o) hk f
   cases s with
   | emp=>trivial
   | sh x=>obtain ⟨v,h3,h4⟩:=h2;exact ⟨v,h3,by show Rp _ (Zof W ρ (σ.set k o) .cl) _ _ _;rw [z];exact h4⟩
   | fr x=>obtain ⟨v,h3,h4⟩:=h2;exact ⟨v,h3,by show Rp _ (Zof W ρ (σ.set k o) .fr) _ _ _;rw [z];exact h4⟩
   | own x=>obtain ⟨p,h3,h4,h5,h6,h7,h8⟩:=h2;exact ⟨p,h3,h4,h5,h6,h7,by show Rc _ (Zof W ρ (σ.set k o) .fr) _ _ _;rw [z];exact h8⟩
 uniq:=fun i j x y h1 h2 h3=>by
  have hi:k≠i:=fun z=>by rw [←z,hk] at h1;cases h1
  have hj:k≠j:=fun z=>by rw [←z,hk] at h2;cases h2
  rw [List.getElem?_set_ne hi,List.getElem?_set_ne hj] at h3
  exact ok.uniq i j x y h1 h2 h3
noncomputable def pTry (f:pFX) (pa:pA) (k:Nat) (ph:Xn→pS):pS:=fun E ρ=>pa ρ fun xs=>f (xs.map (·.1)) (fun z=>pSet k z .nw ρ E.nx) fun n=>ph n E ρ
theorem qs_try {x y:Str} {i' k:Nat} {ps:List Str} {f:pFX} {pa:pA} {ph:Xn→pS} {h0:ExceptHandler} {hs:List ExceptHandler} {p yp apos tpos:Pos} {Kf:PySem.W.Frag} {mg:Str→Option Value} (ow:∀ i,Own (Xs i)) (G:∀ i,FnE (Xs i).prog (Xs i).w (Xs i).K (Xs i).mg (Xs i).base x k ps (spX Kf mg f)) (hr:∀ i,Room k (Xs i).A)
  (ha:QA (fun i=>(Xs i).nox) (e :: es) pa) (hh:QH Xs Kf mg (h0 :: hs) ph) (hN:∀ i,(Xs i).N.Nodup) (hi:∀ i,(Xs i).N[i']?=some y:=by intro _;rfl) (hx:∀ i,Loc (Xs i).env.scope y:=by intro _;trivial)
  (hg:∀ i,Gl (Xs i) x:=by intro _;rfl) (hdb:(x == ("__debug__":Str))=false:=by decide +kernel) (he:∀ i,starEach (e :: es) (Xs i).env=(false,eval e (Xs i).env) :: starEach es (Xs i).env:=by intro _;rfl) (hpl:∀ i,(backTo pos (starEach es (Xs i).env)).any (·.1)=false:=by intro _;rfl)
  (hs':∀ i,swapsWith (.Call (.Name x p) (e :: es) [] pos) (some (.Name y yp)) apos.line (Xs i).env=pure false:=by intro _;rfl) (hf:∀ i,(Xs i).fn y=true∨(Xs i).env.scope.names.lookup y=some .local:=by intro _;trivial) :
  QS Xs (.Try [.Assign [.Name y yp] (.Call (.Name x p) (e :: es) [] pos) apos] (h0 :: hs) [] [] tpos) (pTry f pa i' ph):=by
 obtain ⟨t,h1,h2⟩:=ha
 obtain ⟨th,g1,g2⟩:=hh
 refine ⟨tTry (spX Kf mg f) i' t th,fun i=>ps_try (ow i) (G i) (hr i) (h1 i) (g1 i) (hN i) (hi i) (hx i) (hg i) hdb (he i) (hpl i) (hs' i) (hf i),fun W ρ σ H D E ok h r=>h2 W ρ σ H _ _ ok h fun xs vs H1 k1 s1 r1=>?_⟩
 have ok1:=ok.step s1
 refine ⟨W.b,W.a,_,_,_,s1.bag,r1.any ok1,k1,fun z v H' kz s2 r2=>?_,fun n H' kn s2=>?_⟩
 case refine_2 =>
  cases n with
  | nm n=>exact fun C xc=>g2 (.nm n) C xc W ρ σ H' D E (ok1.step s2) kn r
  | vl n f y=>exact fun C dx v xc dr hx rp=>g2 (.vl n f y) C dx v xc dr W ρ σ H' D E (ok1.step s2) hx rp kn r
 obtain ⟨ρ',e1,ok'⟩:=ok.set (s1.trans s2) (fn_res ok1 s1 r2) kz
 exact r.nx ρ' _ H' e1 ok'
end
end L2
set_option Elab.async false
set_option linter.all false
set_option maxRecDepth 100000
set_option maxHeartbeats 4000000
namespace L2
open PySem PySem.Spec PyProof.Rows
section
variable {ι:Type}
noncomputable def QV (Xs:ι→Cx) (Kf:PySem.W.Frag) (k:Nat) (f:Str) (suite:List Stmt) (p:P→pS):Prop:=∃ ts:Addr→Addr→Addr→TS,
 (∀ i a oe dx C1,oe.cls=.ref C1→oe.dict=some dx→(∃ vs,oe.data=.fields vs)→PSs ((Xs i).markE a oe) suite (ts a dx C1)) ∧
 ∀ (a dx C1:Addr) (W:Wd) (ρ:List S) (σ:St) (H:Hp) (D:Ends) (E:PEnds) (x:P) (v:V),XHas Kf C1 f→x.dry=true→ρ[k]?=some .emp→Ok W ρ σ H→σ[k]?=some (some (.ref a))→H dx=some (.xd [(f,v)])→(∀ b Z,Rp b Z H x v)→p x E ρ→RelD W E D→ts a dx C1 D σ H
theorem qh_consV {Xs:ι→Cx} {x n f:Str} {C:Addr} {k:Nat} {no:List Str} {b0:Stmt} {suite:List Stmt} {rest:List ExceptHandler} {np pos:Pos} {p:P→pS} {r:Xn→pS} {Kf:PySem.W.Frag} {mg:Str→Option Value} (ow:∀ i,Own (Xs i)) (xc:XClsV Kf mg x f C) (hno:∀ m∈no,NoSub Kf mg m x) (hK:∀ i,(Xs i).K=Kf) (hm:∀ i,(Xs i).mg=mg)
  (hs:QV Xs Kf k f (b0 :: suite) p) (hr:QH Xs Kf mg rest r) (hN:∀ i,(Xs i).N.Nodup) (hi:∀ i,(Xs i).N[k]?=some n:=by intro _;rfl) (hl:∀ i,(Xs i).env.scope.names.lookup n=some .local:=by intro _;rfl) (hg:∀ i,Gl (Xs i) x:=by intro _;rfl) (hdb:(x == ("__debug__":Str))=false:=by decide +kernel) :
  QH Xs Kf mg (.ExceptHandler (some (.Name x np)) (some n) (b0 :: suite) pos :: rest) (pHdV x f k no p r):=by
 obtain ⟨ts,h1,h2⟩:=hs
 obtain ⟨th,g1,g2⟩:=hr
 have same:∀ C1,mg x=some (.ref C1)→mroIn Kf C1 C=true:=fun C1 e=>by rw [xc.bd] at e;cases e;exact xok_self xc.xok
 refine ⟨tHdA Kf C k ts th,fun i=>by rw [←hK i];exact hd_consA (ow i) (by rw [hm i];exact xc.bd) (by rw [hK i];exact xc.xok) (hN i) (hi i) (hl i) (h1 i) (g1 i) (hg i) hdb,fun m=>?_⟩
 cases m with
 | nm m =>
  intro C1 xc1 W ρ σ H D E ok h rl
  obtain ⟨hn,h⟩:=h
  refine ⟨C1,rfl,xc1.xok,?_⟩
  rw [hno m hn C1 C xc1.bd xc.bd,if_neg (by decide)]
  exact g2 (.nm m) C1 xc1 W ρ σ H D E ok h rl
 | vl m f' y =>
  intro C1 dx v xc1 dr W ρ σ H D E ok hx rp h rl
  refine ⟨C1,rfl,xc1.xok,?_⟩
  rcases h with ⟨rfl,rfl,hk,h⟩ | ⟨hn,h⟩
  ·rw [if_pos (same C1 xc1.bd)]
   have hkσ:k<σ.length:=by rw [ok.len];exact (List.getElem?_eq_some_iff.mp hk).1
   refine ⟨dx,rfl,fun a=>h2 a dx C1 W ρ _ H _ _ y v xc1.has dr hk (ok.hide hk) (List.getElem?_set_self hkσ) hx rp h ?_⟩
   exact ⟨fun ρ' σ' H' e ok'=>rl.nx ρ' _ H' e.2 (ok'.hide e.1),rl.rt,fun ρ' σ' H' e ok'=>rl.bk ρ' _ H' e.2 (ok'.hide e.1),fun ρ' σ' H' e ok'=>rl.ct ρ' _ H' e.2 (ok'.hide e.1),rl.noO,rl.ex⟩
  ·rw [hno m hn C1 C xc1.bd xc.bd,if_neg (by decide)]
   exact g2 (.vl m f' y) C1 dx v xc1 dr W ρ σ H D E ok hx rp h rl
noncomputable def pVA (i:Nat):P→pS:=fun x E ρ=>pSet i x .nw ρ E.nx
noncomputable def pVB (i:Nat) (c:Str):P→pS:=fun x E ρ=>pSet i (.tup [.str c,x]) .nw ρ E.nx
noncomputable def pVC (j i:Nat) (k:Nat) (c:Str):P→pS:=fun x E ρ=>j≠k∧pSet j (.str c) .fr ρ fun ρ'=>pSet i x .nw ρ' E.nx
theorem rf_dry {W:Wd} {ρ:List S} {σ:St} {Hs H:Hp} {x:P} {v:V} (dr:x.dry=true) (rp:∀ b Z,Rp b Z H x v):RF W ρ σ Hs .nw H x v:=⟨rp _ _,fun m=>by have z:=dry_imm dr;rw [mut_imm m] at z;cases z⟩
section
variable {Xs:ι→Cx} {Kf:PySem.W.Frag} {k i j:Nat} {n y z f:Str} {p1 p2 p3 p4 p5 p6 p7:Pos}
theorem qv_B {c:Str} {ct:Nat} {x1:Nat} (hK:∀ i,(Xs i).K=Kf) (hN:∀ i,(Xs i).N.Nodup) (hn:∀ i,(Xs i).N[k]?=some n:=by intro _;rfl) (hv:∀ i,Vis (Xs i).env.scope n:=by intro _;first | exact Or.inl rfl | exact Or.inr (Or.inl rfl)) (hi:∀ j,(Xs j).N[i]?=some y:=by intro _;rfl) (hy:∀ i,Loc (Xs i).env.scope y:=by intro _;trivial)
  (hb:∀ i,attributeBase (.Name n p1) f (Xs i).env (eval (.Name n p1) (Xs i).env)=eval (.Name n p1) (Xs i).env:=by intro _;rfl) (hs:∀ i,swapsWith (.Tuple [.Constant (.str c) ct p5,.Attribute (.Name n p1) f p2] x1 p6) (some (.Name y p3)) p4.line (Xs i).env=pure false:=by intro _;rfl) (hf:∀ i,(Xs i).fn y=true∨(Xs i).env.scope.names.lookup y=some .local:=by intro _;trivial)
  (hd1:(n == ("__debug__":Str))=false:=by decide) (hd2:(n == ("__classdict__":Str))=false:=by decide):QV Xs Kf k f [.Assign [.Name y p3] (.Tuple [.Constant (.str c) ct p5,.Attribute (.Name n p1) f p2] x1 p6) p4] (pVB i c):=by
 refine ⟨fun a dx C1=>tAsg (tTup (tCons (tC (.str c)) (tCons (tXF Kf k a dx C1 f) tNil))) (gName i),fun l a oe dx C1 e1 e2 ⟨vs,e3⟩=>?_,fun a dx C1 W ρ σ H D E x v c' dr hk ok hσ hx rp h rl=>?_⟩
 ·rw [←hK l]
  exact pss_one (ps_set (X:=(Xs l).markE a oe) (hN l) (hi l) (hy l) (pe_tup (pa_cons pe_str (pa_cons (pe_xf (X:=(Xs l).markE a oe) (oe:=oe) (.head _) e1 e2 (fun c z=>by rw [e3] at z;cases z) (hn l) (hv l) (hb l) hd1 hd2) pa_nil))) (hs l) (hf l))
 ·refine ⟨hσ,c',_,v,hx,by simp [List.lookup],by show 2≤16777216;decide,fun p hp=>?_⟩
  have st:Step W.b W.a H (upd H p (.tup [.str c,v])):=Step.new ok.bag hp
  have rp':∀ b Z,Rp b Z (upd H p (.tup [.str c,v])) x v:=fun b Z=>(((rp W.b (Zof W ρ σ .an)).step st ok.bag).dry dr)
  obtain ⟨ρ',e,ok'⟩:=ok.set st (rf_dry (x:=.tup [.str c,x]) (v:=.ref p) (by simp [dr]) fun b Z=>⟨p,_,rfl,upd_same,⟨_,_,rfl,rfl,_,_,rfl,rp' b Z,rfl⟩⟩) h
  exact rl.nx ρ' _ _ e ok'
end
end
end L2
set_option Elab.async false
set_option linter.all false
set_option maxRecDepth 100000
set_option maxHeartbeats 4000000
namespace L2
open PySem PySem.Spec PyProof.Rows PySem.W
noncomputable abbrev itO (own:Value) (fl:Bool) (d:Addr) (i n ep:Nat) (ok ov:Value):Obj:={ cls:=.type "dict_itemiterator",data:=.fields #[own,.bool fl,.ref d,.int i 0,.int n 0,.int ep 0,ok,ov] }
noncomputable abbrev pairO (k v:Value):Obj:={ cls:=.type "tuple",data:=.seq #[k,v] }
noncomputable def ItS (h:Heap) (it d:Addr) (i n ep:Nat):Prop:=∃ own fl ok ov,h.get? it=some (itO own fl d i n ep ok ov)∧((own=.none∧fl=false)∨∃ (a:Addr) (oa:Obj),own=rawInt a∧h.get? a=some oa∧a≠it)
theorem ItS.lt {h:Heap} {it d:Addr} {i n ep:Nat} (x:ItS h it d i n ep):it<h.objs.size:=let ⟨_,_,_,_,e,_⟩:=x;Heap.lt_size e
theorem ItS.keep {h h':Heap} {it d:Addr} {i n ep:Nat} (x:ItS h it d i n ep) (k:∀ o,h.get? it=some o→h'.get? it=some o) (t:∀ b o,h.get? b=some o→∃ o',h'.get? b=some o'):ItS h' it d i n ep:=by
 obtain ⟨own,fl,ok,ov,e,q⟩:=x
 refine ⟨own,fl,ok,ov,k _ e,q.imp_right fun ⟨a,oa,e1,e2,e3⟩=>?_⟩
 obtain ⟨o',e4⟩:=t a oa e2
 exact ⟨a,o',e1,e4,e3⟩
section
variable {prog:Program} {w:World} {A:Around} {E:Value→Shared→Prop} {s:Shared} {d it:Addr} {es:Array DictEntry} {ep i:Nat}
theorem raw_inext {Q:Option Value→Shared→Prop} (st:ItS s.heap it d i es.size ep) (hm:RawD s.heap d es ep) (hi:i<es.size)
  (hQ:∀ h',ItS h' it d (i + 1) es.size ep→h'.get? s.heap.objs.size=some (pairO es[i].key es[i].val)→h'.objs.size=s.heap.objs.size + 1→(∀ b o,b≠it→s.heap.get? b=some o→h'.get? b=some o)→Q (some (.ref s.heap.objs.size)) { s with heap:=h' }) :
  wpAny (model prog w) A (pyNext (.ref it)) Q E s:=by
 obtain ⟨hp,gn,dr,tk,os⟩:=s
 obtain ⟨own,fl,ok,ov,g0,hw⟩:=st
 obtain ⟨od,hod,_,hdd⟩:=id hm
 have ty:Shared.TypeIs ⟨hp,gn,dr,tk,os⟩ (.ref it) "dict_itemiterator":=⟨_,g0,rfl⟩
 have owns:Builtin.Dict_items.ownsTuple "dict_itemiterator"=true:=by decide
 unfold pyNext
 refine wpAny_bind (wpAny_attempt (wpAny_callSpecial?_slot (name:=Str.ofString "__next__") ty F.slot_dict_itemiterator_next (wpAny_call_entry F.slot_dict_itemiterator_next ty F.entry_dict_itemiterator_next ?body (F.args_dict_itemiterator_next_1 _))))
 refine wpAny_bind (wpAny_pure (wpAny_bind (wpAny_bind ?_)))
 first
  | refine wpAny_bind (wpAny_typeNameOfWhole_itemiter ty (wpAny_pure (wpAny_bind (wpAny_fieldsOf g0 rfl ?_))))
  | refine wpAny_bind (wpAny_typeNameOf_itemiter ty (wpAny_pure (wpAny_bind (wpAny_fieldsOf g0 rfl ?_))))
 simp only [owns,if_true]
 show wpAny _ _ (if (Value.ref d == Value.none)=true then _ else _) _ _ _
 rw [if_neg (show ¬ (Value.ref d == Value.none)=true from Bool.false_ne_true)]
 refine wpAny_bind (wpAny_pure (wpAny_bind (wpAny_dictEntries hod hdd ?_)))
 rw [if_neg (by simp)]
 refine wpAny_bind (wpAny_pure (wpAny_bind (wpAny_dictEpoch hod hdd ?_)))
 rw [if_neg (by simp)]
 refine wpAny_pure ?_
 simp only [show ¬ ((i:Int)<0) by lia,if_false,Int.toNat_natCast,Array.getElem?_eq_getElem hi]
 refine wpAny_bind ?_
 first
  | refine wpAny_bind (wpAny_typeNameOfWhole_itemiter ty (wpAny_pure (wpAny_bind (wpAny_isOneOf_itemiter ty ?_))))
  | refine wpAny_bind (wpAny_typeNameOf_itemiter ty (wpAny_pure (wpAny_bind (wpAny_isOneOf_itemiter ty ?_))))
 show wpAny _ _ (setField (.ref it) 3 (rawInt ((i:Int) + 1)) >>= _) _ _ ⟨hp,gn,dr,tk,os⟩
 refine wpAny_bind (wpAny_setField_rec g0 (by simp) fun h1 g1 b1=>?_)
 have b1':Heap.SameBut it hp h1:=b1
 have g1':h1.get? it=some (itO own fl d (i + 1) es.size ep ok ov):=by
  have e:((i + 1:Nat):Int)=(i:Int) + 1:=by lia
  unfold itO;rw [e];simpa [rawInt] using g1
 have ty1:Shared.TypeIs ⟨h1,gn,dr,tk,os⟩ (.ref it) "dict_itemiterator":=⟨_,g1',rfl⟩
 refine wpAny_bind (wpAny_holding (wpAny_bind (wpAny_isOneOf_itemiter ty1 (wpAny_bind (wpAny_isOneOf_itemiter ty1 ?_)))))
 show wpAny _ _ (Builtin.Dict_items.pairFromOwner (.ref it) 6 es[i].key es[i].val) _ _ ⟨h1,gn,dr,tk,os⟩
 unfold Builtin.Dict_items.pairFromOwner
 refine wpAny_bind (wpAny_newTuple ?_)
 have il:it<hp.objs.size:=Heap.lt_size g0
 have sz1:h1.objs.size=hp.objs.size:=b1'.1
 obtain ⟨h2,e2⟩:∃ h2,h2=h1.push (pairO es[i].key es[i].val):=⟨_,rfl⟩
 have g2:h2.get? it=some (itO own fl d (i + 1) es.size ep ok ov):=by rw [e2];exact Heap.get?_push_of_some _ g1'
 have p2:h2.get? hp.objs.size=some (pairO es[i].key es[i].val):=by rw [e2,←sz1];exact Heap.get?_push_size _ rfl
 have z2:h2.objs.size=hp.objs.size + 1:=by rw [e2,Heap.size_push,sz1]
 have k2:∀ b o,b≠it→hp.get? b=some o→h2.get? b=some o:=fun b o hb e=>by rw [e2];exact Heap.get?_push_of_some _ (b1'.extBut b o hb e)
 show wpAny _ _ (Builtin.Dict_items.ownedTupleIsFree (.ref it) >>= _) _ _ ⟨h1.push (pairO es[i].key es[i].val),gn,dr,tk,os⟩
 rw [sz1,←e2]
 clear e2 g1 g1' b1 ty1
 have ne:hp.objs.size≠it:=Nat.ne_of_gt il
 -- the end,from any state in which only the walk's own record has changed
 have fin:∀ (h':Heap) (own':Value) (fl':Bool) (ok' ov':Value),h'.get? it=some (itO own' fl' d (i + 1) es.size ep ok' ov')→Heap.SameBut it h2 h'→(∃ (a:Addr) (oa:Obj),own'=rawInt a∧h2.get? a=some oa∧a≠it)→Q (some (.ref hp.objs.size)) ⟨h',gn,dr,tk,os⟩:=fun h' own' fl' ok' ov' g' b' ⟨a,oa,ea,ga,na⟩ =>
  hQ h' ⟨own',fl',ok',ov',g',.inr ⟨a,oa,ea,b'.extBut a oa na ga,na⟩⟩ (b'.extBut _ _ ne p2) (by show h'.objs.size=hp.objs.size + 1;rw [b'.1,z2]) fun b o hb e=>b'.extBut b o hb (k2 b o hb e)
 refine wpAny_bind ?_
 unfold Builtin.Dict_items.ownedTupleIsFree
 refine wpAny_bind (wpAny_field g2 rfl (x:=own) rfl ?_)
 rcases hw with ⟨rfl,rfl⟩ | ⟨a,oa,rfl,ga,na⟩
 ·refine wpAny_pure ?_
  simp only [if_true]
  refine wpAny_bind (wpAny_field g2 rfl (x:=ok) rfl (wpAny_bind (wpAny_field g2 rfl (x:=ov) rfl ?_)))
  refine wpAny_bind (wpAny_setField_rec g2 (by simp) fun h3 g3 b3=>?_)
  have g3':h3.get? it=some (itO .none false d (i + 1) es.size ep es[i].key ov):=g3
  refine wpAny_bind (wpAny_setField_rec g3' (by simp) fun h4 g4 b4=>?_)
  have g4':h4.get? it=some (itO .none false d (i + 1) es.size ep es[i].key es[i].val):=g4
  refine wpAny_bind (wpAny_setField_rec g4' (by simp) fun h5 g5 b5=>?_)
  have g5':h5.get? it=some (itO (rawInt hp.objs.size) false d (i + 1) es.size ep es[i].key es[i].val):=g5
  refine wpAny_bind (wpAny_setField_rec g5' (by simp) fun h6 g6 b6=>?_)
  have g6':h6.get? it=some (itO (rawInt hp.objs.size) false d (i + 1) es.size ep es[i].key es[i].val):=g6
  exact wpAny_bind (wpAny_letGo (wpAny_pure (wpAny_pure ⟨_,rfl,wpAny_pure (fin h6 _ _ _ _ g6' (((Heap.SameBut.trans b3 b4).trans b5).trans b6) ⟨_,_,rfl,p2,ne⟩)⟩)))
 ·have ga2:h2.get? a=some oa:=k2 a oa na ga
  show wpAny _ _ (loadIfAlive ((a:Int).toNat) >>= _) _ _ _
  rw [Int.toNat_natCast]
  refine wpAny_bind (kdx_alive ga2 ?_)
  simp only [Option.isNone_some,Bool.false_eq_true,if_false]
  refine wpAny_bind (wpAny_field g2 rfl (x:=.bool fl) rfl ?_)
  cases fl with
  | true =>
   rw [if_neg (show ¬ (Value.bool true != Value.bool true)=true from Bool.false_ne_true)]
   refine wpAny_pure ?_
   simp only [Bool.false_eq_true,if_false]
   exact wpAny_pure (wpAny_pure ⟨_,rfl,wpAny_pure (fin h2 _ _ _ _ g2 (Heap.SameBut.refl _ _) ⟨a,oa,rfl,ga2,na⟩)⟩)
  | false =>
   rw [if_pos (show (Value.bool false != Value.bool true)=true from rfl)]
   refine wpAny_bind (wpAny_setField_rec g2 (by simp) fun h3 g3 b3=>?_)
   have g3':h3.get? it=some (itO (rawInt a) true d (i + 1) es.size ep ok ov):=g3
   refine wpAny_pure ?_
   simp only [Bool.false_eq_true,if_false]
   exact wpAny_pure (wpAny_pure ⟨_,rfl,wpAny_pure (fin h3 _ _ _ _ g3' b3 ⟨a,oa,rfl,ga2,na⟩)⟩)
theorem raw_iend {Q:Option Value→Shared→Prop} (hh:A.handled=none) (st:ItS s.heap it d es.size es.size ep) (hm:RawD s.heap d es ep) (hQ:∀ h',Heap.ExtBut it s.heap h'→Q none { s with heap:=h' }):wpAny (model prog w) A (pyNext (.ref it)) Q E s:=by
 obtain ⟨own,fl,ok,ov,g0,_⟩:=st
 obtain ⟨od,hod,_,hdd⟩:=id hm
 have ty:s.TypeIs (.ref it) "dict_itemiterator":=⟨_,g0,rfl⟩
 have owns:Builtin.Dict_items.ownsTuple "dict_itemiterator"=true:=by decide
 unfold pyNext
 refine wpAny_bind (wpAny_attempt (wpAny_callSpecial?_slot (name:=Str.ofString "__next__") ty F.slot_dict_itemiterator_next (wpAny_call_entry F.slot_dict_itemiterator_next ty F.entry_dict_itemiterator_next ?body (F.args_dict_itemiterator_next_1 _))))
 refine wpAny_bind (wpAny_pure (wpAny_bind (wpAny_bind ?_)))
 first
  | refine wpAny_bind (wpAny_typeNameOfWhole_itemiter ty (wpAny_pure (wpAny_bind (wpAny_fieldsOf g0 rfl ?_))))
  | refine wpAny_bind (wpAny_typeNameOf_itemiter ty (wpAny_pure (wpAny_bind (wpAny_fieldsOf g0 rfl ?_))))
 simp only [owns,if_true]
 show wpAny _ _ (if (Value.ref d == Value.none)=true then _ else _) _ _ s
 rw [if_neg (show ¬ (Value.ref d == Value.none)=true from Bool.false_ne_true)]
 refine wpAny_bind (wpAny_pure (wpAny_bind (wpAny_dictEntries hod hdd ?_)))
 rw [if_neg (by simp)]
 refine wpAny_bind (wpAny_pure (wpAny_bind (wpAny_dictEpoch hod hdd ?_)))
 rw [if_neg (by simp)]
 refine wpAny_pure ?_
 simp only [show ¬ ((es.size:Int)<0) by lia,if_false,Int.toNat_natCast,Array.getElem?_eq_none (Nat.le_refl es.size)]
 refine wpAny_bind ?_
 first
  | refine wpAny_bind (wpAny_typeNameOfWhole_itemiter ty (wpAny_pure ?_))
  | refine wpAny_bind (wpAny_typeNameOf_itemiter ty (wpAny_pure ?_))
 show wpAny _ _ (setField (.ref it) 2 .none >>= _) _ _ s
 refine wpAny_bind (wpAny_setField g0 rfl (by simp) ?_)
 show wpAny _ _ (newExc (.type "StopIteration") [] >>= _) _ _ _
 refine wpAny_bind ?_
 simp only [newExc,newTuple]
 refine wpAny_bind (wpAny_newObj_type ?nx (by size_fits))
 refine wpAny_bind (m:=firstArgMember _ _) (wpAny_of_eq (a:=Value.none) (by first | rfl | (simp only [firstArgMember];rfl)) (wpAny_newObj_type ?ny (by size_fits)))
 simp only [raiseNew]
 refine wpAny_bind (wpAny_handled ?_)
 rw [show A.in1.handled=none from hh]
 refine wpAny_bind (wpAny_pure (wpAny_throw ?_))
 refine wpAny_bind (wpAny_isInstance (T:="StopIteration") (b:=true) ⟨_,Heap.get?_push_size _ rfl,rfl⟩ isSubtype_stop ?fin)
 exact wpAny_pure (hQ _ (((Heap.SameBut.update ..).extBut.push _).push _))
theorem raw_iiter {v:Addr} {Q:Value→Shared→Prop} (hv:s.heap.IsItemsView v d) (hm:RawD s.heap d es ep) (hQ:Q (.ref s.heap.objs.size) { s with heap:=s.heap.push (itO .none false d 0 es.size ep .none .none) }):wpAny (model prog w) A (pyIter (.ref v)) Q E s:=by
 obtain ⟨o1,h1,_,d1⟩:=id hv
 obtain ⟨o,ho,_,hd⟩:=id hm
 have owns:Builtin.Dict_items.ownsTuple "dict_itemiterator"=true:=by decide
 refine wpAny_pyIter_slot hv.typeIs F.slot_dict_items_iter (wpAny_call_entry F.slot_dict_items_iter hv.typeIs F.entry_dict_items_iter ?body (F.args_dict_items_iter_1 _))
 unfold Builtin.«dict_items.__iter__» Builtin.Dict_items.dictOf Builtin.Dict_items.newIterator
 refine wpAny_bind (wpAny_pure (wpAny_bind (wpAny_bind (wpAny_field h1 d1 (x:=.ref d) rfl (wpAny_pure (wpAny_bind (wpAny_bind (wpAny_dictEntries ho hd (wpAny_bind (wpAny_dictEpoch ho hd ?_))))))))))
 simp only [owns,if_true]
 refine wpAny_newObj_type (wpAny_pure ⟨_,rfl,"dict_itemiterator",_,⟨_,Heap.get?_push_size _ rfl,rfl⟩,F.slot_dict_itemiterator_next.lookup,?_⟩) (by simp only [sizeOk,Builtin.Dict_items.ownedTupleFields,List.size_toArray,List.length_append,List.length_cons,List.length_nil,sizeLine_eq];lia)
 simpa [rawInt,Builtin.Dict_items.ownedTupleFields,itO] using hQ
end
end L2
set_option Elab.async false
set_option linter.all false
set_option maxRecDepth 100000
set_option maxHeartbeats 4000000
namespace L2
open PySem PySem.Spec PyProof.Rows PySem.W
structure Made (es:Array DictEntry) (lo:Addr) (h:Heap) (as:List Addr):Prop where
 nd:as.Nodup
 up:∀ a∈as,lo<a
 at_:∀ (j:Nat) (a:Addr),as[j]?=some a→∃ hj:j<es.size,h.get? a=some (pairO es[j].key es[j].val)
theorem Made.mono {es:Array DictEntry} {lo:Addr} {h h':Heap} {as:List Addr} (x:Made es lo h as) (k:∀ b o,lo<b→h.get? b=some o→h'.get? b=some o):Made es lo h' as :=
 ⟨x.nd,x.up,fun j a e=>let ⟨hj,q⟩:=x.at_ j a e;⟨hj,k a _ (x.up a (List.mem_of_getElem? e)) q⟩⟩
section
variable {prog:Program} {w:World} {A:Around} {s:Shared} {R:Result→Shared→Prop} {es:Array DictEntry} {ep:Nat}
theorem raw_loop {S I d:Addr} (hh:A.handled=none) (hSI:S<I) (dS:d≠S) (dI:d≠I) (hn:es.size≤sizeLine) (res:Value) {h1:Heap}
  (hR:∀ h' tk acc c as,(∀ b o,b≠S→b≠I→h1.get? b=some o→h'.get? b=some o)→h'.get? S=some { cls:=.type "list",data:=.seq acc c }→as.length=es.size→Made es I h' as→acc.toList=as.map Value.ref→R (.ok (.ret res)) { s with heap:=h',toks:=tk }) :
  ∀ (k i:Nat) (h:Heap) (tk c:Nat) (acc:Array Value) (as:List Addr),es.size - i=k→i≤es.size→ItS h I d i es.size ep→RawD h d es ep→(∀ b o,b≠S→b≠I→h1.get? b=some o→h.get? b=some o) →
   h.get? S=some { cls:=.type "list",data:=.seq acc c }→acc.toList=as.map Value.ref→as.length=i→Made es I h as →
   codeAny (model prog w) A (.builtin "list.extend.loop" ⟨[.ref S,.ref I,res],[]⟩) R { s with heap:=h,toks:=tk }:=by
 have ne:S≠I:=Nat.ne_of_lt hSI
 intro k
 induction k with
 | zero =>
  intro i h tk c acc as hk hi st hm kp gS ea el mk
  obtain rfl:i=es.size:=by lia
  refine codeAny_builtin PySem.F.entry_extend_loop ?_
  rw [Around.under_plainId PySem.F.plain_extend_loop _]
  show wpAny _ A.in1 (pyNext (.ref I) >>= _) _ _ _
  refine wpAny_bind (raw_iend (s:={ s with heap:=h,toks:=tk }) (A:=A.in1) hh st hm fun h' he=>?_)
  exact wpAny_pure (hR h' tk acc c as (fun b o n1 n2 e=>he b o n2 (kp b o n1 n2 e)) (he S _ ne gS) el (mk.mono fun b o hb e=>he b o (Nat.ne_of_gt hb) e) ea)
 | succ k ih =>
  intro i h tk c acc as hk hi st hm kp gS ea el mk
  have lt:i<es.size:=by lia
  have sz:acc.size=i:=by rw [←Array.length_toList,ea,List.length_map,el]
  refine codeAny_builtin PySem.F.entry_extend_loop ?_
  rw [Around.under_plainId PySem.F.plain_extend_loop _]
  show wpAny _ A.in1 (pyNext (.ref I) >>= _) _ _ _
  refine wpAny_bind (raw_inext (s:={ s with heap:=h,toks:=tk }) st hm lt fun h' st' gp zp kp'=>?_)
  dsimp only at gp zp kp' ⊢
  have gS':=kp' S _ ne gS
  have Sl:S<h.objs.size:=Heap.lt_size gS
  have Il:I<h.objs.size:=st.lt
  have other:∀ b o,b≠S→h'.get? b=some o→(h'.update S (Obj.mapSeq (·.push (Value.ref h.objs.size)))).get? b=some o:=fun b o hb e=>(Heap.get?_update_other _ _ (Ne.symm hb)).trans e
  have gS2:=Heap.get?_update_self (Obj.mapSeq (·.push (Value.ref h.objs.size))) gS' rfl
  show wpAny _ A.in1 (updateSeq S (·.push (Value.ref h.objs.size)) >>= _) _ _ _
  refine wpAny_bind (wpAny_updateSeq gS' rfl (wpAny_pure ⟨plainId_quiet PySem.F.plain_extend_loop _,ih (i + 1) _ tk _ (acc.push (Value.ref h.objs.size)) (as ++ [h.objs.size]) (by lia) lt ?_ ?_ ?_ gS2 ?_ ?_ ⟨?_,?_,?_⟩⟩) (by rw [sz];lia) (by show (acc.push (Value.ref h.objs.size)).size≤sizeLine + 1;rw [Array.size_push,sz];lia))
  ·refine st'.keep (fun o e=>other I o ne.symm e) fun b o e=>?_
   by_cases hb:b=S
   ·rw [hb];exact ⟨_,gS2⟩
   ·exact ⟨o,other b o hb e⟩
  ·exact hm.keep fun o e=>other d o dS (kp' d o dI e)
  ·exact fun b o n1 n2 e=>other b o n1 (kp' b o n2 (kp b o n1 n2 e))
  ·rw [Array.toList_push,ea,List.map_append];rfl
  ·rw [List.length_append,el];rfl
  ·refine List.nodup_append.mpr ⟨mk.nd,(by simp),fun a ha b hb=>?_⟩
   rw [List.mem_singleton.mp hb]
   obtain ⟨j,hj⟩:=List.mem_iff_getElem?.mp ha
   obtain ⟨_,q⟩:=mk.at_ j a hj
   exact Nat.ne_of_lt (Heap.lt_size q)
  ·intro a ha
   rcases List.mem_append.mp ha with ha | ha
   ·exact mk.up a ha
   ·rw [List.mem_singleton.mp ha];exact Il
  ·intro j a hj
   rcases Nat.lt_trichotomy j as.length with h2 | h2 | h2
   ·rw [List.getElem?_append_left h2] at hj
    obtain ⟨q1,q2⟩:=mk.at_ j a hj
    have:=mk.up a (List.mem_of_getElem? hj)
    exact ⟨q1,other a _ (Nat.ne_of_gt (Nat.lt_trans hSI this)) (kp' a _ (Nat.ne_of_gt this) q2)⟩
   ·subst h2
    have e:h.objs.size=a:=by simpa using hj
    subst e
    rw [el] at *
    exact ⟨lt,other _ _ (Nat.ne_of_gt Sl) gp⟩
   ·rw [List.getElem?_eq_none (by rw [List.length_append,List.length_singleton];lia)] at hj;cases hj
theorem raw_extend {r d S:Addr} (hh:A.handled=none) (hv:s.heap.IsItemsView r d) (hm:RawD s.heap d es ep) (nr:S≠r) (dS:d≠S) (res:Value) (c0:Nat) (gS:s.heap.get? S=some { cls:=.type "list",data:=.seq #[] c0 }) (hn:es.size≤sizeLine)
  (hR:∀ h' tk acc c as,(∀ b o,b≠S→s.heap.get? b=some o→h'.get? b=some o)→h'.get? S=some { cls:=.type "list",data:=.seq acc c }→as.length=es.size→Made es s.heap.objs.size h' as→acc.toList=as.map Value.ref→R (.ok (.ret res)) { s with heap:=h',toks:=tk }) :
  wpAny (model prog w) A.in1 (Builtin.List.listExtendWith (.ref S) (.ref r) res) (fun fin s'=>match fin with | .done f=>R (.ok f) s' | .again c'=>c'.quiet=true∧codeAny (model prog w) A c' R s') (fun e s'=>R (.error e) s') s:=by
 have Sl:S<s.heap.objs.size:=Heap.lt_size gS
 have go:∀ (h:Heap) (c1 tk:Nat),(∀ b o,b≠S→(s.heap.push (itO .none false d 0 es.size ep .none .none)).get? b=some o→h.get? b=some o)→h.get? S=some { cls:=.type "list",data:=.seq #[] c1 } →
   codeAny (model prog w) A (.builtin "list.extend.loop" ⟨[.ref S,.ref s.heap.objs.size,res],[]⟩) R { s with heap:=h,toks:=tk }:=fun h c1 tk k gS1=>by
  have gI:=k s.heap.objs.size _ (Nat.ne_of_gt Sl) (Heap.get?_push_size _ rfl)
  refine raw_loop (s:=s) (h1:=s.heap) hh Sl dS (Nat.ne_of_lt hm.lt) hn res (fun h' tk' acc c as kk gS' el mk ea=>hR h' tk' acc c as (fun b o hb e=>kk b o hb (Nat.ne_of_lt (Heap.lt_size e)) e) gS' el mk ea) es.size 0 h tk c1 #[] [] (Nat.sub_zero _) (Nat.zero_le _)
   ⟨.none,false,.none,.none,gI,.inl ⟨rfl,rfl⟩⟩ (hm.keep fun o e=>k d o dS (Heap.get?_push_of_some _ e)) (fun b o hb _ e=>k b o hb (Heap.get?_push_of_some _ e)) gS1 rfl rfl ⟨.nil,(fun _ z=>nomatch z),fun j a e=>by simp at e⟩
 unfold Builtin.List.listExtendWith
 refine wpAny_bind (wpAny_typeOf (T:="dict_items") hv.typeIs ?_)
 have n1:Builtin.List.listSameRef (.ref S) (.ref r)=false:=by simp [Builtin.List.listSameRef,nr]
 have n2:(Value.type "dict_items" == Value.type "list")=false:=by decide
 have n3:(Value.type "dict_items" == Value.type "tuple")=false:=by decide
 simp only [n1,n2,n3,Bool.or_false,Bool.false_eq_true,if_false]
 refine wpAny_bind (raw_iiter hv hm ?_)
 have gS1:=Heap.get?_push_of_some (itO .none false d 0 es.size ep .none .none) gS
 refine wpAny_bind (wpAny_holding (kdx_hint (let ⟨o,ho,hc,_⟩:=hv;⟨o,Heap.get?_push_of_some _ ho,hc⟩) ?_))
 refine wpAny_ite_split (fun _=>?_) (fun _=>wpAny_pure ⟨plainId_quiet PySem.F.plain_extend_loop _,go _ c0 _ (fun b o _ e=>e) gS1⟩)
 refine wpAny_bind (wpAny_rule (wpAny_bind ?_))
 show wpAny _ _ (updateSeq S (·.push .none) >>= fun _=>updateSeq S (·.pop)) _ _ _
 refine wpAny_bind (wpAny_updateSeq gS1 rfl ?_)
 have gS2:=Heap.get?_update_self (Obj.mapSeq (·.push Value.none)) gS1 rfl
 refine wpAny_updateSeq (hz:=by seq_fits) gS2 rfl ?_
 have gS3:=Heap.get?_update_self (Obj.mapSeq (·.pop)) gS2 rfl
 exact wpAny_pure ⟨plainId_quiet PySem.F.plain_extend_loop _,go _ _ _ (fun b o hb e=>(Heap.get?_update_other _ _ (Ne.symm hb)).trans ((Heap.get?_update_other _ _ (Ne.symm hb)).trans e)) gS3⟩
theorem raw_init {r d S:Addr} (hh:A.handled=none) (hv:s.heap.IsItemsView r d) (hm:RawD s.heap d es ep) (nr:S≠r) (dS:d≠S) (gS:s.heap.get? S=some { cls:=.type "list",data:=.seq #[] }) (hn:es.size≤sizeLine)
  (hR:∀ h' tk acc c as,(∀ b o,b≠S→s.heap.get? b=some o→h'.get? b=some o)→h'.get? S=some { cls:=.type "list",data:=.seq acc c }→as.length=es.size→Made es s.heap.objs.size h' as→acc.toList=as.map Value.ref→R (.ok (.ret .none)) { s with heap:=h',toks:=tk }) :
  wpAny (model prog w) A.in1 (Builtin.«list.__init__» ⟨[.ref S,.ref r],[]⟩) (fun fin s'=>match fin with | .done f=>R (.ok f) s' | .again c'=>c'.quiet=true∧codeAny (model prog w) A c' R s') (fun e s'=>R (.error e) s') s:=by
 show wpAny _ _ (Builtin.List.listItems (.ref S) >>= fun old=>Builtin.List.listUpdate (.ref S) (fun _=>#[]) >>= fun _=>letGo old.toList.reverse >>= fun _=>Builtin.List.listExtendWith (.ref S) (.ref r) .none) _ _ s
 unfold Builtin.List.listItems
 refine wpAny_bind (wpAny_bind (wpAny_seqItems gS rfl (wpAny_pure ?_)))
 show wpAny _ _ (updateSeq S (fun _=>#[]) >>= fun _=>letGo (#[]:Array Value).toList.reverse >>= fun _=>Builtin.List.listExtendWith (.ref S) (.ref r) .none) _ _ s
 have oth:∀ b o,b≠S→s.heap.get? b=some o→(s.heap.update S (Obj.mapSeq (fun _=>(#[]:Array Value)))).get? b=some o:=fun b o hb e=>(Heap.get?_update_other _ _ (Ne.symm hb)).trans e
 have gS2:=Heap.get?_update_self (Obj.mapSeq (fun _=>(#[]:Array Value))) gS rfl
 refine wpAny_bind (wpAny_updateSeq gS rfl (wpAny_bind (wpAny_letGo ?_)))
 refine raw_extend (s:={ s with heap:=s.heap.update S (Obj.mapSeq (fun _=>(#[]:Array Value))) }) hh (let ⟨o,ho,x⟩:=hv;⟨o,oth r o nr.symm ho,x⟩) (hm.keep fun o e=>oth d o dS e) nr dS .none _ gS2 hn fun h' tk acc c as k gS' el mk ea=>hR h' tk acc c as (fun b o hb e=>k b o hb (oth b o hb e)) gS' el ?_ ea
 have e:(s.heap.update S (Obj.mapSeq (fun _=>(#[]:Array Value)))).objs.size=s.heap.objs.size:=by simp
 rw [←e];exact mk
theorem raw_list {E:Value→Shared→Prop} {r d:Addr} {Q:Value→Shared→Prop} (hh:A.handled=none) (hv:s.heap.IsItemsView r d) (hm:RawD s.heap d es ep) (hn:es.size≤sizeLine)
  (hQ:∀ h' tk acc c as,(∀ b o,s.heap.get? b=some o→h'.get? b=some o)→h'.get? s.heap.objs.size=some { cls:=.type "list",data:=.seq acc c }→as.length=es.size→Made es s.heap.objs.size h' as→acc.toList=as.map Value.ref→Q (.ref s.heap.objs.size) { s with heap:=h',toks:=tk }) :
  wpAny (model prog w) A (call (.type "list") [.ref r]) Q E s:=by
 refine callType_codes (Q₁:=fun obj s1=>obj=.ref s.heap.objs.size∧s1={ s with heap:=s.heap.push { cls:=.type "list",data:=.seq #[] } }) PySem.F.called_list (PySem.F.typeCall_list_1 _) PySem.F.entry_list_init (code_list_new _ ⟨rfl,rfl⟩) fun obj s1 h1=>?_
 obtain ⟨rfl,rfl⟩:=h1
 have gS:(s.heap.push { cls:=.type "list",data:=.seq #[] }).get? s.heap.objs.size=some { cls:=.type "list",data:=.seq #[] }:=Heap.get?_push_size _ rfl
 have lr:r<s.heap.objs.size:=let ⟨_,ho,_⟩:=hv;Heap.lt_size ho
 refine ⟨⟨_,gS,rfl⟩,PySem.F.args_list_init_2 _ _,raw_init (A:=A.in1) hh (let ⟨o,ho,x⟩:=hv;⟨o,Heap.get?_push_of_some _ ho,x⟩) (hm.keep fun o e=>Heap.get?_push_of_some _ e) (Nat.ne_of_gt lr) (Nat.ne_of_lt hm.lt) gS hn fun h' tk acc c as k gS' el mk ea=>?_⟩
 refine ⟨rfl,hQ h' tk acc c as (fun b o e=>k b o (Nat.ne_of_lt (Heap.lt_size e)) (Heap.get?_push_of_some _ e)) gS' el ⟨mk.nd,fun a ha=>?_,mk.at_⟩ ea⟩
 have z:(s.heap.push { cls:=.type "list",data:=.seq #[] }).objs.size<a:=mk.up a ha
 rw [Heap.size_push] at z
 exact Nat.lt_of_succ_lt z
end
end L2
set_option Elab.async false
set_option linter.all false
set_option maxRecDepth 100000
set_option maxHeartbeats 4000000
namespace L2
open PySem PySem.Spec PyProof.Rows PySem.W
noncomputable def VwO (r p:Addr):HO:=.ext fun h=>h.IsItemsView r p
noncomputable def rItems:V→List V→Hp→VK→Prop:=fun x xs H Q=>∃ (p:Addr) (kvs:List (List Key×V)),x=.ref p∧xs=[]∧H p=some (.dT kvs)∧∀ r,H r=none→Q (.ref r) (upd H r (VwO r p))
noncomputable def updT (H:Hp):List (Addr×List V)→Hp
 | []=>H
 | q :: r=>upd (updT H r) q.1 (.tup q.2)
theorem updT_ne {H:Hp} {p:Addr}:∀ {qs:List (Addr×List V)},p ∉ qs.map (·.1)→updT H qs p=H p
 | [],_=>rfl
 | q :: r,h=>by
  rw [List.map_cons,List.mem_cons,not_or] at h
  unfold updT
  rw [upd_ne h.1]
  exact updT_ne h.2
theorem updT_get {H:Hp}:∀ {qs:List (Addr×List V)},(qs.map (·.1)).Nodup→∀ q∈qs,updT H qs q.1=some (.tup q.2)
 | [],_,q,h=>nomatch h
 | y :: r,nd,q,h=>by
  rw [List.map_cons,List.nodup_cons] at nd
  unfold updT
  rcases List.mem_cons.mp h with rfl | h
  ·exact upd_same
  ·rw [upd_ne (fun z=>nd.1 (by rw [←z];exact List.mem_map_of_mem h))]
   exact updT_get nd.2 q h
noncomputable def rListI:List V→Hp→VK→Prop:=fun xs H Q=>∃ (r p:Addr) (kvs:List (List Key×V)),xs=[.ref r]∧H r=some (VwO r p)∧H p=some (.dT kvs) ∧
 ∀ (l:Addr) (qs:List (Addr×Addr×List Key×V)),H l=none→qs.map (·.2.2)=kvs→(qs.map (·.1)).Nodup→(∀ q∈qs,H q.1=none∧q.1≠l∧H q.2.1=some (.tup (q.2.2.1.map kV))) →
  Q (.ref l) (upd (updT H (qs.map fun q=>(q.1,[.ref q.2.1,q.2.2.2]))) l (.lst (qs.map fun q=>V.ref q.1)))
section
variable {X:Cx} {pins:List (Addr×Obj)} {σ:St} {H H':Hp} {s:Shared} {a:Addr}
theorem Inv.apart2 (I:Inv X pins σ H s) (hp:s.heap.objs.size≤a) (f:H' a=none):Apart X pins H' a where
 new:=Heap.get?_none_of_le (Nat.le_trans I.sz hp)
 free:=f
 loc:=fun z=>by obtain ⟨m,⟨o,_,_,ho,_⟩,_⟩:=I.loc;rw [z] at hp;exact absurd (Heap.lt_size ho) (Nat.not_lt.mpr hp)
 cell:=fun y k e z=>by obtain ⟨v,o,ho,_⟩:=I.cell y k e;rw [z] at ho;exact absurd (Heap.lt_size ho) (Nat.not_lt.mpr hp)
 pin:=fun p hq z=>by have:=(I.pin p hq).1;rw [z] at this;exact absurd (Heap.lt_size this) (Nat.not_lt.mpr hp)
theorem Apart.to {H':Hp} (x:Apart X pins H a) (f:H' a=none):Apart X pins H' a:=⟨x.new,f,x.loc,x.cell,x.pin⟩
theorem Inv.tracks:∀ {qs:List (Addr×List V)},(qs.map (·.1)).Nodup→(∀ q∈qs,Apart X pins H q.1)→(∀ q∈qs,q.2.length≤sizeLine∧∃ its:List Value,Vals q.2 its∧TupO s.heap q.1 its.toArray)→Inv X pins σ H s→Inv X pins σ (updT H qs) s
 | [],_,_,_,I=>I
 | q :: r,nd,ap,ok,I=>by
  rw [List.map_cons,List.nodup_cons] at nd
  have J:=Inv.tracks nd.2 (fun q hq=>ap q (List.mem_cons_of_mem _ hq)) (fun q hq=>ok q (List.mem_cons_of_mem _ hq)) I
  have z:=ap q (List.mem_cons_self ..)
  exact J.track (o:=.tup q.2) (z.to (by rw [updT_ne nd.1];exact z.free)) (ok q (List.mem_cons_self ..))
theorem mt_items:MtR X "dict.items" rItems:=by
 intro pins s σ H x xs v us Q I rx rv h
 obtain ⟨p,kvs,rfl,rfl,hp,k⟩:=h
 cases rx
 cases rv
 obtain ⟨es,ep,ps,rd,hd,_⟩:=raw_dT I.hok hp
 refine call_meetsIn PySem.F.slot_dict_items rd.typeIs PySem.F.entry_dict_items (PySem.F.args_dict_items_1 _) (S:=fun _ R s=>s.TypeIs (.ref p) "dict"∧R (.ok (.ret (.ref s.heap.objs.size))) { s with heap:=s.heap.push { cls:=.type "dict_items",data:=.fields #[.ref p] } }) (.of_wp fun A R s ⟨ty,h⟩=>?_) ⟨rd.typeIs,?_⟩
 ·unfold Builtin.«dict.items» Builtin.Dict.noArgs
  refine wpAny_bind (wpAny_bind (wpAny_notOrdered_dict ty ?_))
  show wpAny _ _ (pure p) _ _ s
  refine wpAny_pure ?_
  show wpAny _ _ (Builtin.Dict.showsAll p >>= _) _ _ s
  unfold Builtin.Dict.showsAll
  rw [if_neg (by rw [hd];exact Bool.false_ne_true)]
  exact wpAny_bind (wpAny_pure (wpAny_bind (wpAny_newObj_type (wpAny_pure ⟨_,rfl,h⟩))))
 ·have g:(s.heap.push { cls:=.type "dict_items",data:=.fields #[.ref p] }).get? s.heap.objs.size=some { cls:=.type "dict_items",data:=.fields #[.ref p] }:=Heap.get?_push_size _ rfl
  exact ⟨.ref s.heap.objs.size,_,I.laid (t':=s.toks) (o:=VwO s.heap.objs.size p) (fun b u e=>Heap.get?_push_of_some _ e) (Nat.le_refl _) ⟨⟨_,g,rfl,rfl⟩,⟨_,g⟩,fun h1 h2 ⟨o,e,r⟩ kk=>⟨o,kk o e,r⟩⟩,rfl,k _ (I.hok.fresh (Nat.le_refl _))⟩
theorem build_pairs {h':Heap}:∀ {as:List Addr} {kvs:List (List Key×V)} {ys:List (List Key×Addr×Value)},Paired (fun (p:List Key×V) (q:List Key×Addr×Value)=>p.1=q.1∧H q.2.1=some (.tup (p.1.map kV))∧RelV p.2 q.2.2) kvs ys→as.length=ys.length →
  (∀ (j:Nat) a,as[j]?=some a→∃ y,ys[j]?=some y∧h'.get? a=some (pairO (.ref y.2.1) y.2.2))→∃ qs:List (Addr×Addr×List Key×V),qs.map (·.1)=as∧qs.map (·.2.2)=kvs∧∀ q∈qs,H q.2.1=some (.tup (q.2.2.1.map kV))∧∃ u,RelV q.2.2.2 u∧h'.get? q.1=some (pairO (.ref q.2.1) u)
 | [],_,_,.nil,_,_=>⟨[],rfl,rfl,fun _ h=>nomatch h⟩
 | _ :: _,_,_,.nil,l,_=>by simp at l
 | [],_,_,.cons _ _,l,_=>by simp at l
 | a :: as,_,_,.cons (a:=p) (b:=y) r t,l,f=>by
  obtain ⟨qs,e1,e2,e3⟩:=build_pairs (as:=as) t (by simpa using l) fun j b hb=>by
   have:=f (j + 1) b (by simpa using hb)
   simpa using this
  obtain ⟨y',ey,g⟩:=f 0 a rfl
  have ey':y=y':=by simpa using ey
  subst ey'
  refine ⟨(a,y.2.1,p) :: qs,by rw [List.map_cons,e1],by rw [List.map_cons,e2],fun q hq=>?_⟩
  rcases List.mem_cons.mp hq with rfl | hq
  ·exact ⟨r.2.1,y.2.2,r.2.2,g⟩
  ·exact e3 q hq
theorem call_listI (hc:X.calm=true):CallR X (.type "list") rListI:=by
 intro pins s σ H xs us Q I r h
 obtain ⟨r0,p,kvs,rfl,hr,hp,k⟩:=h
 obtain ⟨u,rfl,ru⟩:=r.one
 cases ru
 obtain ⟨z,hd,ys,rel,o,es,ep,h1,h2,h3,h4,_⟩:=I.hok p _ hp
 have hv:s.heap.IsItemsView r0 p:=(I.hok r0 _ hr).1
 have hl:es.size=ys.length:=by rw [←Array.length_toList,h4,List.length_map]
 have hl2:kvs.length=ys.length:=rel.length
 refine raw_list (I.ok.hd hc) hv ⟨o,h1,h2,h3⟩ (by lia) fun h' tk acc c as kp gS el mk ea=>?_
 have la:as.length=ys.length:=by lia
 obtain ⟨qs,e1,e2,e3⟩:=build_pairs (h':=h') (as:=as) rel la fun j a hj=>by
  obtain ⟨hjl,q⟩:=mk.at_ j a hj
  have hj2:j<ys.length:=by lia
  refine ⟨ys[j],List.getElem?_eq_getElem hj2,?_⟩
  have e:es[j]=entryOfKey (tupleKind (mixKind X.prog X.w)) ys[j]:=by
   have:=congrArg (·[j]?) h4
   simp only [Array.getElem?_toList,List.getElem?_map,List.getElem?_eq_getElem hj2,Array.getElem?_eq_getElem hjl,Option.map_some,Option.some.injEq] at this
   exact this
  rw [q,e];rfl
 have nd:(qs.map (·.1)).Nodup:=by rw [e1];exact mk.nd
 have fresh:∀ q∈qs,s.heap.objs.size<q.1:=fun q hq=>mk.up q.1 (by rw [←e1];exact List.mem_map_of_mem hq)
 have nq:∀ q∈qs,H q.1=none:=fun q hq=>I.hok.fresh (Nat.le_of_lt (fresh q hq))
 have nl:H s.heap.objs.size=none:=I.hok.fresh (Nat.le_refl _)
 have J:=I.kept (t':=tk) kp
 have em:(qs.map fun q=>((q.1,[V.ref q.2.1,q.2.2.2]):Addr×List V)).map (·.1)=qs.map (·.1):=by rw [List.map_map];rfl
 have J2:=J.tracks (qs:=qs.map fun q=>(q.1,[.ref q.2.1,q.2.2.2])) (by rw [em];exact nd) (fun y hy=>by
  obtain ⟨q,hq,rfl⟩:=List.mem_map.mp hy
  exact I.apart2 (Nat.le_of_lt (fresh q hq)) (nq q hq)) (fun y hy=>by
  obtain ⟨q,hq,rfl⟩:=List.mem_map.mp hy
  obtain ⟨_,u,ru,g⟩:=e3 q hq
  exact ⟨by show 2≤16777216;decide,[.ref q.2.1,u],.cons rfl (.cons ru .nil),⟨_,g,rfl,⟨_,rfl⟩,rfl⟩⟩)
 have nl2:(updT H (qs.map fun q=>(q.1,[.ref q.2.1,q.2.2.2]))) s.heap.objs.size=none:=by
  rw [updT_ne]
  ·exact nl
  ·rw [em]
   intro z
   obtain ⟨q,hq,e⟩:=List.mem_map.mp z
   exact absurd (fresh q hq) (by rw [e];exact Nat.lt_irrefl _)
 have lq:qs.length=as.length:=by rw [←e1,List.length_map]
 refine ⟨.ref s.heap.objs.size,_,J2.track (o:=.lst (qs.map fun q=>V.ref q.1)) ((I.apart2 (Nat.le_refl _) nl).to nl2) ⟨by rw [List.length_map];lia,acc.toList,c,?_,by simpa using gS⟩,rfl,k _ qs nl e2 nd fun q hq=>⟨nq q hq,Nat.ne_of_gt (fresh q hq),(e3 q hq).1⟩⟩
 rw [ea,←e1,List.map_map]
 clear e1 e2 e3 nd fresh nq J2 em nl2 lq
 induction qs with
 | nil=>exact .nil
 | cons q r ih=>exact .cons rfl ih
end
theorem step_updT {b a:Addr} {H:Hp} {qs:List (Addr×List V)} (h:Bag H b a) (n:∀ q∈qs,H q.1=none):Step b a H (updT H qs):=by
 have out:∀ p o,H p=some o→p ∉ qs.map (·.1):=fun p o e z=>by
  obtain ⟨q,hq,eq⟩:=List.mem_map.mp z
  have:=n q hq
  rw [eq,e] at this;cases this
 obtain ⟨ns,i,c,z,h1,h2,r⟩:=h
 exact ⟨⟨ns,i,c,z,by rw [updT_ne (out _ _ h1)];exact h1,by rw [updT_ne (out _ _ h2)];exact h2,r⟩,fun p o _ e=>by rw [updT_ne (out p o e)];exact e⟩
theorem rps_items {b:Addr} {Z:Addr→Prop} {H':Hp}:∀ {a:List (List Int×Int)} {qs:List (Addr×Addr×List Key×V)},qs.map (·.2.2)=a.map (fun q=>(keyI q.1,V.int q.2))→(∀ q∈qs,H' q.1=some (.tup [.ref q.2.1,q.2.2.2])∧H' q.2.1=some (.tup (q.2.2.1.map kV)))→Rps b Z H' (a.map prP) (qs.map fun q=>V.ref q.1)
 | [],[],_,_=>rfl
 | [],_ :: _,h,_=>by simp at h
 | _ :: _,[],h,_=>by simp at h
 | x :: a,q :: qs,h,f=>by
  simp only [List.map_cons,List.cons.injEq] at h
  obtain ⟨g1,g2⟩:=f q (List.mem_cons_self ..)
  have e1:q.2.2.1=keyI x.1:=congrArg Prod.fst h.1
  have e2:q.2.2.2=V.int x.2:=congrArg Prod.snd h.1
  rw [e1,kv_ints] at g2
  rw [e2] at g1
  exact ⟨_,_,rfl,⟨_,_,rfl,g1,_,_,rfl,⟨_,_,rfl,g2,Rps.ints.mpr rfl⟩,_,_,rfl,rfl,rfl⟩,rps_items h.2 fun q hq=>f q (List.mem_cons_of_mem _ hq)⟩
noncomputable def pItemsL (pe:pE):pE:=fun ρ K=>pe ρ fun x _=>∃ a:List (List Int×Int),x=dcP a∧K (tlP a) .nw
section
variable {ι:Type} {Xs:ι→Cx} {pos:Pos}
theorem refE_items {Kf:Frag} {te:TE} {pe:pE} (h:RefE te pe):RefE (tCB rListI (tCons (tBM0 Kf "dict" rItems te) tNil)) (pItemsL pe):=fun W ρ σ H Q K ok hk q=>by
 refine h W ρ σ H _ _ ok hk fun x f v H1 ⟨a,ex,k⟩ s1 r1=>?_
 subst ex
 have ok1:=ok.step s1
 obtain ⟨p,us,rfl,_,c1,_,c3⟩:=dT_cell ok1 r1
 have c3':Rps W.b (Zof W ρ σ f) H1 ((a.map (·.2)).map P.int) us:=by rw [List.map_map];exact c3
 have eu:us=a.map fun q=>V.int q.2:=by have:=Rps.ints.mp c3';rw [List.map_map] at this;exact this
 rw [eu,zip_T] at c1
 refine ⟨.inr (.inr (.inl ⟨rfl,.inr ⟨_,c1⟩⟩)),p,_,rfl,rfl,c1,fun r hr=>?_⟩
 have st2:Step W.b W.a H1 (upd H1 r (VwO r p)):=Step.new ok1.bag hr
 refine ⟨r,p,_,rfl,upd_same,by rw [upd_ne (ne_of_none c1 hr)];exact c1,fun l qs hl e2 nd f2=>?_⟩
 have st3:Step W.b W.a (upd H1 r (VwO r p)) (updT (upd H1 r (VwO r p)) (qs.map fun q=>(q.1,[.ref q.2.1,q.2.2.2]))):=step_updT st2.bag fun y hy=>by
  obtain ⟨q,hq,rfl⟩:=List.mem_map.mp hy
  exact (f2 q hq).1
 have em:(qs.map fun q=>((q.1,[V.ref q.2.1,q.2.2.2]):Addr×List V)).map (·.1)=qs.map (·.1):=by rw [List.map_map];rfl
 have hl3:(updT (upd H1 r (VwO r p)) (qs.map fun q=>(q.1,[.ref q.2.1,q.2.2.2]))) l=none:=by
  rw [updT_ne]
  ·exact hl
  ·rw [em]
   intro z
   obtain ⟨q,hq,e⟩:=List.mem_map.mp z
   exact (f2 q hq).2.1 e
 have st4:Step W.b W.a (updT (upd H1 r (VwO r p)) (qs.map fun q=>(q.1,[.ref q.2.1,q.2.2.2]))) (upd (updT (upd H1 r (VwO r p)) (qs.map fun q=>(q.1,[.ref q.2.1,q.2.2.2]))) l (.lst (qs.map fun q=>V.ref q.1))):=Step.new st3.bag hl3
 have l1:H1 l=none:=st2.free hl
 refine q _ _ _ _ k ((s1.trans st2).trans (st3.trans st4)) ⟨⟨l,_,rfl,fun z=>ok1.dom (f:=.fr) z l1,upd_same,rps_items e2 fun q hq=>?_⟩,fun _=>⟨l,rfl,s1.free l1⟩⟩
 obtain ⟨g1,g2,g3⟩:=f2 q hq
 constructor
 ·rw [upd_ne g2]
  exact updT_get (qs:=qs.map fun q=>(q.1,[.ref q.2.1,q.2.2.2])) (by rw [em];exact nd) _ (List.mem_map_of_mem (f:=fun q:Addr×Addr×List Key×V=>((q.1,[V.ref q.2.1,q.2.2.2]):Addr×List V)) hq)
 ·rw [upd_ne (ne_of_none g3 hl),updT_ne]
  ·exact g3
  ·rw [em]
   intro z
   obtain ⟨y,hy,e⟩:=List.mem_map.mp z
   have:=(f2 y hy).1
   rw [e,g3] at this;cases this
theorem qe_items {o:Expr} {pe:pE} {Kf:Frag} {p1 apos cpos pos:Pos} (hc:∀ i,(Xs i).calm=true) (hK:∀ i,(Xs i).K=Kf) (hm:∀ i,(Xs i).mg "list"=none) (ho:QE Xs o pe) (hbase:∀ i,attributeBase o "items" (Xs i).env (eval o (Xs i).env)=eval o (Xs i).env:=by intro _;rfl) (hline:(apos.endLine == cpos.line)=true:=by rfl)
  (hg:∀ i,Gl (Xs i) "list":=by intro _;rfl):QE Xs (.Call (.Name "list" p1) [.Call (.Attribute o "items" apos) [] [] cpos] [] pos) (pItemsL pe):=by
 obtain ⟨t,h1,h2⟩:=ho
 refine ⟨tCB rListI (tCons (tBM0 Kf "dict" rItems t) tNil),fun i=>?_,refE_items h2⟩
 rw [←hK i]
 exact pe_callTy (call_listI (hc i)) (hg i) (hm i) (by decide +kernel) (pa_cons (pe_bm0 PySem.F.plainAttrs_dict PySem.F.slot_dict_items PySem.F.type_dict_items mt_items (h1 i) (hbase i) hline) pa_nil)
end
end L2
set_option Elab.async false
set_option linter.all false
set_option maxRecDepth 100000
set_option maxHeartbeats 4000000
namespace L2
open PySem
noncomputable def canT (t:Tl):Tl:=settleT (sumT t)
theorem cnt_nd {t:Tl} (h:(t.map (·.1)).Nodup) (r:List Int):cnt t r=(getT t r).getD 0:=by
 induction t with
 | nil=>rfl
 | cons q t ih =>
  simp only [List.map_cons,List.nodup_cons] at h
  have e:cnt (q :: t) r=(if q.1=r then q.2 else 0) + cnt t r:=by unfold cnt;simp
  rw [e,ih h.2]
  unfold getT
  rw [List.find?_cons]
  by_cases z:q.1=r
  ·have hn:t.find? (fun p=>decide (p.1=r))=none:=List.find?_eq_none.mpr fun p hp=>by
    simp only [decide_eq_true_eq]
    exact fun z2=>h.1 (by rw [z,←z2];exact List.mem_map.mpr ⟨p,hp,rfl⟩)
   rw [hn];simp [z]
  ·simp [z]
theorem cnt_can (t:Tl) (r:List Int):cnt (canT t) r=cnt t r:=by
 unfold canT
 rw [cnt_nd (settle_nd (sumT_nd t)),settle_get,sumT_get]
theorem cnt_app (a b:Tl) (r:List Int):cnt (a ++ b) r=cnt a r + cnt b r:=by unfold cnt;rw [List.map_append,List.sum_append]
theorem settle_ext {t u:Tl} (ht:(t.map (·.1)).Nodup) (hu:(u.map (·.1)).Nodup) (h:∀ r,(getT t r).getD 0=(getT u r).getD 0):settleT t=settleT u:=by
 have mem:∀ {t:Tl} (r:List Int),(getT t r).getD 0≠0→r∈t.map (·.1):=fun {t} r z=>by
  by_cases hm:r∈t.map (·.1)
  ·exact hm
  ·rw [getT_none hm] at z;exact absurd rfl z
 have key:((sortR (t.map (·.1))).filter fun r=>decide ((getT t r).getD 0≠0))=((sortR (u.map (·.1))).filter fun r=>decide ((getT u r).getD 0≠0)):=by
  refine srt_unique ((List.perm_ext_iff_of_nodup ?_ ?_).mpr fun r=>?_) ((sortR_srt _).filter _) ((sortR_srt _).filter _)
  ·exact ((sortR_perm _).nodup_iff.mpr ht).filter _
  ·exact ((sortR_perm _).nodup_iff.mpr hu).filter _
  ·simp only [List.mem_filter,(sortR_perm _).mem_iff,decide_eq_true_eq]
   exact ⟨fun z=>⟨mem r (by rw [←h];exact z.2),by rw [←h];exact z.2⟩,fun z=>⟨mem r (by rw [h];exact z.2),by rw [h];exact z.2⟩⟩
 unfold settleT
 rw [key]
 exact List.map_congr_left fun r _=>by rw [h]
theorem can_ext {t u:Tl} (h:∀ r,cnt t r=cnt u r):canT t=canT u:=settle_ext (sumT_nd t) (sumT_nd u) fun r=>by rw [sumT_get,sumT_get,h]
theorem settle_can {t:Tl} (h:(t.map (·.1)).Nodup):settleT t=canT t:=settle_ext h (sumT_nd t) fun r=>by rw [sumT_get,cnt_nd h]
theorem can_can (t:Tl):canT (canT t)=canT t:=can_ext (cnt_can t)
theorem can_settle {t:Tl} (h:(t.map (·.1)).Nodup):canT (settleT t)=settleT t:=by rw [settle_can h,can_can]
theorem can_pos {t:Tl} (h:∀ q∈t,0≤q.2):posT (sumT t)=canT t:=pos_settle fun r=>by rw [sumT_get];exact cnt_nonneg h r
noncomputable def wsum (φ:List Int→Int) (t:Tl):Int:=(t.map fun q=>φ q.1 * q.2).sum
theorem sum_at (φ:List Int→Int) (x:List Int) (c:Int):∀ (L:List (List Int)),L.Nodup→(L.map fun r=>φ r * (if x=r then c else 0)).sum=if x∈L then φ x * c else 0
 | [],_=>by simp
 | y :: L,nd=>by
  simp only [List.nodup_cons] at nd
  rw [List.map_cons,List.sum_cons,sum_at φ x c L nd.2]
  by_cases e:x=y
  ·subst e;simp [nd.1]
  ·simp [e]
theorem sum_add {α:Type} (f g:α→Int):∀ L:List α,(L.map fun r=>f r + g r).sum=(L.map f).sum + (L.map g).sum
 | []=>rfl
 | x :: L=>by simp only [List.map_cons,List.sum_cons,sum_add f g L];lia
theorem wsum_by (φ:List Int→Int) {L:List (List Int)} (nd:L.Nodup):∀ {t:Tl},(∀ q∈t,q.1∈L)→wsum φ t=(L.map fun r=>φ r * cnt t r).sum
 | [],_=>by
  have:(L.map fun r=>φ r * cnt [] r).sum=0:=by
   induction L with
   | nil=>rfl
   | cons x L ih=>rw [List.map_cons,List.sum_cons,ih (List.nodup_cons.mp nd).2 (fun _ z=>absurd z (by simp))];simp [cnt]
  rw [this];rfl
 | q :: t,h=>by
  have ih:=wsum_by φ nd (t:=t) fun p hp=>h p (List.mem_cons_of_mem _ hp)
  have e:∀ r,φ r * cnt (q :: t) r=φ r * (if q.1=r then q.2 else 0) + φ r * cnt t r:=fun r=>by
   have:cnt (q :: t) r=(if q.1=r then q.2 else 0) + cnt t r:=by unfold cnt;simp
   rw [this,Int.mul_add]
  have e2:wsum φ (q :: t)=φ q.1 * q.2 + wsum φ t:=by unfold wsum;simp
  rw [e2,ih,List.map_congr_left fun r _=>e r,sum_add,sum_at φ q.1 q.2 L nd,if_pos (h q List.mem_cons_self)]
theorem wsum_ext (φ:List Int→Int) {t u:Tl} (h:∀ r,cnt t r=cnt u r):wsum φ t=wsum φ u:=by
 have nd:=sumT_nd (t ++ u)
 have ht:∀ q∈t,q.1∈(sumT (t ++ u)).map (·.1):=fun q hq=>(sumT_rows _ _).mpr (List.mem_map.mpr ⟨q,List.mem_append_left _ hq,rfl⟩)
 have hu:∀ q∈u,q.1∈(sumT (t ++ u)).map (·.1):=fun q hq=>(sumT_rows _ _).mpr (List.mem_map.mpr ⟨q,List.mem_append_right _ hq,rfl⟩)
 rw [wsum_by φ nd ht,wsum_by φ nd hu]
 exact congrArg List.sum (List.map_congr_left fun r _=>by rw [h])
theorem wsum_can (φ:List Int→Int) (t:Tl):wsum φ (canT t)=wsum φ t:=wsum_ext φ (cnt_can t)
noncomputable def totT (t:Tl):Int:=(t.map (·.2)).sum
theorem tot_w (t:Tl):totT t=wsum (fun _=>1) t:=by unfold totT wsum;simp
theorem tot_can (t:Tl):totT (canT t)=totT t:=by rw [tot_w,tot_w,wsum_can]
end L2
set_option Elab.async false
set_option linter.all false
set_option maxRecDepth 100000
set_option maxHeartbeats 4000000
namespace L2
open PySem PySem.Spec PyProof.Rows PySem.W
section
variable {prog:Program} {w:World} {A:Around} {E:Value→Shared→Prop} {s:Shared}
end
end L2
set_option Elab.async false
set_option linter.all false
set_option maxRecDepth 100000
set_option maxHeartbeats 4000000
namespace L2
open PySem PySem.Spec PyProof.Rows PySem.W
section
variable {prog:Program} {w:World} {A:Around} {E:Value→Shared→Prop} {s:Shared} {I a:Addr} {i n ep j:Nat} {es:Array (Int×Value)} {t:SetTable} {first:Value}
end
end L2
set_option Elab.async false
set_option linter.all false
set_option maxRecDepth 100000
set_option maxHeartbeats 4000000
namespace L2
open PySem PySem.Spec PyProof.Rows PySem.W
section
variable {prog:Program} {w:World} {A:Around} {E:Value→Shared→Prop} {s:Shared} {I a:Addr} {i n ep j:Nat} {es:Array (Int×Value)} {t:SetTable} {first:Value}
end
end L2
set_option Elab.async false
set_option linter.all false
set_option maxRecDepth 100000
set_option maxHeartbeats 4000000
namespace L2
open PySem PySem.Spec PyProof.Rows PySem.W
section
variable {prog:Program} {w:World} {A:Around} {E:Value→Shared→Prop} {s:Shared} {I a:Addr} {ep:Nat} {es:Array (Int×Value)} {t:SetTable}
end
end L2
set_option Elab.async false
set_option linter.all false
set_option maxRecDepth 100000
set_option maxHeartbeats 4000000
namespace L2
open PySem PySem.Spec PyProof.Rows PySem.W
section
variable {prog:Program} {w:World} {A:Around} {E:Value→Shared→Prop} {s:Shared} {I a:Addr} {ep:Nat} {es:Array (Int×Value)} {t:SetTable}
end
end L2
set_option Elab.async false
set_option linter.all false
set_option maxRecDepth 100000
set_option maxHeartbeats 4000000
namespace L2
open PySem PySem.Spec PyProof.Rows PySem.W
section
variable {prog:Program} {w:World} {A:Around} {E:Value→Shared→Prop} {s:Shared} {a:Addr} {ep:Nat} {es:Array (Int×Value)} {t:SetTable}
end
end L2
set_option Elab.async false
set_option linter.all false
set_option maxRecDepth 100000
set_option maxHeartbeats 4000000
namespace L2
open PySem PySem.Spec PyProof.Rows PySem.W
noncomputable def putTx (ks:List Str) (y:Str):List Str:=if y∈ks then ks else ks ++ [y]
section
variable {prog:Program} {w:World} {A:Around} {E:Value→Shared→Prop} {s:Shared} {a:Addr}
end
end L2
set_option Elab.async false
set_option linter.all false
set_option maxRecDepth 100000
set_option maxHeartbeats 4000000
namespace L2
open PySem PySem.Spec PyProof.Rows PySem.W
noncomputable def setT (ys:List Str):List Str:=ys.foldl putTx []
section
variable {prog:Program} {w:World} {A:Around} {E:Value→Shared→Prop} {s:Shared} {a:Addr}
end
end L2
set_option Elab.async false
set_option linter.all false
set_option maxRecDepth 100000
set_option maxHeartbeats 4000000
namespace L2
open PySem PySem.Spec PyProof.Rows PySem.W
section
variable {prog:Program} {w:World} {A:Around} {E:Value→Shared→Prop} {s:Shared} {a:Addr}
end
end L2
set_option Elab.async false
set_option linter.all false
set_option maxRecDepth 100000
set_option maxHeartbeats 4000000
namespace L2
open PySem PySem.Spec PyProof.Rows PySem.W
section
variable {X:Cx} {pins:List (Addr×Obj)} {σ:St} {H:Hp} {s:Shared}
end
end L2
set_option Elab.async false
set_option linter.all false
set_option maxRecDepth 100000
set_option maxHeartbeats 4000000
namespace L2
open PySem PySem.Spec PyProof.Rows PySem.W
noncomputable def pSetSort:pC:=p1 fun x f K=>∃ ss:List Str,(x=.lst (ss.map P.str)∨x=.tup (ss.map P.str))∧ss.length<64∧∀ ss':List Str,ss'.Nodup→(∀ z,z∈ss' ↔ z∈ss)→SrtS ss'→K (.lst (ss'.map P.str)) .nw
noncomputable def pSetLen:pC:=p1 fun x f K=>∃ ss:List Str,(x=.lst (ss.map P.str)∨x=.tup (ss.map P.str))∧ss.length<4000∧K (.int (setT ss).length) .fr
section
variable {prog:Program} {w:World}
section
variable {ι:Type} {Xs:ι→Cx} {a:Expr} {p:pA} {p1 p2 pos pos2:Pos}
end
end
end L2
set_option Elab.async false
set_option linter.all false
set_option maxRecDepth 100000
set_option maxHeartbeats 4000000
namespace L2
open PySem PySem.Spec PyProof.Rows PySem.W
section
variable {X:Cx}
end
noncomputable def pIsB:p2:=fun x _ y _ K=>∃ a b,x=.bl a∧y=.bl b∧K (.bl (decide (a=b))) .fr
end L2
set_option Elab.async false
set_option linter.all false
set_option maxRecDepth 100000
set_option maxHeartbeats 4000000
namespace L2
open PySem PySem.Spec PyProof.Rows PySem.W
noncomputable def minI (b:Int):List Int→Int
 | []=>b
 | p :: r=>if p<b then minI p r else minI b r
section
variable {X:Cx} {pins:List (Addr×Obj)} {σ:St}
end
noncomputable def pAny:pC:=p1 fun x f K=>∃ bs:List Bool,x=.lst (bs.map P.bl)∧K (.bl (bs.any id)) .fr
noncomputable def pMinI (pe pd:pE):pE:=fun ρ K=>pe ρ fun x f=>pd ρ fun y g=>∃ rs:List Int,x=.lst (rs.map P.int)∧y.imm=true∧(rs=[]→K y .fr)∧∀ b r,rs=b :: r→K (.int (minI b r)) .fr
section
variable {ι:Type} {Xs:ι→Cx} {e d:Expr} {pe pd:pE} {p pos kpos:Pos}
end
end L2
set_option Elab.async false
set_option linter.all false
set_option maxRecDepth 100000
set_option maxHeartbeats 4000000
namespace L2
open PySem PySem.Spec PyProof.Rows
section
variable {prog:Program} {w:World} {A:Around} {R:Result→Shared→Prop} {s:Shared} {elt tg iter tg2 iter2:Expr} {scope:Scope} {pos:Pos} {it acc:Value} {env:Env}
end
section
variable {X:Cx} {N':List Str} {pick:List (Option Nat)} {elt tg iter tg2 iter2:Expr} {scope sc:Scope} {pos:Pos} {N:List Str} {wi wi2:TI} {i1 i2:Nat} {te:TE}
end
end L2
set_option Elab.async false
set_option linter.all false
set_option maxRecDepth 100000
set_option maxHeartbeats 4000000
namespace L2
open PySem PySem.Spec PyProof.Rows
noncomputable def pFlat (pi:pI):pE:=fun ρ K=>pi ρ fun xs f _=>f≠.bo∧∃ rs:List (List Str),xs=rs.map nmP∧rs.flatten.length≤1000000∧K (.lst (rs.flatten.map P.str)) .nw
section
variable {ι:Type} {Xs:ι→Cx} {N' N:List Str} {pick:List (Option Nat)} {iter:Expr} {scope sc:Scope} {pos p1 p2 p3 p4:Pos} {pi:pI} {x y:Str}
end
end L2
set_option Elab.async false
set_option linter.all false
set_option maxRecDepth 100000
set_option maxHeartbeats 4000000
namespace L2
open PySem PySem.Spec PyProof.Rows
section
variable {M:Model} {A:Around} {E:Value→Shared→Prop} {s:Shared}
end
structure CompScopeC (N:List Str) (sc:Scope) (N':List Str) (pick:List (Option Nat)) (scope:Scope):Prop where
 kind:scope.kind=.function
 cell:∀ y∈scope.names,y.2=NameKind.cell→scope.names.lookup y.1=some .cell
 names:∀ y∈scope.names,y.2=NameKind.local→scope.names.lookup y.1=some .local
 free:∀ y∈scope.names,y.2=NameKind.free→scope.names.lookup y.1=some .free
 has:∀ y∈scope.names,y.2=NameKind.free→(sc.names.lookup y.1=some .cell∨sc.names.lookup y.1=some .free)
 len:pick.length=N'.length
 cap:∀ q∈pick.zip N',q.1=none∨(N[q.1.getD 0]?=some q.2∧(q.2,NameKind.free)∈scope.names)
end L2
set_option Elab.async false
set_option linter.all false
set_option maxRecDepth 100000
set_option maxHeartbeats 4000000
namespace L2
open PySem PySem.Spec PyProof.Rows
section
variable {X:Cx} {N':List Str} {pick:List (Option Nat)} {elt tg iter:Expr} {ifs:List Expr} {scope sc:Scope} {pos:Pos} {N:List Str} {wi:TI} {g:TG} {tt:TT} {te:TE}
end
end L2
set_option Elab.async false
set_option linter.all false
set_option maxRecDepth 100000
set_option maxHeartbeats 4000000
namespace L2
open PySem PySem.Spec PyProof.Rows
section
variable {X:Cx} {N':List Str} {pick:List (Option Nat)} {elt tg iter:Expr} {ifs:List Expr} {scope sc:Scope} {pos:Pos} {N:List Str} {wi:TI} {g:TG} {tt:TT} {te:TE}
end
section
variable {ι:Type} {Xs:ι→Cx} {N' N:List Str} {pick:List (Option Nat)} {elt tg iter:Expr} {ifs:List Expr} {scope sc:Scope} {pos:Pos} {pi:pI} {pg:pG} {pt:pT} {pe:pE}
end
end L2
set_option Elab.async false
set_option linter.all false
set_option maxRecDepth 100000
set_option maxHeartbeats 4000000
namespace L2
open PySem PySem.Spec PyProof.Rows PySem.W
section
variable {X:Cx}
end
noncomputable def pListR:pC:=p1 fun x f K=>∃ n:Int,x=.int n∧0≤n∧n≤1000∧K (.lst ((List.range n.toNat).map fun k:Nat=>P.int (k:Int))) .nw
section
variable {ι:Type} {Xs:ι→Cx} {a:Expr} {p:pA} {p1 p2 pos pos2:Pos}
end
end L2
set_option Elab.async false
set_option linter.all false
set_option maxRecDepth 100000
set_option maxHeartbeats 4000000
namespace L2
open PySem PySem.Spec PyProof.Rows PySem.W
noncomputable def pZipM (pa pb:pE):pI:=fun ρ K=>pa ρ fun x f=>pb ρ fun y g=>∃ xs ys,x=.lst xs∧y=.lst ys∧P.imms xs=true∧K (List.zipWith pairP xs ys) g.el (stF f && stF g)
section
variable {ι:Type} {Xs:ι→Cx} {a b:Expr} {pa pb:pE} {pos p1 tp:Pos} {elts:List Expr} {x1:Nat} {Kf:PySem.W.Frag}
end
end L2
set_option Elab.async false
set_option linter.all false
set_option maxRecDepth 100000
set_option maxHeartbeats 4000000
open PySem L2
local macro_rules
 | `(tactic| simp_arith only [$ls,*] $[$l:location]?)=>`(tactic| simp only [pRet,pCall,pCons,pNil,pComp,pIterT,pIterL,pRange1,pVar,pK,pOp,pTest,pOr,pNot,pAndV,pNotV,pIfS,pSeq,pNext,pNever,pAsg,pSet,pTrue,pFn,p1,pLen,pListC,pTupC,pII,CT,pIx,pCat,pIsInst,isTy,tyN,pEq,pNe,pAppend,pFrz,frzS,stF,pTupD,pLstD,joinF,itemF,Fl.join,Fl.el,Fl.top,topF,retF,startP,pickP,pAll,pSortS,pListDC,pDGet,pDGetOr,pDNewT,pDPut,pDAug,pSortU,pSortDU,pDictL,pSum,pUnpack,pSets,pFor,pRaiseV,pHd0,pHdV,keepE,pVB,pItemsL,pTry,List.replicate,List.map_cons,List.map_nil,List.length_cons,List.length_nil,List.cons_append,List.nil_append,List.getElem?_cons_zero,List.getElem?_cons_succ,List.set_cons_zero,List.set_cons_succ,List.getElem?_nil,Option.getD_some,Option.getD_none,Nat.reduceAdd,Nat.reduceSub,Nat.sub_self,Nat.zero_add,if_true,if_false,Bool.false_eq_true,exists_eq_left,exists_eq_left',ite_self,exists_and_left,exists_and_right,exists_eq,exists_eq',exists_const,and_true,true_and,Option.some.injEq,P.int.injEq,P.str.injEq,P.bl.injEq,P.tup.injEq,P.lst.injEq,List.cons.injEq,Prod.mk.injEq,ne_eq,reduceCtorEq,not_false_eq_true,decide_true,decide_false,Bool.true_or,Bool.or_true,Bool.false_or,Bool.or_false,Bool.and_true,Bool.true_and,Bool.and_false,Bool.false_and,Bool.not_true,Bool.not_false,dry_int,dry_str,dry_tup,drys_nil,drys_cons,drys_ints,imm_int,imm_str,imm_bl,imm_non,imm_bag,imm_lst,imm_dT,imm_dK,imm_tup,imms_nil,imms_cons,imms_ints,imms_strs,imms_bls,imms_prs,imms_rows',imm_row,imm_pr,mut_lst,mut_dT,mut_dK,mut_tup,items_lst,items_tup,pl_int,pl_str,pl_bl,pl_non,pl_tup,pl_lst,pl_ints,pl_strs,pl_prs,pl_pr,pl_row,List.all_cons,List.all_nil,keyT_ints,eqP_ii,eqP_ss,eqP_bb,eqP_rr,eqP_tt,eqP_mm,Bool.not_eq_true',decide_eq_false_iff_not,decide_eq_true_eq,$ls,*] $[$l]?)
local macro_rules
 | `(tactic| simp_arith [$ls,*] $[$l:location]?)=>`(tactic| simp_arith only [strs_iff,ints_iff,prs_iff,rows_iff,List.length_map,exists_prop,and_assoc,forall_const,forall_eq,forall_eq_apply_imp_iff,$ls,*] $[$l]?)
namespace K
open PySem L2
noncomputable def top (i:Nat):Stmt:=PySem.Challenge.pw_roomtally_k08_tallies_added_and_taken.main.body.getD i (.Pass ⟨0,0,0,0⟩)
noncomputable abbrev sf_summed:Stmt:=top 4
theorem scf_summed:FnScope ["papers","counts","row","count"] ["papers"] (defScope sf_summed):=⟨rfl,rfl,rfl,by decide +kernel,rfl,by decide +kernel,by decide +kernel⟩
noncomputable abbrev sf_plus:Stmt:=top 5
theorem scf_plus:FnScope ["one","other"] ["one","other"] (defScope sf_plus):=⟨rfl,rfl,rfl,by decide +kernel,rfl,by decide +kernel,by decide +kernel⟩
noncomputable abbrev sf_less:Stmt:=top 6
theorem scf_less:FnScope ["one","other","counts","row","count","left"] ["one","other"] (defScope sf_less):=⟨rfl,rfl,rfl,by decide +kernel,rfl,by decide +kernel,by decide +kernel⟩
noncomputable abbrev sf_total:Stmt:=top 7
theorem scf_total:FnScope ["rows"] ["rows"] (defScope sf_total):=⟨rfl,rfl,rfl,by decide +kernel,rfl,by decide +kernel,by decide +kernel⟩
noncomputable abbrev sf_law_bag:Stmt:=top 9
theorem scf_law_bag:FnScope ["_law_script","_law_salt","_law_one"] ["_law_script"] (defScope sf_law_bag):=⟨rfl,rfl,rfl,by decide +kernel,rfl,by decide +kernel,by decide +kernel⟩
noncomputable abbrev sf_law_pull:Stmt:=top 10
theorem scf_law_pull:FnScope ["_law_bag_here","_law_many_here","_law_seed","_law_mixed","_law_drawn_here"] ["_law_bag_here","_law_many_here"] (defScope sf_law_pull):=⟨rfl,rfl,rfl,by decide +kernel,rfl,by decide +kernel,by decide +kernel⟩
noncomputable abbrev sf_law_word:Stmt:=top 11
theorem scf_law_word:FnScope ["_law_bag_here","_law_size","_law_letters"] ["_law_bag_here","_law_size"] (defScope sf_law_word):=⟨rfl,rfl,rfl,by decide +kernel,rfl,by decide +kernel,by decide +kernel⟩
noncomputable abbrev sf_law_names:Stmt:=top 12
theorem scf_law_names:FnScope ["_law_bag_here","_law_many_here","_law_letters","_law_found","_law_start","_law_k","_law_word_here","_law_step"] ["_law_bag_here","_law_many_here"] (defScope sf_law_names):=⟨rfl,rfl,rfl,by decide +kernel,rfl,by decide +kernel,by decide +kernel⟩
noncomputable abbrev sf_law_answers:Stmt:=top 13
theorem scf_law_answers:FnScope ["_law_bag_here","_law_size","_law_base"] ["_law_bag_here","_law_size","_law_base"] (defScope sf_law_answers):=⟨rfl,rfl,rfl,by decide +kernel,rfl,by decide +kernel,by decide +kernel⟩
noncomputable abbrev sf_law_many:Stmt:=top 14
theorem scf_law_many:FnScope ["_law_bag_here"] ["_law_bag_here"] (defScope sf_law_many):=⟨rfl,rfl,rfl,by decide +kernel,rfl,by decide +kernel,by decide +kernel⟩
noncomputable abbrev sf_law_settled:Stmt:=top 15
theorem scf_law_settled:FnScope ["_law_counts"] ["_law_counts"] (defScope sf_law_settled):=⟨rfl,rfl,rfl,by decide +kernel,rfl,by decide +kernel,by decide +kernel⟩
noncomputable abbrev sf_law_drawn:Stmt:=top 16
theorem scf_law_drawn:FnScope ["_law_bag_here","_law_room","_law_counts","_law_base","_law_k"] ["_law_bag_here","_law_room"] (defScope sf_law_drawn):=⟨rfl,rfl,rfl,by decide +kernel,rfl,by decide +kernel,by decide +kernel⟩
noncomputable abbrev sf_law_whole:Stmt:=top 17
theorem scf_law_whole:FnScope ["_law_found"] ["_law_found"] (defScope sf_law_whole):=⟨rfl,rfl,rfl,by decide +kernel,rfl,by decide +kernel,by decide +kernel⟩
noncomputable abbrev sf_law_tuple:Stmt:=top 18
theorem scf_law_tuple:FnScope ["_law_found"] ["_law_found"] (defScope sf_law_tuple):=⟨rfl,rfl,rfl,by decide +kernel,rfl,by decide +kernel,by decide +kernel⟩
noncomputable abbrev sf_law_same:Stmt:=top 19
theorem scf_law_same:FnScope ["_law_found","_law_due","_law_k"] ["_law_found","_law_due"] (defScope sf_law_same):=⟨rfl,rfl,rfl,by decide +kernel,rfl,by decide +kernel,by decide +kernel⟩
noncomputable abbrev sf_law_minus:Stmt:=top 20
theorem scf_law_minus:FnScope ["_law_one","_law_other","_law_found","e"] ["_law_one","_law_other"] (defScope sf_law_minus):=⟨rfl,rfl,rfl,by decide +kernel,rfl,by decide +kernel,by decide +kernel⟩
noncomputable abbrev sf_law:Stmt:=top 21
theorem scf_law:FnScope ["_law_script","_law_bag_here","_law_names_here","_law_one","_law_other","_law_counts","_law_row","_law_count","_law_handed","_law_found","_law_sums","_law_rest","_law_short","_law_back"] ["_law_script"] (defScope sf_law):=⟨rfl,rfl,rfl,by decide +kernel,rfl,by decide +kernel,by decide +kernel⟩
noncomputable abbrev si_TooFew:Stmt:=inClass (top 2) 0
theorem sci_TooFew:FnScope ["self","row"] ["self","row"] (defScope si_TooFew):=⟨rfl,rfl,rfl,by decide +kernel,rfl,by decide +kernel,by decide +kernel⟩
section
variable {H H1 H2:Hp} {b a p D:Addr} {o:HO}
structure StepD (b a D:Addr) (H H':Hp):Prop where
 bag:Bag H' b a
 same:∀ p o,p≠b→p≠D→H p=some o→H' p=some o
 nb:D≠b
 na:D≠a
theorem StepD.new (h:Bag H b a) (n:H D=none):StepD b a D H (upd H D o) :=
 ⟨h.new n,fun p u _ _ e=>by rw [upd_ne (ne_of_none e n)];exact e,h.nb n,h.na n⟩
theorem StepD.step (s:StepD b a D H H1) (t:Step b a H1 H2):StepD b a D H H2:=⟨t.bag,fun p u n1 n2 e=>t.same p u n1 (s.same p u n1 n2 e),s.nb,s.na⟩
theorem StepD.put (s:StepD b a D H H1):StepD b a D H (upd H1 D o):=⟨s.bag.put s.nb s.na,fun p u n1 n2 e=>by rw [upd_ne n2];exact s.same p u n1 n2 e,s.nb,s.na⟩
theorem StepD.out (s:StepD b a D H H1) (n:H D=none):Step b a H H1:=⟨s.bag,fun p u n1 e=>s.same p u n1 (ne_of_none e n) e⟩
end
noncomputable def spBag (K:PySem.W.Frag):Sp:=fun vs H Q _=>∃ (a:Addr) (ns:List Int),vs=[.ref a]∧SqL K H a (ns.map V.int)∧∀ (b a':Addr) (H':Hp),H b=none→H a'=none→Bag H' b a'→Same H H'→Q (.ref b) H'
noncomputable def spPull:Sp:=fun vs H Q _=>∃ (b a:Addr) (m:Int),vs=[.ref b,.int m]∧Bag H b a∧0<m∧m<2 ^ 64∧∀ (r:Int) (H':Hp),0≤r→r<m→Step b a H H'→Q (.int r) H'
noncomputable def letters (x:Str):Prop:=∀ c∈x.cps.toList,97≤c∧c≤122
noncomputable def spWord:Sp:=fun vs H Q _=>∃ (b a:Addr) (n:Int),vs=[.ref b,.int n]∧Bag H b a∧0≤n∧n≤1000∧∀ (x:Str) (H':Hp),(x.length:Int)=n→letters x→Step b a H H'→Q (.str x) H'
section
variable {P:Program} {w:World} {K:PySem.W.Frag} {mg:Str→Option Value} {base:Heap}
structure TxtB (mg:Str→Option Value):Prop where
 b_len:mg "len"=none
 b_list:mg "list"=none
 b_range:mg "range"=none
 b_isinstance:mg "isinstance"=none
 b_bool:mg "bool"=none
 b_int:mg "int"=none
 b_tuple:mg "tuple"=none
 b_all:mg "all"=none
 b_any:mg "any"=none
 b_sorted:mg "sorted"=none
 b_set:mg "set"=none
 b_sum:mg "sum"=none
 b_dict:mg "dict"=none
 b_zip:mg "zip"=none
 b_min:mg "min"=none
 b_max:mg "max"=none
theorem cut63 (ns:List Int):cutV (ns.map V.int) none (some 63)=(ns.take 63).map V.int:=by
 unfold cutV
 rw [List.map_take]
 simp [HT.sIx]
theorem ok_bag (D:DefAt K mg "_law_bag" sf_law_bag) (T:TxtB mg):Fn P w K mg base "_law_bag" 1 ["_law_script"] (spBag K):=by
 refine fn_def D scf_law_bag (fun _ _ _ _ _ _ us hl=>of_len1 hl (fun _=>rfl)) (fun vs H Q E h=>?_) (fun f cdv A outer s H vs Q E hr h=>?_)
 ·obtain ⟨a,ns,rfl,_⟩:=h;rfl
 ·obtain ⟨a,ns,rfl,hS,k⟩:=h
  refine ⟨_,(pss_cons (ps_set (i:=1) scf_law_bag.nd rfl (Or.inl rfl) (pe_callB call_lenF (by rfl) T.b_len (by decide +kernel) (pa_cons (pe_slice sl_list (pv 0) po_none (po_some pe_int)) pa_nil)))
 (pss_cons (ps_for PassesOwn.never rfl (pi_list (pe_slice sl_list (pv 0) po_none (po_some pe_int))) (pg_name (i:=2) scf_law_bag.nd rfl (Or.inl rfl))
 (pss_one (ps_set (i:=1) scf_law_bag.nd rfl (Or.inl rfl) (pe_op op_mod (pe_op op_add (pe_op op_mul (pv 1) pe_int) (pv 2)) pe_int))))
 (pss_one (ps_ret (pe_lst (pa_cons (pe_callTy call_listF (by rfl) T.b_list (by decide +kernel) (pa_cons (pe_slice sl_list (pv 0) po_none (po_some pe_int)) pa_nil)) (pa_cons pe_int (pa_cons pe_int (pa_cons (pv 1) pa_nil))))))))),?_⟩
  refine ⟨_,rfl,63,rfl,a,ns.map V.int,rfl,hS,fun p hp=>?_⟩
  have s1:Same H (upd H p (.lst (cutV (ns.map V.int) none (some 63)))):=fun b o e=>by rw [upd_ne (ne_of_none e hp)];exact e
  refine ⟨p,_,rfl,upd_same,?_⟩
  refine ⟨_,rfl,63,rfl,a,ns.map V.int,rfl,s1.seq hS,fun p2 hp2=>?_⟩
  rw [cut63] at *
  have s2:Same H (upd (upd H p (.lst ((ns.take 63).map V.int))) p2 (.lst ((ns.take 63).map V.int))):=s1.trans fun b o e=>by rw [upd_ne (ne_of_none e hp2)];exact e
  refine ⟨p2,rfl,⟨_,.of upd_same⟩,for_list (K:=K) (a:=p2) (xs:=(ns.take 63).map V.int) (fun i σ H2=>∃ (z:Int) (v:Option V),σ=[some (.ref a),some (.int z),v]∧Same H H2∧H2 p2=some (.lst ((ns.take 63).map V.int)))
   ⟨_,_,rfl,s2,upd_same⟩ (fun i σ H2 _ ⟨_,_,_,_,e⟩=>.of e) ?_ ?_⟩
  ·rintro i y σ H2 hi ⟨z,v,rfl,s3,e3⟩
   obtain ⟨n,hn,rfl⟩:∃ n,(ns.take 63)[i]?=some n∧y=V.int n:=by
    rw [List.getElem?_map] at hi
    cases e:(ns.take 63)[i]? with
    | none=>rw [e] at hi;cases hi
    | some n=>rw [e] at hi;exact ⟨n,rfl,(Option.some.inj hi).symm⟩
   simp [tAsg,gName,tOp,rI,rI0,tVar,tC,CMul]
   exact ⟨s3,by simpa [List.map_take] using e3⟩
  ·rintro σ H2 ⟨z,v,rfl,s3,e3⟩
   refine ⟨_,rfl,63,rfl,a,ns.map V.int,rfl,s3.seq hS,fun p3 hp3=>?_⟩
   refine ⟨p3,_,rfl,.inl upd_same,fun p4 hp4=>⟨_,rfl,(by show 4≤sizeLine;decide),fun b hb=>?_⟩⟩
   rw [cut63] at *
   have s4:Same H2 (upd H2 p3 (.lst ((ns.take 63).map V.int))):=fun b o e=>by rw [upd_ne (ne_of_none e hp3)];exact e
   have s5:=s4.trans (fun b o e=>by rw [upd_ne (ne_of_none e hp4)];exact e:Same _ (upd (upd H2 p3 (.lst ((ns.take 63).map V.int))) p4 (.lst ((ns.take 63).map V.int))))
   have s6:Same _ (upd (upd (upd H2 p3 (.lst ((ns.take 63).map V.int))) p4 (.lst ((ns.take 63).map V.int))) b (.lst [.ref p4,.int 0,.int 0,.int z])):=fun c o e=>by rw [upd_ne (ne_of_none e hb)];exact e
   have np:p4≠b:=ne_of_none (o:=.lst ((ns.take 63).map V.int)) upd_same hb
   refine k b p4 _ ((s3.trans s5).free hb) ((s3.trans s4).free hp4) ⟨ns.take 63,0,0,z,upd_same,?_,Int.le_refl _,np⟩ ((s3.trans s5).trans s6)
   rw [upd_ne np,upd_same]
theorem ok_pull (D:DefAt K mg "_law_pull" sf_law_pull) (T:TxtB mg):Fn P w K mg base "_law_pull" 1 ["_law_bag_here","_law_many_here"] spPull:=by
 refine fn_def D scf_law_pull (fun _ _ _ _ _ _ us hl=>of_len2 hl (fun _ _=>rfl)) (fun vs H Q E h=>?_) (fun f cdv A outer s H vs Q E hr h=>?_)
 ·obtain ⟨b,a,m,rfl,_⟩:=h
  rfl
 ·obtain ⟨b,a,m,rfl,⟨ns,i,c,z,hb,ha,hi,hab⟩,hm,hm2,k⟩:=h
  refine ⟨_,(pss_cons (ps_if (pt_cmpR op_le (pe_ix ixF (pv 0) pe_int (fun _ _=>rfl)) pe_int (nomark _))
 (pss_cons (ps_augS (pv 0) pe_int get_list pe_int ip_add set_list)
 (pss_cons (ps_set (i:=2) scf_law_pull.nd rfl (Or.inl rfl) (pe_ix ixF (pv 0) pe_int (fun _ _=>rfl)))
 (pss_cons (ps_if (pt_cmpR op_le (pe_ix ixF (pv 0) pe_int (fun _ _=>rfl)) (pe_callB call_lenF (by rfl) T.b_len (by decide +kernel) (pa_cons (pe_ix ixF (pv 0) pe_int (fun _ _=>rfl)) pa_nil)) (nomark _))
 (pss_one (ps_set (i:=2) scf_law_pull.nd rfl (Or.inl rfl) (pe_ix ixF (pe_ix ixF (pv 0) pe_int (fun _ _=>rfl)) (pe_op op_sub (pe_ix ixF (pv 0) pe_int (fun _ _=>rfl)) pe_int) (fun _ _=>rfl))))
 pss_nil)
 (pss_cons (ps_if (PW.pt (pw_or (pt_cmpR op_gt (pe_ix ixF (pv 0) pe_int (fun _ _=>rfl)) (pe_callB call_lenF (by rfl) T.b_len (by decide +kernel) (pa_cons (pe_ix ixF (pv 0) pe_int (fun _ _=>rfl)) pa_nil)) (nomark _)) (pw_or1 (pt_cmpR op_lt (pv 2) (pe_op op_pow pe_int pe_int) (nomark _)))))
 (pss_cons (ps_set (i:=3) scf_law_pull.nd rfl (Or.inl rfl) (pe_op op_mod (pe_op op_add (pe_op op_add (pe_op op_mul (pv 2) pe_int) (pe_op op_mul (pe_ix ixF (pv 0) pe_int (fun _ _=>rfl)) pe_int)) pe_int) pe_int))
 (pss_cons (ps_set (i:=3) scf_law_pull.nd rfl (Or.inl rfl) (pe_op op_mod (pe_op op_mul (pv 3) (pv 3)) pe_int))
 (pss_one (ps_ret (pe_op op_mod (pe_op op_fdivW (pe_op op_mod (pe_op op_mul (pe_op op_add (pv 3) (pe_ix ixF (pv 0) pe_int (fun _ _=>rfl))) pe_int) pe_int) pe_int) (pv 1))))))
 pss_nil)
 (pss_one (ps_asg (pv 2) (pg_sub (pv 0) pe_int set_list)))))))
 pss_nil)
 (pss_cons (ps_set (i:=4) scf_law_pull.nd rfl (Or.inl rfl) (pe_op op_mod (pe_ix ixF (pv 0) pe_int (fun _ _=>rfl)) (pv 1)))
 (pss_cons (ps_asg (pe_op op_fdivW (pe_ix ixF (pv 0) pe_int (fun _ _=>rfl)) (pv 1)) (pg_sub (pv 0) pe_int set_list))
 (pss_one (ps_ret (pv 4)))))),?_⟩
  have ua:∀ o,upd H b o a=some (HO.lst (List.map V.int ns)):=fun o=>by rw [upd_ne hab];exact ha
  have fin:∀ r i' c',0≤i'→Q (V.int (r % m)) (upd H b (bagO a i' c' z)):=fun r i' c' hi' =>
   k _ _ (Int.emod_nonneg _ (Int.ne_of_gt hm)) (Int.emod_lt_of_pos _ hm) ⟨⟨ns,i',c',z,upd_same,ua _,hi',hab⟩,fun p o hp e=>by rw [upd_ne hp];exact e⟩
  have h1:0≤i + 1:=by lia
  have hm3:m<18446744073709551616:=hm2
  simp [tSeq,tIfS,tTest,tOp,rI0,rI,rIxF,tVar,tC,tAugS,ipI,rSetL,tAsg,gName,tCB,tCons,tNil,tNext,tOr,tRet,gSub,L2.start,atI,ixN,CMul,CPow,hb,ha,ua,upd_same,upd_upd,hm,hm2,hm3,List.replicate]
  split
  ·split
   ·have h2:1≤i + 1:=by lia
    have h3:i<ns.length:=by lia
    have h4:(i + 1).toNat - 1<ns.length:=by lia
    simp only [h2,h3,if_true,Option.bind_some,List.getElem?_eq_getElem h4,Option.map_some,Option.some.injEq,exists_eq_left',V.int.injEq,exists_eq_left]
    split
    ·exact ⟨by lia,fin _ _ _ h1⟩
    ·split
     ·exact ⟨by lia,fin _ _ _ h1⟩
     ·exact fin _ _ _ h1
   ·split
    ·exact ⟨by lia,fin _ _ _ h1⟩
    ·split
     ·exact ⟨by lia,fin _ _ _ h1⟩
     ·exact fin _ _ _ h1
  ·exact fin _ _ _ hi
theorem alpha_at {i:Int} (h0:0≤i) (h1:i<26):∃ c:Nat,atI (Str.ofString "abcdefghijklmnopqrstuvwxyz").cps.toList i=some c∧97≤c∧c≤122:=by
 obtain ⟨n,rfl⟩:=Int.eq_ofNat_of_zero_le h0
 have h:n<26:=by lia
 have e:(Str.ofString "abcdefghijklmnopqrstuvwxyz").cps.toList=[97,98,99,100,101,102,103,104,105,106,107,108,109,110,111,112,113,114,115,116,117,118,119,120,121,122]:=by decide +kernel
 rw [e]
 have q:∀ m:_root_.Fin 26,[97,98,99,100,101,102,103,104,105,106,107,108,109,110,111,112,113,114,115,116,117,118,119,120,121,122][m.val]?=some (97 + m.val):=by decide +kernel
 exact ⟨97 + n,atI_nat (q ⟨n,h⟩),by lia,by lia⟩
theorem flat_one:∀ cs:List Nat,(cs.map ((fun x=>x.cps.toList) ∘ fun c=>(⟨#[c]⟩:Str))).flatten=cs
 | []=>rfl
 | x :: r=>by simp [flat_one r]
theorem ok_word (D:DefAt K mg "_law_word" sf_law_word) (T:TxtB mg) (Gf_law_pull:Fn P w K mg base "_law_pull" 1 ["_law_bag_here","_law_many_here"] spPull):Fn P w K mg base "_law_word" 2 ["_law_bag_here","_law_size"] spWord:=by
 refine fn_def D scf_law_word (fun _ _ _ _ _ _ us hl=>of_len2 hl (fun _ _=>rfl)) (fun vs H Q E h=>?_) (fun f cdv A outer s H vs Q E hr h=>?_)
 ·obtain ⟨b,a,m,rfl,_⟩:=h
  rfl
 ·obtain ⟨b,a,n,rfl,hb,hn0,hn1,k⟩:=h
  refine ⟨_,(pss_cons (ps_set (i:=2) scf_law_word.nd rfl (Or.inr rfl) pe_str)
 (pss_one (ps_ret (pe_bm PySem.F.plainAttrs_str PySem.F.slot_str_join PySem.F.type_str_join mt_join pe_str (pa_cons (pe_comp (N:=["_law_bag_here","_law_size","_law_letters"]) (sc:=defScope sf_law_word) (N':=["_law_k","_law_letters","_law_bag_here"]) (pick:=[none,some 2,some 0]) ⟨rfl,by decide +kernel,by decide +kernel,by decide +kernel,by decide +kernel,rfl,by decide +kernel⟩ rfl (pi_range1 (by rfl) T.b_range (pa_cons (pv 1) pa_nil)) (gkeeps_name rfl) (fun p=>(pg_name (i:=0) (show List.Nodup (["_law_k","_law_letters","_law_bag_here"]:List Str) by decide +kernel) rfl (Or.inl rfl))) (fun p=>pifs_nil) (fun p=>(pe_ix ix_str (pv 1) (pe_fn Gf_law_pull (hr.mono (by decide)) (by rfl) (pa_cons (pv 2) (pa_cons pe_int pa_nil))) (fun _ _=>rfl)))) pa_nil))))),?_⟩
  refine ⟨rfl,_,rfl,n,rfl,by lia,by lia,?_⟩
  refine comp_range (Pv:=fun D i ys H2=>∃ cs:List Nat,ys=cs.map (fun c=>V.str ⟨#[c]⟩)∧cs.length=i∧(∀ c∈cs,97≤c∧c≤122)∧H2 D=some (.lst ys)∧StepD b a D H H2)
   (fun D hD=>⟨[],rfl,rfl,by simp,upd_same,StepD.new hb hD⟩) (fun D i ys H2 _ _ ⟨cs,_,_,_,e,_⟩=>e) ?_ ?_
  ·rintro D hD i ys H2 hi ⟨cs,rfl,hl,hc,hD2,st⟩
   refine ⟨_,rfl,_,rfl,b,a,26,rfl,st.bag,by decide,by decide,fun r H3 h0 h1 st3=>?_⟩
   obtain ⟨c,hc1,hc2,hc3⟩:=alpha_at h0 h1
   refine ⟨_,r,c,rfl,rfl,by decide +kernel,hc1,?_⟩
   have hDb:D≠b:=hb.nb hD
   refine ⟨st3.same D _ hDb hD2,?_,cs ++ [c],by simp,by simp [hl],?_,upd_same,(st.step st3).put⟩
   ·rw [List.length_map,hl];exact small1000 (by lia)
   ·intro d hd
    rcases List.mem_append.mp hd with z | z
    ·exact hc d z
    ·rw [List.mem_singleton.mp z];exact ⟨hc2,hc3⟩
  ·rintro D ys H2 hD ⟨cs,rfl,hl,hc,hD2,st⟩
   refine ⟨⟨#[]⟩,D,cs.map (fun c=>⟨#[c]⟩),rfl,rfl,.of (by rw [List.map_map];exact hD2),?_,?_⟩
   ·have e:∀ l:List Nat,((l.map (fun c=>(⟨#[c]⟩:Str))).map (·.length)).sum=l.length:=fun l=>by
     induction l with
     | nil=>rfl
     | cons x r ih=>simp only [List.map_cons,List.sum_cons,ih,List.length_cons];show 1 + r.length=_;lia
    rw [e,List.length_map]
    show cs.length + cs.length * 0≤_
    lia
   ·have e:(Txt.join ⟨#[]⟩ (cs.map (fun c=>(⟨#[c]⟩:Str)))).cps.toList=cs:=by
     rw [join_nil_toList,List.map_map]
     exact flat_one cs
    refine k _ H2 ?_ ?_ (st.out hD)
    ·have z:(Txt.join ⟨#[]⟩ (cs.map (fun c=>(⟨#[c]⟩:Str)))).cps.toList.length=cs.length:=by rw [e]
     have z2:(Txt.join ⟨#[]⟩ (cs.map (fun c=>(⟨#[c]⟩:Str)))).length=cs.length:=by rw [←z];exact Array.length_toList.symm
     lia
    ·intro c hcm
     rw [e] at hcm
     exact hc c hcm
end
noncomputable def GoodName (x:Str):Prop:=1≤x.length∧x.length≤8∧letters x
noncomputable def spNames:Sp:=fun vs H Q _=>∃ (b a:Addr) (n:Int),vs=[.ref b,.int n]∧Bag H b a∧0≤n∧n≤9 ∧
 ∀ (p:Addr) (xs:List Str) (H':Hp),H p=none→H' p=some (.lst (xs.map V.str))→(xs.length:Int)=n→(∀ x∈xs,GoodName x)→xs.Nodup→Step b a H H'→Q (.ref p) H'
theorem alpha_nat {n:Nat} (h:n<26):atI (Str.ofString "abcdefghijklmnopqrstuvwxyz").cps.toList (n:Int)=some (97 + n):=by
 have e:(Str.ofString "abcdefghijklmnopqrstuvwxyz").cps.toList=[97,98,99,100,101,102,103,104,105,106,107,108,109,110,111,112,113,114,115,116,117,118,119,120,121,122]:=by decide +kernel
 rw [e]
 have q:∀ m:_root_.Fin 26,[97,98,99,100,101,102,103,104,105,106,107,108,109,110,111,112,113,114,115,116,117,118,119,120,121,122][m.val]?=some (97 + m.val):=by decide +kernel
 exact atI_nat (q ⟨n,h⟩)
noncomputable def lastW (pre:List Nat) (j:Nat):Str:=⟨(pre ++ [97 + j]).toArray⟩
theorem lastW_inj {pre:List Nat} {i j:Nat} (h:lastW pre i=lastW pre j):i=j:=by
 have e:pre ++ [97 + i]=pre ++ [97 + j]:=by
  have:=congrArg (fun z:Str=>z.cps.toList) h
  simpa [lastW] using this
 have:=List.append_cancel_left e
 simp at this
 exact this
theorem not_all {pre:List Nat} {xs:List Str} (hl:xs.length<26) (h:∀ j,j<26→lastW pre j∈xs):False:=by
 have nd:((List.range 26).map (lastW pre)).Nodup:=by
  exact List.Pairwise.map (lastW pre) (fun i j ne e=>ne (lastW_inj e)) List.nodup_range
 have sub:(List.range 26).map (lastW pre) ⊆ xs:=fun x hx=>by
  obtain ⟨j,hj,rfl⟩:=List.mem_map.mp hx
  exact h j (List.mem_range.mp hj)
 have:=nd.length_le_of_subset sub
 simp at this
 lia
section
variable {P:Program} {w:World} {K:PySem.W.Frag} {mg:Str→Option Value} {base:Heap}
theorem size0:∀ {r:Int},0≤r→r<4→∃ k:Int,atI [V.int 0,V.int 0,V.int 3,V.int 7] r=some (V.int k)∧0≤k∧k≤7:=by
 intro r h0 h1
 obtain ⟨n,rfl⟩:=Int.eq_ofNat_of_zero_le h0
 have h:n=0∨n=1∨n=2∨n=3:=by lia
 rcases h with rfl | rfl | rfl | rfl
 ·exact ⟨0,rfl,by decide,by decide⟩
 ·exact ⟨0,rfl,by decide,by decide⟩
 ·exact ⟨3,rfl,by decide,by decide⟩
 ·exact ⟨7,rfl,by decide,by decide⟩
theorem app_toList (p q:Str):(p ++ q).cps.toList=p.cps.toList ++ q.cps.toList:=Array.toList_append
theorem app_len (p q:Str):(p ++ q).length=p.length + q.length:=Array.size_append
theorem ok_names (D:DefAt K mg "_law_names" sf_law_names) (T:TxtB mg) (Gf_law_pull:Fn P w K mg base "_law_pull" 1 ["_law_bag_here","_law_many_here"] spPull) (Gf_law_word:Fn P w K mg base "_law_word" 2 ["_law_bag_here","_law_size"] spWord):Fn P w K mg base "_law_names" 3 ["_law_bag_here","_law_many_here"] spNames:=by
 refine fn_def D scf_law_names (fun _ _ _ _ _ _ us hl=>of_len2 hl (fun _ _=>rfl)) (fun vs H Q E h=>?_) (fun f cdv A outer s H vs Q E hr h=>?_)
 ·obtain ⟨b,a,m,rfl,_⟩:=h
  rfl
 ·obtain ⟨b,a,n,rfl,hb,hn0,hn1,k⟩:=h
  refine ⟨_,(pss_cons (ps_set (i:=2) scf_law_names.nd rfl (Or.inl rfl) pe_str)
 (pss_cons (ps_set (i:=3) scf_law_names.nd rfl (Or.inl rfl) (pe_lst pa_nil))
 (pss_cons (ps_set (i:=4) scf_law_names.nd rfl (Or.inl rfl) (pe_fn Gf_law_word (hr.mono (by decide)) (by rfl) (pa_cons (pv 0) (pa_cons (pe_ix ixF (pe_lst (pa_cons pe_int (pa_cons pe_int (pa_cons pe_int (pa_cons pe_int pa_nil))))) (pe_fn Gf_law_pull (hr.mono (by decide)) (by rfl) (pa_cons (pv 0) (pa_cons pe_int pa_nil))) (fun _ _=>rfl)) pa_nil))))
 (pss_cons (ps_for PassesOwn.never rfl (pi_range1 (by rfl) T.b_range (pa_cons (pv 1) pa_nil)) (pg_name (i:=5) scf_law_names.nd rfl (Or.inl rfl))
 (pss_cons (ps_set (i:=6) scf_law_names.nd rfl (Or.inl rfl) (pe_op op_add_str (pv 4) (pe_fn Gf_law_word (hr.mono (by decide)) (by rfl) (pa_cons (pv 0) (pa_cons (pe_op op_add pe_int (pe_fn Gf_law_pull (hr.mono (by decide)) (by rfl) (pa_cons (pv 0) (pa_cons (pe_op op_sub pe_int (pe_callB call_len_str (by rfl) T.b_len (by decide +kernel) (pa_cons (pv 4) pa_nil))) pa_nil)))) pa_nil)))))
 (pss_cons (ps_for PassesOwn.never rfl (pi_range1 (by rfl) T.b_range (pa_cons pe_int pa_nil)) (pg_name (i:=7) scf_law_names.nd rfl (Or.inl rfl))
 (pss_one (ps_if (pt_cmpR op_inF (pv 6) (pv 3) (by rfl))
 (pss_one (ps_set (i:=6) scf_law_names.nd rfl (Or.inl rfl) (pe_op op_add_str (pe_slice sl_str (pv 6) po_none (po_some (pe_un un_neg pe_int))) (pe_ix ix_str (pv 2) (pv 7) (fun _ _=>rfl)))))
 pss_nil)))
 (pss_one (ps_expr (pe_bm PySem.F.plainAttrs_list PySem.F.slot_list_append PySem.F.type_list_append mt_append (pv 3) (pa_cons (pv 6) pa_nil)))))))
 (pss_one (ps_ret (pv 3))))))),?_⟩
  refine ⟨Nat.zero_le _,fun p hp=>?_⟩
  have sp:=StepD.new (o:=.lst []) hb hp
  refine ⟨_,rfl,(by show 4≤sizeLine;decide),fun q hq=>?_⟩
  have hqp:p≠q:=ne_of_none (o:=.lst []) upd_same hq
  have sq:=sp.step (Step.new (o:=.lst [V.int 0,V.int 0,V.int 3,V.int 7]) sp.bag hq)
  have nqb:=sp.bag.nb hq
  refine ⟨_,rfl,b,a,4,rfl,sq.bag,by decide,by decide,fun r H1 r0 r1 st1=>?_⟩
  obtain ⟨k0,hk,k1,k2⟩:=size0 r0 r1
  refine ⟨q,r,_,rfl,rfl,st1.same q _ nqb upd_same,_,hk,?_⟩
  refine ⟨b,a,k0,rfl,st1.bag,k1,by lia,fun w0 H2 hw0 hwl st2=>?_⟩
  have hpb:=hb.nb hp
  have e2:H2 p=some (.lst []):=st2.same p _ hpb (st1.same p _ hpb (by rw [upd_ne hqp,upd_same]))
  have s2:StepD b a p H H2:=(sq.step st1).step st2
  have hw7:w0.length≤7:=by lia
  refine ⟨_,rfl,n,rfl,by lia,by lia,for_range (lo:=0) (n:=n.toNat) (fun i σ H3=>∃ (xs:List Str) (v5 v6 v7:Option V),σ=[some (.ref b),some (.int n),some (.str (Str.ofString "abcdefghijklmnopqrstuvwxyz")),some (.ref p),some (.str w0),v5,v6,v7] ∧
   H3 p=some (.lst (xs.map V.str))∧xs.length=i∧(∀ x∈xs,GoodName x)∧xs.Nodup∧StepD b a p H H3) ⟨[],_,_,_,rfl,e2,rfl,by simp,List.nodup_nil,s2⟩ ?_ ?_⟩
  ·rintro i σ H3 hi ⟨xs,v5,v6,v7,rfl,e3,hl,hg,nd,s3⟩
   refine ⟨_,rfl,_,rfl,_,rfl,_,rfl,w0,rfl,Nat.le_of_lt (small1000 (by lia)),_,_,rfl,rfl,?_⟩
   refine ⟨b,a,_,rfl,s3.bag,by lia,by lia,fun r2 H4 r20 r21 st4=>?_⟩
   refine ⟨_,_,rfl,rfl,b,a,_,rfl,st4.bag,by lia,by lia,fun w1 H5 hw1 hwl1 st5=>?_⟩
   refine ⟨_,_,rfl,rfl,Nat.le_of_lt (small1000 (by lia)),?_⟩
   have e5:H5 p=some (.lst (xs.map V.str)):=st5.same p _ hpb (st4.same p _ hpb e3)
   have s5:StepD b a p H H5:=(s3.step st4).step st5
   have g0:GoodName (w0 ++ w1):=by
    refine ⟨by rw [app_len];lia,by rw [app_len];lia,fun c hc=>?_⟩
    rw [app_toList] at hc
    rcases List.mem_append.mp hc with z | z
    ·exact hwl c z
    ·exact hwl1 c z
   generalize w0 ++ w1=wd at g0
   refine ⟨26,rfl,by decide,by decide,for_range (lo:=0) (n:=26) (fun s σ H6=>H6=H5∧∃ (x:Str) (v7:Option V),σ=[some (.ref b),some (.int n),some (.str (Str.ofString "abcdefghijklmnopqrstuvwxyz")),some (.ref p),some (.str w0),some (.int (0 + (i:Int))),some (.str x),v7] ∧
    GoodName x∧x.cps.toList.take (x.length - 1)=wd.cps.toList.take (wd.length - 1)∧(x ∉ xs∨((0<s→x=lastW (wd.cps.toList.take (wd.length - 1)) (s - 1))∧∀ j,j + 1<s→lastW (wd.cps.toList.take (wd.length - 1)) j∈xs)))
    ⟨rfl,wd,_,rfl,g0,rfl,.inr ⟨fun z=>absurd z (Nat.lt_irrefl _),fun j z=>absurd z (Nat.not_lt_zero _)⟩⟩ ?_ ?_⟩
   ·rintro t σ H6 ht ⟨rfl,x,v7,rfl,gx,hpre,inv⟩
    refine ⟨_,rfl,_,rfl,x,p,xs,rfl,rfl,.inl e5,_,rfl,?_⟩
    refine ite2 (fun hm=>?_) (fun hm=>?_)
    ·have hm:x∈xs:=of_decide_eq_true hm
     obtain ⟨i1,i2⟩:=inv.resolve_left fun z=>z hm
     have hx0:0<x.length:=gx.1
     have hx8:=gx.2.1
     refine ⟨_,rfl,1,rfl,-1,rfl,x,rfl,Nat.le_of_lt (small1000 (by lia)),?_⟩
     refine ⟨_,rfl,_,rfl,_,_,_,rfl,rfl,by decide +kernel,(by rw [Int.zero_add];exact alpha_nat ht),?_⟩
     have es:(Txt.slice x none (some (-1))).cps.toList=wd.cps.toList.take (wd.length - 1):=by rw [Txt_slice_init hx0,hpre]
     have el:(Txt.slice x none (some (-1))).length=x.length - 1:=by
      have z:(Txt.slice x none (some (-1))).cps.toList.length=(Txt.slice x none (some (-1))).length:=Array.length_toList
      have z2:x.cps.toList.length=x.length:=Array.length_toList
      rw [←z,Txt_slice_init hx0,List.length_take]
      lia
     have lc:(⟨#[97 + t]⟩:Str).length=1:=rfl
     refine ⟨_,_,rfl,rfl,Nat.le_of_lt (small1000 (by rw [el,lc];lia)),rfl,_,_,rfl,⟨?_,?_,?_⟩,?_,.inr ⟨fun _=>?_,fun j hj=>?_⟩⟩
     ·rw [app_len,lc];lia
     ·rw [app_len,lc,el];lia
     ·intro c hc
      rw [app_toList] at hc
      rcases List.mem_append.mp hc with z | z
      ·rw [Txt_slice_init hx0] at z
       exact gx.2.2 c (List.mem_of_mem_take z)
      ·have z:c=97 + t:=by simpa using z
       lia
     ·rw [app_len,lc,app_toList,es]
      have z3:(wd.cps.toList.take (wd.length - 1)).length=x.length - 1:=by rw [←es];exact Array.length_toList.trans el
      rw [el,List.take_append_of_le_length (by lia),List.take_of_length_le (by lia)]
     ·refine PyProof.Rows.ext_toList ?_
      rw [app_toList,es]
      simp [lastW]
     ·by_cases z:j + 1<t
      ·exact i2 j z
      ·have z':j=t - 1:=by lia
       have z0:0<t:=by lia
       rw [z',←i1 z0]
       exact hm
    ·have hm:x ∉ xs:=fun z=>hm (decide_eq_true z)
     exact ⟨rfl,x,_,rfl,gx,hpre,.inl hm⟩
   ·rintro σ H6 ⟨rfl,x,v7,rfl,gx,hpre,inv⟩
    have hx:x ∉ xs:=by
     intro hm
     obtain ⟨i1,i2⟩:=inv.resolve_left fun z=>z hm
     refine not_all (pre:=wd.cps.toList.take (wd.length - 1)) (xs:=xs) (by lia) fun j hj=>?_
     by_cases z:j + 1<26
     ·exact i2 j z
     ·have z':j=25:=by lia
      rw [z',←i1 (by decide)]
      exact hm
    refine ⟨_,rfl,.inl ⟨rfl,_,.of e5⟩,_,rfl,p,_,_,rfl,rfl,e5,by rw [List.length_map];exact small1000 (by lia),?_⟩
    refine ⟨xs ++ [x],_,_,_,rfl,?_,by simp [hl],?_,?_,s5.put⟩
    ·rw [upd_same];simp
    ·intro y hy
     rcases List.mem_append.mp hy with z | z
     ·exact hg y z
     ·rw [List.mem_singleton.mp z];exact gx
    ·exact nd_snoc nd hx
  ·rintro σ H3 ⟨xs,v5,v6,v7,rfl,e3,hl,hg,nd,s3⟩
   exact ⟨_,rfl,k p xs H3 hp e3 (by lia) hg nd (s3.out hp)⟩
end
noncomputable def fPull:pF:=fun xs K=>∃ m,xs=[.bag,.int m]∧0<m∧m<2 ^ 64∧∀ r,0≤r→r<m→K (.int r)
noncomputable def fNames:pF:=fun xs K=>∃ n,xs=[.bag,.int n]∧0≤n∧n≤9∧∀ ns:List Str,(ns.length:Int)=n→(∀ x∈ns,GoodName x)→ns.Nodup→K (.lst (ns.map P.str))
section
variable {P':Program} {w:World} {K:PySem.W.Frag} {mg:Str→Option Value} {base:Heap}
theorem bagInt {b:Addr} {H:Hp} {vs:List V} {m:Int} (r:Rps b (fun p=>p=b) H [.bag,.int m] vs):vs=[.ref b,.int m]:=by
 obtain ⟨v,t,rfl,h1,u,t2,rfl,h2,h3⟩:=r
 rw [show v=_ from h1,show u=_ from h2,show t2=_ from h3]
theorem pull_P (G:Fn P' w K mg base "_law_pull" 1 ["_law_bag_here","_law_many_here"] spPull):Fn P' w K mg base "_law_pull" 1 ["_law_bag_here","_law_many_here"] (spP fPull):=G.imp fun vs H Q E h=>by
 obtain ⟨b,a,xs,K',hb,r,⟨m,rfl,h0,h1,hk⟩,hQ⟩:=h
 exact ⟨b,a,m,bagInt r,hb,h0,h1,fun r H' r0 r1 st=>hQ _ _ H' (hk r r0 r1) st rfl⟩
theorem names_P (G:Fn P' w K mg base "_law_names" 3 ["_law_bag_here","_law_many_here"] spNames):Fn P' w K mg base "_law_names" 3 ["_law_bag_here","_law_many_here"] (spP fNames):=G.imp fun vs H Q E h=>by
 obtain ⟨b,a,xs,K',hb,r,⟨m,rfl,h0,h1,hk⟩,hQ⟩:=h
 exact ⟨b,a,m,bagInt r,hb,h0,h1,fun p ns H' hp e hl hg hn st=>hQ _ _ H' (hk ns hl hg hn) st ⟨p,_,rfl,fun z=>z hp,e,Rps.strs.mpr rfl⟩⟩
end
noncomputable def spLaw (K:PySem.W.Frag):Sp:=fun vs H Q _=>∃ (a:Addr) (ns:List Int),vs=[.ref a]∧SqL K H a (ns.map V.int)∧∀ H',Q (.bl true) H'
theorem ok_law0 {b ba:Addr} {H:Hp} {n:Nat} {v:Option V} (hb:Bag H b ba):Ok ⟨b,ba,H,fun _=>none,fun _=>False⟩ (.emp :: .sh .bag :: List.replicate n .emp) (v :: some (.ref b) :: List.replicate n none) H where
 bag:=hb
 fb:=rfl
 old:=fun _ _ _ e=>e
 frm:=fun _ _ e=>nomatch e
 oo:=fun _ z=>z.elim
 len:=by simp
 slot:=fun i s e=>by
  match i with
  | 0=>cases e;exact ⟨v,rfl,trivial⟩
  | 1=>cases e;exact ⟨_,rfl,_,rfl,rfl⟩
  | i + 2 =>
   simp only [List.getElem?_cons_succ,List.getElem?_replicate] at e
   split at e
   ·cases e
    rename_i hi
    exact ⟨none,by simp only [List.getElem?_cons_succ,List.getElem?_replicate,if_pos hi],trivial⟩
   ·cases e
 uniq:=fun i j x y h=>by
  exfalso
  match i with
  | 0=>cases h
  | 1=>cases h
  | i + 2 =>
   simp only [List.getElem?_cons_succ,List.getElem?_replicate] at h
   split at h
   ·cases h
   ·cases h
theorem law_go {K:PySem.W.Frag} {X:Cx} {s0:Stmt} {rest:List Stmt} {p:pS} {n:Nat} (h0:PS X s0 (tAsg (tCall (spBag K) [] E0 (tCons (tVar 0) tNil)) (gName 1))) (hq:QSs (fun _:Unit=>X) rest p)
  (hp:p { nx:=fun _=>False,rt:=fun x=>x=.bl true } (.emp :: .sh .bag :: List.replicate n .emp)) :
  ∃ t,PSs X (s0 :: rest) t∧∀ (a:Addr) (ns:List Int) (H:Hp) (Q:VK),SqL K H a (ns.map V.int)→(∀ H',Q (.bl true) H')→t { nx:=fun _ H'=>Q .non H',rt:=Q } (some (.ref a) :: none :: List.replicate n none) H:=by
 obtain ⟨t,t1,t2⟩:=hq
 refine ⟨_,pss_cons h0 (t1 ()),fun a ns H Q hS k=>⟨_,rfl,a,ns,rfl,hS,fun b ba H1 nb na B s1=>?_⟩⟩
 refine t2 _ _ _ H1 _ _ (ok_law0 (n:=n) B) hp ⟨fun _ _ _ e=>e.elim,fun x v H' e ro=>?_,fun _ _ _ e=>e.elim,fun _ _ _ e=>e.elim,fun _ z=>z,fun _ _ _ e=>e.elim⟩
 subst e
 rw [show v=.bl true from ro.2.2]
 exact k H'
end K
set_option Elab.async false
set_option linter.all false
set_option maxRecDepth 100000
set_option maxHeartbeats 4000000
namespace K
open PySem L2
section
variable {P':Program} {w:World} {K:PySem.W.Frag} {mg:Str→Option Value} {base:Heap}
theorem rng_ok {n:Int} (h0:0≤n):rangeP 0 n.toNat=(List.range n.toNat).map fun (k:Nat)=>P.int (0 + k):=rfl
theorem ok_answers (D:DefAt K mg "_law_answers" sf_law_answers) (T:TxtB mg) (Gf_law_pull:Fn P' w K mg base "_law_pull" 1 ["_law_bag_here","_law_many_here"] (spP fPull)):Fn P' w K mg base "_law_answers" 2 ["_law_bag_here","_law_size","_law_base"] (spP fAnswers):=by
 refine fnP D scf_law_answers (fun _ _ _ _ _ _ us hl=>of_len3 hl (fun _ _ _=>rfl)) (fun xs K h=>?_) (by decide) (fun fa cdv A outer s H E hr=>⟨_,(qss_one (qs_ret (qe_callTy (fun _=>call_tupleF) r_tuple (fun _=>T.b_tuple) (by decide +kernel) (qa_cons (qe_comp (N:=["_law_bag_here","_law_size","_law_base"]) (sc:=defScope sf_law_answers) (N':=["_law_k","_law_bag_here","_law_base"]) (pick:=[none,some 0,some 2]) ⟨rfl,by decide +kernel,by decide +kernel,by decide +kernel,by decide +kernel,rfl,by decide +kernel⟩ (by decide) (fun _=>rfl) (qi_range1 (fun _=>T.b_range) (qa_cons (qv 1) qa_nil)) (qgk_name (k:=0) rfl (fun _=>show List.Nodup (["_law_k","_law_bag_here","_law_base"]:List Str) by decide +kernel)) qifs_nil (qe_fn (fun _=>Gf_law_pull) (fun _=>hr.mono (by decide)) (qa_cons (qv 1) (qa_cons (qv 2) qa_nil)))) qa_nil)))),fun xs K h=>?_⟩)
 ·obtain ⟨_,_,rfl,_⟩:=h;rfl
 ·obtain ⟨n,b,rfl,h0,h1,b0,b1,h⟩:=h
  simp_arith only [pRet]
  refine ⟨by lia,by lia,by rw [rangeP_length];lia,?_⟩
  rw [rng_ok h0]
  refine CompI.rel P.int (fun _ x=>0≤x∧x<b) (fun k _ M hM=>⟨b,rfl,b0,b1,fun r r0 r1=>hM r _ ⟨r0,r1⟩⟩) (fun _=>rfl) (fun bs he=>?_)
  have hl:=he.length
  rw [List.length_range] at hl
  simp_arith only [pRet]
  exact h bs (by lia) fun x hx=>let ⟨_,_,z⟩:=he.mem x hx;z
theorem pick4 {a b c d:Int} {r:Int} (h0:0≤r) (h1:r<4):atI [P.int a,P.int b,P.int c,P.int d] r=some (.int (if r=0 then a else if r=1 then b else if r=2 then c else d)):=by
 obtain ⟨n,rfl⟩:=Int.eq_ofNat_of_zero_le h0
 have h:n=0∨n=1∨n=2∨n=3:=by lia
 rcases h with rfl | rfl | rfl | rfl <;> rfl
theorem ok_many (D:DefAt K mg "_law_many" sf_law_many) (T:TxtB mg) (Gf_law_pull:Fn P' w K mg base "_law_pull" 1 ["_law_bag_here","_law_many_here"] (spP fPull)):Fn P' w K mg base "_law_many" 2 ["_law_bag_here"] (spP fMany):=by
 refine fnP D scf_law_many (fun _ _ _ _ _ _ us hl=>of_len1 hl (fun _=>rfl)) (fun xs K h=>?_) (by decide) (fun fa cdv A outer s H E hr=>⟨_,(qss_one (qs_ret (qe_op (fun _=>op_add) r_add qe_int (qe_fn (fun _=>Gf_law_pull) (fun _=>hr.mono (by decide)) (qa_cons (qv 0) (qa_cons (qe_ix (fun _=>ixA) r_ix (qe_lst (qa_cons qe_int (qa_cons qe_int (qa_cons qe_int (qa_cons (qe_op (fun _=>op_pow) r_pow qe_int qe_int) qa_nil))))) (qe_fn (fun _=>Gf_law_pull) (fun _=>hr.mono (by decide)) (qa_cons (qv 0) (qa_cons qe_int qa_nil))) (fun _ _=>rfl)) qa_nil)))))),fun xs K h=>?_⟩)
 ·obtain ⟨rfl,_⟩:=h;rfl
 ·obtain ⟨rfl,h⟩:=h
  simp_arith only [CPow]
  refine ⟨by decide,4,rfl,by decide,by decide,fun r r0 r1=>?_⟩
  simp_arith only [pRet]
  refine ⟨_,pick4 r0 r1,?_⟩
  have e12:(10:Int) ^ (12:Int).toNat=1000000000000:=by decide
  refine ⟨_,rfl,?_,?_,fun z z0 z1=>?_⟩
  ·rw [e12];split <;> (try split) <;> (try split) <;> decide
  ·rw [e12];split <;> (try split) <;> (try split) <;> decide
  ·simp_arith only [pRet]
   refine h _ (by lia) ?_
   rw [e12] at z1
   have:z<1000000000000:=by
    revert z1
    split
    ·intro;lia
    ·split
     ·intro;lia
     ·split <;> intro <;> lia
   lia
noncomputable def fSettledU:pF:=fun xs K=>∃ t,xs=[dcP t]∧t.length≤100000∧(∃ n,∀ q∈t,q.1.length=n)∧K (tlP (settleT t))
theorem ok_settled (D:DefAt K mg "_law_settled" sf_law_settled) (T:TxtB mg):Fn P' w K mg base "_law_settled" 1 ["_law_counts"] (spP fSettledU):=by
 refine fnP D scf_law_settled (fun _ _ _ _ _ _ us hl=>of_len1 hl (fun _=>rfl)) (fun xs K h=>?_) (by decide) (fun fa cdv A outer s H E hr=>?_)
 ·obtain ⟨_,rfl,_⟩:=h;rfl
 ·have hu:=hu_of hr
  refine ⟨_,(qss_one (qs_ret (qe_comp (N:=["_law_counts"]) (sc:=defScope sf_law_settled) (N':=["_law_row","_law_counts"]) (pick:=[none,some 0]) ⟨rfl,by decide +kernel,by decide +kernel,by decide +kernel,by decide +kernel,rfl,by decide +kernel⟩ (by decide) (fun _=>rfl) (qi_list (fun _=>rfl) (qe_callB (fun _=>(call_sorted_U hr)) r_sortU (fun _=>T.b_sorted) (by decide +kernel) (qa_cons (qe_callTy (fun _=>(call_listD rfl)) r_listD (fun _=>T.b_list) (by decide +kernel) (qa_cons (qv 0) qa_nil)) qa_nil))) (qgk_name (k:=0) rfl (fun _=>show List.Nodup (["_law_row","_law_counts"]:List Str) by decide +kernel)) (qifs_one (qt_cmp (fun _=>(op_neP hr)) r_ne (qe_dget (fun _=>hu) (qv 1) (qv 0) (fun _ _=>rfl)) qe_int (nomark _))) (qe_tup (qa_cons (qv 0) (qa_cons (qe_dget (fun _=>hu) (qv 1) (qv 0) (fun _ _=>rfl)) qa_nil)))))),fun xs K h=>?_⟩
  obtain ⟨t,rfl,hl,hn,h⟩:=h
  simp_arith only [pRet]
  obtain ⟨n,hn⟩:=hn
  refine ⟨t.map (·.1),rfl,by rw [List.length_map];lia,⟨n,fun r hr=>by obtain ⟨q,hq,rfl⟩:=List.mem_map.mp hr;exact hn q hq⟩,fun rs' hp hs=>?_⟩
  ·have hlen:rs'.length=t.length:=by rw [hp.length_eq,List.length_map]
   have e:=sortR_of hp hs
   simp_arith only [List.length_map]
   refine ⟨by lia,?_⟩
   have get:∀ r∈rs',dGetP (t.map (·.1)) (t.map fun q=>P.int q.2) r=some (.int ((getT t r).getD 0)):=fun r hr=>by
    rw [dGet_T]
    have hm:r∈t.map (·.1):=hp.mem_iff.mp hr
    obtain ⟨c,hc⟩:=getT_some hm
    rw [hc];rfl
   refine CompI.filter (fun r=>decide ((getT t r).getD 0≠0)) (fun r=>prP (r,(getT t r).getD 0)) (fun r _ _=>by simp) (fun r hr M hM=>?_) ?_
   ·simp_arith only [pRet]
    refine ⟨_,get r hr,?_⟩
    have hM:=hM .nw
    simp_arith only [pRet]
    refine ite2 (fun z=>?_) (fun z=>?_)
    ·rw [if_pos (by simpa using z)] at hM
     exact ⟨_,get r hr,hM⟩
    ·rw [if_neg (by simpa using z)] at hM
     exact hM
   ·simp_arith only [pRet]
    rw [e]
    have:((sortR (t.map (·.1))).filter fun r=>decide ((getT t r).getD 0≠0)).map (fun r=>prP (r,(getT t r).getD 0))=(settleT t).map prP:=by
     unfold settleT;rw [List.map_map];rfl
    have h':=h
    rw [show tlP (settleT t)=.lst _ from congrArg P.lst this.symm] at h'
    exact h'
theorem pick10 {a0 a1 a2 a3 a4 a5 a6 a7 a8 a9:Int} {r:Int} (h0:0≤r) (h1:r<10):∃ c,atI [P.int a0,.int a1,.int a2,.int a3,.int a4,.int a5,.int a6,.int a7,.int a8,.int a9] r=some (.int c)∧c∈[a0,a1,a2,a3,a4,a5,a6,a7,a8,a9]:=by
 obtain ⟨n,rfl⟩:=Int.eq_ofNat_of_zero_le h0
 have h:n=0∨n=1∨n=2∨n=3∨n=4∨n=5∨n=6∨n=7∨n=8∨n=9:=by lia
 rcases h with rfl | rfl | rfl | rfl | rfl | rfl | rfl | rfl | rfl | rfl <;> exact ⟨_,rfl,by simp⟩
theorem pick4m {a b c d:Int} {r:Int} (h0:0≤r) (h1:r<4):∃ k,atI [P.int a,P.int b,P.int c,P.int d] r=some (.int k)∧k∈[a,b,c,d]:=by
 obtain ⟨n,rfl⟩:=Int.eq_ofNat_of_zero_le h0
 have h:n=0∨n=1∨n=2∨n=3:=by lia
 rcases h with rfl | rfl | rfl | rfl <;> exact ⟨_,rfl,by simp⟩
noncomputable def dwB:pS:=fun E ρ=>∃ room t bs v,ρ=[.sh .bag,.sh (nmP room),.own (dcP t),.sh (.int bs),v]∧room.length≤9∧t.length<100∧0<bs∧bs≤10∧∀ (r:List Int) (c:Int),r.length=room.length→(∀ x∈r,0≤x∧x≤9)→1≤c→c≤1000000000000→E.nx [.sh .bag,.sh (nmP room),.own (dcP (putT t r c)),.sh (.int bs),v]
noncomputable def dwL:pS:=fun E ρ=>∃ room bs,ρ=[.sh .bag,.sh (nmP room),.own (.dT [] []),.sh (.int bs),.emp]∧room.length≤9∧0<bs∧bs≤10∧∀ t v,Drawn room.length t→E.nx [.sh .bag,.sh (nmP room),.own (dcP t),.sh (.int bs),v]
theorem ok_drawn (D:DefAt K mg "_law_drawn" sf_law_drawn) (T:TxtB mg) (Gf_law_pull:Fn P' w K mg base "_law_pull" 1 ["_law_bag_here","_law_many_here"] (spP fPull)) (Gf_law_answers:Fn P' w K mg base "_law_answers" 2 ["_law_bag_here","_law_size","_law_base"] (spP fAnswers))
  (Gf_law_many:Fn P' w K mg base "_law_many" 2 ["_law_bag_here"] (spP fMany)) (Gf_law_settled:Fn P' w K mg base "_law_settled" 1 ["_law_counts"] (spP fSettledU)):Fn P' w K mg base "_law_drawn" 3 ["_law_bag_here","_law_room"] (spP fDrawn):=by
 refine fnP D scf_law_drawn (fun _ _ _ _ _ _ us hl=>of_len2 hl (fun _ _=>rfl)) (fun xs K h=>?_) (by decide) (fun fa cdv A outer s H E hr=>?_)
 ·obtain ⟨_,rfl,_⟩:=h;rfl
 ·have hu:=hu_of hr
  refine ⟨_,(qss_cons (qs_set (k:=2) (fun _=>scf_law_drawn.nd) qe_dnewT)
 (qss_cons (qs_set (k:=3) (fun _=>scf_law_drawn.nd) (qe_ix (fun _=>ixA) r_ix (qe_lst (qa_cons qe_int (qa_cons qe_int (qa_cons qe_int (qa_cons qe_int qa_nil))))) (qe_fn (fun _=>Gf_law_pull) (fun _=>hr.mono (by decide)) (qa_cons (qv 0) (qa_cons qe_int qa_nil))) (fun _ _=>rfl)))
 (qss_cons (QS.weak (m:=dwL) (qs_for (fun _=>PassesOwn.never) (fun _=>rfl) (qi_range1 (fun _=>T.b_range) (qa_cons (qe_ix (fun _=>ixA) r_ix (qe_lst (qa_cons qe_int (qa_cons qe_int (qa_cons qe_int (qa_cons qe_int (qa_cons qe_int (qa_cons qe_int (qa_cons qe_int (qa_cons qe_int (qa_cons qe_int (qa_cons qe_int qa_nil))))))))))) (qe_fn (fun _=>Gf_law_pull) (fun _=>hr.mono (by decide)) (qa_cons (qv 0) (qa_cons qe_int qa_nil))) (fun _ _=>rfl)) qa_nil)) (qg_name (k:=4) (fun _=>scf_law_drawn.nd))
 (QSs.weak (m:=dwB) (qss_one (qs_dput (k:=2) (fun _=>hu) (qe_fn (fun _=>Gf_law_answers) (fun _=>hr.mono (by decide)) (qa_cons (qv 0) (qa_cons (qe_callB (fun _=>call_lenA) r_len (fun _=>T.b_len) (by decide +kernel) (qa_cons (qv 1) qa_nil)) (qa_cons (qv 3) qa_nil)))) (qe_fn (fun _=>Gf_law_many) (fun _=>hr.mono (by decide)) (qa_cons (qv 0) qa_nil)))) ?body0)) ?loop0)
 (qss_one (qs_ret (qe_fn (fun _=>Gf_law_settled) (fun _=>hr.mono (by decide)) (qa_cons (qv 2) qa_nil))))))),fun xs K h=>?_⟩
  case body0 =>
   intro E ρ h
   obtain ⟨room,t,bs,v,rfl,hl,ht,b0,b1,h⟩:=h
   simp_arith only [pRet]
   refine ⟨rfl,fun c c1 c2=>?_⟩
   simp_arith only [pRet]
   refine ⟨_,_,rfl,by lia,by rw [List.length_map];lia,b0,by lia,fun r hr hx=>?_⟩
   simp_arith only [List.length_map] at hr ⊢
   refine ⟨by lia,?_⟩
   rw [put_T]
   exact h r c (by lia) (fun x hx2=>by have:=hx x hx2;lia) c1 c2
  case loop0 =>
   intro E ρ h
   obtain ⟨room,bs,rfl,hl,b0,b1,h⟩:=h
   simp_arith only [pRet]
   refine ⟨10,rfl,by decide,by decide,fun r r0 r1=>?_⟩
   obtain ⟨ct,hc,hm2⟩:=pick10 (a0:=3) (a1:=2) (a2:=1) (a3:=0) (a4:=5) (a5:=8) (a6:=12) (a7:=4) (a8:=2) (a9:=40) r0 r1
   have c0:0≤ct∧ct≤40:=by simp at hm2;(omega)
   refine ⟨_,hc,?_⟩
   simp_arith only [pRet]
   refine ⟨by lia,by lia,fun i ρ=>∃ t v,ρ=[.sh .bag,.sh (nmP room),.own (dcP t),.sh (.int bs),v]∧DrawnI room.length i t,⟨[],_,rfl,DrawnI.nil⟩,fun i ρ' x hx hI=>?_,fun ρ' hI=>?_⟩
   ·obtain ⟨t,v,rfl,hd⟩:=hI
    obtain ⟨hi,rfl⟩:=rangeP_get hx
    simp_arith only [pRet]
    exact ⟨room,t,bs,_,rfl,hl,by have:=hd.len;lia,b0,b1,fun r c h1 h2 h3 h4=>⟨putT t r c,⟨_,rfl⟩,hd.put h1 h2 h3 h4⟩⟩
   ·obtain ⟨t,v,rfl,hd⟩:=hI
    rw [rangeP_length] at hd
    exact h t v (hd.out (by lia))
  ·obtain ⟨room,rfl,hl,h⟩:=h
   simp_arith only [pRet]
   refine ⟨4,rfl,by decide,by decide,fun r r0 r1=>?_⟩
   obtain ⟨bs,hb,hm⟩:=pick4m (a:=2) (b:=2) (c:=3) (d:=10) r0 r1
   have b0:0<bs∧bs≤10:=by simp at hm;lia
   refine ⟨_,hb,?_⟩
   simp_arith only [pRet]
   refine ⟨room,bs,rfl,hl,b0.1,b0.2,fun t v hd=>?_⟩
   simp_arith only [pRet]
   exact ⟨t,rfl,by have:=hd.len;lia,⟨_,hd.rows⟩,h t hd⟩
theorem get0 (a:List (List Int×Int)) (r:List Int):(dGetP (a.map (·.1)) (a.map fun q=>P.int q.2) r).getD (.int 0)=.int ((getT a r).getD 0):=by
 rw [dGet_T];cases getT a r <;> rfl
theorem imms_cnt (t:List (List Int×Int)):P.imms (t.map fun q=>P.int q.2)=true:=by
 have:=imms_ints (t.map (·.2))
 simpa [List.map_map,Function.comp_def] using this
noncomputable def fSummed:pF:=fun xs K=>∃ t,xs=[tlP t]∧t.length≤100000∧(∃ n,∀ q∈t,q.1.length=n)∧K (tlP (posT (sumT t)))
noncomputable def smB:pS:=fun E ρ=>∃ x a r c,ρ=[x,.own (dcP a),.sh (rowP r),.sh (.int c)]∧a.length≤100000∧E.nx [x,.own (dcP (addT a (r,c))),.sh (rowP r),.sh (.int c)]
noncomputable def smL:pS:=fun E ρ=>∃ t,ρ=[.sh (tlP t),.own (.dT [] []),.emp,.emp]∧t.length≤100000∧∀ v1 v2,E.nx [.sh (tlP t),.own (dcP (sumT t)),v1,v2]
theorem ok_summed (D:DefAt K mg "summed" sf_summed) (T:TxtB mg):Fn P' w K mg base "summed" 1 ["papers"] (spP fSummed):=by
 refine fnP D scf_summed (fun _ _ _ _ _ _ us hl=>of_len1 hl (fun _=>rfl)) (fun xs K h=>?_) (by decide) (fun fa cdv A outer s H E hr=>?_)
 ·obtain ⟨_,rfl,_⟩:=h;rfl
 ·have hu:=hu_of hr
  refine ⟨_,(qss_cons (qs_set (k:=1) (fun _=>scf_summed.nd) qe_dnewT)
 (qss_cons (QS.weak (m:=smL) (qs_frz 0 (qs_for (fun _=>PassesOwn.never) (fun _=>rfl) (qi_list (fun _=>rfl) (qv 0)) (qg_tup (ks:=[2,3]) (fun _=>rfl) (fun _=>rfl) (fun _=>(pgs_cons (pg_name (i:=2) scf_summed.nd rfl (Or.inl rfl)) (pgs_cons (pg_name (i:=3) scf_summed.nd rfl (Or.inl rfl)) pgs_nil))) rfl)
 (QSs.weak (m:=smB) (qss_one (qs_dput (k:=1) (fun _=>hu) (qv 2) (qe_op (fun _=>op_add) r_add (qe_dgetOr (fun _=>hu) (qv 1) (qv 2) qe_int) (qv 3)))) ?body0))) ?loop0)
 (qss_one (qs_ret (qe_comp (N:=["papers","counts","row","count"]) (sc:=defScope sf_summed) (N':=["row","counts"]) (pick:=[none,some 1]) ⟨rfl,by decide +kernel,by decide +kernel,by decide +kernel,by decide +kernel,rfl,by decide +kernel⟩ (by decide) (fun _=>rfl) (qi_list (fun _=>rfl) (qe_callB (fun _=>(call_sortedDU rfl hr)) r_sortDU (fun _=>T.b_sorted) (by decide +kernel) (qa_cons (qv 1) qa_nil))) (qgk_name (k:=0) rfl (fun _=>show List.Nodup (["row","counts"]:List Str) by decide +kernel)) (qifs_one (qt_cmp (fun _=>op_gt) r_gt (qe_dget (fun _=>hu) (qv 1) (qv 0) (fun _ _=>rfl)) qe_int (nomark _))) (qe_tup (qa_cons (qv 0) (qa_cons (qe_dget (fun _=>hu) (qv 1) (qv 0) (fun _ _=>rfl)) qa_nil)))))))),fun xs K h=>?_⟩
  case body0 =>
   rintro E ρ ⟨x,a,r,c,rfl,hl,h⟩
   simp_arith [imms_cnt,get0]
   refine ⟨by lia,?_⟩
   rw [put_T]
   exact h
  case loop0 =>
   rintro E ρ ⟨t,rfl,hl,h⟩
   simp_arith [pRet]
   refine ⟨fun i ρ=>∃ v1 v2,ρ=[.sh (tlP t),.own (dcP ((t.take i).foldl addT [])),v1,v2],⟨_,_,rfl⟩,fun i ρ' x hx hI=>?_,fun ρ' hI=>?_⟩
   ·obtain ⟨v1,v2,rfl⟩:=hI
    rw [List.getElem?_map] at hx
    obtain ⟨q,hq,rfl⟩:=Option.map_eq_some_iff.mp hx
    simp_arith [pRet]
    have hl2:=sum_len (t.take i) []
    have hl3:(t.take i).length≤t.length:=by rw [List.length_take];lia
    refine ⟨_,_,q.1,q.2,rfl,by simp at hl2;lia,.sh (rowP q.1),.sh (.int q.2),?_⟩
    rw [List.take_add_one,hq,List.foldl_append]
    rfl
   ·obtain ⟨v1,v2,rfl⟩:=hI
    have:=h v1 v2
    rw [List.take_of_length_le (Nat.le_refl _)]
    exact this
  ·obtain ⟨t,rfl,hl,hn,h⟩:=h
   simp_arith [pRet]
   refine ⟨t,rfl,hl,fun v1 v2=>?_⟩
   simp_arith [pRet]
   obtain ⟨n,hn⟩:=hn
   have hl2:(sumT t).length≤t.length:=by have:=sum_len t [];simp only [List.length_nil,Nat.zero_add] at this;exact this
   refine ⟨(sumT t).map (·.1),⟨_,rfl⟩,by rw [List.length_map];lia,⟨n,fun r hr=>by obtain ⟨q,hq,rfl⟩:=List.mem_map.mp hr;exact sumT_uni hn q hq⟩,fun rs' hp hs=>?_⟩
   ·have hlen:rs'.length=(sumT t).length:=by rw [hp.length_eq,List.length_map]
    have e:=sortR_of hp hs
    generalize sumT t=u at *
    refine ⟨by lia,?_⟩
    have get:∀ r∈rs',dGetP (u.map (·.1)) (u.map fun q=>P.int q.2) r=some (.int ((getT u r).getD 0)):=fun r hr=>by
     rw [dGet_T]
     have hm:r∈u.map (·.1):=hp.mem_iff.mp hr
     obtain ⟨c,hc⟩:=getT_some hm
     rw [hc];rfl
    refine CompI.filter (fun r=>decide (0<(getT u r).getD 0)) (fun r=>prP (r,(getT u r).getD 0)) (fun r _ _=>by simp) (fun r hr M hM=>?_) ?_
    ·simp_arith [get r hr]
     have hM:=hM .nw
     refine ite2 (fun z=>?_) (fun z=>?_)
     ·rw [if_pos (by simpa using z)] at hM;exact hM
     ·rw [if_neg (by simpa using z)] at hM;exact hM
    ·simp_arith [pRet]
     rw [e]
     have e2:((sortR (u.map (·.1))).filter fun r=>decide (0<(getT u r).getD 0)).map (fun r=>prP (r,(getT u r).getD 0))=(posT u).map prP:=by
      unfold posT;rw [List.map_map];rfl
     rw [e2]
     exact h
noncomputable def fWhole:pF:=fun xs K=>∃ i,xs=[.int i]∧K (.bl true)
theorem ok_whole (D:DefAt K mg "_law_whole" sf_law_whole) (T:TxtB mg):Fn P' w K mg base "_law_whole" 1 ["_law_found"] (spP fWhole):=by
 refine fnP D scf_law_whole (fun _ _ _ _ _ _ us hl=>of_len1 hl (fun _=>rfl)) (fun xs K h=>?_) (by decide) (fun fa cdv A outer s H E hr=>⟨_,(qss_one (qs_ret (qe_and (qe_isinst (n:="int") (by simp) (fun _=>rfl) (fun _=>T.b_isinstance) (fun _=>T.b_int) (by decide +kernel) (qv 0)) (qe_one (qe_not (qe_isinst (n:="bool") (by simp) (fun _=>rfl) (fun _=>T.b_isinstance) (fun _=>T.b_bool) (by decide +kernel) (qv 0))))))),fun xs K h=>?_⟩)
 ·obtain ⟨_,rfl,_⟩:=h;rfl
 ·obtain ⟨i,rfl,h⟩:=h
  simp_arith [pRet]
  exact h
noncomputable def fTuple:pF:=fun xs K=>∃ r,xs=[rowP r]∧r.length≤100∧K (.bl true)
theorem ok_tuple (D:DefAt K mg "_law_tuple" sf_law_tuple) (T:TxtB mg) (Gf_law_whole:Fn P' w K mg base "_law_whole" 1 ["_law_found"] (spP fWhole)):Fn P' w K mg base "_law_tuple" 2 ["_law_found"] (spP fTuple):=by
 refine fnP D scf_law_tuple (fun _ _ _ _ _ _ us hl=>of_len1 hl (fun _=>rfl)) (fun xs K h=>?_) (by decide) (fun fa cdv A outer s H E hr=>⟨_,(qss_cons (qs_if (qt_not (qt_val (qe_isinst (n:="tuple") (by simp) (fun _=>rfl) (fun _=>T.b_isinstance) (fun _=>T.b_tuple) (by decide +kernel) (qv 0))))
 (qss_one (qs_ret qe_bl))
 qss_nil)
 (qss_one (qs_ret (qe_callB (fun _=>(call_all rfl)) r_all (fun _=>T.b_all) (by decide +kernel) (qa_cons (qe_comp (N:=["_law_found"]) (sc:=defScope sf_law_tuple) (N':=["_law_one"]) (pick:=[none]) ⟨rfl,by decide +kernel,by decide +kernel,by decide +kernel,by decide +kernel,rfl,by decide +kernel⟩ (by decide) (fun _=>rfl) (qi_tup (fun _=>rfl) (qv 0)) (qgk_name (k:=0) rfl (fun _=>show List.Nodup (["_law_one"]:List Str) by decide +kernel)) qifs_nil (qe_fn (fun _=>Gf_law_whole) (fun _=>hr.mono (by decide)) (qa_cons (qv 0) qa_nil))) qa_nil))))),fun xs K h=>?_⟩)
 ·obtain ⟨_,rfl,_⟩:=h;rfl
 ·obtain ⟨r,rfl,hl,h⟩:=h
  simp_arith [fWhole]
  refine ⟨by lia,CompI.map (fun _=>.bl true) (fun _ _=>rfl) (fun x _ M hM=>?_) ?_⟩
  ·simp_arith [pRet]
   exact hM _
  ·refine ⟨r.map fun _=>true,by rw [List.map_map];rfl,?_⟩
   rw [List.all_map,show r.all (id ∘ fun _=>true)=true by simp]
   exact h
noncomputable def fSame:pF:=fun xs K=>∃ t:Tl,xs=[tlP t,tlP t]∧t.length≤1000∧(∀ q∈t,q.1.length≤100)∧K (.bl true)
noncomputable def saB:pS:=fun E ρ=>∃ (t:Tl) (k:Nat),ρ=[.sh (tlP t),.sh (tlP t),.sh (.int k)]∧k<t.length∧(∀ q∈t,q.1.length≤100)∧E.nx [.sh (tlP t),.sh (tlP t),.sh (.int k)]
noncomputable def saL:pS:=fun E ρ=>∃ (t:Tl),ρ=[.sh (tlP t),.sh (tlP t),.emp]∧t.length≤1000∧(∀ q∈t,q.1.length≤100)∧∀ x,E.nx [.sh (tlP t),.sh (tlP t),x]
theorem at_pr {t:Tl} {n:Nat} (h:n<t.length):atI (t.map prP) (n:Int)=some (prP t[n]):=atI_nat (by rw [List.getElem?_map,List.getElem?_eq_getElem h];rfl)
theorem sa0 {α:Type} (x:α) (r:List α):atI (x :: r) 0=some x:=atI_nat (j:=0) rfl
theorem sa1 {α:Type} (x y:α) (r:List α):atI (x :: y :: r) 1=some y:=atI_nat (j:=1) rfl
theorem eqP_pr (q:List Int×Int):eqP (prP q) (prP q)=true:=(eqP_iff (nb_pr q) (nb_pr q)).mpr rfl
theorem ok_same (D:DefAt K mg "_law_same" sf_law_same) (T:TxtB mg) (Gf_law_tuple:Fn P' w K mg base "_law_tuple" 2 ["_law_found"] (spP fTuple)) (Gf_law_whole:Fn P' w K mg base "_law_whole" 1 ["_law_found"] (spP fWhole)):Fn P' w K mg base "_law_same" 3 ["_law_found","_law_due"] (spP fSame):=by
 refine fnP D scf_law_same (fun _ _ _ _ _ _ us hl=>of_len2 hl (fun _ _=>rfl)) (fun xs K h=>?_) (by decide) (fun fa cdv A outer s H E hr=>⟨_,(qss_cons (qs_if (QW.pt (qw_or (qt_not (qt_val (qe_isinst (n:="list") (by simp) (fun _=>rfl) (fun _=>T.b_isinstance) (fun _=>T.b_list) (by decide +kernel) (qv 0)))) (qw_or1 (qt_cmp (fun _=>(op_neP hr)) r_ne (qe_callB (fun _=>call_lenA) r_len (fun _=>T.b_len) (by decide +kernel) (qa_cons (qv 0) qa_nil)) (qe_callB (fun _=>call_lenA) r_len (fun _=>T.b_len) (by decide +kernel) (qa_cons (qv 1) qa_nil)) (nomark _)))))
 (qss_one (qs_ret qe_bl))
 qss_nil)
 (qss_cons (QS.weak (m:=saL) (qs_for (fun _=>PassesOwn.never) (fun _=>rfl) (qi_range1 (fun _=>T.b_range) (qa_cons (qe_callB (fun _=>call_lenA) r_len (fun _=>T.b_len) (by decide +kernel) (qa_cons (qv 1) qa_nil)) qa_nil)) (qg_name (k:=2) (fun _=>scf_law_same.nd))
 (QSs.weak (m:=saB) (qss_cons (qs_if (QW.pt (qw_or (qt_not (qt_val (qe_isinst (n:="tuple") (by simp) (fun _=>rfl) (fun _=>T.b_isinstance) (fun _=>T.b_tuple) (by decide +kernel) (qe_ix (fun _=>ixA) r_ix (qv 0) (qv 2) (fun _ _=>rfl))))) (qw_or1 (qt_cmp (fun _=>(op_neP hr)) r_ne (qe_callB (fun _=>call_lenA) r_len (fun _=>T.b_len) (by decide +kernel) (qa_cons (qe_ix (fun _=>ixA) r_ix (qv 0) (qv 2) (fun _ _=>rfl)) qa_nil)) qe_int (nomark _)))))
 (qss_one (qs_ret qe_bl))
 qss_nil)
 (qss_one (qs_if (QW.pt (qw_or (qt_not (qt_val (qe_fn (fun _=>Gf_law_tuple) (fun _=>hr.mono (by decide)) (qa_cons (qe_ix (fun _=>ixA) r_ix (qe_ix (fun _=>ixA) r_ix (qv 0) (qv 2) (fun _ _=>rfl)) qe_int (fun _ _=>rfl)) qa_nil)))) (qw_or (qt_not (qt_val (qe_fn (fun _=>Gf_law_whole) (fun _=>hr.mono (by decide)) (qa_cons (qe_ix (fun _=>ixA) r_ix (qe_ix (fun _=>ixA) r_ix (qv 0) (qv 2) (fun _ _=>rfl)) qe_int (fun _ _=>rfl)) qa_nil)))) (qw_or1 (qt_cmp (fun _=>(op_neP hr)) r_ne (qe_ix (fun _=>ixA) r_ix (qv 0) (qv 2) (fun _ _=>rfl)) (qe_ix (fun _=>ixA) r_ix (qv 1) (qv 2) (fun _ _=>rfl)) (nomark _))))))
 (qss_one (qs_ret qe_bl))
 qss_nil))) ?body0)) ?loop0)
 (qss_one (qs_ret qe_bl)))),fun xs K h=>?_⟩)
 case body0 =>
  rintro E ρ ⟨t,k,rfl,hk,hr,h⟩
  have:=hr _ (List.getElem_mem hk)
  simp_arith [fTuple,fWhole,at_pr hk,sa0,sa1,eqP_pr]
  exact ⟨by lia,h⟩
 case loop0 =>
  rintro E ρ ⟨t,rfl,l1,hr,h⟩
  simp_arith [pRet]
  refine ⟨by lia,by lia,fun j ρ=>∃ (x:S),ρ=[.sh (tlP t),.sh (tlP t),x],⟨_,rfl⟩,fun j ρ' x hx hI=>?_,fun ρ' hI=>?_⟩
  ·obtain ⟨x1,rfl⟩:=hI
   obtain ⟨hj,rfl⟩:=rangeP_get hx
   simp_arith [pRet]
   exact ⟨t,j,by rw [Int.zero_add],by lia,hr,⟨_,rfl⟩⟩
  ·obtain ⟨x1,rfl⟩:=hI
   exact h x1
 ·obtain ⟨_,rfl,_⟩:=h;rfl
 ·obtain ⟨t,rfl,l1,hr,h⟩:=h
  simp_arith [pRet]
  refine ⟨t,rfl,l1,hr,fun x=>?_⟩
  simp_arith [pRet]
  exact h
theorem drawn_tal {n:Nat} {t:Tl} (h:Drawn n t):Tal n (settleT t):=settle_tal (Nat.le_trans h.len (by decide)) h.rows h.nd fun r=>by
 by_cases z:r∈t.map (·.1)
 ·obtain ⟨p,hp,rfl⟩:=List.mem_map.mp z
  rw [getT_nd h.nd hp]
  have:=(h.cnt p hp).1
  show 0≤p.2
  lia
 ·rw [getT_none z];simp
end
end K
set_option Elab.async false
set_option linter.all false
set_option maxRecDepth 100000
set_option maxHeartbeats 4000000
namespace K
open PySem L2
section
variable {P':Program} {w:World} {K:PySem.W.Frag} {mg:Str→Option Value} {base:Heap}
noncomputable def fTotal:pF:=fun xs K=>∃ t,xs=[tlP t]∧t.length≤10000∧K (.int (totT t))
theorem ok_total (D:DefAt K mg "total" sf_total) (T:TxtB mg):Fn P' w K mg base "total" 1 ["rows"] (spP fTotal):=by
 refine fnP D scf_total (fun _ _ _ _ _ _ us hl=>of_len1 hl (fun _=>rfl)) (fun xs K h=>?_) (by decide) (fun fa cdv A outer s H E hr=>⟨_,(qss_one (qs_ret (qe_callB (fun _=>(call_sum rfl)) r_sum (fun _=>T.b_sum) (by decide +kernel) (qa_cons (qe_comp (N:=["rows"]) (sc:=defScope sf_total) (N':=["row","count"]) (pick:=[none,none]) ⟨rfl,by decide +kernel,by decide +kernel,by decide +kernel,by decide +kernel,rfl,by decide +kernel⟩ (by decide) (fun _=>rfl) (qi_list (fun _=>rfl) (qv 0)) (qgk_two (i:=0) (j:=1) rfl rfl (fun _=>rfl) (fun _=>rfl) (fun _=>(pgs_cons (pg_name (i:=0) (show List.Nodup (["row","count"]:List Str) by decide +kernel) rfl (Or.inl rfl)) (pgs_cons (pg_name (i:=1) (show List.Nodup (["row","count"]:List Str) by decide +kernel) rfl (Or.inl rfl)) pgs_nil)))) qifs_nil (qv 1)) qa_nil)))),fun xs K h=>?_⟩)
 ·obtain ⟨_,rfl,_⟩:=h;rfl
 ·obtain ⟨t,rfl,hl,h⟩:=h
  simp_arith [pRet]
  refine ⟨by lia,CompI.map (fun q=>.int q.2) (fun _ _=>rfl) (fun q hq M hM=>?_) ?_⟩
  ·simp_arith [pRet]
   exact hM _
  ·simp_arith [pRet]
   exact ⟨t.map (fun (q:List Int×Int)=>q.2),by rw [List.map_map];rfl,h⟩
noncomputable def fPlus:pF:=fun xs K=>∃ a b,xs=[tlP a,tlP b]∧a.length + b.length≤10000∧(∃ n,∀ q∈a ++ b,q.1.length=n)∧K (tlP (posT (sumT (a ++ b))))
theorem ok_plus (D:DefAt K mg "plus" sf_plus) (T:TxtB mg) (Gf_summed:Fn P' w K mg base "summed" 1 ["papers"] (spP fSummed)):Fn P' w K mg base "plus" 2 ["one","other"] (spP fPlus):=by
 refine fnP D scf_plus (fun _ _ _ _ _ _ us hl=>of_len2 hl (fun _ _=>rfl)) (fun xs K h=>?_) (by decide) (fun fa cdv A outer s H E hr=>⟨_,(qss_one (qs_ret (qe_fn (fun _=>Gf_summed) (fun _=>hr.mono (by decide)) (qa_cons (qe_op (fun _=>op_catA) r_cat (qv 0) (qv 1)) qa_nil)))),fun xs K h=>?_⟩)
 ·obtain ⟨_,_,rfl,_⟩:=h;rfl
 ·obtain ⟨a,b,rfl,hl,hn,h⟩:=h
  simp_arith [fSummed]
  exact ⟨by lia,a ++ b,by rw [List.map_append],by rw [List.length_append];lia,hn,h⟩
structure TxtF (K:PySem.W.Frag) (mg:Str→Option Value):Prop extends TxtB mg where
 x_TooFew:∃ C,XClsV K mg "TooFew" "row" C
noncomputable def takeT (a:Tl) (q:List Int×Int):Tl:=putT a q.1 ((getT a q.1).getD 0 - q.2)
noncomputable def lessT:Tl→Tl→List Int ⊕ Tl
 | a,[]=>.inr a
 | a,q :: r=>if (getT a q.1).getD 0 - q.2<0 then .inl q.1 else lessT (takeT a q) r
theorem takeT_len (a:Tl) (q:List Int×Int):(takeT a q).length≤a.length + 1:=putT_len _ _ _
theorem takeT_uni {a:Tl} {q:List Int×Int} {n:Nat} (h:∀ p∈a,p.1.length=n) (hq:q.1.length=n):∀ p∈takeT a q,p.1.length=n:=putT_rows h hq
structure LsOk (a b:Tl):Prop where
 la:a.length≤10000
 lb:b.length≤10000
 nd:(a.map (·.1)).Nodup
 un:∃ n,(∀ q∈a,q.1.length=n)∧∀ q∈b,q.1.length=n
noncomputable def fLess:pF:=fun xs K=>∃ a b c,xs=[tlP a,tlP b]∧LsOk a b∧lessT a b=.inr c∧K (tlP (posT (sumT c)))
noncomputable def fLessX:pFX:=fun xs K Kx=>∃ a b,xs=[tlP a,tlP b]∧LsOk a b∧(∀ c,lessT a b=.inr c→K (tlP (posT (sumT c))))∧∀ r,lessT a b=.inl r→Kx (.vl "TooFew" "row" (rowP r))
noncomputable def lsB (EX:EXT):pS:=fun E ρ=>∃ x y cur r c v,ρ=[x,y,.own (dcP cur),.sh (rowP r),.sh (.int c),v]∧cur.length≤100000∧((getT cur r).getD 0 - c<0→E.ex (.vl "TooFew" "row" (rowP r)) EX)∧(¬ (getT cur r).getD 0 - c<0→E.nx [x,y,.own (dcP (takeT cur (r,c))),.sh (rowP r),.sh (.int c),.sh (.int ((getT cur r).getD 0 - c))])
noncomputable def lsL (EX:EXT):pS:=fun E ρ=>∃ x a b,ρ=[x,.sh (tlP b),.own (dcP a),.emp,.emp,.emp]∧LsOk a b∧(∀ c,lessT a b=.inr c→c.length≤20000→(∃ n,∀ q∈c,q.1.length=n)→∀ v1 v2 v3,E.nx [x,.sh (tlP b),.own (dcP c),v1,v2,v3])∧∀ r,lessT a b=.inl r→E.ex (.vl "TooFew" "row" (rowP r)) EX
theorem less_step {b:Tl} {i:Nat} {q:List Int×Int} (h:b[i]?=some q):b.drop i=q :: b.drop (i + 1):=by
 have hi:=(List.getElem?_eq_some_iff.mp h).1
 rw [List.drop_eq_getElem_cons hi,(List.getElem?_eq_some_iff.mp h).2]
theorem ok_lessX (D:DefAt K mg "less" sf_less) (T:TxtF K mg) (Gf_summed:Fn P' w K mg base "summed" 1 ["papers"] (spP fSummed)):FnE P' w K mg base "less" 3 ["one","other"] (spX K mg fLessX):=by
 refine fnX D scf_less (fun _ _ _ _ _ _ us hl=>of_len2 hl (fun _ _=>rfl)) (fun xs K Kx h=>?_) (by decide) (fun fa cdv A outer s H E hr=>?_)
 ·obtain ⟨_,_,rfl,_⟩:=h;rfl
 ·have hu:=hu_of hr
  refine ⟨_,(qss_cons (qs_set (k:=2) (fun _=>scf_less.nd) (qe_callTy (fun _=>(call_dictL rfl hr)) r_dictL (fun _=>T.b_dict) (by decide +kernel) (qa_cons (qv 0) qa_nil)))
 (qss_cons (QS.weak (m:=lsL (EXof K mg E)) (qs_frz 1 (qs_for (fun _=>PassesOwn.leaving) (fun _=>rfl) (qi_list (fun _=>rfl) (qv 1)) (qg_tup (ks:=[3,4]) (fun _=>rfl) (fun _=>rfl) (fun _=>(pgs_cons (pg_name (i:=3) scf_less.nd rfl (Or.inl rfl)) (pgs_cons (pg_name (i:=4) scf_less.nd rfl (Or.inl rfl)) pgs_nil))) rfl)
 (QSs.weak (m:=lsB (EXof K mg E)) (qss_cons (qs_set (k:=5) (fun _=>scf_less.nd) (qe_op (fun _=>op_sub) r_sub (qe_dgetOr (fun _=>hu) (qv 2) (qv 3) qe_int) (qv 4)))
 (qss_cons (qs_if (qt_cmp (fun _=>op_lt) r_lt (qv 5) qe_int (nomark _))
 (qss_one (qs_raiseV (Kf:=K) (mg:=mg) (E:=E) T.x_TooFew.choose_spec (fun _=>rfl) (fun _=>rfl) (fun _=>rfl) (fun _=>rfl) (fun _=>raisesV_cxOf) (fun _=>hr.mono (by decide)) (qv 3)))
 qss_nil)
 (qss_one (qs_dput (k:=2) (fun _=>hu) (qv 3) (qv 5))))) ?body0))) ?loop0)
 (qss_one (qs_ret (qe_fn (fun _=>Gf_summed) (fun _=>hr.mono (by decide)) (qa_cons (qe_items (Kf:=K) (fun _=>rfl) (fun _=>rfl) (fun _=>T.b_list) (qv 2)) qa_nil)))))),fun xs Kn Kx h=>?_⟩
  case body0 =>
   rintro E' ρ ⟨x,y,cur,r,c,v,rfl,hl,h1,h2⟩
   simp_arith [imms_cnt,get0]
   refine ite2 (fun z=>h1 (by simpa using z)) (fun z=>?_)
   refine ⟨by lia,?_⟩
   rw [put_T]
   exact h2 (by simpa using z)
  case loop0 =>
   rintro E' ρ ⟨x,a,b,rfl,ok,h1,h2⟩
   obtain ⟨n,u1,u2⟩:=ok.un
   simp_arith [pRet]
   refine ⟨fun i ρ=>∃ v1 v2 v3 cur,ρ=[x,.sh (tlP b),.own (dcP cur),v1,v2,v3]∧lessT a b=lessT cur (b.drop i)∧cur.length≤a.length + i∧∀ q∈cur,q.1.length=n,⟨_,_,_,a,rfl,rfl,by lia,u1⟩,fun i ρ' z hx hI=>?_,fun ρ' hI=>?_⟩
   ·obtain ⟨v1,v2,v3,cur,rfl,e,hl,hn⟩:=hI
    rw [List.getElem?_map] at hx
    obtain ⟨q,hq,rfl⟩:=Option.map_eq_some_iff.mp hx
    have hi:=(List.getElem?_eq_some_iff.mp hq).1
    have hqm:=List.mem_of_getElem? hq
    have:=ok.la
    have:=ok.lb
    rw [less_step hq,lessT] at e
    simp_arith [pRet]
    refine ⟨_,_,cur,q.1,q.2,_,rfl,by lia,fun z=>h2 _ (by rw [e,if_pos z]),fun z=>⟨_,_,_,takeT cur q,rfl,by rw [e,if_neg z],?_,takeT_uni hn (u2 q hqm)⟩⟩
    have:=takeT_len cur q
    lia
   ·obtain ⟨v1,v2,v3,cur,rfl,e,hl,hn⟩:=hI
    rw [List.drop_length,lessT] at e
    have:=ok.la
    have:=ok.lb
    exact h1 cur e (by lia) ⟨n,hn⟩ v1 v2 v3
  ·obtain ⟨a,b,rfl,ok,h1,h2⟩:=h
   have:=ok.la
   simp_arith [fSummed]
   refine ⟨by lia,_,a,b,by rw [foldT_nd ok.nd],ok,fun c e hl hn v1 v2 v3=>?_,fun r e=>⟨h2 r e,rfl⟩⟩
   simp_arith [fSummed]
   exact ⟨c,rfl,by lia,hn,h1 c e⟩
end
end K
set_option Elab.async false
set_option linter.all false
set_option maxRecDepth 100000
set_option maxHeartbeats 4000000
namespace K
open PySem L2
section
variable {P':Program} {w:World} {K:PySem.W.Frag} {mg:Str→Option Value} {base:Heap}
noncomputable def ls0B:pS:=fun E ρ=>∃ x y cur r c v,ρ=[x,y,.own (dcP cur),.sh (rowP r),.sh (.int c),v]∧cur.length≤100000∧¬ (getT cur r).getD 0 - c<0∧E.nx [x,y,.own (dcP (takeT cur (r,c))),.sh (rowP r),.sh (.int c),.sh (.int ((getT cur r).getD 0 - c))]
noncomputable def ls0L:pS:=fun E ρ=>∃ x a b c,ρ=[x,.sh (tlP b),.own (dcP a),.emp,.emp,.emp]∧LsOk a b∧lessT a b=.inr c∧(c.length≤20000→(∃ n,∀ q∈c,q.1.length=n)→∀ v1 v2 v3,E.nx [x,.sh (tlP b),.own (dcP c),v1,v2,v3])
theorem ok_less (D:DefAt K mg "less" sf_less) (T:TxtB mg) (Gf_summed:Fn P' w K mg base "summed" 1 ["papers"] (spP fSummed)):Fn P' w K mg base "less" 2 ["one","other"] (spP fLess):=by
 refine fnP D scf_less (fun _ _ _ _ _ _ us hl=>of_len2 hl (fun _ _=>rfl)) (fun xs K h=>?_) (by decide) (fun fa cdv A outer s H E hr=>?_)
 ·obtain ⟨_,_,_,rfl,_⟩:=h;rfl
 ·have hu:=hu_of hr
  refine ⟨_,(qss_cons (qs_set (k:=2) (fun _=>scf_less.nd) (qe_callTy (fun _=>(call_dictL rfl hr)) r_dictL (fun _=>T.b_dict) (by decide +kernel) (qa_cons (qv 0) qa_nil)))
 (qss_cons (QS.weak (m:=ls0L) (qs_frz 1 (qs_for (fun _=>PassesOwn.never) (fun _=>rfl) (qi_list (fun _=>rfl) (qv 1)) (qg_tup (ks:=[3,4]) (fun _=>rfl) (fun _=>rfl) (fun _=>(pgs_cons (pg_name (i:=3) scf_less.nd rfl (Or.inl rfl)) (pgs_cons (pg_name (i:=4) scf_less.nd rfl (Or.inl rfl)) pgs_nil))) rfl)
 (QSs.weak (m:=ls0B) (qss_cons (qs_set (k:=5) (fun _=>scf_less.nd) (qe_op (fun _=>op_sub) r_sub (qe_dgetOr (fun _=>hu) (qv 2) (qv 3) qe_int) (qv 4)))
 (qss_cons (qs_if (qt_cmp (fun _=>op_lt) r_lt (qv 5) qe_int (nomark _))
 (qss_one qs_never)
 qss_nil)
 (qss_one (qs_dput (k:=2) (fun _=>hu) (qv 3) (qv 5))))) ?body0))) ?loop0)
 (qss_one (qs_ret (qe_fn (fun _=>Gf_summed) (fun _=>hr.mono (by decide)) (qa_cons (qe_items (Kf:=K) (fun _=>rfl) (fun _=>rfl) (fun _=>T.b_list) (qv 2)) qa_nil)))))),fun xs Kn h=>?_⟩
  case body0 =>
   rintro E' ρ ⟨x,y,cur,r,c,v,rfl,hl,h1,h2⟩
   simp_arith [imms_cnt,get0]
   refine ite2 (fun z=>absurd (by simpa using z) h1) (fun z=>?_)
   refine ⟨by lia,?_⟩
   rw [put_T]
   exact h2
  case loop0 =>
   rintro E' ρ ⟨x,a,b,c,rfl,ok,ec,h1⟩
   obtain ⟨n,u1,u2⟩:=ok.un
   simp_arith [pRet]
   refine ⟨fun i ρ=>∃ v1 v2 v3 cur,ρ=[x,.sh (tlP b),.own (dcP cur),v1,v2,v3]∧lessT a b=lessT cur (b.drop i)∧cur.length≤a.length + i∧∀ q∈cur,q.1.length=n,⟨_,_,_,a,rfl,rfl,by lia,u1⟩,fun i ρ' z hx hI=>?_,fun ρ' hI=>?_⟩
   ·obtain ⟨v1,v2,v3,cur,rfl,e,hl,hn⟩:=hI
    rw [List.getElem?_map] at hx
    obtain ⟨q,hq,rfl⟩:=Option.map_eq_some_iff.mp hx
    have hi:=(List.getElem?_eq_some_iff.mp hq).1
    have hqm:=List.mem_of_getElem? hq
    have:=ok.la
    have:=ok.lb
    rw [less_step hq,lessT] at e
    have nz:¬ (getT cur q.1).getD 0 - q.2<0:=fun z=>by rw [if_pos z,ec] at e;cases e
    simp_arith [pRet]
    refine ⟨_,_,cur,q.1,q.2,_,rfl,by lia,nz,_,_,_,takeT cur q,rfl,by rw [e,if_neg nz],?_,takeT_uni hn (u2 q hqm)⟩
    have:=takeT_len cur q
    lia
   ·obtain ⟨v1,v2,v3,cur,rfl,e,hl,hn⟩:=hI
    rw [List.drop_length,lessT,ec] at e
    cases e
    have:=ok.la
    have:=ok.lb
    exact h1 (by lia) ⟨n,hn⟩ v1 v2 v3
  ·obtain ⟨a,b,c,rfl,ok,ec,h1⟩:=h
   have:=ok.la
   simp_arith [fSummed]
   refine ⟨by lia,_,a,b,c,by rw [foldT_nd ok.nd],ok,ec,fun hl hn v1 v2 v3=>?_⟩
   simp_arith [fSummed]
   exact ⟨c,rfl,by lia,hn,h1⟩
theorem takeT_get (x:Tl) (q:List Int×Int) (r:List Int):(getT (takeT x q) r).getD 0=(getT x r).getD 0 - if q.1=r then q.2 else 0:=by
 unfold takeT
 rw [getT_put]
 by_cases e:q.1=r
 ·rw [if_pos e.symm,if_pos e,←e];rfl
 ·rw [if_neg (fun z=>e z.symm),if_neg e];lia
theorem take_get:∀ (b x:Tl) (r:List Int),(getT (b.foldl takeT x) r).getD 0=(getT x r).getD 0 - cnt b r
 | [],x,r=>by simp [cnt]
 | q :: b,x,r=>by
  rw [List.foldl_cons,take_get b,takeT_get]
  unfold cnt
  rw [List.map_cons,List.sum_cons];lia
theorem take_nd:∀ (b x:Tl),(x.map (·.1)).Nodup→((b.foldl takeT x).map (·.1)).Nodup
 | [],_,h=>h
 | q :: b,x,h=>by rw [List.foldl_cons];exact take_nd b _ (putT_nodup h)
theorem take_uni {n:Nat}:∀ {b x:Tl},(∀ q∈x,q.1.length=n)→(∀ q∈b,q.1.length=n)→∀ q∈b.foldl takeT x,q.1.length=n
 | [],_,h,_=>h
 | q :: b,x,h,g=>by rw [List.foldl_cons];exact take_uni (takeT_uni h (g q (List.mem_cons_self ..))) fun p hp=>g p (List.mem_cons_of_mem _ hp)
theorem take_len:∀ (b x:Tl),(b.foldl takeT x).length≤x.length + b.length
 | [],x=>by simp
 | q :: b,x=>by
  rw [List.foldl_cons,List.length_cons]
  have:=take_len b (takeT x q)
  have:=takeT_len x q
  lia
noncomputable def shortT (x b:Tl):List (List Int):=(b.filter fun q=>decide ((getT x q.1).getD 0<q.2)).map (·.1)
theorem lessT_eq:∀ (b x:Tl),(b.map (·.1)).Nodup→lessT x b=match shortT x b with | []=>.inr (b.foldl takeT x) | r :: _=>.inl r
 | [],x,_=>rfl
 | q :: b,x,nd=>by
  rw [List.map_cons,List.nodup_cons] at nd
  unfold lessT shortT
  by_cases z:(getT x q.1).getD 0<q.2
  ·rw [if_pos (by lia),List.filter_cons_of_pos (by simpa using z)]
   rfl
  ·rw [if_neg (by lia),List.filter_cons_of_neg (by simpa using z),lessT_eq b _ nd.2,List.foldl_cons]
   have e:shortT (takeT x q) b=shortT x b:=by
    unfold shortT
    congr 1
    refine List.filter_congr fun p hp=>?_
    have:¬ q.1=p.1:=fun e=>nd.1 (by rw [e];exact List.mem_map_of_mem hp)
    rw [takeT_get,if_neg this,Int.sub_zero]
   rw [e]
   rfl
theorem short_nil {x b:Tl} (h:∀ q∈b,q.2≤(getT x q.1).getD 0):shortT x b=[]:=by
 unfold shortT
 rw [List.map_eq_nil_iff,List.filter_eq_nil_iff]
 intro q hq
 have:=h q hq
 simp;lia
theorem short_none {x b:Tl} (h:shortT x b=[]):∀ q∈b,q.2≤(getT x q.1).getD 0:=fun q hq=>by
 unfold shortT at h
 rw [List.map_eq_nil_iff,List.filter_eq_nil_iff] at h
 have:=h q hq
 simpa using this
theorem take_nn {x b:Tl} (nx:(x.map (·.1)).Nodup) (nb:(b.map (·.1)).Nodup) (hx:∀ q∈x,0≤q.2) (h:∀ q∈b,q.2≤(getT x q.1).getD 0):∀ r,0≤(getT (b.foldl takeT x) r).getD 0:=fun r=>by
 rw [take_get,cnt_nd nb]
 by_cases z:r∈b.map (·.1)
 ·obtain ⟨p,hp,rfl⟩:=List.mem_map.mp z
  rw [getT_nd nb hp]
  have:=h p hp
  show 0≤_ - p.2
  lia
 ·rw [getT_none z,←cnt_nd nx]
  have:=cnt_nonneg hx r
  simpa using this
theorem take_pos {c:Tl} (nd:(c.map (·.1)).Nodup) (h:∀ r,0≤(getT c r).getD 0):posT (sumT c)=settleT c:=by
 rw [pos_settle fun r=>by rw [sumT_get,cnt_nd nd];exact h r]
 exact (settle_can nd).symm
noncomputable def fMinus:pF:=fun xs K=>∃ a b,xs=[tlP a,tlP b]∧LsOk a b∧(∀ c,lessT a b=.inr c→K (tlP (posT (sumT c))))∧∀ r,lessT a b=.inl r→K (.tup [.str "few",rowP r])
theorem ok_minus (D:DefAt K mg "_law_minus" sf_law_minus) (T:TxtF K mg) (Gf_less:FnE P' w K mg base "less" 3 ["one","other"] (spX K mg fLessX)):Fn P' w K mg base "_law_minus" 4 ["_law_one","_law_other"] (spP fMinus):=by
 refine fnP D scf_law_minus (fun _ _ _ _ _ _ us hl=>of_len2 hl (fun _ _=>rfl)) (fun xs K h=>?_) (by decide) (fun fa cdv A outer s H E hr=>⟨_,(qss_cons (qs_try (i':=2) (fun _=>⟨rfl,rfl,rfl⟩) (fun _=>Gf_less) (fun _=>hr.mono (by decide)) (qa_cons (qv 0) (qa_cons (qv 1) qa_nil))
 (qh_consV (k:=3) (no:=[]) (fun _=>⟨rfl,rfl,rfl⟩) T.x_TooFew.choose_spec (fun _ z=>absurd z (by simp)) (fun _=>rfl) (fun _=>rfl) (qv_B (k:=3) (i:=2) (fun _=>rfl) (fun _=>scf_law_minus.nd)) qh_nil (fun _=>scf_law_minus.nd)) (fun _=>scf_law_minus.nd))
 (qss_one (qs_ret (qv 2)))),fun xs K h=>?_⟩)
 ·obtain ⟨_,_,rfl,_⟩:=h;rfl
 ·obtain ⟨a,b,rfl,ok,h1,h2⟩:=h
  simp_arith [fLessX]
  exact ⟨ok,h1,fun r z=>.inl (h2 r z)⟩
inductive Subs {α β:Type} (R:α→β→Prop):List α→List β→Prop where
 | nil:Subs R [] []
 | skip {a as bs}:Subs R as bs→Subs R (a :: as) bs
 | cons {a b as bs}:R a b→Subs R as bs→Subs R (a :: as) (b :: bs)
theorem Subs.snoc {α β:Type} {R:α→β→Prop} {a:α} {b:β} (h:R a b):∀ {as:List α} {bs:List β},Subs R as bs→Subs R (as ++ [a]) (bs ++ [b])
 | _,_,.nil=>.cons h .nil
 | _,_,.skip t=>.skip (Subs.snoc h t)
 | _,_,.cons r t=>.cons r (Subs.snoc h t)
theorem Subs.more {α β:Type} {R:α→β→Prop} {a:α}:∀ {as:List α} {bs:List β},Subs R as bs→Subs R (as ++ [a]) bs
 | _,_,.nil=>.skip .nil
 | _,_,.skip t=>.skip (Subs.more t)
 | _,_,.cons r t=>.cons r (Subs.more t)
theorem comp_sub {α β:Type} {as:List α} {enc:α→P} {step:P→(Option (P×Fl)→Prop)→Prop} {K:P→Fl→Prop} (g:β→P) (R:α→β→Prop) (hs:∀ a∈as,∀ M:Option (P×Fl)→Prop,M none→(∀ b h,R a b→M (some (g b,h)))→step (enc a) M) (hg:∀ b,(g b).imm=true) (hK:∀ bs,Subs R as bs→K (.lst (bs.map g)) .nw):CompI (as.map enc) step K:=by
 refine ⟨.nw,fun i ys=>∃ bs,ys=bs.map g∧Subs R (as.take i) bs,.inl rfl,⟨[],rfl,.nil⟩,fun i x ys hx hys=>?_,fun ys hys=>?_⟩
 ·obtain ⟨a,_,hm,rfl,ht⟩:=mapGet hx
  obtain ⟨bs,rfl,he⟩:=hys
  refine hs a hm _ ⟨bs,rfl,by rw [ht];exact he.more⟩ fun b h hr=>⟨by rw [itemF_imm (hg b)];rfl,bs ++ [b],by simp,?_⟩
  rw [ht]
  exact he.snoc hr
 ·obtain ⟨bs,rfl,he⟩:=hys
  rw [List.length_map,List.take_length] at he
  exact hK bs he
end
end K
set_option Elab.async false
set_option linter.all false
set_option maxRecDepth 100000
set_option maxHeartbeats 4000000
namespace K
open PySem L2
section
variable {P':Program} {w:World} {K:PySem.W.Frag} {mg:Str→Option Value} {base:Heap}
theorem law_go2 {X:Cx} {s0:Stmt} {rest:List Stmt} {p:pS} {n:Nat} {a:Addr} {ns:List Int} {H:Hp} {Q:VK} (h0:PS X s0 (tAsg (tCall (spBag K) [] E0 (tCons (tVar 0) tNil)) (gName 1))) (hq:QSs (fun _:Unit=>X) rest p)
  (hp:p { nx:=fun _=>False,rt:=fun x=>x=.bl true } (.emp :: .sh .bag :: List.replicate n .emp)) (hS:SqL K H a (ns.map V.int)) (k:∀ H',Q (.bl true) H') :
  ∃ t,PSs X (s0 :: rest) t∧t { nx:=fun _ H'=>Q .non H',rt:=Q } (some (.ref a) :: none :: List.replicate n none) H:=by
 obtain ⟨t,h1,h2⟩:=law_go (n:=n) h0 hq hp
 exact ⟨t,h1,h2 a ns H Q hS k⟩
noncomputable abbrev lwR (ns:List Str) (a:Tl) (b:S) (c d e f g h i k l:S):List S:=[.emp,.sh .bag,.sh (nmP ns),.own (tlP a),b,c,d,e,f,g,h,i,k,l]
structure Dn (n:Nat) (t:Tl):Prop where
 tal:Tal n t
 few:t.length≤40
 can:canT t=t
theorem dn_of {n:Nat} {t:Tl} (h:Drawn n t):Dn n (settleT t):=⟨drawn_tal h,Nat.le_trans (settle_len t) h.len,can_settle h.nd⟩
theorem sortR_id {l:List (List Int)} (h:SrtR l):sortR l=l:=(sortR_of (List.Perm.refl l) h).symm
theorem settle_srt (t:Tl):SrtR ((settleT t).map (·.1)):=by
 unfold settleT
 rw [List.map_map]
 show SrtR (List.map (fun r=>r) _)
 rw [List.map_id']
 exact (sortR_srt _).sublist List.filter_sublist
theorem can_id {t:Tl} (hs:SrtR (t.map (·.1))) (nd:(t.map (·.1)).Nodup) (hz:∀ q∈t,q.2≠0):canT t=t:=by
 rw [←settle_can nd]
 unfold settleT
 rw [sortR_id hs,List.filter_eq_self.mpr,List.map_map]
 ·conv=>rhs;rw [←List.map_id t]
  refine List.map_congr_left fun q hq=>?_
  show (q.1,(getT t q.1).getD 0)=q
  rw [getT_nd nd hq];rfl
 ·intro r hr
  obtain ⟨q,hq,rfl⟩:=List.mem_map.mp hr
  rw [getT_nd nd hq]
  exact decide_eq_true (hz q hq)
theorem dn_sub {n:Nat} {a b:Tl} (h:Dn n a) (hs:SrtR (a.map (·.1))) (hb:(b.map (·.1)).Sublist (a.map (·.1))) (hp:∀ q∈b,0<q.2):Dn n b:=by
 have nd:=hb.nodup h.tal.nd
 have hl:b.length≤a.length:=by have:=hb.length_le;simpa using this
 have:=h.few
 refine ⟨⟨by lia,fun q hq=>?_,hp,nd⟩,by lia,can_id (hs.sublist hb) nd fun q hq=>Int.ne_of_gt (hp q hq)⟩
 obtain ⟨p,hp2,e⟩:=List.mem_map.mp (hb.subset (List.mem_map_of_mem hq))
 rw [←e];exact h.tal.rows p hp2
theorem subs_rows:∀ {a b:Tl},Subs (fun (q p:List Int×Int)=>p.1=q.1∧0<p.2) a b→(b.map (·.1)).Sublist (a.map (·.1))
 | _,_,.nil=>.slnil
 | _,_,.skip t=>.cons _ (subs_rows t)
 | _,_,.cons r t=>by rw [List.map_cons,List.map_cons,r.1];exact .cons₂ _ (subs_rows t)
theorem subs_pos:∀ {a b:Tl},Subs (fun (q p:List Int×Int)=>p.1=q.1∧0<p.2) a b→∀ q∈b,0<q.2
 | _,_,.nil,q,h=>nomatch h
 | _,_,.skip t,q,h=>subs_pos t q h
 | _,_,.cons r t,q,h=>by
  rcases List.mem_cons.mp h with rfl | h
  ·exact r.2
  ·exact subs_pos t q h
structure LwOk (ns:List Str) (a b:Tl):Prop where
 l0:ns.length≤6
 a0:Dn ns.length a
 b0:Dn ns.length b
theorem LwOk.uni {ns:List Str} {a b:Tl} (h:LwOk ns a b):∀ q∈a ++ b,q.1.length=ns.length:=fun q hq=>(List.mem_append.mp hq).elim (h.a0.tal.rows q) (h.b0.tal.rows q)
theorem LwOk.nn {ns:List Str} {a b:Tl} (h:LwOk ns a b):∀ q∈a ++ b,0≤q.2:=fun q hq=>(List.mem_append.mp hq).elim (tal_nn h.a0.tal q) (tal_nn h.b0.tal q)
theorem can_few (t:Tl):(canT t).length≤t.length:=Nat.le_trans (settle_len _) (sumT_len t)
theorem can_nd (t:Tl):((canT t).map (·.1)).Nodup:=settle_nd (sumT_nd t)
theorem can_uni {t:Tl} {n:Nat} (h:∀ q∈t,q.1.length=n):∀ q∈canT t,q.1.length=n:=settle_uni (sumT_uni h)
theorem can_nn {t:Tl} (h:∀ q∈t,0≤q.2):∀ q∈canT t,0≤q.2:=fun q hq=>by
 rw [(settle_cnt hq).1,sumT_get];exact cnt_nonneg h _
theorem less_sum {n:Nat} {a b:Tl} (ha:Dn n a) (hb:Dn n b):∃ c,lessT (canT (a ++ b)) b=.inr c∧posT (sumT c)=a:=by
 have nn:∀ q∈a ++ b,0≤q.2:=fun q hq=>(List.mem_append.mp hq).elim (tal_nn ha.tal q) (tal_nn hb.tal q)
 have le:∀ q∈b,q.2≤(getT (canT (a ++ b)) q.1).getD 0:=fun q hq=>by
  rw [←cnt_nd (can_nd _),cnt_can,cnt_app,cnt_nd hb.tal.nd,getT_nd hb.tal.nd hq]
  have:=cnt_nonneg (tal_nn ha.tal) q.1
  show q.2≤_ + q.2
  lia
 refine ⟨b.foldl takeT (canT (a ++ b)),by rw [lessT_eq _ _ hb.tal.nd,short_nil le],?_⟩
 have nd:=take_nd b _ (can_nd (a ++ b))
 rw [take_pos nd (take_nn (can_nd _) hb.tal.nd (can_nn nn) le),settle_can nd]
 conv=>rhs;rw [←ha.can]
 refine can_ext fun r=>?_
 rw [cnt_nd nd,take_get,←cnt_nd (can_nd _),cnt_can,cnt_app];lia
theorem canT_comm (a b:Tl):canT (a ++ b)=canT (b ++ a):=can_ext fun r=>by rw [cnt_app,cnt_app];lia
theorem sum_fold {a b:Tl} (nd:(a.map (·.1)).Nodup):settleT (b.foldl addT a)=canT (a ++ b):=by
 refine settle_ext (sum_nd b a nd) (sumT_nd _) fun r=>?_
 rw [foldl_get,sumT_get,cnt_app,cnt_nd nd]
theorem eqP_ll (a b:Tl):eqP (.lst [tlP a,tlP b]) (.lst [tlP a,tlP b])=true:=by
 have nb:(P.lst [tlP a,tlP b]).nb=true:=by rw [P.nb,P.nbs,P.nbs,P.nbs,nb_tl,nb_tl];rfl
 exact (eqP_iff nb nb).mpr rfl
theorem eqP_few (r:List Int):eqP (.tup [.str "few",rowP r]) (.tup [.str "few",rowP r])=true:=by
 have nb:(P.tup [.str "few",rowP r]).nb=true:=by rw [P.nb,P.nbs,P.nbs,P.nbs,nb_row];rfl
 exact (eqP_iff nb nb).mpr rfl
theorem add_uni {n:Nat}:∀ {b a:Tl},(∀ q∈a,q.1.length=n)→(∀ q∈b,q.1.length=n)→∀ q∈b.foldl addT a,q.1.length=n
 | [],_,h,_=>h
 | q :: b,a,h,g=>by rw [List.foldl_cons];exact add_uni (putT_rows h (g q (List.mem_cons_self ..))) fun p hp=>g p (List.mem_cons_of_mem _ hp)
theorem take_rows:∀ (b a:Tl) (r:List Int),r∈a.map (·.1)→r∈(b.foldl takeT a).map (·.1)
 | [],_,_,h=>h
 | q :: b,a,r,h=>by rw [List.foldl_cons];exact take_rows b _ r ((putT_mem_row _ _ _ _).mpr (.inr h))
theorem rest_there {ns:List Str} {a b:Tl} {i:Nat} {q:List Int×Int} (ok:LwOk ns a b) (hz:shortT a b=[]) (hq:b[i]?=some q):∃ o,getT ((b.take i).foldl takeT a) q.1=some o:=by
 have hm:=List.mem_of_getElem? hq
 refine getT_some (take_rows _ _ _ ?_)
 by_cases z:q.1∈a.map (·.1)
 ·exact z
 ·have h1:=short_none hz q hm
  rw [getT_none z] at h1
  have h2:=ok.b0.tal.pos q hm
  have h3:q.2≤0:=h1
  lia
theorem nb_rows (rs:List (List Int)):(P.lst (rs.map rowP)).nb=true:=by rw [P.nb];exact nbs_map nb_row rs
theorem eqP_rnil (r:List Int) (rs:List (List Int)):eqP (.lst (rowP r :: rs.map rowP)) (.lst [])=false:=by
 rw [Bool.eq_false_iff]
 intro z
 have:=(eqP_iff (nb_rows (r :: rs)) (nb_rows [])).mp z
 simp at this
theorem eqP_rnil0:eqP (.lst []) (.lst [])=true:=(eqP_iff (nb_rows []) (nb_rows [])).mpr rfl
noncomputable abbrev hnd (a b:Tl):P:=.lst [tlP a,tlP b]
noncomputable def lwM5:pS:=fun E ρ=>E.rt (.bl true)∧∃ ns a b,LwOk ns a b∧ρ=lwR ns a (.own (tlP b)) .emp .emp .emp .emp .emp .emp .emp .emp .emp
noncomputable def adB:pS:=fun E ρ=>∃ x1 x2 x3 x4 x5 cur r c z,ρ=x1 :: x2 :: x3 :: x4 :: x5 :: .own (dcP cur) :: .sh (rowP r) :: .sh (.int c) :: z∧cur.length≤100000∧E.nx (x1 :: x2 :: x3 :: x4 :: x5 :: .own (dcP (addT cur (r,c))) :: .sh (rowP r) :: .sh (.int c) :: z)
noncomputable def adL:pS:=fun E ρ=>∃ ns a b,LwOk ns a b∧ρ=lwR ns a (.own (tlP b)) (.own (dcP a)) .emp .emp .emp .emp .emp .emp .emp .emp∧∀ v1 v2,E.nx (lwR ns a (.fr (tlP b)) (.own (dcP (b.foldl addT a))) v1 v2 .emp .emp .emp .emp .emp .emp)
noncomputable def lwM7:pS:=fun E ρ=>E.rt (.bl true)∧∃ ns a b v1 v2,LwOk ns a b∧ρ=lwR ns a (.fr (tlP b)) (.own (dcP (b.foldl addT a))) v1 v2 .emp .emp .emp .emp .emp .emp
noncomputable def lwM10:pS:=fun E ρ=>E.rt (.bl true)∧∃ ns a b v0 v1 v2,LwOk ns a b∧ρ=lwR ns a (.fr (tlP b)) v0 v1 v2 (.own (hnd a b)) (.own (tlP (canT (a ++ b)))) .emp .emp .emp .emp
noncomputable def lwM13:pS:=fun E ρ=>E.rt (.bl true)∧∃ ns a b v0 v1 v2 v3,LwOk ns a b∧ρ=lwR ns a (.fr (tlP b)) v0 v1 v2 (.own (hnd a b)) (.own (tlP (canT (a ++ b)))) v3 .emp .emp .emp
noncomputable def lwM17:pS:=fun E ρ=>E.rt (.bl true)∧∃ ns a b v0 v1 v2 v3 v4 k,LwOk ns a b∧ρ=lwR ns a (.fr (tlP b)) v0 v1 v2 (.own (hnd a b)) v3 v4 (.own (dcP a)) (.own (.lst ((shortT a b).map rowP))) k ∧
 ((∃ r rs,shortT a b=r :: rs∧k=.sh (.tup [.str "few",rowP r]))∨(shortT a b=[]∧k=.own (tlP (settleT (b.foldl takeT a)))))
noncomputable def lwM18:pS:=fun E ρ=>E.rt (.bl true)∧∃ ns a b v0 v1 v2 v3 v4 v5,LwOk ns a b∧ρ=lwR ns a (.fr (tlP b)) v0 v1 v2 (.own (hnd a b)) v3 v4 (.own (dcP a)) v5 (.own (tlP (settleT (b.foldl takeT a))))∧shortT a b=[]
noncomputable def lwM19:pS:=fun E ρ=>E.rt (.bl true)∧∃ ns a b v0 v1 v2 v3 v4 v5,LwOk ns a b∧ρ=lwR ns a (.fr (tlP b)) v0 v1 v2 (.own (hnd a b)) v3 v4 (.own (dcP (b.foldl takeT a))) v5 (.own (tlP (settleT (b.foldl takeT a))))∧shortT a b=[]
noncomputable def rsB:pS:=fun E ρ=>∃ x0 x1 x2 x3 x4 x5 r c x8 x9 x10 cur o x12 x13,ρ=[x0,x1,x2,x3,x4,x5,.sh (rowP r),.sh (.int c),x8,x9,x10,.own (dcP cur),x12,x13]∧cur.length≤100000∧getT cur r=some o∧E.nx [x0,x1,x2,x3,x4,x5,.sh (rowP r),.sh (.int c),x8,x9,x10,.own (dcP (takeT cur (r,c))),x12,x13]
noncomputable def rsL:pS:=fun E ρ=>∃ ns a b v0 v1 v2 v8 v9 v10 v12 v13,LwOk ns a b∧shortT a b=[]∧ρ=lwR ns a (.fr (tlP b)) v0 v1 v2 v8 v9 v10 (.own (dcP a)) v12 v13∧∀ v1 v2,E.nx (lwR ns a (.fr (tlP b)) v0 v1 v2 v8 v9 v10 (.own (dcP (b.foldl takeT a))) v12 v13)
theorem ok_law {f:Addr} {fd:FuncData} (F:Fun K "law" "law" sf_law f fd) (T:TxtB mg) (Gf_law_bag:Fn P' w K mg base "_law_bag" 1 ["_law_script"] (spBag K)) (Gf_law_pull:Fn P' w K mg base "_law_pull" 1 ["_law_bag_here","_law_many_here"] (spP fPull)) (Gf_law_names:Fn P' w K mg base "_law_names" 3 ["_law_bag_here","_law_many_here"] (spP fNames))
  (Gf_law_drawn:Fn P' w K mg base "_law_drawn" 3 ["_law_bag_here","_law_room"] (spP fDrawn)) (Gf_law_settled:Fn P' w K mg base "_law_settled" 1 ["_law_counts"] (spP fSettledU)) (Gf_law_same:Fn P' w K mg base "_law_same" 3 ["_law_found","_law_due"] (spP fSame)) (Gf_law_tuple:Fn P' w K mg base "_law_tuple" 2 ["_law_found"] (spP fTuple)) (Gf_law_whole:Fn P' w K mg base "_law_whole" 1 ["_law_found"] (spP fWhole))
  (Gf_total:Fn P' w K mg base "total" 1 ["rows"] (spP fTotal)) (Gf_plus:Fn P' w K mg base "plus" 2 ["one","other"] (spP fPlus)) (Gf_less:Fn P' w K mg base "less" 2 ["one","other"] (spP fLess)) (Gf_law_minus:Fn P' w K mg base "_law_minus" 4 ["_law_one","_law_other"] (spP fMinus)):FnOk P' w K mg base CX0 5 f fd ["_law_script"] (spLaw K):=by
 refine F.ok scf_law (fun vs H Q E h=>?_) (fun cdv A outer s H vs Q E hr h=>?_)
 ·obtain ⟨a,ns,rfl,_⟩:=h;rfl
 ·obtain ⟨a,ns,rfl,hS,k⟩:=h
  have hu:=hu_of hr
  refine law_go2 (n:=12) (ps_set (i:=1) scf_law.nd rfl (Or.inr rfl) (pe_fn Gf_law_bag (hr.mono (by decide)) (by rfl) (pa_cons (pv 0) pa_nil))) (qss_cons (qs_set (k:=2) (fun _=>scf_law.nd) (qe_callTy (fun _=>call_tupleF) r_tuple (fun _=>T.b_tuple) (by decide +kernel) (qa_cons (qe_callB (fun _=>(call_sorted_s trivial)) r_sortS (fun _=>T.b_sorted) (by decide +kernel) (qa_cons (qe_fn (fun _=>Gf_law_names) (fun _=>hr.mono (by decide)) (qa_cons (qv 1) (qa_cons (qe_fn (fun _=>Gf_law_pull) (fun _=>hr.mono (by decide)) (qa_cons (qv 1) (qa_cons qe_int qa_nil))) qa_nil))) qa_nil)) qa_nil)))
 (qss_cons (qs_set (k:=3) (fun _=>scf_law.nd) (qe_fn (fun _=>Gf_law_drawn) (fun _=>hr.mono (by decide)) (qa_cons (qv 1) (qa_cons (qv 2) qa_nil))))
 (qss_cons (qs_set (k:=4) (fun _=>scf_law.nd) (qe_fn (fun _=>Gf_law_drawn) (fun _=>hr.mono (by decide)) (qa_cons (qv 1) (qa_cons (qv 2) qa_nil))))
 (qss_cons (qs_if (qt_cmp (fun _=>(op_eqP hr)) r_eq (qe_fn (fun _=>Gf_law_pull) (fun _=>hr.mono (by decide)) (qa_cons (qv 1) (qa_cons qe_int qa_nil))) qe_int (nomark _))
 (qss_one (qs_setComp (k:=4) (fun _=>scf_law.nd) (N:=["_law_script","_law_bag_here","_law_names_here","_law_one","_law_other","_law_counts","_law_row","_law_count","_law_handed","_law_found","_law_sums","_law_rest","_law_short","_law_back"]) (sc:=defScope sf_law) (N':=["_law_row","_law_count","_law_bag_here"]) (pick:=[none,none,some 1]) ⟨rfl,by decide +kernel,by decide +kernel,by decide +kernel,by decide +kernel,rfl,by decide +kernel⟩ (by decide) (fun _=>rfl) (qi_list (fun _=>rfl) (qv 3)) (qgk_two (i:=0) (j:=1) rfl rfl (fun _=>rfl) (fun _=>rfl) (fun _=>(pgs_cons (pg_name (i:=0) (show List.Nodup (["_law_row","_law_count","_law_bag_here"]:List Str) by decide +kernel) rfl (Or.inl rfl)) (pgs_cons (pg_name (i:=1) (show List.Nodup (["_law_row","_law_count","_law_bag_here"]:List Str) by decide +kernel) rfl (Or.inl rfl)) pgs_nil)))) (qifs_one (qt_cmp (fun _=>op_gt) r_gt (qe_fn (fun _=>Gf_law_pull) (fun _=>hr.mono (by decide)) (qa_cons (qv 2) (qa_cons qe_int qa_nil))) qe_int (nomark _))) (qe_tup (qa_cons (qv 0) (qa_cons (qe_op (fun _=>op_add) r_add qe_int (qe_fn (fun _=>Gf_law_pull) (fun _=>hr.mono (by decide)) (qa_cons (qv 2) (qa_cons (qv 1) qa_nil)))) qa_nil)))))
 qss_nil)
 (QSs.weak (m:=lwM5) (qss_cons (qs_set (k:=5) (fun _=>scf_law.nd) (qe_callTy (fun _=>(call_dictL rfl hr)) r_dictL (fun _=>T.b_dict) (by decide +kernel) (qa_cons (qv 3) qa_nil)))
 (qss_cons (QS.weak (m:=adL) (qs_frz 4 (qs_for (fun _=>PassesOwn.never) (fun _=>rfl) (qi_list (fun _=>rfl) (qv 4)) (qg_tup (ks:=[6,7]) (fun _=>rfl) (fun _=>rfl) (fun _=>(pgs_cons (pg_name (i:=6) scf_law.nd rfl (Or.inl rfl)) (pgs_cons (pg_name (i:=7) scf_law.nd rfl (Or.inl rfl)) pgs_nil))) rfl)
 (QSs.weak (m:=adB) (qss_one (qs_dput (k:=5) (fun _=>hu) (qv 6) (qe_op (fun _=>op_add) r_add (qe_dgetOr (fun _=>hu) (qv 5) (qv 6) qe_int) (qv 7)))) ?body0))) ?loop0)
 (QSs.weak (m:=lwM7) (qss_cons (qs_set (k:=8) (fun _=>scf_law.nd) (qe_lst (qa_cons (qe_callTy (fun _=>call_listF) r_list (fun _=>T.b_list) (by decide +kernel) (qa_cons (qv 3) qa_nil)) (qa_cons (qe_callTy (fun _=>call_listF) r_list (fun _=>T.b_list) (by decide +kernel) (qa_cons (qv 4) qa_nil)) qa_nil))))
 (qss_cons (qs_set (k:=9) (fun _=>scf_law.nd) (qe_fn (fun _=>Gf_plus) (fun _=>hr.mono (by decide)) (qa_cons (qe_ix (fun _=>ixA) r_ix (qv 8) qe_int (fun _ _=>rfl)) (qa_cons (qe_ix (fun _=>ixA) r_ix (qv 8) qe_int (fun _ _=>rfl)) qa_nil))))
 (qss_cons (qs_if (QW.pt (qw_or (qt_not (qt_val (qe_fn (fun _=>Gf_law_same) (fun _=>hr.mono (by decide)) (qa_cons (qv 9) (qa_cons (qe_fn (fun _=>Gf_law_settled) (fun _=>hr.mono (by decide)) (qa_cons (qv 5) qa_nil)) qa_nil))))) (qw_or1 (qt_cmp (fun _=>(op_neP hr)) r_ne (qv 8) (qe_lst (qa_cons (qv 3) (qa_cons (qv 4) qa_nil))) (nomark _)))))
 (qss_one (qs_ret qe_bl))
 qss_nil)
 (QSs.weak (m:=lwM10) (qss_cons (qs_if (QW.pt (qw_or (qt_not (qt_val (qe_fn (fun _=>Gf_law_same) (fun _=>hr.mono (by decide)) (qa_cons (qe_fn (fun _=>Gf_less) (fun _=>hr.mono (by decide)) (qa_cons (qv 9) (qa_cons (qe_ix (fun _=>ixA) r_ix (qv 8) qe_int (fun _ _=>rfl)) qa_nil))) (qa_cons (qv 3) qa_nil))))) (qw_or1 (qt_not (qt_val (qe_fn (fun _=>Gf_law_same) (fun _=>hr.mono (by decide)) (qa_cons (qe_fn (fun _=>Gf_less) (fun _=>hr.mono (by decide)) (qa_cons (qv 9) (qa_cons (qe_ix (fun _=>ixA) r_ix (qv 8) qe_int (fun _ _=>rfl)) qa_nil))) (qa_cons (qv 4) qa_nil))))))))
 (qss_one (qs_ret qe_bl))
 qss_nil)
 (QSs.weak (m:=lwM10) (qss_cons (qs_set (k:=10) (fun _=>scf_law.nd) (qe_lst (qa_cons (qe_callB (fun _=>(call_sum rfl)) r_sum (fun _=>T.b_sum) (by decide +kernel) (qa_cons (qe_comp (N:=["_law_script","_law_bag_here","_law_names_here","_law_one","_law_other","_law_counts","_law_row","_law_count","_law_handed","_law_found","_law_sums","_law_rest","_law_short","_law_back"]) (sc:=defScope sf_law) (N':=["_law_row","_law_count"]) (pick:=[none,none]) ⟨rfl,by decide +kernel,by decide +kernel,by decide +kernel,by decide +kernel,rfl,by decide +kernel⟩ (by decide) (fun _=>rfl) (qi_list (fun _=>rfl) (qv 3)) (qgk_two (i:=0) (j:=1) rfl rfl (fun _=>rfl) (fun _=>rfl) (fun _=>(pgs_cons (pg_name (i:=0) (show List.Nodup (["_law_row","_law_count"]:List Str) by decide +kernel) rfl (Or.inl rfl)) (pgs_cons (pg_name (i:=1) (show List.Nodup (["_law_row","_law_count"]:List Str) by decide +kernel) rfl (Or.inl rfl)) pgs_nil)))) qifs_nil (qv 1)) qa_nil)) (qa_cons (qe_callB (fun _=>(call_sum rfl)) r_sum (fun _=>T.b_sum) (by decide +kernel) (qa_cons (qe_comp (N:=["_law_script","_law_bag_here","_law_names_here","_law_one","_law_other","_law_counts","_law_row","_law_count","_law_handed","_law_found","_law_sums","_law_rest","_law_short","_law_back"]) (sc:=defScope sf_law) (N':=["_law_row","_law_count"]) (pick:=[none,none]) ⟨rfl,by decide +kernel,by decide +kernel,by decide +kernel,by decide +kernel,rfl,by decide +kernel⟩ (by decide) (fun _=>rfl) (qi_list (fun _=>rfl) (qv 4)) (qgk_two (i:=0) (j:=1) rfl rfl (fun _=>rfl) (fun _=>rfl) (fun _=>(pgs_cons (pg_name (i:=0) (show List.Nodup (["_law_row","_law_count"]:List Str) by decide +kernel) rfl (Or.inl rfl)) (pgs_cons (pg_name (i:=1) (show List.Nodup (["_law_row","_law_count"]:List Str) by decide +kernel) rfl (Or.inl rfl)) pgs_nil)))) qifs_nil (qv 1)) qa_nil)) qa_nil))))
 (qss_cons (qs_if (QW.pt (qw_or (qt_not (qt_val (qe_fn (fun _=>Gf_law_whole) (fun _=>hr.mono (by decide)) (qa_cons (qe_fn (fun _=>Gf_total) (fun _=>hr.mono (by decide)) (qa_cons (qv 9) qa_nil)) qa_nil)))) (qw_or (qt_cmp (fun _=>(op_neP hr)) r_ne (qe_fn (fun _=>Gf_total) (fun _=>hr.mono (by decide)) (qa_cons (qv 9) qa_nil)) (qe_op (fun _=>op_add) r_add (qe_ix (fun _=>ixA) r_ix (qv 10) qe_int (fun _ _=>rfl)) (qe_ix (fun _=>ixA) r_ix (qv 10) qe_int (fun _ _=>rfl))) (nomark _)) (qw_or1 (qt_cmp (fun _=>(op_neP hr)) r_ne (qe_fn (fun _=>Gf_total) (fun _=>hr.mono (by decide)) (qa_cons (qv 3) qa_nil)) (qe_ix (fun _=>ixA) r_ix (qv 10) qe_int (fun _ _=>rfl)) (nomark _))))))
 (qss_one (qs_ret qe_bl))
 qss_nil)
 (QSs.weak (m:=lwM13) (qss_cons (qs_append (k:=9) (fun _=>rfl) qe_int)
 (qss_cons (qs_set (k:=11) (fun _=>scf_law.nd) (qe_callTy (fun _=>(call_dictL rfl hr)) r_dictL (fun _=>T.b_dict) (by decide +kernel) (qa_cons (qv 3) qa_nil)))
 (qss_cons (qs_setComp (k:=12) (fun _=>scf_law.nd) (N:=["_law_script","_law_bag_here","_law_names_here","_law_one","_law_other","_law_counts","_law_row","_law_count","_law_handed","_law_found","_law_sums","_law_rest","_law_short","_law_back"]) (sc:=defScope sf_law) (N':=["_law_row","_law_count","_law_rest"]) (pick:=[none,none,some 11]) ⟨rfl,by decide +kernel,by decide +kernel,by decide +kernel,by decide +kernel,rfl,by decide +kernel⟩ (by decide) (fun _=>rfl) (qi_list (fun _=>rfl) (qv 4)) (qgk_two (i:=0) (j:=1) rfl rfl (fun _=>rfl) (fun _=>rfl) (fun _=>(pgs_cons (pg_name (i:=0) (show List.Nodup (["_law_row","_law_count","_law_rest"]:List Str) by decide +kernel) rfl (Or.inl rfl)) (pgs_cons (pg_name (i:=1) (show List.Nodup (["_law_row","_law_count","_law_rest"]:List Str) by decide +kernel) rfl (Or.inl rfl)) pgs_nil)))) (qifs_one (qt_cmp (fun _=>op_lt) r_lt (qe_dgetOr (fun _=>hu) (qv 2) (qv 0) qe_int) (qv 1) (nomark _))) (qv 0))
 (qss_cons (qs_set (k:=13) (fun _=>scf_law.nd) (qe_fn (fun _=>Gf_law_minus) (fun _=>hr.mono (by decide)) (qa_cons (qe_ix (fun _=>ixA) r_ix (qv 8) qe_int (fun _ _=>rfl)) (qa_cons (qe_ix (fun _=>ixA) r_ix (qv 8) qe_int (fun _ _=>rfl)) qa_nil))))
 (QSs.weak (m:=lwM17) (qss_cons (qs_if (qt_cmp (fun _=>(op_neP hr)) r_ne (qv 12) (qe_lst qa_nil) (nomark _))
 (qss_cons (qs_if (QW.pt (qw_or (qt_not (qt_val (qe_isinst (n:="tuple") (by simp) (fun _=>rfl) (fun _=>T.b_isinstance) (fun _=>T.b_tuple) (by decide +kernel) (qv 13)))) (qw_or1 (qt_not (qt_val (qe_fn (fun _=>Gf_law_tuple) (fun _=>hr.mono (by decide)) (qa_cons (qe_ix (fun _=>ixA) r_ix (qv 13) qe_int (fun _ _=>rfl)) qa_nil)))))))
 (qss_one (qs_ret qe_bl))
 qss_nil)
 (qss_one (qs_ret (qe_and (qe_cmp (fun _=>(op_eqP hr)) r_eq (qv 13) (qe_tup (qa_cons qe_str (qa_cons (qe_ix (fun _=>ixA) r_ix (qv 12) qe_int (fun _ _=>rfl)) qa_nil))) (nomark _)) (qe_one (qe_cmp (fun _=>(op_eqP hr)) r_eq (qv 8) (qe_lst (qa_cons (qv 3) (qa_cons (qv 4) qa_nil))) (nomark _)))))))
 qss_nil)
 (QSs.weak (m:=lwM18) (qss_cons (QS.weak (m:=rsL) (qs_frz 4 (qs_for (fun _=>PassesOwn.never) (fun _=>rfl) (qi_list (fun _=>rfl) (qv 4)) (qg_tup (ks:=[6,7]) (fun _=>rfl) (fun _=>rfl) (fun _=>(pgs_cons (pg_name (i:=6) scf_law.nd rfl (Or.inl rfl)) (pgs_cons (pg_name (i:=7) scf_law.nd rfl (Or.inl rfl)) pgs_nil))) rfl)
 (QSs.weak (m:=rsB) (qss_one (qs_daug (k:=11) (fun _=>hu) (fun _=>iopd_sub) (qv 6) (qv 7))) ?body1))) ?loop1)
 (QSs.weak (m:=lwM19) (qss_cons (qs_if (qt_not (qt_val (qe_fn (fun _=>Gf_law_same) (fun _=>hr.mono (by decide)) (qa_cons (qv 13) (qa_cons (qe_fn (fun _=>Gf_law_settled) (fun _=>hr.mono (by decide)) (qa_cons (qv 11) qa_nil)) qa_nil)))))
 (qss_one (qs_ret qe_bl))
 qss_nil)
 (qss_cons (qs_append (k:=13) (fun _=>rfl) qe_int)
 (qss_one (qs_ret (qe_cmp (fun _=>(op_eqP hr)) r_eq (qv 8) (qe_lst (qa_cons (qv 3) (qa_cons (qv 4) qa_nil))) (nomark _)))))) ?cut18)) ?cut17)) ?cut16))))) ?cut12))) ?cut10)) ?cut9)))) ?cut6))) ?cut4))))) ?main hS k
  case main =>
   simp_arith [fPull,fNames,fDrawn]
   refine ⟨by decide,by decide,fun wd w0 w1=>⟨w0,by lia,fun ns0 n1 _ _=>⟨by lia,fun ns hp hs=>?_⟩⟩⟩
   have ln:ns.length≤6:=by rw [hp.length_eq];lia
   refine ⟨by lia,fun t hd=>⟨by lia,fun u hd2=>⟨by decide,by decide,fun r r0 r1=>?_⟩⟩⟩
   refine ite2 (fun z=>?_) (fun z=>⟨rfl,ns,_,_,⟨ln,dn_of hd,dn_of hd2⟩,rfl⟩)
   have hf:=(dn_of hd).few
   refine ⟨by lia,comp_sub prP (fun q p=>p.1=q.1∧0<p.2) (fun q hq M h1 h2=>?_) (fun _=>imm_pr _) fun b he=>?_⟩
   ·simp_arith [pRet]
    have hc:=settle_cnt hq
    have hm:∃ p∈t,p.1=q.1:=by obtain ⟨p,hp,e⟩:=List.mem_map.mp (settle_mem hq);exact ⟨p,hp,e⟩
    obtain ⟨p,hp,e⟩:=hm
    have hb:=hd.cnt p hp
    rw [←e,getT_nd hd.nd hp] at hc
    have hc1:q.2=p.2:=hc.1
    refine ⟨by decide,by decide,fun r2 r20 r21=>ite2 (fun z2=>?_) (fun z2=>h1)⟩
    refine ⟨by lia,by lia,fun r3 r30 r31=>h2 (q.1,1 + r3) _ ⟨rfl,by show 0<1 + r3;lia⟩⟩
   ·refine ⟨rfl,ns,_,b,⟨ln,dn_of hd,dn_sub (dn_of hd) (settle_srt t) ?_ ?_⟩,rfl⟩
    ·exact subs_rows he
    ·exact subs_pos he
  case cut4 =>
   rintro E ρ ⟨rt,ns,a,b,ok,rfl⟩
   simp_arith [pRet]
   have h1:=ok.a0.few
   refine ⟨by lia,?_⟩
   rw [foldT_nd ok.a0.tal.nd]
   exact ⟨ns,a,b,ok,rfl,fun v1 v2=>⟨rt,ns,a,b,v1,v2,ok,rfl⟩⟩
  case body0 =>
   rintro E ρ ⟨x1,x2,x3,x4,x5,cur,r,c,z,rfl,hl,h⟩
   simp_arith [imms_cnt,get0]
   refine ⟨by lia,?_⟩
   rw [put_T]
   exact h
  case loop0 =>
   rintro E ρ ⟨ns,a,b,ok,rfl,h⟩
   have h1:=ok.a0.few
   have h2:=ok.b0.few
   simp_arith [pRet]
   refine ⟨fun i ρ=>∃ v1 v2,ρ=[.emp,.sh .bag,.sh (nmP ns),.own (tlP a),.fr (tlP b),.own (dcP ((b.take i).foldl addT a)),v1,v2,.emp,.emp,.emp,.emp,.emp,.emp],⟨_,_,rfl⟩,fun i ρ' x hx hI=>?_,fun ρ' hI=>?_⟩
   ·obtain ⟨v1,v2,rfl⟩:=hI
    rw [List.getElem?_map] at hx
    obtain ⟨q,hq,rfl⟩:=Option.map_eq_some_iff.mp hx
    simp_arith [pRet]
    have hl2:=sum_len (b.take i) a
    have hl3:(b.take i).length≤b.length:=by rw [List.length_take];lia
    refine ⟨_,_,_,_,_,_,q.1,q.2,_,rfl,by lia,.sh (rowP q.1),.sh (.int q.2),?_⟩
    rw [List.take_add_one,hq,List.foldl_append]
    rfl
   ·obtain ⟨v1,v2,rfl⟩:=hI
    have:=h v1 v2
    rw [List.take_of_length_le (Nat.le_refl _)]
    exact this
  case cut6 =>
   rintro E ρ ⟨rt,ns,a,b,v1,v2,ok,rfl⟩
   simp_arith [fPlus,fSame,fSettledU]
   have h1:=ok.a0.few
   have h2:=ok.b0.few
   have h3:=sum_len b a
   have h4:=can_few (a ++ b)
   rw [List.length_append] at h4
   have ln:=ok.l0
   refine ⟨tlP a,sa0 _ _,tlP b,sa1 _ _ _,a,rfl,b,rfl,by lia,⟨_,ok.uni⟩,b.foldl addT a,rfl,by lia,⟨ns.length,?_⟩,?_,?_,?_,?_⟩
   ·exact add_uni ok.a0.tal.rows ok.b0.tal.rows
   ·rw [sum_fold ok.a0.tal.nd,can_pos ok.nn]
   ·rw [can_pos ok.nn];lia
   ·rw [can_pos ok.nn]
    intro q hq
    rw [can_uni ok.uni q hq];lia
   ·rw [can_pos ok.nn,show eqP _ _=true from eqP_ll a b,if_neg (by simp)]
    exact ⟨rt,ns,a,b,_,v1,v2,ok,rfl⟩
  case cut9 =>
   rintro E ρ ⟨rt,ns,a,b,v0,v1,v2,ok,rfl⟩
   simp_arith [fLess,fSame]
   have h1:=ok.a0.few
   have h2:=ok.b0.few
   have h4:=can_few (a ++ b)
   rw [List.length_append] at h4
   have ln:=ok.l0
   obtain ⟨c1,e1,e2⟩:=less_sum ok.a0 ok.b0
   obtain ⟨c2,e3,e4⟩:=less_sum ok.b0 ok.a0
   rw [canT_comm] at e3
   have l1:LsOk (canT (a ++ b)) b:=⟨by lia,by lia,can_nd _,_,can_uni ok.uni,ok.b0.tal.rows⟩
   have l2:LsOk (canT (a ++ b)) a:=⟨by lia,by lia,can_nd _,_,can_uni ok.uni,ok.a0.tal.rows⟩
   refine ⟨tlP b,sa1 _ _ _,b,rfl,l1,c1,e1,e2.symm,by rw [e2];lia,fun q hq=>?_,tlP a,sa0 _ _,a,rfl,l2,c2,e3,e4.symm,by rw [e4];lia,fun q hq=>?_,rt,ns,a,b,v0,v1,v2,ok,rfl⟩
   ·rw [e2] at hq
    rw [ok.a0.tal.rows q hq];lia
   ·rw [e4] at hq
    rw [ok.b0.tal.rows q hq];lia
  case cut10 =>
   rintro E ρ ⟨rt,ns,a,b,v0,v1,v2,ok,rfl⟩
   simp_arith [fTotal,fWhole]
   have h1:=ok.a0.few
   have h2:=ok.b0.few
   have h4:=can_few (a ++ b)
   rw [List.length_append] at h4
   refine ⟨by lia,CompI.map (fun q=>.int q.2) (fun _ _=>rfl) (fun q hq M hM=>?_) ?_⟩
   ·simp_arith [pRet]
    exact hM _
   refine ⟨a.map (fun (q:List Int×Int)=>q.2),by rw [List.map_map];rfl,by lia,CompI.map (fun q=>.int q.2) (fun _ _=>rfl) (fun q hq M hM=>?_) ?_⟩
   ·simp_arith [pRet]
    exact hM _
   refine ⟨b.map (fun (q:List Int×Int)=>q.2),by rw [List.map_map];rfl,?_⟩
   have et:totT (canT (a ++ b))=totT a + totT b:=by rw [tot_can];unfold totT;rw [List.map_append,List.sum_append]
   simp_arith [sa0,sa1,et]
   refine ⟨by lia,by lia,?_⟩
   rw [if_neg (by unfold totT;simp)]
   refine ⟨by lia,?_⟩
   rw [if_neg (by unfold totT;simp)]
   exact ⟨rt,ns,a,b,v0,v1,v2,_,ok,rfl⟩
  case cut12 =>
   rintro E ρ ⟨rt,ns,a,b,v0,v1,v2,v3,ok,rfl⟩
   have h1:=ok.a0.few
   have h2:=ok.b0.few
   have h4:=can_few (a ++ b)
   rw [List.length_append] at h4
   simp_arith [fMinus,foldT_nd ok.a0.tal.nd]
   refine ⟨by lia,by lia,by lia,CompI.filter (fun q=>decide ((getT a q.1).getD 0<q.2)) (fun q=>rowP q.1) (fun q _ _=>by simp) (fun q hq M hM=>?_) ?_⟩
   ·simp_arith [imms_cnt,get0]
    have hM:=hM .cl
    refine ite2 (fun z=>?_) (fun z=>?_)
    ·rw [if_pos (by simpa using z)] at hM;exact hM
    ·rw [if_neg (by simpa using z)] at hM;exact hM
   ·simp_arith [sa0,sa1]
    have es:(b.filter fun q=>decide ((getT a q.1).getD 0<q.2)).map (fun q=>rowP q.1)=(shortT a b).map rowP:=by unfold shortT;rw [List.map_map];rfl
    rw [es]
    have el:=lessT_eq b a ok.b0.tal.nd
    refine ⟨⟨by lia,by lia,ok.a0.tal.nd,_,ok.a0.tal.rows,ok.b0.tal.rows⟩,fun c e=>?_,fun r e=>?_⟩
    ·rw [el] at e
     cases hs:shortT a b with
     | cons r rs=>rw [hs] at e;cases e
     | nil =>
      rw [hs] at e
      cases e
      refine ⟨rt,ns,a,b,v0,v1,v2,_,v3,_,ok,by rw [hs],.inr ⟨hs,?_⟩⟩
      rw [take_pos (take_nd b a ok.a0.tal.nd) (take_nn ok.a0.tal.nd ok.b0.tal.nd (tal_nn ok.a0.tal) (short_none hs))]
    ·rw [el] at e
     cases hs:shortT a b with
     | nil=>rw [hs] at e;cases e
     | cons r1 rs =>
      rw [hs] at e
      cases e
      exact ⟨rt,ns,a,b,v0,v1,v2,_,v3,_,ok,by rw [hs],.inl ⟨r,rs,hs,rfl⟩⟩
  case cut16 =>
   rintro E ρ ⟨rt,ns,a,b,v0,v1,v2,v3,v4,k,ok,rfl,h⟩
   rcases h with ⟨r,rs,e,rfl⟩ | ⟨e,rfl⟩
   ·have hr:r.length≤6:=by
     have:r∈b.map (·.1):=by
      have h0:r∈shortT a b:=by rw [e];simp
      unfold shortT at h0
      obtain ⟨q,hq,rfl⟩:=List.mem_map.mp h0
      exact List.mem_map_of_mem (List.mem_filter.mp hq).1
     obtain ⟨q,hq,rfl⟩:=List.mem_map.mp this
     rw [ok.b0.tal.rows q hq];exact ok.l0
    simp_arith [fTuple,e,eqP_rnil,sa0,sa1,eqP_few]
    refine ⟨pl_map (fun r=>pl_row _ r) rs,by lia,?_⟩
    rw [show eqP (hnd a b) (P.lst [tlP a,tlP b])=true from eqP_ll a b]
    exact rt
   ·simp_arith [fTuple,e,eqP_rnil0]
    exact ⟨rt,ns,a,b,v0,v1,v2,v3,v4,_,ok,rfl,e⟩
  case cut17 =>
   rintro E ρ ⟨rt,ns,a,b,v0,v1,v2,v3,v4,v5,ok,rfl,hz⟩
   exact ⟨ns,a,b,v0,v1,v2,_,v3,v4,v5,_,ok,hz,rfl,fun w1 w2=>⟨rt,ns,a,b,v0,w1,w2,v3,v4,v5,ok,rfl,hz⟩⟩
  case cut18 =>
   rintro E ρ ⟨rt,ns,a,b,v0,v1,v2,v3,v4,v5,ok,rfl,hz⟩
   simp_arith [fSame,fSettledU]
   have h1:=ok.a0.few
   have h2:=ok.b0.few
   have h3:=take_len b a
   have h4:=settle_len (b.foldl takeT a)
   have ln:=ok.l0
   have hu:=take_uni ok.a0.tal.rows ok.b0.tal.rows
   refine ⟨b.foldl takeT a,rfl,by lia,⟨_,hu⟩,rfl,by lia,fun q hq=>?_,by lia,?_⟩
   ·rw [settle_uni hu q hq];lia
   ·rw [show eqP (hnd a b) (P.lst [tlP a,tlP b])=true from eqP_ll a b]
    exact rt
  case body1 =>
   rintro E ρ ⟨x0,x1,x2,x3,x4,x5,r,c,x8,x9,x10,cur,o,x12,x13,rfl,hl,ho,h⟩
   simp_arith [dGet_T,ho]
   refine ⟨o,rfl,by lia,?_⟩
   rw [put_T]
   have e:takeT cur (r,c)=putT cur r (o - c):=by unfold takeT;rw [ho];rfl
   rw [e] at h
   exact h
  case loop1 =>
   rintro E ρ ⟨ns,a,b,v0,v1,v2,v8,v9,v10,v12,v13,ok,hz,rfl,h⟩
   have h1:=ok.a0.few
   have h2:=ok.b0.few
   simp_arith [pRet]
   refine ⟨fun i ρ=>∃ v1 v2,ρ=lwR ns a (.fr (tlP b)) v0 v1 v2 v8 v9 v10 (.own (dcP ((b.take i).foldl takeT a))) v12 v13,⟨_,_,rfl⟩,fun i ρ' x hx hI=>?_,fun ρ' hI=>?_⟩
   ·obtain ⟨v1,v2,rfl⟩:=hI
    rw [List.getElem?_map] at hx
    obtain ⟨q,hq,rfl⟩:=Option.map_eq_some_iff.mp hx
    simp_arith [pRet]
    have hl2:=take_len (b.take i) a
    have hl3:(b.take i).length≤b.length:=by rw [List.length_take];lia
    obtain ⟨o,ho⟩:=rest_there ok hz hq
    refine ⟨_,_,_,_,_,_,q.1,q.2,_,_,_,_,o,_,_,rfl,by lia,ho,.sh (rowP q.1),.sh (.int q.2),?_⟩
    rw [List.take_add_one,hq,List.foldl_append]
    rfl
   ·obtain ⟨v1,v2,rfl⟩:=hI
    have:=h v1 v2
    rw [List.take_of_length_le (Nat.le_refl _)]
    exact this
end
theorem all_mk {l:PySem.W.OpenLaw} {w:World} {K:PySem.W.Frag} {h:Heap} {mg:Str→Option Value} {fa:Addr} (X:K.In h) (G:h.Ns mainGlobals mg) (hfa:mg "law"=some (.ref fa))
  {odf_summed anf_summed:Option Addr} {slf_summed:Array (Option Value)} {ocf_summed kVf_summed dcf_summed pmf_summed cdf_summed ctf_summed:Value} {af_summed:Addr}
  {odf_plus anf_plus:Option Addr} {slf_plus:Array (Option Value)} {ocf_plus kVf_plus dcf_plus pmf_plus cdf_plus ctf_plus:Value} {af_plus:Addr}
  {odf_less anf_less:Option Addr} {slf_less:Array (Option Value)} {ocf_less kVf_less dcf_less pmf_less cdf_less ctf_less:Value} {af_less:Addr}
  {odf_total anf_total:Option Addr} {slf_total:Array (Option Value)} {ocf_total kVf_total dcf_total pmf_total cdf_total ctf_total:Value} {af_total:Addr}
  {odf_law_bag anf_law_bag:Option Addr} {slf_law_bag:Array (Option Value)} {ocf_law_bag kVf_law_bag dcf_law_bag pmf_law_bag cdf_law_bag ctf_law_bag:Value} {af_law_bag:Addr}
  {odf_law_pull anf_law_pull:Option Addr} {slf_law_pull:Array (Option Value)} {ocf_law_pull kVf_law_pull dcf_law_pull pmf_law_pull cdf_law_pull ctf_law_pull:Value} {af_law_pull:Addr}
  {odf_law_word anf_law_word:Option Addr} {slf_law_word:Array (Option Value)} {ocf_law_word kVf_law_word dcf_law_word pmf_law_word cdf_law_word ctf_law_word:Value} {af_law_word:Addr}
  {odf_law_names anf_law_names:Option Addr} {slf_law_names:Array (Option Value)} {ocf_law_names kVf_law_names dcf_law_names pmf_law_names cdf_law_names ctf_law_names:Value} {af_law_names:Addr}
  {odf_law_answers anf_law_answers:Option Addr} {slf_law_answers:Array (Option Value)} {ocf_law_answers kVf_law_answers dcf_law_answers pmf_law_answers cdf_law_answers ctf_law_answers:Value} {af_law_answers:Addr}
  {odf_law_many anf_law_many:Option Addr} {slf_law_many:Array (Option Value)} {ocf_law_many kVf_law_many dcf_law_many pmf_law_many cdf_law_many ctf_law_many:Value} {af_law_many:Addr}
  {odf_law_settled anf_law_settled:Option Addr} {slf_law_settled:Array (Option Value)} {ocf_law_settled kVf_law_settled dcf_law_settled pmf_law_settled cdf_law_settled ctf_law_settled:Value} {af_law_settled:Addr}
  {odf_law_drawn anf_law_drawn:Option Addr} {slf_law_drawn:Array (Option Value)} {ocf_law_drawn kVf_law_drawn dcf_law_drawn pmf_law_drawn cdf_law_drawn ctf_law_drawn:Value} {af_law_drawn:Addr}
  {odf_law_whole anf_law_whole:Option Addr} {slf_law_whole:Array (Option Value)} {ocf_law_whole kVf_law_whole dcf_law_whole pmf_law_whole cdf_law_whole ctf_law_whole:Value} {af_law_whole:Addr}
  {odf_law_tuple anf_law_tuple:Option Addr} {slf_law_tuple:Array (Option Value)} {ocf_law_tuple kVf_law_tuple dcf_law_tuple pmf_law_tuple cdf_law_tuple ctf_law_tuple:Value} {af_law_tuple:Addr}
  {odf_law_same anf_law_same:Option Addr} {slf_law_same:Array (Option Value)} {ocf_law_same kVf_law_same dcf_law_same pmf_law_same cdf_law_same ctf_law_same:Value} {af_law_same:Addr}
  {odf_law_minus anf_law_minus:Option Addr} {slf_law_minus:Array (Option Value)} {ocf_law_minus kVf_law_minus dcf_law_minus pmf_law_minus cdf_law_minus ctf_law_minus:Value} {af_law_minus:Addr}
  {odf_law anf_law:Option Addr} {slf_law:Array (Option Value)} {ocf_law kVf_law dcf_law pmf_law cdf_law ctf_law:Value} {af_law:Addr}
  {c_TooFew f_TooFew:Addr} {odi_TooFew ani_TooFew:Option Addr} {sli_TooFew:Array (Option Value)} {oci_TooFew kVi_TooFew dci_TooFew pmi_TooFew cdi_TooFew cti_TooFew:Value}
  (h1f_summed:PySem.W.nsIn K mainGlobals "summed"=some (some (.ref af_summed))) (h2f_summed:K.lookup af_summed=some ⟨ocf_summed,odf_summed,.func (PySem.W.fnOf "summed" "summed" (defArgs sf_summed) (defBody sf_summed) (defScope sf_summed) .none kVf_summed dcf_summed pmf_summed anf_summed cdf_summed ctf_summed),slf_summed⟩) (h3f_summed:PySem.W.codeIn K cdf_summed "summed"=true) (h4f_summed:PySem.W.keepIn K (.ref af_summed)=true)
  (h1f_plus:PySem.W.nsIn K mainGlobals "plus"=some (some (.ref af_plus))) (h2f_plus:K.lookup af_plus=some ⟨ocf_plus,odf_plus,.func (PySem.W.fnOf "plus" "plus" (defArgs sf_plus) (defBody sf_plus) (defScope sf_plus) .none kVf_plus dcf_plus pmf_plus anf_plus cdf_plus ctf_plus),slf_plus⟩) (h3f_plus:PySem.W.codeIn K cdf_plus "plus"=true) (h4f_plus:PySem.W.keepIn K (.ref af_plus)=true)
  (h1f_less:PySem.W.nsIn K mainGlobals "less"=some (some (.ref af_less))) (h2f_less:K.lookup af_less=some ⟨ocf_less,odf_less,.func (PySem.W.fnOf "less" "less" (defArgs sf_less) (defBody sf_less) (defScope sf_less) .none kVf_less dcf_less pmf_less anf_less cdf_less ctf_less),slf_less⟩) (h3f_less:PySem.W.codeIn K cdf_less "less"=true) (h4f_less:PySem.W.keepIn K (.ref af_less)=true)
  (h1f_total:PySem.W.nsIn K mainGlobals "total"=some (some (.ref af_total))) (h2f_total:K.lookup af_total=some ⟨ocf_total,odf_total,.func (PySem.W.fnOf "total" "total" (defArgs sf_total) (defBody sf_total) (defScope sf_total) .none kVf_total dcf_total pmf_total anf_total cdf_total ctf_total),slf_total⟩) (h3f_total:PySem.W.codeIn K cdf_total "total"=true) (h4f_total:PySem.W.keepIn K (.ref af_total)=true)
  (h1f_law_bag:PySem.W.nsIn K mainGlobals "_law_bag"=some (some (.ref af_law_bag))) (h2f_law_bag:K.lookup af_law_bag=some ⟨ocf_law_bag,odf_law_bag,.func (PySem.W.fnOf "_law_bag" "_law_bag" (defArgs sf_law_bag) (defBody sf_law_bag) (defScope sf_law_bag) .none kVf_law_bag dcf_law_bag pmf_law_bag anf_law_bag cdf_law_bag ctf_law_bag),slf_law_bag⟩) (h3f_law_bag:PySem.W.codeIn K cdf_law_bag "_law_bag"=true) (h4f_law_bag:PySem.W.keepIn K (.ref af_law_bag)=true)
  (h1f_law_pull:PySem.W.nsIn K mainGlobals "_law_pull"=some (some (.ref af_law_pull))) (h2f_law_pull:K.lookup af_law_pull=some ⟨ocf_law_pull,odf_law_pull,.func (PySem.W.fnOf "_law_pull" "_law_pull" (defArgs sf_law_pull) (defBody sf_law_pull) (defScope sf_law_pull) .none kVf_law_pull dcf_law_pull pmf_law_pull anf_law_pull cdf_law_pull ctf_law_pull),slf_law_pull⟩) (h3f_law_pull:PySem.W.codeIn K cdf_law_pull "_law_pull"=true) (h4f_law_pull:PySem.W.keepIn K (.ref af_law_pull)=true)
  (h1f_law_word:PySem.W.nsIn K mainGlobals "_law_word"=some (some (.ref af_law_word))) (h2f_law_word:K.lookup af_law_word=some ⟨ocf_law_word,odf_law_word,.func (PySem.W.fnOf "_law_word" "_law_word" (defArgs sf_law_word) (defBody sf_law_word) (defScope sf_law_word) .none kVf_law_word dcf_law_word pmf_law_word anf_law_word cdf_law_word ctf_law_word),slf_law_word⟩) (h3f_law_word:PySem.W.codeIn K cdf_law_word "_law_word"=true) (h4f_law_word:PySem.W.keepIn K (.ref af_law_word)=true)
  (h1f_law_names:PySem.W.nsIn K mainGlobals "_law_names"=some (some (.ref af_law_names))) (h2f_law_names:K.lookup af_law_names=some ⟨ocf_law_names,odf_law_names,.func (PySem.W.fnOf "_law_names" "_law_names" (defArgs sf_law_names) (defBody sf_law_names) (defScope sf_law_names) .none kVf_law_names dcf_law_names pmf_law_names anf_law_names cdf_law_names ctf_law_names),slf_law_names⟩) (h3f_law_names:PySem.W.codeIn K cdf_law_names "_law_names"=true) (h4f_law_names:PySem.W.keepIn K (.ref af_law_names)=true)
  (h1f_law_answers:PySem.W.nsIn K mainGlobals "_law_answers"=some (some (.ref af_law_answers))) (h2f_law_answers:K.lookup af_law_answers=some ⟨ocf_law_answers,odf_law_answers,.func (PySem.W.fnOf "_law_answers" "_law_answers" (defArgs sf_law_answers) (defBody sf_law_answers) (defScope sf_law_answers) .none kVf_law_answers dcf_law_answers pmf_law_answers anf_law_answers cdf_law_answers ctf_law_answers),slf_law_answers⟩) (h3f_law_answers:PySem.W.codeIn K cdf_law_answers "_law_answers"=true) (h4f_law_answers:PySem.W.keepIn K (.ref af_law_answers)=true)
  (h1f_law_many:PySem.W.nsIn K mainGlobals "_law_many"=some (some (.ref af_law_many))) (h2f_law_many:K.lookup af_law_many=some ⟨ocf_law_many,odf_law_many,.func (PySem.W.fnOf "_law_many" "_law_many" (defArgs sf_law_many) (defBody sf_law_many) (defScope sf_law_many) .none kVf_law_many dcf_law_many pmf_law_many anf_law_many cdf_law_many ctf_law_many),slf_law_many⟩) (h3f_law_many:PySem.W.codeIn K cdf_law_many "_law_many"=true) (h4f_law_many:PySem.W.keepIn K (.ref af_law_many)=true)
  (h1f_law_settled:PySem.W.nsIn K mainGlobals "_law_settled"=some (some (.ref af_law_settled))) (h2f_law_settled:K.lookup af_law_settled=some ⟨ocf_law_settled,odf_law_settled,.func (PySem.W.fnOf "_law_settled" "_law_settled" (defArgs sf_law_settled) (defBody sf_law_settled) (defScope sf_law_settled) .none kVf_law_settled dcf_law_settled pmf_law_settled anf_law_settled cdf_law_settled ctf_law_settled),slf_law_settled⟩) (h3f_law_settled:PySem.W.codeIn K cdf_law_settled "_law_settled"=true) (h4f_law_settled:PySem.W.keepIn K (.ref af_law_settled)=true)
  (h1f_law_drawn:PySem.W.nsIn K mainGlobals "_law_drawn"=some (some (.ref af_law_drawn))) (h2f_law_drawn:K.lookup af_law_drawn=some ⟨ocf_law_drawn,odf_law_drawn,.func (PySem.W.fnOf "_law_drawn" "_law_drawn" (defArgs sf_law_drawn) (defBody sf_law_drawn) (defScope sf_law_drawn) .none kVf_law_drawn dcf_law_drawn pmf_law_drawn anf_law_drawn cdf_law_drawn ctf_law_drawn),slf_law_drawn⟩) (h3f_law_drawn:PySem.W.codeIn K cdf_law_drawn "_law_drawn"=true) (h4f_law_drawn:PySem.W.keepIn K (.ref af_law_drawn)=true)
  (h1f_law_whole:PySem.W.nsIn K mainGlobals "_law_whole"=some (some (.ref af_law_whole))) (h2f_law_whole:K.lookup af_law_whole=some ⟨ocf_law_whole,odf_law_whole,.func (PySem.W.fnOf "_law_whole" "_law_whole" (defArgs sf_law_whole) (defBody sf_law_whole) (defScope sf_law_whole) .none kVf_law_whole dcf_law_whole pmf_law_whole anf_law_whole cdf_law_whole ctf_law_whole),slf_law_whole⟩) (h3f_law_whole:PySem.W.codeIn K cdf_law_whole "_law_whole"=true) (h4f_law_whole:PySem.W.keepIn K (.ref af_law_whole)=true)
  (h1f_law_tuple:PySem.W.nsIn K mainGlobals "_law_tuple"=some (some (.ref af_law_tuple))) (h2f_law_tuple:K.lookup af_law_tuple=some ⟨ocf_law_tuple,odf_law_tuple,.func (PySem.W.fnOf "_law_tuple" "_law_tuple" (defArgs sf_law_tuple) (defBody sf_law_tuple) (defScope sf_law_tuple) .none kVf_law_tuple dcf_law_tuple pmf_law_tuple anf_law_tuple cdf_law_tuple ctf_law_tuple),slf_law_tuple⟩) (h3f_law_tuple:PySem.W.codeIn K cdf_law_tuple "_law_tuple"=true) (h4f_law_tuple:PySem.W.keepIn K (.ref af_law_tuple)=true)
  (h1f_law_same:PySem.W.nsIn K mainGlobals "_law_same"=some (some (.ref af_law_same))) (h2f_law_same:K.lookup af_law_same=some ⟨ocf_law_same,odf_law_same,.func (PySem.W.fnOf "_law_same" "_law_same" (defArgs sf_law_same) (defBody sf_law_same) (defScope sf_law_same) .none kVf_law_same dcf_law_same pmf_law_same anf_law_same cdf_law_same ctf_law_same),slf_law_same⟩) (h3f_law_same:PySem.W.codeIn K cdf_law_same "_law_same"=true) (h4f_law_same:PySem.W.keepIn K (.ref af_law_same)=true)
  (h1f_law_minus:PySem.W.nsIn K mainGlobals "_law_minus"=some (some (.ref af_law_minus))) (h2f_law_minus:K.lookup af_law_minus=some ⟨ocf_law_minus,odf_law_minus,.func (PySem.W.fnOf "_law_minus" "_law_minus" (defArgs sf_law_minus) (defBody sf_law_minus) (defScope sf_law_minus) .none kVf_law_minus dcf_law_minus pmf_law_minus anf_law_minus cdf_law_minus ctf_law_minus),slf_law_minus⟩) (h3f_law_minus:PySem.W.codeIn K cdf_law_minus "_law_minus"=true) (h4f_law_minus:PySem.W.keepIn K (.ref af_law_minus)=true)
  (h1f_law:PySem.W.nsIn K mainGlobals "law"=some (some (.ref af_law))) (h2f_law:K.lookup af_law=some ⟨ocf_law,odf_law,.func (PySem.W.fnOf "law" "law" (defArgs sf_law) (defBody sf_law) (defScope sf_law) .none kVf_law dcf_law pmf_law anf_law cdf_law ctf_law),slf_law⟩) (h3f_law:PySem.W.codeIn K cdf_law "law"=true) (h4f_law:PySem.W.keepIn K (.ref af_law)=true)
  (hb_len:PySem.W.nsIn K mainGlobals "len"=some none)
  (hb_list:PySem.W.nsIn K mainGlobals "list"=some none)
  (hb_range:PySem.W.nsIn K mainGlobals "range"=some none)
  (hb_isinstance:PySem.W.nsIn K mainGlobals "isinstance"=some none)
  (hb_bool:PySem.W.nsIn K mainGlobals "bool"=some none)
  (hb_int:PySem.W.nsIn K mainGlobals "int"=some none)
  (hb_tuple:PySem.W.nsIn K mainGlobals "tuple"=some none)
  (hb_all:PySem.W.nsIn K mainGlobals "all"=some none)
  (hb_any:PySem.W.nsIn K mainGlobals "any"=some none)
  (hb_sorted:PySem.W.nsIn K mainGlobals "sorted"=some none)
  (hb_set:PySem.W.nsIn K mainGlobals "set"=some none)
  (hb_sum:PySem.W.nsIn K mainGlobals "sum"=some none)
  (hb_dict:PySem.W.nsIn K mainGlobals "dict"=some none)
  (hb_zip:PySem.W.nsIn K mainGlobals "zip"=some none)
  (hb_min:PySem.W.nsIn K mainGlobals "min"=some none)
  (hb_max:PySem.W.nsIn K mainGlobals "max"=some none)
  (hx_TooFew:PySem.W.nsIn K mainGlobals "TooFew"=some (some (.ref c_TooFew))) (hi_TooFew:PySem.W.findIn K (.ref c_TooFew) "__init__"=some (some (.ref f_TooFew)))
  (hl_TooFew:K.lookup f_TooFew=some ⟨oci_TooFew,odi_TooFew,.func (PySem.W.fnOf "__init__" "TooFew.__init__" (defArgs si_TooFew) (defBody si_TooFew) (defScope si_TooFew) .none kVi_TooFew dci_TooFew pmi_TooFew ani_TooFew cdi_TooFew cti_TooFew),sli_TooFew⟩) (hc_TooFew:PySem.W.codeIn K cdi_TooFew "TooFew.__init__"=true)
  (he_TooFew:excInI K c_TooFew "ValueError.__new__" f_TooFew=true) (he1_TooFew:PySem.W.isFn K (.ref f_TooFew)=true) (he2_TooFew:(PySem.W.clsIn K c_TooFew).any (fun cd=>overV cd.mro)=true) (he3_TooFew:PySem.W.hasDictIn K c_TooFew=true) (hs_TooFew:PySem.W.findIn K (.ref c_TooFew) "__setattr__"=some (some (.builtin "object.__setattr__"))) (hs3_TooFew:PySem.W.findIn K (.ref c_TooFew) "__getattribute__"=some (some (.builtin "BaseException.__getattribute__"))) (hs4_TooFew:PySem.W.findIn K (.ref c_TooFew) "__getattr__"=some none) (hs2_TooFew:PySem.W.findIn K (.ref c_TooFew) "row"=some none) :
  ∃ fd:FuncData,(∀ (s:Shared) (v:Value),BindsTo s fd ⟨[v],[]⟩ [("_law_script",v)])∧∀ base:Heap,K.In base→base.Ns mainGlobals mg→FnOk l.prog w K mg base CX0 5 fa fd ["_law_script"] (spLaw K):=by
 have Df_summed:DefAt K mg "summed" sf_summed:=⟨_,_,fun_mk (st:=sf_summed) h2f_summed h3f_summed h4f_summed,PySem.W.mg_of X G h1f_summed⟩
 have Df_plus:DefAt K mg "plus" sf_plus:=⟨_,_,fun_mk (st:=sf_plus) h2f_plus h3f_plus h4f_plus,PySem.W.mg_of X G h1f_plus⟩
 have Df_less:DefAt K mg "less" sf_less:=⟨_,_,fun_mk (st:=sf_less) h2f_less h3f_less h4f_less,PySem.W.mg_of X G h1f_less⟩
 have Df_total:DefAt K mg "total" sf_total:=⟨_,_,fun_mk (st:=sf_total) h2f_total h3f_total h4f_total,PySem.W.mg_of X G h1f_total⟩
 have Df_law_bag:DefAt K mg "_law_bag" sf_law_bag:=⟨_,_,fun_mk (st:=sf_law_bag) h2f_law_bag h3f_law_bag h4f_law_bag,PySem.W.mg_of X G h1f_law_bag⟩
 have Df_law_pull:DefAt K mg "_law_pull" sf_law_pull:=⟨_,_,fun_mk (st:=sf_law_pull) h2f_law_pull h3f_law_pull h4f_law_pull,PySem.W.mg_of X G h1f_law_pull⟩
 have Df_law_word:DefAt K mg "_law_word" sf_law_word:=⟨_,_,fun_mk (st:=sf_law_word) h2f_law_word h3f_law_word h4f_law_word,PySem.W.mg_of X G h1f_law_word⟩
 have Df_law_names:DefAt K mg "_law_names" sf_law_names:=⟨_,_,fun_mk (st:=sf_law_names) h2f_law_names h3f_law_names h4f_law_names,PySem.W.mg_of X G h1f_law_names⟩
 have Df_law_answers:DefAt K mg "_law_answers" sf_law_answers:=⟨_,_,fun_mk (st:=sf_law_answers) h2f_law_answers h3f_law_answers h4f_law_answers,PySem.W.mg_of X G h1f_law_answers⟩
 have Df_law_many:DefAt K mg "_law_many" sf_law_many:=⟨_,_,fun_mk (st:=sf_law_many) h2f_law_many h3f_law_many h4f_law_many,PySem.W.mg_of X G h1f_law_many⟩
 have Df_law_settled:DefAt K mg "_law_settled" sf_law_settled:=⟨_,_,fun_mk (st:=sf_law_settled) h2f_law_settled h3f_law_settled h4f_law_settled,PySem.W.mg_of X G h1f_law_settled⟩
 have Df_law_drawn:DefAt K mg "_law_drawn" sf_law_drawn:=⟨_,_,fun_mk (st:=sf_law_drawn) h2f_law_drawn h3f_law_drawn h4f_law_drawn,PySem.W.mg_of X G h1f_law_drawn⟩
 have Df_law_whole:DefAt K mg "_law_whole" sf_law_whole:=⟨_,_,fun_mk (st:=sf_law_whole) h2f_law_whole h3f_law_whole h4f_law_whole,PySem.W.mg_of X G h1f_law_whole⟩
 have Df_law_tuple:DefAt K mg "_law_tuple" sf_law_tuple:=⟨_,_,fun_mk (st:=sf_law_tuple) h2f_law_tuple h3f_law_tuple h4f_law_tuple,PySem.W.mg_of X G h1f_law_tuple⟩
 have Df_law_same:DefAt K mg "_law_same" sf_law_same:=⟨_,_,fun_mk (st:=sf_law_same) h2f_law_same h3f_law_same h4f_law_same,PySem.W.mg_of X G h1f_law_same⟩
 have Df_law_minus:DefAt K mg "_law_minus" sf_law_minus:=⟨_,_,fun_mk (st:=sf_law_minus) h2f_law_minus h3f_law_minus h4f_law_minus,PySem.W.mg_of X G h1f_law_minus⟩
 have Df_law:DefAt K mg "law" sf_law:=⟨_,_,fun_mk (st:=sf_law) h2f_law h3f_law h4f_law,PySem.W.mg_of X G h1f_law⟩
 have B_len:mg "len"=none:=PySem.W.mg_none_of X G hb_len
 have B_list:mg "list"=none:=PySem.W.mg_none_of X G hb_list
 have B_range:mg "range"=none:=PySem.W.mg_none_of X G hb_range
 have B_isinstance:mg "isinstance"=none:=PySem.W.mg_none_of X G hb_isinstance
 have B_bool:mg "bool"=none:=PySem.W.mg_none_of X G hb_bool
 have B_int:mg "int"=none:=PySem.W.mg_none_of X G hb_int
 have B_tuple:mg "tuple"=none:=PySem.W.mg_none_of X G hb_tuple
 have B_all:mg "all"=none:=PySem.W.mg_none_of X G hb_all
 have B_any:mg "any"=none:=PySem.W.mg_none_of X G hb_any
 have B_sorted:mg "sorted"=none:=PySem.W.mg_none_of X G hb_sorted
 have B_set:mg "set"=none:=PySem.W.mg_none_of X G hb_set
 have B_sum:mg "sum"=none:=PySem.W.mg_none_of X G hb_sum
 have B_dict:mg "dict"=none:=PySem.W.mg_none_of X G hb_dict
 have B_zip:mg "zip"=none:=PySem.W.mg_none_of X G hb_zip
 have B_min:mg "min"=none:=PySem.W.mg_none_of X G hb_min
 have B_max:mg "max"=none:=PySem.W.mg_none_of X G hb_max
 have X_TooFew:∃ C,XClsV K mg "TooFew" "row" C:=⟨c_TooFew,PySem.W.mg_of X G hx_TooFew,⟨he2_TooFew,he3_TooFew,hs_TooFew,hs3_TooFew,hs4_TooFew,hs2_TooFew⟩,f_TooFew,_,"row",he_TooFew,he1_TooFew,.all (fun us hl=>of_len2 hl (fun _ _=>rfl)),fun P w base CX=>fn_init hl_TooFew hc_TooFew sci_TooFew rfl (by decide) (by decide)⟩
 have e:=hfa.symm.trans (PySem.W.mg_of X G h1f_law)
 cases e
 have T:TxtB mg:={ b_len:=B_len,b_list:=B_list,b_range:=B_range,b_isinstance:=B_isinstance,b_bool:=B_bool,b_int:=B_int,b_tuple:=B_tuple,b_all:=B_all,b_any:=B_any,b_sorted:=B_sorted,b_set:=B_set,b_sum:=B_sum,b_dict:=B_dict,b_zip:=B_zip,b_min:=B_min,b_max:=B_max }
 have TF:TxtF K mg:={ T with x_TooFew:=X_TooFew }
 refine ⟨PySem.W.fnOf "law" "law" (defArgs sf_law) (defBody sf_law) (defScope sf_law) .none kVf_law dcf_law pmf_law anf_law cdf_law ctf_law,fun s v=>.of_eq rfl,fun base _ _=>?_⟩
 have Gpull:=ok_pull (P:=l.prog) (w:=w) (base:=base) Df_law_pull T
 have GpullP:=pull_P Gpull
 have Gset:=ok_settled (P':=l.prog) (w:=w) (base:=base) Df_law_settled T
 have Gdrawn:=ok_drawn Df_law_drawn T GpullP (ok_answers Df_law_answers T GpullP) (ok_many Df_law_many T GpullP) Gset
 have Gwh:=ok_whole (P':=l.prog) (w:=w) (base:=base) Df_law_whole T
 have Gtup:=ok_tuple Df_law_tuple T Gwh
 have Gsum:=ok_summed (P':=l.prog) (w:=w) (base:=base) Df_summed T
 exact ok_law (fun_mk (st:=sf_law) h2f_law h3f_law h4f_law) T (ok_bag Df_law_bag T) GpullP (names_P (ok_names Df_law_names T Gpull (ok_word Df_law_word T Gpull))) Gdrawn Gset (ok_same Df_law_same T Gtup Gwh) Gtup Gwh (ok_total Df_total T) (ok_plus Df_plus T Gsum) (ok_less Df_less T Gsum) (ok_minus Df_law_minus TF (ok_lessX Df_less TF Gsum))
theorem walk {l:PySem.W.OpenLaw} {q:Program} {loose:List Str} {XP:(Str→Option Value)→Heap→Prop} {YP:World→Heap→Prop} {d:DefRec} {K:Params→PySem.W.Frag} (hn:l.most=some 63) (hdf:d.params.defaults=[])
  (hY:∀ (w:World) (h:Heap),YP w h→(K w.params).In h)
  (F:∀ (w:World) (mg:Str→Option Value) (fa:Addr) (h:Heap),(K w.params).In h→h.Ns mainGlobals mg→mg d.name=some (.ref fa) →
   ∃ fd:FuncData,(∀ (s:Shared) (u:Value),BindsTo s fd ⟨[u],[]⟩ [("_law_script",u)])∧∀ base:Heap,(K w.params).In base→base.Ns mainGlobals mg→FnOk l.prog w (K w.params) mg base CX0 5 fa fd ["_law_script"] (spLaw (K w.params))) :
  PySem.W.WalkO q loose XP YP l.row.toRowW d [] (fun f vs=>PySem.call f vs) :=
 L2.walk_of (n:=63) (k:=5) (x:="_law_script") (CX:=fun _=>CX0) (sp:=fun w=>spLaw (K w.params)) hn (by decide) hdf ⟨rfl,by decide,by decide⟩ hY F (fun _ _ a ns hl _ hS=>⟨a,ns,rfl,hS,fun _=>rfl⟩) fun _ _ _ _ _ z=>z
end K
theorem PySem.W.Fast.tw10083886652890440688:True:=trivial
theorem PySem.W.Fast.tw10187738458225023239:True:=trivial
theorem PySem.W.Fast.tw10352066395308985274:True:=trivial
theorem PySem.W.Fast.tw10441881453519198428:True:=trivial
theorem PySem.W.Fast.tw10589611411905133189:True:=trivial
theorem PySem.W.Fast.tw10731785892815949240:True:=trivial
theorem PySem.W.Fast.tw1078791250290164815:True:=trivial
theorem PySem.W.Fast.tw1085598428044367961:True:=trivial
theorem PySem.W.Fast.tw10887897004911940476:True:=trivial
theorem PySem.W.Fast.tw11124280950580338401:True:=trivial
theorem PySem.W.Fast.tw11181889344086567906:True:=trivial
theorem PySem.W.Fast.tw11502348149359448128:True:=trivial
theorem PySem.W.Fast.tw11664650446393887198:True:=trivial
theorem PySem.W.Fast.tw11742163980950779331:True:=trivial
theorem PySem.W.Fast.tw11754518618337579052:True:=trivial
theorem PySem.W.Fast.tw11837342258429028694:True:=trivial
theorem PySem.W.Fast.tw11905575945504442048:True:=trivial
theorem PySem.W.Fast.tw12044353454924568655:True:=trivial
theorem PySem.W.Fast.tw12131984999592042283:True:=trivial
theorem PySem.W.Fast.tw12141900085293647504:True:=trivial
theorem PySem.W.Fast.tw12587676132025004689:True:=trivial
theorem PySem.W.Fast.tw12731151839020099530:True:=trivial
theorem PySem.W.Fast.tw12749218013486957721:True:=trivial
theorem PySem.W.Fast.tw12764736253311525997:True:=trivial
theorem PySem.W.Fast.tw12769151296392164701:True:=trivial
theorem PySem.W.Fast.tw1336364645025645181:True:=trivial
theorem PySem.W.Fast.tw13433060242816912116:True:=trivial
theorem PySem.W.Fast.tw13463604835935464692:True:=trivial
theorem PySem.W.Fast.tw1366733421516128683:True:=trivial
theorem PySem.W.Fast.tw14119620517479940306:True:=trivial
theorem PySem.W.Fast.tw14262693243118162757:True:=trivial
theorem PySem.W.Fast.tw14480813630687543219:True:=trivial
theorem PySem.W.Fast.tw14721182700005490118:True:=trivial
theorem PySem.W.Fast.tw14906550836403397965:True:=trivial
theorem PySem.W.Fast.tw14949656628597385364:True:=trivial
theorem PySem.W.Fast.tw15037293833259480227:True:=trivial
theorem PySem.W.Fast.tw15183684370061807690:True:=trivial
theorem PySem.W.Fast.tw1519651447355128434:True:=trivial
theorem PySem.W.Fast.tw15209768984990731073:True:=trivial
theorem PySem.W.Fast.tw15443350642300903421:True:=trivial
theorem PySem.W.Fast.tw15647129633277190635:True:=trivial
theorem PySem.W.Fast.tw15673064007069705886:True:=trivial
theorem PySem.W.Fast.tw15720333950733413629:True:=trivial
theorem PySem.W.Fast.tw15876542662539402863:True:=trivial
theorem PySem.W.Fast.tw1589965110707872314:True:=trivial
theorem PySem.W.Fast.tw16006555533581890595:True:=trivial
theorem PySem.W.Fast.tw1604758377101597463:True:=trivial
theorem PySem.W.Fast.tw16144570826762315493:True:=trivial
theorem PySem.W.Fast.tw16449842015812359561:True:=trivial
theorem PySem.W.Fast.tw16486755788900932732:True:=trivial
theorem PySem.W.Fast.tw16494850470785216006:True:=trivial
theorem PySem.W.Fast.tw1665392703168913782:True:=trivial
theorem PySem.W.Fast.tw16674514630128007850:True:=trivial
theorem PySem.W.Fast.tw1674610163485618907:True:=trivial
theorem PySem.W.Fast.tw16779558255781480597:True:=trivial
theorem PySem.W.Fast.tw17143439656292321215:True:=trivial
theorem PySem.W.Fast.tw17389126230185819916:True:=trivial
theorem PySem.W.Fast.tw17464120357162322485:True:=trivial
theorem PySem.W.Fast.tw17524302171568267040:True:=trivial
theorem PySem.W.Fast.tw17690829470467040113:True:=trivial
theorem PySem.W.Fast.tw17783040807280163124:True:=trivial
theorem PySem.W.Fast.tw17899839124924889015:True:=trivial
theorem PySem.W.Fast.tw17903011006837282972:True:=trivial
theorem PySem.W.Fast.tw1814477373482797316:True:=trivial
theorem PySem.W.Fast.tw1846335086332353518:True:=trivial
theorem PySem.W.Fast.tw1870147471205667855:True:=trivial
theorem PySem.W.Fast.tw1999380739776643592:True:=trivial
theorem PySem.W.Fast.tw1999442526118914107:True:=trivial
theorem PySem.W.Fast.tw2166488471751760245:True:=trivial
theorem PySem.W.Fast.tw2204229085381800644:True:=trivial
theorem PySem.W.Fast.tw2208911381173978698:True:=trivial
theorem PySem.W.Fast.tw2374699178233604335:True:=trivial
theorem PySem.W.Fast.tw2559711005563660227:True:=trivial
theorem PySem.W.Fast.tw2826924694752632065:True:=trivial
theorem PySem.W.Fast.tw2845870169092683764:True:=trivial
theorem PySem.W.Fast.tw3502407745006328888:True:=trivial
theorem PySem.W.Fast.tw3704061515427097656:True:=trivial
theorem PySem.W.Fast.tw3705797896704949054:True:=trivial
theorem PySem.W.Fast.tw3821867421931469796:True:=trivial
theorem PySem.W.Fast.tw382462249461935994:True:=trivial
theorem PySem.W.Fast.tw3931376554734578232:True:=trivial
theorem PySem.W.Fast.tw3934100250821435117:True:=trivial
theorem PySem.W.Fast.tw4358590949251691920:True:=trivial
theorem PySem.W.Fast.tw446775385685747988:True:=trivial
theorem PySem.W.Fast.tw4769629189167813728:True:=trivial
theorem PySem.W.Fast.tw5035038934651778421:True:=trivial
theorem PySem.W.Fast.tw5056064327309430337:True:=trivial
theorem PySem.W.Fast.tw5223598354091545072:True:=trivial
theorem PySem.W.Fast.tw5299641985523789412:True:=trivial
theorem PySem.W.Fast.tw5413006190300600002:True:=trivial
theorem PySem.W.Fast.tw548885868097493184:True:=trivial
theorem PySem.W.Fast.tw5547273917725145992:True:=trivial
theorem PySem.W.Fast.tw5628896294812152973:True:=trivial
theorem PySem.W.Fast.tw5708253377311734264:True:=trivial
theorem PySem.W.Fast.tw5713904669107441387:True:=trivial
theorem PySem.W.Fast.tw5789995737746688957:True:=trivial
theorem PySem.W.Fast.tw587456072669710704:True:=trivial
theorem PySem.W.Fast.tw5906871056426390067:True:=trivial
theorem PySem.W.Fast.tw5928345576212112683:True:=trivial
theorem PySem.W.Fast.tw5960089831945164907:True:=trivial
theorem PySem.W.Fast.tw6035149758931626824:True:=trivial
theorem PySem.W.Fast.tw6135276559282690427:True:=trivial
theorem PySem.W.Fast.tw6148267590163909640:True:=trivial
theorem PySem.W.Fast.tw6211936818396934110:True:=trivial
theorem PySem.W.Fast.tw6216435741368860027:True:=trivial
theorem PySem.W.Fast.tw6331961526782590022:True:=trivial
theorem PySem.W.Fast.tw637581360063524945:True:=trivial
theorem PySem.W.Fast.tw6449591299806700465:True:=trivial
theorem PySem.W.Fast.tw6542709398469984575:True:=trivial
theorem PySem.W.Fast.tw7009803764438721097:True:=trivial
theorem PySem.W.Fast.tw7025417497634495029:True:=trivial
theorem PySem.W.Fast.tw7126288577662980295:True:=trivial
theorem PySem.W.Fast.tw7298799665804391153:True:=trivial
theorem PySem.W.Fast.tw734945766225098913:True:=trivial
theorem PySem.W.Fast.tw7359028506427268925:True:=trivial
theorem PySem.W.Fast.tw7393055210535692894:True:=trivial
theorem PySem.W.Fast.tw7416038852358725310:True:=trivial
theorem PySem.W.Fast.tw7867029691918515142:True:=trivial
theorem PySem.W.Fast.tw8186204227191673033:True:=trivial
theorem PySem.W.Fast.tw8232042843860903653:True:=trivial
theorem PySem.W.Fast.tw8533545770993093989:True:=trivial
theorem PySem.W.Fast.tw8574924735312914246:True:=trivial
theorem PySem.W.Fast.tw8629463915883137367:True:=trivial
theorem PySem.W.Fast.tw8640923450079497630:True:=trivial
theorem PySem.W.Fast.tw8708543239068380075:True:=trivial
theorem PySem.W.Fast.tw8768419062304735108:True:=trivial
theorem PySem.W.Fast.tw8836110513118654600:True:=trivial
theorem PySem.W.Fast.tw8849088670882503082:True:=trivial
theorem PySem.W.Fast.tw8885692795125247317:True:=trivial
theorem PySem.W.Fast.tw9017638519066827370:True:=trivial
theorem PySem.W.Fast.tw9026137192942388690:True:=trivial
theorem PySem.W.Fast.tw9081839746054846070:True:=trivial
theorem PySem.W.Fast.tw9237432811623895195:True:=trivial
theorem PySem.W.Fast.tw9252985074394935968:True:=trivial
theorem PySem.W.Fast.tw9386428991808199357:True:=trivial
theorem PySem.W.Fast.tw9438028575112345349:True:=trivial
theorem PySem.W.Fast.tw947629686534793980:True:=trivial
theorem PySem.W.Fast.tw9690147654520445310:True:=trivial
open PySem PySem.W PyProof.Rows
set_option maxRecDepth 100000 in
set_option maxHeartbeats 0 in
theorem PySem.Challenge.cw_roomtally_k08_tallies_added_and_taken_holds : PySem.Challenge.rw_roomtally_k08_tallies_added_and_taken.Holds := by
  w_on; o_law; k_head; (case hw => w_witness2)
  k_fill
  refine K.walk (l := PySem.Challenge.rw_roomtally_k08_tallies_added_and_taken) rfl rfl (fun w h Y => PySem.W.kIn_of Y) ?F
  case F =>
    intro w mg fa h KX G hmg
    refine' K.all_mk KX G hmg ?h1f_summed ?h2f_summed ?h3f_summed ?h4f_summed ?h1f_plus ?h2f_plus ?h3f_plus ?h4f_plus ?h1f_less ?h2f_less ?h3f_less ?h4f_less ?h1f_total ?h2f_total ?h3f_total ?h4f_total ?h1f_law_bag ?h2f_law_bag ?h3f_law_bag ?h4f_law_bag ?h1f_law_pull ?h2f_law_pull ?h3f_law_pull ?h4f_law_pull ?h1f_law_word ?h2f_law_word ?h3f_law_word ?h4f_law_word ?h1f_law_names ?h2f_law_names ?h3f_law_names ?h4f_law_names ?h1f_law_answers ?h2f_law_answers ?h3f_law_answers ?h4f_law_answers ?h1f_law_many ?h2f_law_many ?h3f_law_many ?h4f_law_many ?h1f_law_settled ?h2f_law_settled ?h3f_law_settled ?h4f_law_settled ?h1f_law_drawn ?h2f_law_drawn ?h3f_law_drawn ?h4f_law_drawn ?h1f_law_whole ?h2f_law_whole ?h3f_law_whole ?h4f_law_whole ?h1f_law_tuple ?h2f_law_tuple ?h3f_law_tuple ?h4f_law_tuple ?h1f_law_same ?h2f_law_same ?h3f_law_same ?h4f_law_same ?h1f_law_minus ?h2f_law_minus ?h3f_law_minus ?h4f_law_minus ?h1f_law ?h2f_law ?h3f_law ?h4f_law ?hb_len ?hb_list ?hb_range ?hb_isinstance ?hb_bool ?hb_int ?hb_tuple ?hb_all ?hb_any ?hb_sorted ?hb_set ?hb_sum ?hb_dict ?hb_zip ?hb_min ?hb_max ?hx_TooFew ?hi_TooFew ?hl_TooFew ?hc_TooFew ?he_TooFew ?he1_TooFew ?he2_TooFew ?he3_TooFew ?hs_TooFew ?hs3_TooFew ?hs4_TooFew ?hs2_TooFew
    (case h1f_summed => k_is)
    (case h2f_summed => k_is)
    (case h3f_summed => k_is)
    (case h4f_summed => k_is)
    (case h1f_plus => k_is)
    (case h2f_plus => k_is)
    (case h3f_plus => k_is)
    (case h4f_plus => k_is)
    (case h1f_less => k_is)
    (case h2f_less => k_is)
    (case h3f_less => k_is)
    (case h4f_less => k_is)
    (case h1f_total => k_is)
    (case h2f_total => k_is)
    (case h3f_total => k_is)
    (case h4f_total => k_is)
    (case h1f_law_bag => k_is)
    (case h2f_law_bag => k_is)
    (case h3f_law_bag => k_is)
    (case h4f_law_bag => k_is)
    (case h1f_law_pull => k_is)
    (case h2f_law_pull => k_is)
    (case h3f_law_pull => k_is)
    (case h4f_law_pull => k_is)
    (case h1f_law_word => k_is)
    (case h2f_law_word => k_is)
    (case h3f_law_word => k_is)
    (case h4f_law_word => k_is)
    (case h1f_law_names => k_is)
    (case h2f_law_names => k_is)
    (case h3f_law_names => k_is)
    (case h4f_law_names => k_is)
    (case h1f_law_answers => k_is)
    (case h2f_law_answers => k_is)
    (case h3f_law_answers => k_is)
    (case h4f_law_answers => k_is)
    (case h1f_law_many => k_is)
    (case h2f_law_many => k_is)
    (case h3f_law_many => k_is)
    (case h4f_law_many => k_is)
    (case h1f_law_settled => k_is)
    (case h2f_law_settled => k_is)
    (case h3f_law_settled => k_is)
    (case h4f_law_settled => k_is)
    (case h1f_law_drawn => k_is)
    (case h2f_law_drawn => k_is)
    (case h3f_law_drawn => k_is)
    (case h4f_law_drawn => k_is)
    (case h1f_law_whole => k_is)
    (case h2f_law_whole => k_is)
    (case h3f_law_whole => k_is)
    (case h4f_law_whole => k_is)
    (case h1f_law_tuple => k_is)
    (case h2f_law_tuple => k_is)
    (case h3f_law_tuple => k_is)
    (case h4f_law_tuple => k_is)
    (case h1f_law_same => k_is)
    (case h2f_law_same => k_is)
    (case h3f_law_same => k_is)
    (case h4f_law_same => k_is)
    (case h1f_law_minus => k_is)
    (case h2f_law_minus => k_is)
    (case h3f_law_minus => k_is)
    (case h4f_law_minus => k_is)
    (case h1f_law => k_is)
    (case h2f_law => k_is)
    (case h3f_law => k_is)
    (case h4f_law => k_is)
    (case hb_len => k_is)
    (case hb_list => k_is)
    (case hb_range => k_is)
    (case hb_isinstance => k_is)
    (case hb_bool => k_is)
    (case hb_int => k_is)
    (case hb_tuple => k_is)
    (case hb_all => k_is)
    (case hb_any => k_is)
    (case hb_sorted => k_is)
    (case hb_set => k_is)
    (case hb_sum => k_is)
    (case hb_dict => k_is)
    (case hb_zip => k_is)
    (case hb_min => k_is)
    (case hb_max => k_is)
    (case hx_TooFew => k_is)
    (case hi_TooFew => k_is)
    (case hl_TooFew => k_is)
    (case hc_TooFew => k_is)
    (case he_TooFew => kernel_rfl)
    (case he1_TooFew => kernel_rfl)
    (case he2_TooFew => kernel_rfl)
    (case he3_TooFew => kernel_rfl)
    (case hs_TooFew => k_is)
    (case hs3_TooFew => k_is)
    (case hs4_TooFew => k_is)
    (case hs2_TooFew => k_is)
