import PyProof.Rows.All
import Wide.All
import OpenK.AllK
import Wide.FinOn
import PyProof.EqAt
import PyProof.EqKinds
import PyProof.NeKinds
import PyProof.TupleCall
import PyProof.ExcArgsOwn
import PyProof.EnumFor
import PyProof.EnumStmt
import PyProof.EnumMake
import Lean
import KE.KDictList
import KE.KDictOf
import KE.KDictSum
import KE.KEqDict
import KE.KItemsList
import KE.KPairComp
import KE.KRevIter
import KE.KSortTup
import KE.KTupSum
import PyProof.AttrMiss
import PyProof.EnumFor
import PyProof.EnumMake
import PyProof.IsRules
import PyProof.IsiH_list
import PyProof.IsiH_tuple
import PyProof.Rows.ZipForRows
import PyProof.TupleIter
import KE.KUnpack
import PySem.Challenge.RW_endnever_k65_whole_shut_sets_within
local macro_rules | `(tactic| omega) => `(tactic| first | with_reducible assumption | with_reducible exact Nat.le_of_lt (by assumption) | with_reducible exact Nat.lt_of_lt_of_le (by assumption) (by assumption) | with_reducible exact Nat.lt_of_le_of_lt (by assumption) (by assumption) | with_reducible exact Nat.le_trans (by assumption) (by assumption) | with_reducible exact Nat.zero_le _ | lia | omega (config := {}))
set_option genSizeOf false
set_option Elab.async false
set_option linter.all false
set_option maxRecDepth 100000
set_option maxHeartbeats 4000000
section
set_option Elab.async false
set_option linter.all false
set_option maxRecDepth 100000
namespace L2
open PySem PySem.Spec PyProof.Rows
abbrev Key:=Sum Int Str
def keyIs:Key→Value→Bool
 | .inl k,v=>Value.isInt k v
 | .inr x,v=>Value.isStrOf x v
def keyH (w:World):Key→Int
 | .inl k=>hashInt k
 | .inr x=>hashStr w x
theorem keyIs_shape:∀ {k:Key} {v:Value},keyIs k v = true→(∃ i t,k = Sum.inl i∧v = Value.int i t)∨(∃ x t,k = Sum.inr x∧v = Value.str x t)
 | .inl i,v,h=>by
  obtain⟨t,e⟩:=Value.isInt_shape (k:=i) (v:=v) h
  exact .inl ⟨i,t,rfl,e⟩
 | .inr x,v,h=>by
  obtain⟨t,e⟩:=Value.isStrOf_shape (x:=x) (v:=v) h
  exact .inr ⟨x,t,rfl,e⟩
theorem keyIs_int (i:Int) (t:Tok):keyIs (.inl i) (.int i t) = true:=by simp [keyIs,Value.isInt]
theorem key_ll (a b:Int):decide ((Sum.inl a:Key) = Sum.inl b) = (a == b):=by
 by_cases e:a = b
 ·subst e; simp
 ·have h:¬ (Sum.inl a:Key) = Sum.inl b:=fun q=>e (Sum.inl.inj q)
  rw [decide_eq_false h]
  exact (beq_eq_false_iff_ne.mpr e).symm
theorem key_rr (a b:Str):decide ((Sum.inr a:Key) = Sum.inr b) = decide (a = b):=by
 by_cases e:a = b
 ·subst e; simp
 ·have h:¬ (Sum.inr a:Key) = Sum.inr b:=fun q=>e (Sum.inr.inj q)
  rw [decide_eq_false h,decide_eq_false e]
theorem key_lr (a:Int) (b:Str):decide ((Sum.inl a:Key) = Sum.inr b) = false:=decide_eq_false (fun q=>nomatch q)
theorem key_rl (a:Str) (b:Int):decide ((Sum.inr a:Key) = Sum.inl b) = false:=decide_eq_false (fun q=>nomatch q)
def mixKind (prog:Program) (w:World):PySem.KeyKind prog w Key where
 is:=keyIs
 hash:=keyH w
 inj:=fun v a b ha hb=>by
  rcases keyIs_shape ha with ⟨i,t,rfl,rfl⟩ | ⟨x,t,rfl,rfl⟩
  ·rcases keyIs_shape hb with ⟨j,u,rfl,e⟩ | ⟨y,u,rfl,e⟩
   ·injection e with e1 _; rw [e1]
   ·exact nomatch e
  ·rcases keyIs_shape hb with ⟨j,u,rfl,e⟩ | ⟨y,u,rfl,e⟩
   ·exact nomatch e
   ·injection e with e1 _; rw [e1]
 byValue:=fun k v h=>by
  rcases keyIs_shape h with ⟨i,t,rfl,rfl⟩ | ⟨x,t,rfl,rfl⟩ <;> rfl
 pyHash:=fun hv h=>by
  rcases keyIs_shape hv with ⟨i,t,rfl,rfl⟩ | ⟨x,t,rfl,rfl⟩
  ·exact wpAny_pyHash_int h
  ·exact wpAny_pyHash_str h
 eqBool:=fun hu hv h=>by
  rcases keyIs_shape hu with ⟨i,t,rfl,rfl⟩ | ⟨x,t,rfl,rfl⟩
  ·rcases keyIs_shape hv with ⟨j,u,rfl,rfl⟩ | ⟨y,u,rfl,rfl⟩
   ·rw [key_ll] at h; exact wpAny_eqBool_int h
   ·rw [key_lr] at h; exact SeqAt.EqAt.int_str i t y u _ _ _ _ h
  ·rcases keyIs_shape hv with ⟨j,u,rfl,rfl⟩ | ⟨y,u,rfl,rfl⟩
   ·rw [key_rl] at h; exact SeqAt.EqAt.str_int x t j u _ _ _ _ h
   ·rw [key_rr] at h; exact wpAny_eqBool_str h
 «strs»:=fun k x t v h=>by
  rcases keyIs_shape h with ⟨i,u,rfl,e⟩ | ⟨y,u,rfl,e⟩
  ·exact nomatch e
  ·injection e with e1 _
   subst e1
   cases v <;> rfl
theorem mixKind_is (prog:Program) (w:World) (k:Key) (v:Value):(mixKind prog w).is k v = keyIs k v:=rfl
end L2
namespace L2
open PySem PySem.Spec PyProof.Rows
inductive V where
 | non | bl (b:Bool) | int (i:Int) | str (x:Str) | byt (b:Array UInt8) | flt (b:UInt64) | ref (a:Addr) | ty (n:String)
 deriving DecidableEq
def RelV:V→Value→Prop
 | .non,u=>u = Value.none
 | .bl b,u=>u = Value.bool b
 | .int i,u=>∃ t,u = Value.int i t
 | .str x,u=>∃ t,u = Value.str x t
 | .byt b,u=>∃ t,u = Value.bytes b t
 | .flt b,u=>∃ t,u = Value.float b t
 | .ref a,u=>u = Value.ref a
 | .ty n,u=>u = Value.type n
abbrev Vals:List V→List Value→Prop:=Paired RelV
theorem Vals.length {xs:List V} {us:List Value} (r:Vals xs us):xs.length = us.length:=Paired.length r
theorem Vals.get:∀ {xs:List V} {us:List Value} {i:Nat} {x:V},Vals xs us→xs[i]? = some x→∃ u,us[i]? = some u∧RelV x u
 | _,_,_,_,.nil,e=>by simp at e
 | _,_,0,_,.cons r _,e=>by simp at e; subst e; exact⟨_,rfl,r⟩
 | _,_,i + 1,x,.cons _ t,e=>by
  obtain⟨u,h1,h2⟩:=Vals.get (i:=i) (x:=x) t (by simpa using e)
  exact⟨u,by simpa using h1,h2⟩
theorem Vals.set {x:V} {u:Value} (r:RelV x u):∀ {xs:List V} {us:List Value} (i:Nat),Vals xs us→Vals (xs.set i x) (us.set i u)
 | _,_,_,.nil=>.nil
 | _,_,0,.cons _ t=>.cons r t
 | _,_,i + 1,.cons q t=>.cons q (Vals.set r i t)
theorem Vals.append:∀ {xs ys:List V} {us ws:List Value},Vals xs us→Vals ys ws→Vals (xs ++ ys) (us ++ ws)
 | _,_,_,_,.nil,s=>s
 | _,_,_,_,.cons r t,s=>.cons r (Vals.append t s)
theorem Vals.take:∀ {xs:List V} {us:List Value} (n:Nat),Vals xs us→Vals (xs.take n) (us.take n)
 | _,_,0,_=>.nil
 | _,_,_ + 1,.nil=>.nil
 | _,_,n + 1,.cons r t=>.cons r (Vals.take n t)
theorem Vals.drop:∀ {xs:List V} {us:List Value} (n:Nat),Vals xs us→Vals (xs.drop n) (us.drop n)
 | _,_,0,r=>r
 | _,_,_ + 1,.nil=>.nil
 | _,_,n + 1,.cons _ t=>Vals.drop n t
def RelO:Option V→Option Value→Prop
 | some v,some u=>RelV v u
 | none,none=>True
 | _,_=>False
def KV {κ:Type}:List (κ × V)→List (κ × Value)→Prop:=Paired fun (p:κ × V) (q:κ × Value)=>p.1 = q.1∧RelV p.2 q.2
def kV:Key→V
 | .inl i=>.int i
 | .inr x=>.str x
inductive HO where
 | lst (xs:List V)
 | tup (xs:List V)
 | dK (kvs:List (Key × V)) | dT (kvs:List (List Key × V))
 | set (S:Int→Bool) (n:Nat)
 | ins (C dx:Addr) (fs:List (Str × V))
 | own (x:Addr)
 | xd (fs:List (Str × V))
 | met (f x:Addr)
 | rng (lo hi:Int)
 | frz (o:Obj) (u:HO)
 | tbl (ps:Array Value)
 | ext (φ:Heap→Prop)
abbrev Hp:=Addr→Option HO
def upd (H:Hp) (a:Addr) (o:HO):Hp:=fun b=>if b = a then some o else H b
theorem upd_same {H:Hp} {a:Addr} {o:HO}:upd H a o a = some o:=by unfold upd; rw [if_pos rfl]
theorem upd_ne {H:Hp} {a b:Addr} {o:HO} (h:b≠a):upd H a o b = H b:=by unfold upd; rw [if_neg h]
theorem upd_upd {H:Hp} {a:Addr} {o u:HO}:upd (upd H a o) a u = upd H a u:=by
 funext b; unfold upd; split <;> rfl
theorem ne_of_none {H:Hp} {a b:Addr} {o:HO} (h:H a = some o) (h':H b = none):a≠b:=by
 intro e; subst e; rw [h] at h'; cases h'
def IsTupN (h:Heap) (a:Addr) (items:Array Value):Prop:=∃ o,h.get? a = some o∧o.cls = .type "tuple"∧∃ n,o.data = .seq items n∧o = { cls:=.type "tuple",data:=.seq items n }
theorem IsTupN.tup {h:Heap} {a:Addr} {items:Array Value} (x:IsTupN h a items):IsTup h a items:=let ⟨o,e,c,n,d,_⟩:=x; ⟨o,e,c,n,d⟩
theorem IsTupN.lt {h:Heap} {a:Addr} {items:Array Value} (x:IsTupN h a items):a < h.objs.size:=x.tup.lt
theorem IsTupN.of {h:Heap} {a:Addr} {items:Array Value} {n:Nat} (x:h.get? a = some { cls:=.type "tuple",data:=.seq items n }):IsTupN h a items:=⟨_,x,rfl,n,rfl,rfl⟩
theorem IsTupN.new (h:Heap) (items:Array Value):IsTupN (h.push { cls:=.type "tuple",data:=.seq items }) h.objs.size items:=.of (Heap.get?_push_size _ rfl)
section
variable (P:Program) (w:World)
def ObjOk (H:Hp) (h:Heap) (a:Addr):HO→Prop
 | .lst xs=>xs.length≤sizeLine∧∃ (its:List Value) (n:Nat),Vals xs its∧h.get? a = some { cls:=.type "list",data:=.seq its.toArray n }
 | .tup xs=>xs.length≤sizeLine∧∃ its:List Value,Vals xs its∧IsTupN h a its.toArray
 | .dK kvs=>kvs.length≤sizeLine∧(a == sysModules) = false∧∃ vs,KV kvs vs∧h.DictOf (mixKind P w) a vs
 | .dT kvs=>kvs.length≤sizeLine∧(a == sysModules) = false∧∃ xs:List (List Key × Addr × Value),
   Paired (fun (p:List Key × V) (q:List Key × Addr × Value)=>p.1 = q.1∧H q.2.1 = some (.tup (p.1.map kV))∧RelV p.2 q.2.2) kvs xs ∧
   ∃ o es ep,h.get? a = some o∧o.ExactDict∧o.data = .dict es ep∧es.toList = xs.map (entryOfKey (tupleKind (mixKind P w)))∧(xs.map (·.1)).Nodup
 | .set S n=>h.SetOf (intKind P w) a S n
 | .ins C dx fs=>H dx = some (.own a)∧fs.length≤1000∧dx≠a∧h.get? a = some (PySem.W.instObj C dx) ∧
   ∃ mA,h.Ns1 dx mA∧(∀ f,RelO (fs.lookup f) (mA f))∧PySem.Within mA (fs.map (·.1))
 | .own _=>∃ o,h.get? a = some o
 | .xd fs=>∃ mA,h.Ns1 a mA∧∀ f,RelO (fs.lookup f) (mA f)
 | .rng lo hi=>∃ t u v,h.get? a = some { cls:=.type "range",data:=.fields #[.int lo t,.int hi u,.int 1 v] }
 | .frz o u=>h.get? a = some o∧ObjOk H h a u
 | .tbl ps=>h.get? a = some { cls:=.none,data:=.fields ps }
 | .met f x=>h.get? a = some (PySem.W.methodObj (.ref f) (.ref x))
 | .ext φ=>φ h∧(∃ o,h.get? a = some o)∧∀ h1 h2:Heap,φ h1→(∀ o,h1.get? a = some o→h2.get? a = some o)→φ h2
def HOk (H:Hp) (h:Heap):Prop:=∀ a o,H a = some o→ObjOk P w H h a o
end
section
variable {P:Program} {w:World} {H H':Hp} {h h':Heap} {a:Addr} {o:HO}
theorem ObjOk.lt (x:ObjOk P w H h a o):a < h.objs.size:=by
 cases o with
 | lst xs=>obtain⟨_,_,_,_,e⟩:=x; exact Heap.lt_size e
 | tup xs=>obtain⟨_,_,_,p⟩:=x; exact p.lt
 | dK kvs=>obtain⟨_,_,_,_,o,_,_,e,_⟩:=x; exact Heap.lt_size e
 | dT kvs=>obtain⟨_,_,_,_,o,_,_,e,_⟩:=x; exact Heap.lt_size e
 | set S n=>obtain⟨o,_,_,_,e,_⟩:=x; exact Heap.lt_size e
 | ins C dx fs=>obtain⟨_,_,_,e,_⟩:=x; exact Heap.lt_size e
 | own y=>obtain⟨_,e⟩:=x; exact Heap.lt_size e
 | xd fs=>obtain⟨_,⟨_,_,_,e,_⟩,_⟩:=x; exact Heap.lt_size e
 | rng lo hi=>obtain⟨_,_,_,e⟩:=x; exact Heap.lt_size e
 | frz ob u=>obtain⟨e,_⟩:=x; exact Heap.lt_size e
 | tbl ps=>exact Heap.lt_size (show h.get? a = some _ from x)
 | met f y=>exact Heap.lt_size (show h.get? a = some _ from x)
 | ext φ=>obtain⟨_,⟨_,e⟩,_⟩:=x; exact Heap.lt_size e
theorem Paired.mapP {α β:Type} {F G:α→β→Prop}:∀ {l₁:List α} {l₂:List β},Paired F l₁ l₂→(∀ a b,F a b→G a b)→Paired G l₁ l₂
 | _,_,.nil,_=>.nil
 | _,_,.cons r t,f=>.cons (f _ _ r) (Paired.mapP t f)
theorem ObjOk.stay (x:ObjOk P w H h a o) (k:∀ b u,(b = a∨H b = some (.own a))→h.get? b = some u→h'.get? b = some u)
  (ho:∀ b,H b = some (.own a)→H' b = some (.own a)) (ht:∀ b xs,H b = some (.tup xs)→H' b = some (.tup xs)):ObjOk P w H' h' a o:=by
 induction o with
 | lst xs=>obtain⟨z,its,n,r,e⟩:=x; exact⟨z,its,n,r,k _ _ (.inl rfl) e⟩
 | tup xs=>obtain⟨z,its,r,ob,e,c⟩:=x; exact⟨z,its,r,ob,k _ _ (.inl rfl) e,c⟩
 | dK kvs=>obtain⟨z,y,vs,r,ob,es,ep,e,c⟩:=x; exact⟨z,y,vs,r,ob,es,ep,k _ _ (.inl rfl) e,c⟩
 | dT kvs =>
  obtain⟨z,y,xs,r,ob,es,ep,e,c⟩:=x
  exact⟨z,y,xs,Paired.mapP r fun p q z=>⟨z.1,ht _ _ z.2.1,z.2.2⟩,ob,es,ep,k _ _ (.inl rfl) e,c⟩
 | set S n=>obtain⟨ob,es,ep,t,e,c⟩:=x; exact⟨ob,es,ep,t,k _ _ (.inl rfl) e,c⟩
 | ins C dx fs =>
  obtain⟨d,z,ne,e,mA,⟨od,es,ep,e2,c⟩,r⟩:=x
  exact⟨ho _ d,z,ne,k _ _ (.inl rfl) e,mA,⟨od,es,ep,k _ _ (.inr d) e2,c⟩,r⟩
 | own y=>obtain⟨ob,e⟩:=x; exact⟨ob,k _ _ (.inl rfl) e⟩
 | xd fs=>obtain⟨mA,⟨od,es,ep,e,c⟩,r⟩:=x; exact⟨mA,⟨od,es,ep,k _ _ (.inl rfl) e,c⟩,r⟩
 | rng lo hi=>obtain⟨t,u,v,e⟩:=x; exact⟨t,u,v,k _ _ (.inl rfl) e⟩
 | frz ob u ih=>obtain⟨e,q⟩:=x; exact⟨k _ _ (.inl rfl) e,ih q⟩
 | tbl ps =>
  have e:h.get? a = some { cls:=.none,data:=.fields ps }:=x
  show h'.get? a = some { cls:=.none,data:=.fields ps }
  exact k a _ (.inl rfl) e
 | met f y =>
  have e:h.get? a = some (PySem.W.methodObj (.ref f) (.ref y)):=x
  show h'.get? a = some (PySem.W.methodObj (.ref f) (.ref y))
  exact k a _ (.inl rfl) e
 | ext φ=>obtain⟨p,⟨o,e⟩,st⟩:=x; exact⟨st _ _ p fun o q=>k _ _ (.inl rfl) q,⟨o,k _ _ (.inl rfl) e⟩,st⟩
theorem HOk.lt (x:HOk P w H h) (e:H a = some o):a < h.objs.size:=(x a o e).lt
theorem HOk.fresh (x:HOk P w H h) (e:h.objs.size≤a):H a = none:=by
 cases q:H a with
 | none=>rfl
 | some u=>exact absurd (Nat.lt_of_lt_of_le (x.lt q) e) (Nat.lt_irrefl _)
theorem HOk.kept (x:HOk P w H h) (k:∀ b u,h.get? b = some u→h'.get? b = some u):HOk P w H h':=fun a o e =>
 (x a o e).stay (fun b u _ q=>k b u q) (fun _ q=>q) fun _ _ q=>q
theorem HOk.laid (x:HOk P w H h) (k:∀ b u,h.get? b = some u→h'.get? b = some u) (hp:h.objs.size≤a) (new:ObjOk P w (upd H a o) h' a o):HOk P w (upd H a o) h':=fun b u e=>by
 have hn:=x.fresh hp
 by_cases hb:b = a
 ·subst hb; rw [upd_same] at e; cases e; exact new
 ·rw [upd_ne hb] at e
  exact (x b u e).stay (fun c v _ q=>k c v q) (fun c q=>by rw [upd_ne (ne_of_none q hn)]; exact q) fun c xs q=>by rw [upd_ne (ne_of_none q hn)]; exact q
end
def Rd (H:Hp) (a:Addr) (u:HO):Prop:=H a = some u∨∃ o,H a = some (.frz o u)
theorem Rd.ok {P:Program} {w:World} {H:Hp} {h:Heap} {a:Addr} {u:HO} (r:Rd H a u) (x:HOk P w H h):ObjOk P w H h a u:=by
 rcases r with r | ⟨o,r⟩
 ·exact x a u r
 ·obtain⟨_,q⟩:=x a _ r
  exact q
def Mut:Option HO→Prop
 | some (.lst _)=>True
 | some (.dK _)=>True
 | some (.dT _)=>True
 | some (.set _ _)=>True
 | some (.ins _ _ _)=>True
 | some (.ext _)=>True
 | _=>False
section
variable {P:Program} {w:World} {H:Hp} {h h':Heap} {x e:Addr} {o':HO}
theorem HOk.write (ok:HOk P w H h) (mu:Mut (H x)) (he:e = x∨H e = some (.own x)) (k:∀ b u,b≠e→h.get? b = some u→h'.get? b = some u) (heo:∃ u,h'.get? e = some u)
  (new:ObjOk P w (upd H x o') h' x o'):HOk P w (upd H x o') h':=fun b u q=>by
 have nown:∀ c y,H c = some (.own y)→c≠x:=fun c y r z=>by subst z; rw [r] at mu; exact mu
 have ntup:∀ c xs,H c = some (.tup xs)→c≠x:=fun c xs r z=>by subst z; rw [r] at mu; exact mu
 by_cases hb:b = x
 ·subst hb; rw [upd_same] at q; cases q; exact new
 ·rw [upd_ne hb] at q
  by_cases hbe:b = e
  ·have q':H b = some (.own x):=by
    rcases he with z | z
    ·exact absurd (hbe.trans z) hb
    ·rw [hbe]; exact z
   rw [q] at q'; cases q'
   obtain⟨v,hv⟩:=heo
   exact⟨v,by rw [hbe]; exact hv⟩
  ·refine (ok b u q).stay (fun c v hc r=>k c v ?_ r) (fun c r=>by rw [upd_ne (nown c b r)]; exact r) fun c xs r=>by rw [upd_ne (ntup c xs r)]; exact r
   rcases hc with rfl | hc
   ·exact hbe
   ·rintro rfl
    rcases he with z | z
    ·exact nown c b hc z
    ·rw [hc] at z; cases z; exact hb rfl
end
structure Un (fs ex:List Addr) (H H':Hp) (h h':Heap):Prop where
 keep:∀ b o,h.get? b = some o→H b = none→b ∉ fs→b ∉ ex→h'.get? b = some o
 slot:∀ b o,h.get? b = some o→H b = none→b∈fs→b ∉ ex→∃ sl,h'.get? b = some { o with slots:=sl }
 free:∀ b o,h.get? b = some o→H b = none→b ∉ ex→H' b = none
 there:∀ b o,h.get? b = some o→b ∉ ex→∃ o',h'.get? b = some o'
 tups:∀ b xs,H b = some (.tup xs)→H' b = some (.tup xs)
 frzs:∀ b o u,H b = some (.frz o u)→H' b = some (.frz o u)
 tbls:∀ b ps,H b = some (.tbl ps)→∃ more,H' b = some (.tbl (ps ++ more))
section
variable {fs fs' ex ex':List Addr} {H H1 H2:Hp} {h h1 h2 h':Heap} {a x e:Addr} {o:HO}
theorem Un.any (u:Un fs ex H H1 h h1) {b:Addr} {ob:Obj} (q:h.get? b = some ob) (n:H b = none) (hx:b ∉ ex):∃ sl,h1.get? b = some { ob with slots:=sl }:=by
 by_cases hb:b∈fs
 ·exact u.slot b ob q n hb hx
 ·exact⟨ob.slots,u.keep b ob q n hb hx⟩
theorem Un.trans (a:Un fs ex H H1 h h1) (b:Un fs ex H1 H2 h1 h2):Un fs ex H H2 h h2 where
 keep:=fun c ob q n hc hx=>b.keep c ob (a.keep c ob q n hc hx) (a.free c ob q n hx) hc hx
 slot:=fun c ob q n hc hx=>by
  obtain⟨sl,e1⟩:=a.slot c ob q n hc hx
  obtain⟨sl',e2⟩:=b.slot c _ e1 (a.free c ob q n hx) hc hx
  exact⟨sl',e2⟩
 free:=fun c ob q n hx=>by
  obtain⟨o',e1⟩:=a.there c ob q hx
  exact b.free c o' e1 (a.free c ob q n hx) hx
 there:=fun c ob q hx=>by
  obtain⟨o',e1⟩:=a.there c ob q hx
  exact b.there c o' e1 hx
 tups:=fun c xs q=>b.tups c xs (a.tups c xs q)
 frzs:=fun c ob xs q=>b.frzs c ob xs (a.frzs c ob xs q)
 tbls:=fun c ps q=>by
  obtain⟨m1,e1⟩:=a.tbls c ps q
  obtain⟨m2,e2⟩:=b.tbls c _ e1
  exact⟨m1 ++ m2,by rw [e2,Array.append_assoc]⟩
theorem Un.kept (k:∀ b u,h.get? b = some u→h'.get? b = some u):Un fs ex H H h h' :=
 ⟨fun b ob q _ _ _=>k b ob q,fun b ob q _ _ _=>⟨ob.slots,k b ob q⟩,fun _ _ _ n _=>n,fun b ob q _=>⟨ob,k b ob q⟩,fun _ _ q=>q,fun _ _ _ q=>q,fun _ ps q=>⟨#[],by rw [q]; simp⟩⟩
theorem Un.refl:Un fs ex H H h h:=Un.kept fun _ _ q=>q
theorem Un.laid (k:∀ b u,h.get? b = some u→h'.get? b = some u) (hp:h.objs.size≤a) (hn:H a = none):Un fs ex H (upd H a o) h h' where
 keep:=fun b u q _ _ _=>k b u q
 slot:=fun b u q _ _ _=>⟨u.slots,k b u q⟩
 free:=fun b u q n _=>by rw [upd_ne (Nat.ne_of_lt (Nat.lt_of_lt_of_le (Heap.lt_size q) hp))]; exact n
 there:=fun b u q _=>⟨u,k b u q⟩
 tups:=fun b xs q=>by rw [upd_ne (ne_of_none q hn)]; exact q
 frzs:=fun b u xs q=>by rw [upd_ne (ne_of_none q hn)]; exact q
 tbls:=fun b ps q=>⟨#[],by rw [upd_ne (ne_of_none q hn),q]; simp⟩
theorem Un.write (mu:Mut (H x)) (he:e = x∨H e = some (.own x)) (k:∀ b u,b≠e→h.get? b = some u→h'.get? b = some u) (heo:∃ u,h'.get? e = some u):Un fs ex H (upd H x o) h h':=by
 have hx:∀ b,H b = none→b≠x:=fun b n z=>by subst z; rw [n] at mu; exact mu
 have hb:∀ b,H b = none→b≠e:=fun b n z=>by
  subst z
  rcases he with r | r
  ·exact hx b n r
  ·rw [n] at r; cases r
 have hm:∀ b u,H b = some u→¬ Mut (some u)→b≠x:=fun b u q nm z=>by subst z; rw [q] at mu; exact nm mu
 refine⟨fun b u q n _ _=>k b u (hb b n) q,fun b u q n _ _=>⟨u.slots,k b u (hb b n) q⟩,fun b u q n _=>by rw [upd_ne (hx b n)]; exact n,fun b u q _=>?_,
  fun b xs q=>by rw [upd_ne (hm b _ q fun z=>z)]; exact q,fun b u xs q=>by rw [upd_ne (hm b _ q fun z=>z)]; exact q,fun b ps q=>⟨#[],by rw [upd_ne (hm b _ q fun z=>z),q]; simp⟩⟩
 by_cases hbe:b = e
 ·subst hbe; exact heo
 ·exact⟨u,k b u hbe q⟩
end
def trk (h:Heap) (H:Hp):List Addr:=(List.range h.objs.size).filter fun a=>(H a).isSome
def hidT (h:Heap) (H:Hp):Heap:=PySem.W.hideAll h (trk h H)
theorem hidT_size (h:Heap) (H:Hp):(hidT h H).objs.size = h.objs.size:=PySem.W.hideAll_size _ _
theorem hidT_get {h:Heap} {H:Hp} {b:Addr} {o:Obj} (e:h.get? b = some o) (n:H b = none):(hidT h H).get? b = some o :=
 PySem.W.hideAll_get _ e fun hm=>by
  have q:(H b).isSome = true:=(List.mem_filter.mp hm).2
  rw [n] at q; simp at q
theorem of_hidT {h:Heap} {H:Hp} {b:Addr} {o:Obj} (e:(hidT h H).get? b = some o):h.get? b = some o∧H b = none:=by
 have e':h.get? b = some o:=PySem.W.of_hideAll (trk h H) e
 refine⟨e',?_⟩
 cases q:H b with
 | none=>rfl
 | some x =>
  have hm:b∈trk h H:=List.mem_filter.mpr ⟨List.mem_range.mpr (Heap.lt_size e'),by simp [q]⟩
  have z:(hidT h H).get? b = none:=PySem.W.hideAll_none (trk h H) hm
  rw [z] at e; cases e
end L2
namespace L2
open PySem PySem.Spec PyProof.Rows
structure Mod (K:PySem.W.Frag) (mg:Str→Option Value) (base:Heap):Prop where
 kin:K.In base
 glob:base.Ns mainGlobals mg
 blt:∃ mb,base.Ns builtinsNs mb∧∀ x:Str,x≠"__name__"→mb x = bootBuiltins x
 nolimit:base.NoLimit
structure Cx where
 prog:Program
 w:World
 K:PySem.W.Frag
 mg:Str→Option Value
 base:Heap
 A:Around
 N:List Str
 s₀:Shared
 H₀:Hp
 env:Env
 outer:List Env
 stack:List Env
 ex:List Addr
 fn:Str→Bool
 calm:Bool
 pn:List (Addr × Obj)
 xe:Value→Shared→Prop
def frs (l:List Env):List Addr:=l.filterMap (·.frame)
abbrev Cx.fs (X:Cx):List Addr:=frs X.outer
def Vis (sc:Scope) (x:Str):Prop:=sc.names.lookup x = some .local∨sc.names.lookup x = some .cell∨sc.names.lookup x = some .free
def Loc (sc:Scope) (x:Str):Prop:=sc.names.lookup x = some .local∨sc.names.lookup x = some .cell
def Look (env:Env) (h:Heap) (m:Str→Option Value) (x:Str) (u:Value):Prop :=
 (env.kindOf x = some .local∧m x = some u)∨((env.kindOf x = some .cell∨env.kindOf x = some .free)∧∃ c,env.cells.lookup x = some c∧h.IsCell c (some u))
structure Cx.Ok (X:Cx):Prop where
 mod:Mod X.K X.mg X.base
 kind:X.env.scope.kind = .function
 glob:X.env.globals = mainGlobals
 blt:X.env.builtins = builtinsNs
 above:X.s₀.heap.objs.size≤X.env.locals
 inj:∀ x y c,X.env.cells.lookup x = some c→X.env.cells.lookup y = some c→x = y
 has:∀ x,(X.env.kindOf x = some .cell∨X.env.kindOf x = some .free)→∃ c,X.env.cells.lookup x = some c
 cab:∀ x c,X.fn x = true→X.env.cells.lookup x = some c→X.s₀.heap.objs.size≤c
 hd:X.calm = true→X.A.handled = none
 frames:X.A.frames = some X.stack
 stk:X.stack = X.outer∨(X.stack = X.env :: X.outer∧X.env.frame = some X.env.locals)
 exf:∀ b∈X.ex,b≠X.env.locals∧∀ x c,X.env.cells.lookup x = some c→c≠b
 bs:∀ b o,X.base.get? b = some o→X.s₀.heap.get? b = some o∧X.H₀ b = none
 bsz:X.base.objs.size≤X.s₀.heap.objs.size
 noex:∀ b o,X.base.get? b = some o→b ∉ X.ex
 exfs:∀ b∈X.ex,b ∉ X.fs
 funs:X.s₀.heap.FunFrames X.base X.outer
 frf:∀ b∈X.fs,X.H₀ b = none
structure Inv (X:Cx) (pins:List (Addr × Obj)) (σ:List (Option V)) (H:Hp) (s:Shared):Prop where
 ok:X.Ok
 os:s.os = X.s₀.os
 bare:AllBare s.gens
 base:Un X.fs X.ex X.H₀ H X.s₀.heap s.heap
 loc:∃ m,s.heap.Ns X.env.locals m∧∀ (i:Nat) (x:Str) (v:V),X.N[i]? = some x→σ[i]? = some (some v)→Vis X.env.scope x→∃ u,RelV v u∧Look X.env s.heap m x u
 cell:∀ x c,X.env.cells.lookup x = some c→∃ v,s.heap.IsCell c v
 free:H X.env.locals = none
 freeC:∀ x c,X.env.cells.lookup x = some c→H c = none
 pin:∀ p∈X.pn ++ pins,s.heap.get? p.1 = some p.2∧H p.1 = none∧p.1≠X.env.locals∧p.1 ∉ X.fs∧∀ v,p.2.data≠.cell v
 hok:HOk X.prog X.w H s.heap
 len:σ.length = X.N.length
section
variable {X:Cx} {pins:List (Addr × Obj)} {σ:List (Option V)} {H H':Hp} {s:Shared} {h':Heap}
theorem Cx.Ok.nofr (ok:X.Ok) {b:Addr} {o:Obj} (e:X.base.get? b = some o):b ∉ X.fs:=fun hb=>by
 have:=(ok.funs.mem hb).1
 rw [e] at this; cases this
theorem Inv.bs (I:Inv X pins σ H s):∀ b o,X.base.get? b = some o→s.heap.get? b = some o∧H b = none:=fun b o e =>
 ⟨I.base.keep b o (I.ok.bs b o e).1 (I.ok.bs b o e).2 (I.ok.nofr e) (I.ok.noex b o e),I.base.free b o (I.ok.bs b o e).1 (I.ok.bs b o e).2 (I.ok.noex b o e)⟩
theorem Inv.bk (I:Inv X pins σ H s):∀ b o,X.base.get? b = some o→s.heap.get? b = some o:=fun b o e=>(I.bs b o e).1
theorem Inv.mod (I:Inv X pins σ H s):Mod X.K X.mg X.base:=I.ok.mod
theorem Inv.kIn (I:Inv X pins σ H s):X.K.In s.heap:=I.ok.mod.kin.keeps I.bk
theorem Inv.lt (I:Inv X pins σ H s):X.env.locals < s.heap.objs.size:=let ⟨_,hn,_⟩:=I.loc; hn.lt
theorem Inv.sz (I:Inv X pins σ H s):X.s₀.heap.objs.size≤s.heap.objs.size:=Nat.le_trans I.ok.above (Nat.le_of_lt I.lt)
theorem Inv.nofs (I:Inv X pins σ H s) {a:Addr} (h:s.heap.objs.size≤a):a ∉ X.fs:=fun hb=>by
 obtain⟨_,o,ho,_⟩:=I.ok.funs.mem hb
 exact absurd (Nat.lt_of_lt_of_le (Heap.lt_size ho) (Nat.le_trans I.sz h)) (Nat.lt_irrefl _)
theorem Inv.cne (I:Inv X pins σ H s):∀ x c,X.env.cells.lookup x = some c→c≠X.env.locals:=fun x c e z=>by
 obtain⟨v,o,ho,hd⟩:=I.cell x c e
 obtain⟨m,⟨o',es,ep,ho',hd',_⟩,_⟩:=I.loc
 rw [z,ho'] at ho; cases ho; rw [hd'] at hd; cases hd
theorem Inv.funs (I:Inv X pins σ H s):s.heap.FunFrames X.base X.outer:=by
 have all:∀ (l:List Env),(∀ b∈frs l,b∈X.fs)→X.s₀.heap.FunFrames X.base l→s.heap.FunFrames X.base l:=by
  intro l
  induction l with
  | nil=>intro _ _; trivial
  | cons env r ih =>
   intro hs hl
   obtain⟨hk,⟨L,o,hf,hn,ho,hd⟩,hr⟩:=hl
   have hL:L∈X.fs:=hs L (by unfold frs; rw [List.filterMap_cons,hf]; exact List.mem_cons_self)
   obtain⟨sl,e⟩:=I.base.slot L o ho (I.ok.frf L hL) hL fun z=>I.ok.exfs L z hL
   exact⟨hk,⟨L,_,hf,hn,e,hd⟩,ih (fun b hb=>hs b (by unfold frs; rw [List.filterMap_cons,hf]; exact List.mem_cons_of_mem _ hb)) hr⟩
 exact all X.outer (fun _ hb=>hb) I.ok.funs
theorem Inv.stack (I:Inv X pins σ H s):s.heap.FunFrames X.base X.stack:=by
 rcases I.ok.stk with e | ⟨e,hf⟩
 ·rw [e]; exact I.funs
 ·rw [e]
  obtain⟨m,hn,_⟩:=I.loc
  refine .cons (by rw [I.ok.kind]; decide) hf hn ?_ I.funs
  exact Heap.get?_none_of_le (Nat.le_trans I.ok.bsz I.ok.above)
theorem Inv.stkSub (I:Inv X pins σ H s):∀ b∈frs X.stack,b∈X.env.locals :: X.fs:=fun b hb=>by
 rcases I.ok.stk with e | ⟨e,hf⟩
 ·rw [e] at hb; exact List.mem_cons_of_mem _ hb
 ·rw [e] at hb
  unfold frs at hb
  rw [List.filterMap_cons,hf] at hb
  exact hb
theorem Inv.stkFree (I:Inv X pins σ H s):∀ b∈frs X.stack,H b = none:=fun b hb=>by
 rcases List.mem_cons.mp (I.stkSub b hb) with e | hb
 ·rw [e]; exact I.free
 ·obtain⟨_,o,ho,_⟩:=I.ok.funs.mem hb
  exact I.base.free b o ho (I.ok.frf b hb) fun z=>I.ok.exfs b z hb
theorem Inv.step {g':Array GenState} {t':Nat} {d':Drawn} {ch:List Addr} (I:Inv X pins σ H s)
  (hch:∀ b∈ch,(b∈X.ex∨X.s₀.heap.objs.size≤b)∧b≠X.env.locals∧(∀ x c,X.env.cells.lookup x = some c→c≠b)∧∀ p∈X.pn ++ pins,p.1≠b)
  (keep:∀ b o,b≠X.env.locals→b ∉ X.fs→b ∉ ch→s.heap.get? b = some o→H b = none→h'.get? b = some o)
  (slot:∀ b o,b≠X.env.locals→b∈X.fs→b ∉ ch→s.heap.get? b = some o→H b = none→∃ sl,h'.get? b = some { o with slots:=sl }) (free:∀ b o,b ∉ ch→s.heap.get? b = some o→H b = none→H' b = none)
  (there:∀ b o,b ∉ ch→s.heap.get? b = some o→∃ o',h'.get? b = some o')
  (tups:∀ b xs,H b = some (.tup xs)→H' b = some (.tup xs)) (frzs:∀ b o u,H b = some (.frz o u)→H' b = some (.frz o u)) (tbls:∀ b ps,H b = some (.tbl ps)→∃ more,H' b = some (.tbl (ps ++ more)))
  (ns:∀ m,s.heap.Ns X.env.locals m→h'.Ns X.env.locals m) (hok:HOk X.prog X.w H' h') (hg:AllBare g') :
  Inv X pins σ H' { s with heap:=h',gens:=g',drawn:=d',toks:=t' }:=by
 have neL:∀ b o,X.s₀.heap.get? b = some o→b≠X.env.locals:=fun b o e=>Nat.ne_of_lt (Nat.lt_of_lt_of_le (Heap.lt_size e) I.ok.above)
 have neC:∀ b o,X.s₀.heap.get? b = some o→b ∉ X.ex→b ∉ ch:=fun b o e hx hb=>by
  rcases (hch b hb).1 with z | z
  ·exact hx z
  ·exact absurd (Nat.lt_of_lt_of_le (Heap.lt_size e) z) (Nat.lt_irrefl _)
 have cellK:∀ x c,X.env.cells.lookup x = some c→∀ v,s.heap.IsCell c v→h'.IsCell c v:=fun x c e v ⟨o,ho,hd⟩=>by
  have nch:c ∉ ch:=fun z=>(hch c z).2.2.1 x c e rfl
  by_cases hc:c∈X.fs
  ·obtain⟨sl,q⟩:=slot c o (I.cne x c e) hc nch ho (I.freeC x c e)
   exact⟨_,q,hd⟩
  ·exact⟨o,keep c o (I.cne x c e) hc nch ho (I.freeC x c e),hd⟩
 refine⟨I.ok,I.os,hg,⟨fun b o e n hb hx=>?_,fun b o e n hb hx=>?_,fun b o e n hx=>?_,fun b o e hx=>?_,fun b xs e=>tups b xs (I.base.tups b xs e),fun b o xs e=>frzs b o xs (I.base.frzs b o xs e),fun b ps e=>?_⟩,?_,fun x c e=>?_,?_,fun x c e=>?_,fun p hp=>?_,hok,I.len⟩
 ·exact keep b o (neL b o e) hb (neC b o e hx) (I.base.keep b o e n hb hx) (I.base.free b o e n hx)
 ·obtain⟨sl,e1⟩:=I.base.slot b o e n hb hx
  obtain⟨sl',e2⟩:=slot b _ (neL b o e) hb (neC b o e hx) e1 (I.base.free b o e n hx)
  exact⟨sl',e2⟩
 ·obtain⟨o',e1⟩:=I.base.there b o e hx
  exact free b o' (neC b o e hx) e1 (I.base.free b o e n hx)
 ·obtain⟨o',e1⟩:=I.base.there b o e hx
  exact there b o' (neC b o e hx) e1
 ·obtain⟨m1,e1⟩:=I.base.tbls b ps e
  obtain⟨m2,e2⟩:=tbls b _ e1
  exact⟨m1 ++ m2,by rw [e2,Array.append_assoc]⟩
 ·obtain⟨m,hn,hl⟩:=I.loc
  refine⟨m,ns m hn,fun i x v e1 e2 e3=>?_⟩
  obtain⟨u,r,l⟩:=hl i x v e1 e2 e3
  refine⟨u,r,?_⟩
  rcases l with l | ⟨k,c,e,z⟩
  ·exact .inl l
  ·exact .inr ⟨k,c,e,cellK x c e _ z⟩
 ·obtain⟨v,z⟩:=I.cell x c e
  exact⟨v,cellK x c e v z⟩
 ·obtain⟨m,⟨o,_,_,ho,_⟩,_⟩:=I.loc
  exact free _ o (fun z=>(hch _ z).2.1 rfl) ho I.free
 ·obtain⟨v,o,ho,hd⟩:=I.cell x c e
  exact free c o (fun z=>(hch c z).2.2.1 x c e rfl) ho (I.freeC x c e)
 ·obtain⟨e,n,ne,nf,d⟩:=I.pin p hp
  have nch:p.1 ∉ ch:=fun z=>(hch p.1 z).2.2.2 p hp rfl
  exact⟨keep p.1 p.2 ne nf nch e n,free p.1 p.2 nch e n,ne,nf,d⟩
theorem Inv.un {t':Nat} (I:Inv X pins σ H s) (u:Un X.fs [] H H' s.heap h') (hok:HOk X.prog X.w H' h'):Inv X pins σ H' { s with heap:=h',toks:=t' }:=by
 obtain⟨m,⟨o,es,ep,ho,r⟩,_⟩:=id I.loc
 obtain⟨sl,hL⟩:=u.any ho I.free (by simp)
 exact I.step (g':=s.gens) (d':=s.drawn) (ch:=[]) (fun _ z=>nomatch z) (fun b o _ hb _ e n=>u.keep b o e n hb (by simp)) (fun b o _ hb _ e n=>u.slot b o e n hb (by simp)) (fun b o _ e n=>u.free b o e n (by simp)) (fun b o _ e=>u.there b o e (by simp)) u.tups u.frzs u.tbls (fun m' hm=>by
  obtain⟨o',es',ep',ho',r'⟩:=hm
  rw [ho] at ho'; cases ho'
  exact⟨_,es',ep',hL,r'⟩) hok I.bare
theorem Inv.call {g':Array GenState} {t':Nat} {d':Drawn} {ch:List Addr} (I:Inv X pins σ H s) (u:Un (frs X.stack) ch H H' s.heap h') (hok:HOk X.prog X.w H' h') (hg:AllBare g')
  (hch:∀ b∈ch,(b∈X.ex∨X.s₀.heap.objs.size≤b)∧b≠X.env.locals∧(∀ x c,X.env.cells.lookup x = some c→c≠b)∧∀ p∈X.pn ++ pins,p.1≠b) :
  Inv X pins σ H' { s with heap:=h',gens:=g',drawn:=d',toks:=t' }:=by
 obtain⟨m,⟨o,es,ep,ho,r⟩,_⟩:=id I.loc
 obtain⟨sl,hL⟩:=u.any ho I.free fun z=>(hch _ z).2.1 rfl
 exact I.step (ch:=ch) hch (fun b o hL hb hc e n=>u.keep b o e n (fun z=>(List.mem_cons.mp (I.stkSub b z)).elim hL hb) hc) (fun b o _ _ hc e n=>u.any e n hc) (fun b o hc e n=>u.free b o e n hc) (fun b o hc e=>u.there b o e hc) u.tups u.frzs u.tbls (fun m' hm=>by
  obtain⟨o',es',ep',ho',r'⟩:=hm
  rw [ho] at ho'; cases ho'
  exact⟨_,es',ep',hL,r'⟩) hok hg
theorem Inv.turned {t':Nat} {it:Addr} (I:Inv X pins σ H s) (k:∀ b o,b≠it→s.heap.get? b = some o→h'.get? b = some o) (hn:H it = none) (hL:it≠X.env.locals)
  (h1:it∈X.ex∨X.s₀.heap.objs.size≤it) (h2:∀ x c,X.env.cells.lookup x = some c→c≠it) (h3:∀ p∈X.pn ++ pins,p.1≠it):Inv X pins σ H { s with heap:=h',toks:=t' }:=by
 have nit:∀ b u,H b = some u→b≠it:=fun b u e z=>by rw [z,hn] at e; cases e
 refine I.step (g':=s.gens) (d':=s.drawn) (ch:=[it]) (fun b hb=>?_) (fun b o _ _ hc e _=>k b o (fun z=>hc (by simp [z])) e) (fun b o _ _ hc e _=>⟨o.slots,k b o (fun z=>hc (by simp [z])) e⟩) (fun _ _ _ _ n=>n)
  (fun b o hc e=>⟨o,k b o (fun z=>hc (by simp [z])) e⟩) (fun _ _ e=>e) (fun _ _ _ e=>e) (fun b ps e=>⟨#[],by rw [e]; simp⟩) (fun m hm=>?_) (fun b u e=>?_) I.bare
 ·have e:b = it:=by simpa using hb
  subst e
  exact⟨h1,hL,h2,h3⟩
 ·obtain⟨o,es,ep,ho,r⟩:=hm
  exact⟨o,es,ep,k _ o (Ne.symm hL) ho,r⟩
 ·refine (I.hok b u e).stay (fun c v hc q=>k c v ?_ q) (fun _ q=>q) fun _ _ q=>q
  rcases hc with z | z
  ·rw [z]; exact nit b u e
  ·exact nit c _ z
theorem Inv.tok (I:Inv X pins σ H s) (t:Nat):Inv X pins σ H { s with toks:=t }:=I.un (h':=s.heap) (t':=t) Un.refl I.hok
theorem Inv.kept {t':Nat} (I:Inv X pins σ H s) (k:∀ b u,s.heap.get? b = some u→h'.get? b = some u):Inv X pins σ H { s with heap:=h',toks:=t' }:=I.un (Un.kept k) (I.hok.kept k)
theorem Inv.laid {a:Addr} {o:HO} {t':Nat} (I:Inv X pins σ H s) (k:∀ b u,s.heap.get? b = some u→h'.get? b = some u) (hp:s.heap.objs.size≤a) (new:ObjOk X.prog X.w (upd H a o) h' a o) :
  Inv X pins σ (upd H a o) { s with heap:=h',toks:=t' }:=I.un (Un.laid k hp (I.hok.fresh hp)) (I.hok.laid k hp new)
theorem Inv.write {x e:Addr} {o:HO} {t':Nat} (I:Inv X pins σ H s) (mu:Mut (H x)) (he:e = x∨H e = some (.own x)) (k:∀ b u,b≠e→s.heap.get? b = some u→h'.get? b = some u) (heo:∃ u,h'.get? e = some u)
  (new:ObjOk X.prog X.w (upd H x o) h' x o):Inv X pins σ (upd H x o) { s with heap:=h',toks:=t' }:=I.un (Un.write mu he k heo) (I.hok.write mu he k heo new)
theorem Inv.pins_of {pins':List (Addr × Obj)} (I:Inv X pins σ H s) (h:∀ p∈pins',s.heap.get? p.1 = some p.2∧H p.1 = none∧p.1≠X.env.locals∧p.1 ∉ X.fs∧∀ v,p.2.data≠.cell v):Inv X pins' σ H s :=
 ⟨I.ok,I.os,I.bare,I.base,I.loc,I.cell,I.free,I.freeC,fun p hp=>(List.mem_append.mp hp).elim (fun z=>I.pin p (List.mem_append_left _ z)) (h p),I.hok,I.len⟩
theorem nodup_ix {N:List Str} (hN:N.Nodup) {i j:Nat} {x:Str} (a:N[i]? = some x) (b:N[j]? = some x):i = j:=by
 obtain⟨h1,e1⟩:=List.getElem?_eq_some_iff.mp a
 obtain⟨h2,e2⟩:=List.getElem?_eq_some_iff.mp b
 exact (List.getElem_inj hN).mp (e1.trans e2.symm)
theorem store_ok2 {M:Model} {A:Around} {E:Value→Shared→Prop} {i:Nat} {x:Str} {v:V} {u:Value} {Q:Unit→Shared→Prop} (I:Inv X pins σ H s) (hN:X.N.Nodup) (hi:X.N[i]? = some x) (hx:Loc X.env.scope x) (r:RelV v u)
  (h:∀ s',Inv X pins (σ.set i (some v)) H s'→(∃ a,Heap.SameBut a s.heap s'.heap∧(a = X.env.locals∨X.env.cells.lookup x = some a))→Q () s') (hf:X.fn x = true∨X.env.scope.names.lookup x = some .local:=by first | exact .inl rfl | exact .inr rfl | assumption):wpAny M A (storeName X.env x u) Q E s:=by
 obtain⟨m,hn,hl⟩:=id I.loc
 have hcls:(X.env.scope.kind == .class || (X.env.scope.kind == .module && X.env.locals != X.env.globals)) = false:=by rw [I.ok.kind]; rfl
 have hiσ:i < σ.length:=by rw [I.len]; exact (List.getElem?_eq_some_iff.mp hi).1
 have cne:=I.cne
 have tracked:∀ {a:Addr} {h':Heap},(∃ o,s.heap.get? a = some o∧H a = none)→Heap.SameBut a s.heap h'→HOk X.prog X.w H h':=fun {a h'} ha hs b ob e=>by
  obtain⟨_,_,hfree⟩:=ha
  refine (I.hok b ob e).stay (fun c w' hc q=>(hs.2 c ?_).trans q) (fun _ q=>q) fun _ _ q=>q
  rintro rfl
  rcases hc with rfl | hc
  ·rw [hfree] at e; cases e
  ·rw [hfree] at hc; cases hc
 rcases hx with hk | hk
 ·refine wpAny_storeName_local hk hn (fun h' hn' hs=>?_) hcls
  obtain⟨oL,_,_,hoL,_⟩:=id hn
  refine h _ ⟨I.ok,I.os,I.bare,⟨fun b o e n hb hx=>?_,fun b o e n hb hx=>?_,I.base.free,fun b o e hx=>?_,I.base.tups,I.base.frzs,I.base.tbls⟩,⟨_,hn',fun j y v' e1 e2 e3=>?_⟩,fun y c e=>?_,I.free,I.freeC,fun p hp=>?_,tracked ⟨oL,hoL,I.free⟩ hs,by simpa using I.len⟩ ⟨_,hs,.inl rfl⟩
  ·exact (hs.2 b (Nat.ne_of_lt (Nat.lt_of_lt_of_le (Heap.lt_size e) I.ok.above))).trans (I.base.keep b o e n hb hx)
  ·obtain⟨sl,e1⟩:=I.base.slot b o e n hb hx
   exact⟨sl,(hs.2 b (Nat.ne_of_lt (Nat.lt_of_lt_of_le (Heap.lt_size e) I.ok.above))).trans e1⟩
  ·obtain⟨o',e1⟩:=I.base.there b o e hx
   exact⟨o',(hs.2 b (Nat.ne_of_lt (Nat.lt_of_lt_of_le (Heap.lt_size e) I.ok.above))).trans e1⟩
  ·by_cases hj:j = i
   ·subst hj
    rw [hi] at e1; cases e1
    rw [List.getElem?_set_self hiσ] at e2
    cases e2
    exact⟨u,r,.inl ⟨hk,by simp⟩⟩
   ·rw [List.getElem?_set_ne (Ne.symm hj)] at e2
    obtain⟨u',r',q⟩:=hl j y v' e1 e2 e3
    refine⟨u',r',?_⟩
    rcases q with ⟨k,e⟩ | ⟨k,c,e,z⟩
    ·refine .inl ⟨k,?_⟩
     have:y≠x:=fun e=>hj (nodup_ix hN e1 (e ▸ hi))
     simp [this,e]
    ·exact .inr ⟨k,c,e,z.sameBut hs (cne y c e)⟩
  ·obtain⟨w',z⟩:=I.cell y c e
   exact⟨w',z.sameBut hs (cne y c e)⟩
  ·obtain⟨e,n,ne,nf,d⟩:=I.pin p hp
   exact⟨(hs.2 p.1 ne).trans e,n,ne,nf,d⟩
 ·have hfn:X.fn x = true:=by
   rcases hf with z | z
   ·exact z
   ·rw [z] at hk; cases hk
  obtain⟨c,hc⟩:=I.ok.has x (.inl hk)
  obtain⟨w',z⟩:=I.cell x c hc
  refine wpAny_storeName_cell I.ok.kind hk hc z (fun h' hc' hs=>?_)
  obtain⟨oc,hoc,hocd⟩:=id z
  refine h { s with heap:=h' } ⟨I.ok,I.os,I.bare,⟨fun b o e n hb hx=>?_,fun b o e n hb hx=>?_,I.base.free,fun b o e hx=>?_,I.base.tups,I.base.frzs,I.base.tbls⟩,⟨m,hn.sameBut hs (Ne.symm (cne x c hc)),fun j y v' e1 e2 e3=>?_⟩,fun y c' e=>?_,I.free,I.freeC,fun p hp=>?_,tracked ⟨oc,hoc,I.freeC x c hc⟩ hs,by simpa using I.len⟩ ⟨c,hs,.inr hc⟩
  ·exact (hs.2 b (Nat.ne_of_lt (Nat.lt_of_lt_of_le (Heap.lt_size e) (I.ok.cab x c hfn hc)))).trans (I.base.keep b o e n hb hx)
  ·obtain⟨sl,e1⟩:=I.base.slot b o e n hb hx
   exact⟨sl,(hs.2 b (Nat.ne_of_lt (Nat.lt_of_lt_of_le (Heap.lt_size e) (I.ok.cab x c hfn hc)))).trans e1⟩
  ·obtain⟨o',e1⟩:=I.base.there b o e hx
   exact⟨o',(hs.2 b (Nat.ne_of_lt (Nat.lt_of_lt_of_le (Heap.lt_size e) (I.ok.cab x c hfn hc)))).trans e1⟩
  ·by_cases hj:j = i
   ·subst hj
    rw [hi] at e1; cases e1
    rw [List.getElem?_set_self hiσ] at e2
    cases e2
    exact⟨u,r,.inr ⟨.inl hk,c,hc,hc'⟩⟩
   ·rw [List.getElem?_set_ne (Ne.symm hj)] at e2
    obtain⟨u',r',q⟩:=hl j y v' e1 e2 e3
    refine⟨u',r',?_⟩
    rcases q with q | ⟨k,c',e,z'⟩
    ·exact .inl q
    ·refine .inr ⟨k,c',e,z'.sameBut hs ?_⟩
     rintro rfl
     exact hj (nodup_ix hN e1 (I.ok.inj _ _ _ e hc ▸ hi))
  ·by_cases hcc:c' = c
   ·subst hcc; exact⟨_,hc'⟩
   ·obtain⟨w2,z2⟩:=I.cell y c' e
    exact⟨w2,z2.sameBut hs hcc⟩
  ·obtain⟨e,n,ne,nf,d⟩:=I.pin p hp
   refine⟨(hs.2 p.1 ?_).trans e,n,ne,nf,d⟩
   intro q
   rw [q,hoc] at e
   have q':oc = p.2:=Option.some.inj e
   exact d w' (by rw [← q']; exact hocd)
theorem store_ok {M:Model} {A:Around} {E:Value→Shared→Prop} {i:Nat} {x:Str} {v:V} {u:Value} {Q:Unit→Shared→Prop} (I:Inv X pins σ H s) (hN:X.N.Nodup) (hi:X.N[i]? = some x) (hx:Loc X.env.scope x) (r:RelV v u)
  (h:∀ s',Inv X pins (σ.set i (some v)) H s'→Q () s') (hf:X.fn x = true∨X.env.scope.names.lookup x = some .local:=by first | exact .inl rfl | exact .inr rfl | assumption):wpAny M A (storeName X.env x u) Q E s :=
 store_ok2 I hN hi hx r (fun s' I' _=>h s' I') hf
theorem Inv.call' {s':Shared} {ch:List Addr} (I:Inv X pins σ H s) (ho:s'.os = s.os) (u:Un (frs X.stack) ch H H' s.heap s'.heap) (hok:HOk X.prog X.w H' s'.heap) (hg:AllBare s'.gens)
  (hch:∀ b∈ch,(b∈X.ex∨X.s₀.heap.objs.size≤b)∧b≠X.env.locals∧(∀ x c,X.env.cells.lookup x = some c→c≠b)∧∀ p∈X.pn ++ pins,p.1≠b):Inv X pins σ H' s':=by
 obtain⟨h',g',d',t',o'⟩:=s'
 have e:o' = s.os:=ho
 subst e
 exact I.call (g':=g') (t':=t') (d':=d') u hok hg hch
end
abbrev XK:=Value→Option Addr→Hp→Prop
abbrev St:=List (Option V)
abbrev VK:=V→Hp→Prop
abbrev TE:=St→Hp→VK→Prop
abbrev TT:=St→Hp→(Bool→Hp→Prop)→Prop
abbrev TA:=St→Hp→(List V→Hp→Prop)→Prop
structure Ends where
 nx:St→Hp→Prop
 rt:VK
 bk:St→Hp→Prop:=fun _ _=>False
 ct:St→Hp→Prop:=fun _ _=>False
abbrev TS:=Ends→St→Hp→Prop
def EP (X:Cx) (pins:List (Addr × Obj)) (σ:St) (Q:VK) (u:Value) (s':Shared):Prop:=∃ v H',Inv X pins σ H' s'∧RelV v u∧Q v H'
def TP (X:Cx) (pins:List (Addr × Obj)) (σ:St) (Q:Bool→Hp→Prop) (b:Bool) (s':Shared):Prop:=∃ H',Inv X pins σ H' s'∧Q b H'
def AP (X:Cx) (pins:List (Addr × Obj)) (σ:St) (Q:List V→Hp→Prop) (us:List Value) (s':Shared):Prop:=∃ vs H',Inv X pins σ H' s'∧Vals vs us∧Q vs H'
def SP (X:Cx) (pins:List (Addr × Obj)) (D:Ends) (f:Flow) (s':Shared):Prop :=
 match f with
 | .next=>∃ σ' H',Inv X pins σ' H' s'∧D.nx σ' H'
 | .brk=>∃ σ' H',Inv X pins σ' H' s'∧D.bk σ' H'
 | .cont=>∃ σ' H',Inv X pins σ' H' s'∧D.ct σ' H'
 | .ret u=>∃ v σ' H',Inv X pins σ' H' s'∧RelV v u∧D.rt v H'
def PE (X:Cx) (e:Expr) (t:TE):Prop :=
 ∀ (pins:List (Addr × Obj)) (s:Shared) (σ:St) (H:Hp) (Q:VK),Inv X pins σ H s→t σ H Q→wpAny (model X.prog X.w) X.A (eval e X.env) (EP X pins σ Q) X.xe s
def PT (X:Cx) (e:Expr) (t:TT):Prop :=
 ∀ (pins:List (Addr × Obj)) (s:Shared) (σ:St) (H:Hp) (Q:Bool→Hp→Prop),Inv X pins σ H s→t σ H Q→wpAny (model X.prog X.w) X.A (isTrue e X.env (eval e X.env)) (TP X pins σ Q) X.xe s
def PW (X:Cx) (e:Expr) (t:TT):Prop :=
 ∀ (whole:Sem Value) (pins:List (Addr × Obj)) (s:Shared) (σ:St) (H:Hp) (Q:Bool→Hp→Prop),Inv X pins σ H s→t σ H Q→wpAny (model X.prog X.w) X.A (isTrue e X.env whole) (TP X pins σ Q) X.xe s
theorem PW.pt {X:Cx} {e:Expr} {t:TT} (h:PW X e t):PT X e t:=h _
def PA (X:Cx) (es:List Expr) (t:TA):Prop :=
 ∀ (pos:Pos) (pins:List (Addr × Obj)) (s:Shared) (σ:St) (H:Hp) (Q:List V→Hp→Prop),Inv X pins σ H s→t σ H Q→wpAny (model X.prog X.w) X.A (spliced (backTo pos (starEach es X.env))) (AP X pins σ Q) X.xe s
def PS (X:Cx) (st:Stmt) (t:TS):Prop :=
 ∀ (pins:List (Addr × Obj)) (s:Shared) (σ:St) (H:Hp) (D:Ends),Inv X pins σ H s→t D σ H→wpAny (model X.prog X.w) X.A (exec st X.env) (SP X pins D) X.xe s
def PSs (X:Cx) (st:List Stmt) (t:TS):Prop :=
 ∀ (pins:List (Addr × Obj)) (s:Shared) (σ:St) (H:Hp) (D:Ends),Inv X pins σ H s→t D σ H→wpAny (model X.prog X.w) X.A (execs st X.env) (SP X pins D) X.xe s
theorem thn {α:Type} {t:Sem α} {Q Q':α→Shared→Prop} {M:Model} {A:Around} {E:Value→Shared→Prop} {s:Shared} (h:wpAny M A t Q E s) (hQ:∀ a s,Q a s→Q' a s):wpAny M A t Q' E s:=wpAny_mono h hQ fun _ _ x=>x
end L2
namespace L2
open PySem PySem.Spec PyProof.Rows
section
variable {X:Cx}
def tVar (i:Nat):TE:=fun σ H Q=>∃ v,σ[i]? = some (some v)∧Q v H
def tC (v:V):TE:=fun _ H Q=>Q v H
theorem pe_var {i:Nat} {x:Str} {pos:Pos} (hN:X.N[i]? = some x) (hv:Vis X.env.scope x) (hd:(x == ("__debug__":Str)) = false:=by decide) (hcd:(x == ("__classdict__":Str)) = false:=by decide):PE X (.Name x pos) (tVar i):=by
 intro pins s σ H Q I h
 obtain⟨v,e,h⟩:=h
 obtain⟨m,hn,hl⟩:=I.loc
 obtain⟨u,r,l⟩:=hl i x v hN e hv
 have fin:EP X pins σ Q u s:=⟨v,H,I,r,h⟩
 rcases l with ⟨hk,hm⟩ | ⟨hk,c,hc,hcell⟩
 ·exact wpAny_Name (wpAny_loadName_local I.ok.kind hk hn hm fin) hd
 ·rcases hk with hk | hk
  ·exact wpAny_Name (wpAny_loadName_cell I.ok.kind hk hc hcell fin) hd
  ·exact wpAny_Name (wpAny_loadName_free I.ok.kind hk hc hcell fin hcd) hd
theorem pe_int {i j pos}:PE X (.Constant (.int i) j pos) (tC (.int i)):=fun _ _ _ H _ I h=>wpAny_Constant_int ⟨.int i,H,I.tok _,⟨_,rfl⟩,h⟩
theorem pe_bl {b j pos}:PE X (.Constant (.bool b) j pos) (tC (.bl b)):=fun _ _ _ H _ I h=>Constant_bool ⟨.bl b,H,I,rfl,h⟩
theorem pe_non {j pos}:PE X (.Constant .none j pos) (tC .non):=fun _ _ _ H _ I h=>Constant_none ⟨.non,H,I,rfl,h⟩
theorem pe_str {x j pos}:PE X (.Constant (.str x) j pos) (tC (.str x)):=fun _ _ _ H _ I h=>Calls.Constant_str ⟨.str x,H,I.tok _,⟨_,rfl⟩,h⟩
def Gl (X:Cx) (x:Str):Prop:=X.env.kindOf x = some .globalImplicit
theorem ld_glob {E:Value→Shared→Prop} {pins:List (Addr × Obj)} {s:Shared} {σ:St} {H:Hp} {x:Str} {u:Value} {pos:Pos} {Q:Value→Shared→Prop} (I:Inv X pins σ H s) (hg:Gl X x) (hm:X.mg x = some u) (h:Q u s)
  (hd:(x == ("__debug__":Str)) = false:=by decide):wpAny (model X.prog X.w) X.A (eval (.Name x pos) X.env) Q E s :=
 Calls.Name_function_global I.ok.kind hg (Calls.loadGlobal_global (by rw [I.ok.glob]; exact I.mod.glob.keeps I.bk) hm h) hd
theorem ld_blt {E:Value→Shared→Prop} {pins:List (Addr × Obj)} {s:Shared} {σ:St} {H:Hp} {x:Str} {u:Value} {pos:Pos} {Q:Value→Shared→Prop} (I:Inv X pins σ H s) (hg:Gl X x) (hm:X.mg x = none) (hv:bootBuiltins x = some u) (h:Q u s)
  (hn:x≠"__name__":=by decide) (hd:(x == ("__debug__":Str)) = false:=by decide):wpAny (model X.prog X.w) X.A (eval (.Name x pos) X.env) Q E s:=by
 obtain⟨mb,h1,h2⟩:=I.mod.blt
 exact Calls.Name_function_global I.ok.kind hg (Calls.loadGlobal_builtin (by rw [I.ok.glob]; exact I.mod.glob.keeps I.bk) hm (by rw [I.ok.blt]; exact h1.keeps I.bk) ((h2 x hn).trans hv) h) hd
theorem pe_glob {x:Str} {v:V} {u:Value} {pos:Pos} (hg:Gl X x) (hm:X.mg x = some u) (r:RelV v u) (hd:(x == ("__debug__":Str)) = false:=by decide):PE X (.Name x pos) (tC v) :=
 fun _ _ _ H _ I h=>ld_glob I hg hm ⟨v,H,I,r,h⟩ hd
variable {a b:Expr} {ta tb:TE} {pos:Pos}
variable {tA tB':TT} {rest:List Expr}
def tOr (t u:TT):TT:=fun σ H Q=>t σ H fun c H1=>if c = true then Q true H1 else u σ H1 Q
def tNot (t:TT):TT:=fun σ H Q=>t σ H fun c H1=>Q (!c) H1
theorem pw_or1 (ha:PT X a tA):PW X (.BoolOp .Or [a] pos) tA:=by
 intro wh pins s σ H Q I h
 refine isTrue_or (thn (ha pins s σ H Q I h) fun c s1 e=>?_)
 cases c with
 | false=>exact isTrue_or_nil e
 | true=>exact e
theorem pw_or (ha:PT X a tA) (hb:PW X (.BoolOp .Or (b :: rest) pos) tB'):PW X (.BoolOp .Or (a :: b :: rest) pos) (tOr tA tB'):=by
 intro wh pins s σ H Q I h
 refine isTrue_or (thn (ha pins s σ H _ I h) fun c s1 ⟨H1,I1,q1⟩=>?_)
 cases c with
 | true=>exact⟨H1,I1,q1⟩
 | false=>exact hb wh pins s1 σ H1 Q I1 q1
theorem pt_not (ha:PT X a tA):PT X (.UnaryOp .Not a pos) (tNot tA):=by
 intro pins s σ H Q I h
 exact isTrue_not (ha pins s σ H (fun c H1=>Q (!c) H1) I h)
theorem pe_one {op} {t:TE} (h:PE X a t):PE X (.BoolOp op [a] pos) t:=fun pins s σ H Q I hw=>BoolOp_one (h pins s σ H Q I hw)
end
end L2
namespace L2
open PySem PySem.Spec PyProof.Rows
def SqL (K:PySem.W.Frag) (H:Hp) (a:Addr) (xs:List V):Prop :=
 Rd H a (.lst xs) ∨
  ∃ (o:Obj) (its:Array Value) (n:Nat),K.lookup a = some o∧o.cls = .type "list"∧o.dict = none∧o.data = .seq its n∧its.size≤sizeLine∧Vals xs its.toList
def SqT (K:PySem.W.Frag) (H:Hp) (a:Addr) (xs:List V):Prop :=
 Rd H a (.tup xs) ∨
  ∃ (o:Obj) (its:Array Value) (n:Nat),K.lookup a = some o∧o.cls = .type "tuple"∧o.data = .seq its n∧its.size≤sizeLine∧Vals xs its.toList
def absV:Value→Option V
 | .none=>some .non
 | .bool b=>some (.bl b)
 | .int i _=>some (.int i)
 | .str x _=>some (.str x)
 | .bytes b _=>some (.byt b)
 | .float b _=>some (.flt b)
 | .ref a=>some (.ref a)
 | .type n=>some (.ty n)
 | _=>none
theorem RelV.abs {x:V} {u:Value} (r:RelV x u):absV u = some x:=by
 cases x with
 | non=>cases r; rfl
 | bl _=>cases r; rfl
 | int _=>obtain⟨t,rfl⟩:=r; rfl
 | str _=>obtain⟨t,rfl⟩:=r; rfl
 | byt _=>obtain⟨t,rfl⟩:=r; rfl
 | flt _=>obtain⟨t,rfl⟩:=r; rfl
 | ref _=>cases r; rfl
 | ty _=>cases r; rfl
theorem RelV.inj {x y:V} {u:Value} (r:RelV x u) (q:RelV y u):x = y:=Option.some.inj (r.abs.symm.trans q.abs)
theorem Vals.inj:∀ {xs ys:List V} {us:List Value},Vals xs us→Vals ys us→xs = ys
 | _,_,_,.nil,.nil=>rfl
 | _,_,_,.cons r t,.cons r' t'=>by rw [r.inj r',Vals.inj t t']
section
variable {X:Cx} {pins:List (Addr × Obj)} {σ:St} {H:Hp} {s:Shared} {a:Addr} {xs ys:List V}
theorem SqL.of {K:PySem.W.Frag} (h:H a = some (.lst xs)):SqL K H a xs:=.inl (.inl h)
theorem SqT.of {K:PySem.W.Frag} (h:H a = some (.tup xs)):SqT K H a xs:=.inl (.inl h)
theorem Inv.list (I:Inv X pins σ H s) (h:SqL X.K H a xs):∃ its:List Value,Vals xs its∧PlainL s.heap a its.toArray∧xs.length≤sizeLine:=by
 rcases h with h | ⟨o,its,n,hk,hc,hd,hs,hz,r⟩
 ·obtain⟨z,its,n,r,e⟩:=h.ok I.hok
  exact⟨its,r,⟨_,n,e,rfl,rfl,rfl⟩,z⟩
 ·refine⟨its.toList,r,⟨o,n,I.kIn a o hk,hc,hd,by simpa using hs⟩,?_⟩
  have e:=r.length
  simp only [Array.length_toList] at e
  omega
theorem Inv.tuple (I:Inv X pins σ H s) (h:SqT X.K H a xs):∃ its:List Value,Vals xs its∧IsTup s.heap a its.toArray∧xs.length≤sizeLine:=by
 rcases h with h | ⟨o,its,n,hk,hc,hs,hz,r⟩
 ·obtain⟨z,its,r,p⟩:=h.ok I.hok
  exact⟨its,r,p.tup,z⟩
 ·refine⟨its.toList,r,⟨o,I.kIn a o hk,hc,n,by simpa using hs⟩,?_⟩
  have e:=r.length
  simp only [Array.length_toList] at e
  omega
theorem Inv.list_inj (I:Inv X pins σ H s) (h:SqL X.K H a xs) (h':SqL X.K H a ys):xs = ys:=by
 obtain⟨its,r,⟨o,n,e,_,_,d⟩,_⟩:=I.list h
 obtain⟨its',r',⟨o',n',e',_,_,d'⟩,_⟩:=I.list h'
 rw [e] at e'; cases e'
 rw [d] at d'
 injection d' with d1 _
 have:its = its':=by simpa using congrArg Array.toList d1
 subst this
 exact r.inj r'
theorem Inv.tuple_inj (I:Inv X pins σ H s) (h:SqT X.K H a xs) (h':SqT X.K H a ys):xs = ys:=by
 obtain⟨its,r,⟨o,e,_,n,d⟩,_⟩:=I.tuple h
 obtain⟨its',r',⟨o',e',_,n',d'⟩,_⟩:=I.tuple h'
 rw [e] at e'; cases e'
 rw [d] at d'
 injection d' with d1 _
 have:its = its':=by simpa using congrArg Array.toList d1
 subst this
 exact r.inj r'
end
abbrev Cx.wish (X:Cx) (E:Value→Shared→Prop):Cx:={ X with xe:=E }
abbrev Cx.nox (X:Cx):Cx:=X.wish fun _ _=>False
theorem Cx.Ok.wish {X:Cx} (ok:X.Ok) (E:Value→Shared→Prop):(X.wish E).Ok :=
 ⟨ok.mod,ok.kind,ok.glob,ok.blt,ok.above,ok.inj,ok.has,ok.cab,ok.hd,ok.frames,ok.stk,ok.exf,ok.bs,ok.bsz,ok.noex,ok.exfs,ok.funs,ok.frf⟩
theorem Cx.Ok.unwish {X:Cx} {E:Value→Shared→Prop} (ok:(X.wish E).Ok):X.Ok :=
 ⟨ok.mod,ok.kind,ok.glob,ok.blt,ok.above,ok.inj,ok.has,ok.cab,ok.hd,ok.frames,ok.stk,ok.exf,ok.bs,ok.bsz,ok.noex,ok.exfs,ok.funs,ok.frf⟩
section
variable {X:Cx} {pins:List (Addr × Obj)} {σ:St} {H:Hp} {s:Shared} {E:Value→Shared→Prop}
theorem Inv.wish (I:Inv X pins σ H s) (E:Value→Shared→Prop):Inv (X.wish E) pins σ H s:=⟨I.ok.wish E,I.os,I.bare,I.base,I.loc,I.cell,I.free,I.freeC,I.pin,I.hok,I.len⟩
theorem Inv.unwish (I:Inv (X.wish E) pins σ H s):Inv X pins σ H s:=⟨I.ok.unwish,I.os,I.bare,I.base,I.loc,I.cell,I.free,I.freeC,I.pin,I.hok,I.len⟩
theorem SP.unwish {D:Ends} {f:Flow} {s':Shared} (h:SP (X.wish E) pins D f s'):SP X pins D f s':=by
 cases f with
 | next=>obtain⟨σ',H',I,q⟩:=h; exact⟨σ',H',I.unwish,q⟩
 | brk=>obtain⟨σ',H',I,q⟩:=h; exact⟨σ',H',I.unwish,q⟩
 | cont=>obtain⟨σ',H',I,q⟩:=h; exact⟨σ',H',I.unwish,q⟩
 | ret u=>obtain⟨v,σ',H',I,r,q⟩:=h; exact⟨v,σ',H',I.unwish,r,q⟩
theorem PSs.nox {st:List Stmt} {t:TS} (h:PSs X.nox st t):PSs X st t:=fun pins s σ H D I hw =>
 wpAny_mono (h pins s σ H D (I.wish _) hw) (fun _ _ q=>q.unwish) fun _ _ z=>False.elim z
end
section
variable {X:Cx} {st:Stmt} {rest:List Stmt} {t u:TS} {e:Expr} {te:TE} {pos:Pos}
def tNext:TS:=fun D σ H=>D.nx σ H
def tSeq (t u:TS):TS:=fun D σ H=>t { D with nx:=u D } σ H
theorem pss_nil:PSs X [] tNext:=fun _ _ σ H _ I h=>wpAny_execs_nil ⟨σ,H,I,h⟩
theorem pss_cons (h1:PS X st t) (h2:PSs X rest u):PSs X (st :: rest) (tSeq t u):=by
 intro pins s σ H D I h
 refine wpAny_execs_cons (thn (h1 pins s σ H { D with nx:=u D } I h) fun f s1 q=>?_)
 cases f with
 | next =>
  obtain⟨σ',H',I',q⟩:=q
  exact h2 pins s1 σ' H' D I' q
 | ret v=>exact q
 | brk=>exact q
 | cont=>exact q
theorem pss_one (h1:PS X st t):PSs X [st] t:=by
 intro pins s σ H D I h
 refine wpAny_execs_cons (thn (h1 pins s σ H D I h) fun f s1 q=>?_)
 cases f with
 | next=>exact wpAny_execs_nil q
 | ret v=>exact q
 | brk=>exact q
 | cont=>exact q
theorem Inv.quiet {pins:List (Addr × Obj)} {σ:St} {H:Hp} {s:Shared} (I:Inv X pins σ H s):interactive X.env = false:=by simp [interactive,I.ok.kind]
def tDrop (te:TE):TS:=fun D σ H=>te σ H fun _ H1=>D.nx σ H1
theorem ps_expr (he:PE X e te) (hs:swapsWith e none pos.line X.env = pure false:=by rfl):PS X (.Expr e pos) (tDrop te):=by
 intro pins s σ H D I h
 exact wpAny_Expr_any (thn (he pins s σ H _ I h) fun v s1 ⟨x,H1,I1,r1,q1⟩=>⟨σ,H1,I1,q1⟩) I.quiet hs
def tRet (te:TE):TS:=fun D σ H=>te σ H D.rt
theorem ps_ret (he:PE X e te):PS X (.Return (some e) pos) (tRet te):=by
 intro pins s σ H D I h
 exact wpAny_Return_some (thn (he pins s σ H _ I h) fun v s1 ⟨x,H1,I1,r1,q1⟩=>⟨x,σ,H1,I1,r1,q1⟩)
end
abbrev TG:=V→St→Hp→(St→Hp→Prop)→Prop
abbrev TGs:=List V→St→Hp→(St→Hp→Prop)→Prop
def PG (X:Cx) (target:Expr) (t:TG):Prop :=
 ∀ (pins:List (Addr × Obj)) (s:Shared) (σ:St) (H:Hp) (v:V) (u:Value) (Q:St→Hp→Prop),Inv X pins σ H s→RelV v u→t v σ H Q →
  wpAny (model X.prog X.w) X.A (assign target X.env u) (fun _ s'=>∃ σ' H',Inv X pins σ' H' s'∧Q σ' H') X.xe s
def PGs (X:Cx) (ts:List Expr) (t:TGs):Prop :=
 ∀ (pins:List (Addr × Obj)) (s:Shared) (σ:St) (H:Hp) (vs:List V) (us:List Value) (Q:St→Hp→Prop),Inv X pins σ H s→Vals vs us→t vs σ H Q →
  wpAny (model X.prog X.w) X.A (assignInOrder ((assignEach ts X.env).map (·.2)) us) (fun _ s'=>∃ σ' H',Inv X pins σ' H' s'∧Q σ' H') X.xe s
abbrev TSet:=V→V→V→Hp→(Hp→Prop)→Prop
def PSet (X:Cx) (t:TSet):Prop :=
 ∀ (pins:List (Addr × Obj)) (s:Shared) (σ:St) (H:Hp) (o i v:V) (ov iv u:Value) (Q:Hp→Prop),Inv X pins σ H s→RelV o ov→RelV i iv→RelV v u→t o i v H Q →
  wpAny (model X.prog X.w) X.A (setItem ov iv u) (fun _ s'=>∃ H',Inv X pins σ H' s'∧Q H') X.xe s
section
variable {X:Cx} {pos:Pos}
def gName (i:Nat):TG:=fun v σ H Q=>Q (σ.set i (some v)) H
theorem pg_name {i:Nat} {x:Str} (hN:X.N.Nodup) (hi:X.N[i]? = some x) (hx:Loc X.env.scope x) (hf:X.fn x = true∨X.env.scope.names.lookup x = some .local:=by first | exact .inl rfl | exact .inr rfl | assumption):PG X (.Name x pos) (gName i):=by
 intro pins s σ H v u Q I r h
 exact wpAny_assign_Name (store_ok I hN hi hx r (fun s' I'=>⟨_,H,I',h⟩) hf)
def gNil:TGs:=fun vs σ H Q=>vs = []∧Q σ H
def gCons (t:TG) (u:TGs):TGs:=fun vs σ H Q=>∃ v r,vs = v :: r∧t v σ H fun σ' H'=>u r σ' H' Q
theorem pgs_nil:PGs X [] gNil:=by
 intro pins s σ H vs us Q I r h
 obtain⟨e,h⟩:=h
 subst e
 cases r
 exact assignInOrder_nil ⟨σ,H,I,h⟩
theorem pgs_cons {e:Expr} {es:List Expr} {t:TG} {u:TGs} (h1:PG X e t) (h2:PGs X es u)
  (hs:(assignEach (e :: es) X.env).map (·.2) = assign e X.env :: (assignEach es X.env).map (·.2):=by rfl):PGs X (e :: es) (gCons t u):=by
 intro pins s σ H vs us Q I r h
 obtain⟨v,vr,e1,h⟩:=h
 subst e1
 cases r with
 | cons r rr =>
  rw [hs]
  refine assignInOrder_cons (thn (h1 pins s σ H _ _ _ I r h) fun _ s1 ⟨σ1,H1,I1,q1⟩=>?_)
  exact h2 pins s1 σ1 H1 _ _ Q I1 rr q1
def gTup (K:PySem.W.Frag) (n:Nat) (t:TGs):TG:=fun v σ H Q=>∃ a xs,v = .ref a∧SqT K H a xs∧xs.length = n∧t xs σ H Q
theorem pg_tup {es:List Expr} {k:Nat} {t:TGs} {n:Nat} (hc:X.calm = true) (h:PGs X es t)
  (hn:(assignEach es X.env).length = n:=by rfl) (hst:(assignEach es X.env).findIdx? (·.1) = none:=by rfl):PG X (.Tuple es k pos) (gTup X.K n t):=by
 intro pins s σ H v u Q I r hw
 obtain⟨a,xs,e1,hq,hl,hw⟩:=hw
 subst e1
 cases r
 obtain⟨its,rv,ht,hz⟩:=I.tuple hq
 refine assign_Tuple_tuple (I.ok.hd hc) ht (by simp [hn,← hl,rv.length]) hst fun h' hx=>?_
 have I1:Inv X pins σ H { s with heap:=h' }:=I.kept (t':=s.toks) fun b o e=>hx b o (Nat.ne_of_lt (Heap.lt_size e)) e
 exact h pins _ σ H xs _ Q I1 (by simpa using rv) hw
def gSub (to ti:TE) (t:TSet):TG:=fun v σ H Q=>to σ H fun o H1=>ti σ H1 fun i H2=>t o i v H2 fun H3=>Q σ H3
theorem pg_sub {o i:Expr} {to ti:TE} {t:TSet} (ho:PE X o to) (hi:PE X i ti) (hs:PSet X t)
  (ha:∀ v,assign (.Subscript o i pos) X.env v = (do
   let ov ← holding [v] (eval o X.env)
   let iv ← holding [v,ov] (eval i X.env)
   standAt pos
   holding [v,ov,iv] (setItem ov iv v)
   release [v,ov,iv] []):=by intro _; rfl):PG X (.Subscript o i pos) (gSub to ti t):=by
 intro pins s σ H v u Q I r h
 rw [ha]
 refine wpAny_bind (wpAny_holding (thn (ho pins s σ H _ I h) fun ov s1 ⟨x,H1,I1,r1,q1⟩=>?_))
 refine wpAny_bind (wpAny_holding (thn (hi pins s1 σ H1 _ I1 q1) fun iv s2 ⟨y,H2,I2,r2,q2⟩=>?_))
 refine wpAny_bind (wpAny_standAt (wpAny_bind (wpAny_holding (thn (hs pins s2 σ H2 x y v ov iv u _ I2 r1 r2 r q2) fun _ s3 ⟨H3,I3,q3⟩=>?_))))
 exact wpAny_release ⟨σ,H3,I3,q3⟩
def tAsg (te:TE) (g:TG):TS:=fun D σ H=>te σ H fun x H1=>g x σ H1 D.nx
theorem ps_asg {tg e:Expr} {te:TE} {g:TG} (he:PE X e te) (hg:PG X tg g) (hs:swapsWithSole [tg] e pos.line X.env = pure false:=by rfl) (hw:swappedStores [tg] e X.env = pure none:=by rfl)
  (h1:(assignEach [tg] X.env).map (·.2) = [assign tg X.env]:=by rfl):PS X (.Assign [tg] e pos) (tAsg te g):=by
 intro pins s σ H D I h
 refine wpAny_Assign_stores (thn (he pins s σ H _ I h) fun v s1 ⟨x,H1,I1,r1,q1⟩=>?_) hs hw
 rw [h1]
 exact thn (hg pins s1 σ H1 x v _ I1 r1 q1) fun _ s2 q=>q
theorem ps_set {i:Nat} {x:Str} {e:Expr} {te:TE} {pos':Pos} (hN:X.N.Nodup) (hi:X.N[i]? = some x) (hx:Loc X.env.scope x) (he:PE X e te) (hs:swapsWith e (some (.Name x pos')) pos.line X.env = pure false:=by rfl) (hf:X.fn x = true∨X.env.scope.names.lookup x = some .local:=by first | exact .inl rfl | exact .inr rfl | assumption) :
  PS X (.Assign [.Name x pos'] e pos) (tAsg te (gName i)):=by
 intro pins s σ H D I h
 refine wpAny_Assign_Name (thn (he pins s σ H _ I h) fun v s1 ⟨y,H1,I1,r1,q1⟩=>?_) hs
 exact store_ok I1 hN hi hx r1 (fun s2 I2=>⟨_,H1,I2,q1⟩) hf
end
section
variable {X:Cx} {pos:Pos}
def tWhile (c:TT) (tb:TS):TS:=fun D σ H=>∃ W:Nat→St→Hp→Prop,(∃ m,W m σ H)∧∀ m σ H,W m σ H →
 c σ H fun b H1=>if b = true then ∃ N:St→Hp→Prop,(∀ σ' H',N σ' H'→∃ m',m' < m∧W m' σ' H')∧tb { D with nx:=N,ct:=N,bk:=D.nx } σ H1 else D.nx σ H1
theorem ps_while {c:Expr} {body:List Stmt} {tc:TT} {tb:TS} (hp:PassesOwn (model X.prog X.w) X.A X.env X.xe) (hc:PT X c tc) (hb:PSs X body tb):PS X (.While c body [] pos) (tWhile tc tb):=by
 intro pins s σ H D I h
 obtain⟨W,⟨m0,w0⟩,turn⟩:=h
 refine wpAny_While (codeAny_whileLoop (fun n s'=>∃ σ' H',Inv X pins σ' H' s'∧W n σ' H') ?_ m0 ⟨σ,H,I,w0⟩)
 rintro n s1 ⟨σ1,H1,I1,w1⟩
 refine wpAny_passesOwn hp (thn (hc pins s1 σ1 H1 _ I1 (turn n σ1 H1 w1)) fun b s2 ⟨H2,I2,q2⟩=>?_)
 cases b with
 | true =>
  obtain⟨N,hN,q2⟩:=q2
  rw [if_pos rfl]
  refine wpAny_passesOwn hp (thn (hb pins s2 σ1 H2 _ I2 q2) fun f s3 q3=>?_)
  cases f with
  | next =>
   obtain⟨σ3,H3,I3,n3⟩:=q3
   obtain⟨m',hm,w3⟩:=hN σ3 H3 n3
   exact⟨m',hm,σ3,H3,I3,w3⟩
  | cont =>
   obtain⟨σ3,H3,I3,n3⟩:=q3
   obtain⟨m',hm,w3⟩:=hN σ3 H3 n3
   exact⟨m',hm,σ3,H3,I3,w3⟩
  | brk=>exact q3
  | ret v=>exact q3
 | false =>
  rw [if_neg Bool.false_ne_true]
  exact wpAny_execs_nil ⟨σ1,H2,I2,q2⟩
end
structure It where
 go:Nat→Hp→Prop
 yld:Nat→Hp→V→Hp→Prop
 stop:Nat→Hp→Prop
def FpOk (X:Cx) (pins:List (Addr × Obj)) (H:Hp) (b:Addr):Prop :=
 H b = none∧b≠X.env.locals∧b ∉ X.fs∧(b∈X.ex∨X.s₀.heap.objs.size≤b)∧(∀ x c,X.env.cells.lookup x = some c→c≠b)∧∀ p∈X.pn ++ pins,p.1≠b
theorem Inv.fpOk {X:Cx} {pins:List (Addr × Obj)} {σ:St} {H H':Hp} {s:Shared} {b:Addr} (I:Inv X pins σ H s) (hb:s.heap.objs.size≤b) (hn:H' b = none):FpOk X pins H' b:=by
 refine⟨hn,Nat.ne_of_gt (Nat.lt_of_lt_of_le I.lt hb),I.nofs hb,.inr (Nat.le_trans I.sz hb),fun x c e z=>?_,fun p hp z=>?_⟩
 ·obtain⟨v,q⟩:=I.cell x c e
  exact absurd (Nat.lt_of_lt_of_le q.lt (by rw [z]; exact hb)) (Nat.lt_irrefl _)
 ·exact absurd (Nat.lt_of_lt_of_le (Heap.lt_size (I.pin p hp).1) (by rw [z]; exact hb)) (Nat.lt_irrefl _)
structure Turn (P:Program) (w:World) (K:PySem.W.Frag) (tg:Expr) (J:It) (fp:List Addr) (it:Addr) (tn:Nat→Heap→Prop):Prop where
 mem:it∈fp
 obj:∀ i h,tn i h→∀ b∈fp,∃ o,h.get? b = some o∧∀ v,o.data≠.cell v
 keep:∀ i h h',tn i h→(∀ b∈fp,∀ o,h.get? b = some o→h'.get? b = some o)→tn i h'
 item:∀ (X:Cx),X.prog = P→X.w = w→X.K = K→X.calm = true→∀ (i:Nat) (pins:List (Addr × Obj)) (s:Shared) (σ:St) (H:Hp) (E:Value→Shared→Prop),Inv X pins σ H s→(∀ b∈fp,FpOk X pins H b)→tn i s.heap→J.go i H →
  wpAny (model P w) X.A (pyNext (.ref it)) (fun r s1=>∃ u,r = some u ∧
   wpAny (model P w) X.A (letOwnedTupleGo tg (.ref it) u) (fun _ s2=>∃ x H',Inv X pins σ H' s2∧RelV x u∧J.yld i H x H'∧tn (i + 1) s2.heap∧∀ b∈fp,H' b = none) E s1) E s
 done:∀ (X:Cx),X.prog = P→X.w = w→X.K = K→X.calm = true→∀ (i:Nat) (pins:List (Addr × Obj)) (s:Shared) (σ:St) (H:Hp) (E:Value→Shared→Prop),Inv X pins σ H s→(∀ b∈fp,FpOk X pins H b)→tn i s.heap→J.stop i H →
  wpAny (model P w) X.A (pyNext (.ref it)) (fun r s1=>r = none∧Inv X pins σ H s1) E s
 self:∀ (A:Around) (i:Nat) (s:Shared) (Q:Value→Shared→Prop) (E:Value→Shared→Prop),tn i s.heap→Q (.ref it) s→wpAny (model P w) A (pyIter (.ref it)) Q E s
abbrev TI:=St→Hp→(It→Hp→Prop)→Prop
def PIE (X:Cx) (pins:List (Addr × Obj)) (σ:St) (tg:Expr) (R:It→Hp→Prop) (itv:Value) (s2:Shared):Prop :=
 ∃ (it:Addr) (fp:List Addr) (tn:Nat→Heap→Prop) (J:It) (H':Hp),itv = .ref it∧Inv X pins σ H' s2∧Turn X.prog X.w X.K tg J fp it tn∧tn 0 s2.heap∧(∀ b∈fp,FpOk X pins H' b)∧R J H'
def PI (X:Cx) (tg iter:Expr) (wi:TI):Prop :=
 ∀ (pins:List (Addr × Obj)) (s:Shared) (σ:St) (H:Hp) (R:It→Hp→Prop),Inv X pins σ H s→wi σ H R →
  wpAny (model X.prog X.w) X.A (eval iter X.env) (fun v s1=>wpAny (model X.prog X.w) X.A (pyIter v) (PIE X pins σ tg R) X.xe s1) X.xe s
theorem go_of {M:Model} {A:Around} {E:Value→Shared→Prop} {s:Shared} {tg:Expr} {it:Addr} {u:Value} {o:Obj} {n:String} {vs:Array Value} {Q:Unit→Shared→Prop} (ho:s.heap.get? it = some o) (hc:o.cls = .type n) (hd:o.data = .fields vs)
  (hn:["enumerate","zip","dict_itemiterator","dict_reverseitemiterator","odict_iterator","itertools.zip_longest","itertools.pairwise"].contains n = false) (hQ:Q () s):wpAny M A (letOwnedTupleGo tg (.ref it) u) Q E s:=by
 unfold letOwnedTupleGo
 cases tg <;> first
  | exact wpAny_pure hQ
  | (cases u <;> first
    | exact wpAny_pure hQ
    | (refine wpAny_bind (wpAny_load ho ?_);rw [hc,hd];show wpAny M A (if (["enumerate","zip","dict_itemiterator","dict_reverseitemiterator","odict_iterator","itertools.zip_longest","itertools.pairwise"].contains n && vs[0]? == some (rawInt _)) = true then _ else _) Q E s;rw [if_neg (by intro h; rw [hn,Bool.false_and] at h; cases h)];exact wpAny_pure hQ))
def Itl (K:PySem.W.Frag) (a:Addr):It :=
 ⟨fun i H=>∃ xs x,SqL K H a xs∧xs[i]? = some x,fun i H x H'=>H' = H∧∀ xs,SqL K H a xs→xs[i]? = some x,fun i H=>∃ xs,SqL K H a xs∧xs.length≤i⟩
def Itt (K:PySem.W.Frag) (a:Addr):It :=
 ⟨fun i H=>∃ xs x,SqT K H a xs∧xs[i]? = some x,fun i H x H'=>H' = H∧∀ xs,SqT K H a xs→xs[i]? = some x,fun i H=>∃ xs,SqT K H a xs∧xs.length≤i⟩
def Itr (lo:Int) (n:Nat):It:=⟨fun i _=>i < n,fun i H x H'=>H' = H∧x = .int (lo + i),fun i _=>n≤i⟩
theorem turn_list {P:Program} {w:World} {K:PySem.W.Frag} {tg:Expr} (a it:Addr):Turn P w K tg (Itl K a) [it] it (fun i h=>h.IsListIter it a i) where
 mem:=by simp
 obj:=fun i h st b hb=>by
  have e:b = it:=by simpa using hb
  subst e
  obtain⟨o,e,c,d⟩:=st
  exact⟨o,e,fun v z=>by rw [d] at z; cases z⟩
 keep:=fun i h h' st k=>st.at fun o e=>k it (by simp) o e
 item:=by
  intro X hP hw hK hc i pins s σ H E I hf st hg
  subst hP hw hK
  obtain⟨xs,x,hq,hx⟩:=hg
  obtain⟨its,rv,p,hz⟩:=I.list hq
  obtain⟨u,hu,ru⟩:=rv.get hx
  obtain⟨f0,f1,f2,f3,f4,f5⟩:=hf it (by simp)
  refine wpAny_pyNext_list_item st p.isList (x:=u) (by simpa using hu) fun h' st' sb=>?_
  have I1:Inv X pins σ H { s with heap:=h' }:=I.turned (t':=s.toks) (fun b o hb e=>(sb.2 b hb).trans e) f0 f1 f3 f4 f5
  obtain⟨o,e,c,d⟩:=id st'
  exact⟨u,rfl,go_of (s:={ s with heap:=h' }) e c d (by decide) ⟨x,H,I1,ru,⟨rfl,fun ys hy=>by rw [I.list_inj hy hq]; exact hx⟩,st',fun b hb=>(hf b hb).1⟩⟩
 done:=by
  intro X hP hw hK hc i pins s σ H E I hf st hg
  subst hP hw hK
  obtain⟨xs,hq,hx⟩:=hg
  obtain⟨its,rv,p,hz⟩:=I.list hq
  obtain⟨f0,f1,f2,f3,f4,f5⟩:=hf it (by simp)
  have hl:=rv.length
  exact wpAny_pyNext_list_end (I.ok.hd hc) st p.isList (by simp; omega) fun h' eb=>⟨rfl,I.turned (t':=s.toks) (fun b o hb e=>eb b o hb e) f0 f1 f3 f4 f5⟩
 self:=fun _ _ _ _ _ st h=>wpAny_pyIter_listiter st h
theorem turn_tuple {P:Program} {w:World} {K:PySem.W.Frag} {tg:Expr} (a it:Addr):Turn P w K tg (Itt K a) [it] it (fun i h=>h.IsTupleIter it a i) where
 mem:=by simp
 obj:=fun i h st b hb=>by
  have e:b = it:=by simpa using hb
  subst e
  obtain⟨o,e,c,d⟩:=st
  exact⟨o,e,fun v z=>by rw [d] at z; cases z⟩
 keep:=fun i h h' st k=>st.at fun o e=>k it (by simp) o e
 item:=by
  intro X hP hw hK hc i pins s σ H E I hf st hg
  subst hP hw hK
  obtain⟨xs,x,hq,hx⟩:=hg
  obtain⟨its,rv,p,hz⟩:=I.tuple hq
  obtain⟨u,hu,ru⟩:=rv.get hx
  obtain⟨f0,f1,f2,f3,f4,f5⟩:=hf it (by simp)
  refine wpAny_pyNext_tuple_item st (show s.heap.IsTuple a its.toArray from p) (x:=u) (by simpa using hu) fun h' st' sb=>?_
  have I1:Inv X pins σ H { s with heap:=h' }:=I.turned (t':=s.toks) (fun b o hb e=>(sb.2 b hb).trans e) f0 f1 f3 f4 f5
  obtain⟨o,e,c,d⟩:=id st'
  exact⟨u,rfl,go_of (s:={ s with heap:=h' }) e c d (by decide) ⟨x,H,I1,ru,⟨rfl,fun ys hy=>by rw [I.tuple_inj hy hq]; exact hx⟩,st',fun b hb=>(hf b hb).1⟩⟩
 done:=by
  intro X hP hw hK hc i pins s σ H E I hf st hg
  subst hP hw hK
  obtain⟨xs,hq,hx⟩:=hg
  obtain⟨its,rv,p,hz⟩:=I.tuple hq
  obtain⟨f0,f1,f2,f3,f4,f5⟩:=hf it (by simp)
  have hl:=rv.length
  exact wpAny_pyNext_tuple_end (I.ok.hd hc) st (show s.heap.IsTuple a its.toArray from p) (by simp; omega) fun h' eb=>⟨rfl,I.turned (t':=s.toks) (fun b o hb e=>eb b o hb e) f0 f1 f3 f4 f5⟩
 self:=fun _ _ _ _ _ st h=>wpAny_pyIter_tupleiter st h
theorem turn_range {P:Program} {w:World} {K:PySem.W.Frag} {tg:Expr} (it:Addr) (lo:Int) (n:Nat):Turn P w K tg (Itr lo n) [it] it (fun i h=>IsRangeIter h it (lo + (i:Nat) * 1) ((n:Int) - (i:Nat)) 1) where
 mem:=by simp
 obj:=fun i h st b hb=>by
  have e:b = it:=by simpa using hb
  subst e
  exact⟨_,st,fun v z=>by
   have z':Data.fields _ = Data.cell v:=z
   cases z'⟩
 keep:=fun i h h' st k=>k it (by simp) _ st
 item:=by
  intro X hP hw hK hc i pins s σ H E I hf st hg
  subst hP hw hK
  obtain⟨f0,f1,f2,f3,f4,f5⟩:=hf it (by simp)
  have W:=Walks.range (prog:=X.prog) (w:=X.w) (I.ok.hd hc) it lo 1 n
  refine W.item i s _ _ hg st fun v h' tk hv st' kk=>?_
  obtain⟨t,rfl⟩:=hv
  have I1:Inv X pins σ H { s with heap:=h',toks:=tk }:=I.turned (fun b o hb e=>kk b o (by simpa using hb) e) f0 f1 f3 f4 f5
  refine⟨_,rfl,go_of (s:={ s with heap:=h',toks:=tk }) (n:="range_iterator") st' rfl rfl (by decide) ⟨.int (lo + i),H,I1,⟨t,?_⟩,⟨rfl,rfl⟩,st',fun b hb=>(hf b hb).1⟩⟩
  rw [Int.mul_one]
 done:=by
  intro X hP hw hK hc i pins s σ H E I hf st hg
  subst hP hw hK
  obtain⟨f0,f1,f2,f3,f4,f5⟩:=hf it (by simp)
  exact wpAny_pyNext_range_end (I.ok.hd hc) st (by have:n≤i:=hg; omega) fun h' eb=>⟨rfl,I.turned (t':=s.toks) (fun b o hb e=>eb b o hb e) f0 f1 f3 f4 f5⟩
 self:=fun _ _ _ _ _ st h=>wpAny_pyIter_rangeiter st h
end L2
namespace L2
open PySem PySem.Spec PyProof.Rows
section
variable {X:Cx} {tg:Expr}
theorem range_it {pins:List (Addr × Obj)} {σ:St} {H:Hp} {s:Shared} {R:It→Hp→Prop} {E:Value→Shared→Prop} {lo hi:Int} {t u v:Tok} {tk:Nat} (I:Inv X pins σ H s) (h1:-(2 ^ 62)≤lo) (h2:lo < 2 ^ 62) (h3:-(2 ^ 62)≤hi) (h4:hi < 2 ^ 62)
  (q:R (Itr lo (hi - lo).toNat) H):wpAny (model X.prog X.w) X.A (pyIter (.ref s.heap.objs.size)) (PIE X pins σ tg R) E { s with heap:=s.heap.push { cls:=.type "range",data:=.fields #[.int lo t,.int hi u,.int 1 v] },toks:=tk }:=by
 refine wpAny_pyIter_range (IsRange.new ..) (small_one h1 h2 h3 h4) ?_
 have I1:Inv X pins σ H { s with heap:=s.heap.push { cls:=.type "range",data:=.fields #[.int lo t,.int hi u,.int 1 v] },toks:=tk }:=I.kept fun b o e=>Heap.get?_push_of_some _ e
 refine⟨(s.heap.push { cls:=.type "range",data:=.fields #[.int lo t,.int hi u,.int 1 v] }).objs.size,[(s.heap.push { cls:=.type "range",data:=.fields #[.int lo t,.int hi u,.int 1 v] }).objs.size],_,_,H,rfl,
  I1.kept (t':=tk) fun b o e=>Heap.get?_push_of_some _ e,turn_range _ lo (hi - lo).toNat,?_,fun b hb=>?_,q⟩
 ·have e1:lo + ((0:Nat):Int) * 1 = lo:=by simp
  have e2:(((hi - lo).toNat:Nat):Int) - ((0:Nat):Int) = Builtin.Range.rangeSize lo hi 1:=by rw [rangeSize_one]; split <;> omega
  show IsRangeIter _ _ (lo + ((0:Nat):Int) * 1) ((((hi - lo).toNat:Nat):Int) - ((0:Nat):Int)) 1
  rw [e1,e2]
  exact Heap.get?_push_size _ rfl
 ·have e:b = (s.heap.push { cls:=.type "range",data:=.fields #[.int lo t,.int hi u,.int 1 v] }).objs.size:=by simpa using hb
  subst e
  exact I1.fpOk (Nat.le_refl _) (I1.hok.fresh (Nat.le_refl _))
def tFor (wi:TI) (g:TG) (tb:TS):TS:=fun D σ H=>wi σ H fun J H1=>∃ W:Nat→Nat→St→Hp→Prop,(∃ m,W 0 m σ H1)∧∀ i m σ H,W i m σ H →
 (J.stop i H∧D.nx σ H)∨(J.go i H∧∃ N:St→Hp→Prop,(∀ σ' H',N σ' H'→∃ m',m' < m∧W (i + 1) m' σ' H')∧∀ x H',J.yld i H x H'→g x σ H' fun σ2 H2=>tb { D with nx:=N,ct:=N,bk:=D.nx } σ2 H2)
def pinsAt (fp:List Addr) (h:Heap):List (Addr × Obj):=fp.filterMap fun b=>(h.get? b).map fun o=>(b,o)
theorem mem_pinsAt {fp:List Addr} {h:Heap} {b:Addr} {o:Obj} (hb:b∈fp) (e:h.get? b = some o):(b,o)∈pinsAt fp h:=List.mem_filterMap.mpr ⟨b,hb,by rw [e]; rfl⟩
theorem of_pinsAt {fp:List Addr} {h:Heap} {p:Addr × Obj} (hp:p∈pinsAt fp h):p.1∈fp∧h.get? p.1 = some p.2:=by
 obtain⟨b,hb,e⟩:=List.mem_filterMap.mp hp
 cases q:h.get? b with
 | none=>rw [q] at e; cases e
 | some o =>
  rw [q] at e
  have e':(b,o) = p:=Option.some.inj e
  subst e'
  exact⟨hb,q⟩
theorem Inv.pinned {pins:List (Addr × Obj)} {σ:St} {H:Hp} {s:Shared} {fp:List Addr} (I:Inv X pins σ H s) (hf:∀ b∈fp,FpOk X pins H b) (ho:∀ b∈fp,∃ o,s.heap.get? b = some o∧∀ v,o.data≠.cell v):Inv X (pins ++ pinsAt fp s.heap) σ H s :=
 I.pins_of fun p hp=>(List.mem_append.mp hp).elim (fun z=>I.pin p (List.mem_append_right _ z)) fun z=>by
  obtain⟨hb,e⟩:=of_pinsAt z
  obtain⟨f0,f1,f2,_⟩:=hf p.1 hb
  obtain⟨o,e',d⟩:=ho p.1 hb
  rw [e] at e'; cases e'
  exact⟨e,f0,f1,f2,d⟩
theorem Inv.unpinned {pins pl:List (Addr × Obj)} {σ:St} {H:Hp} {s:Shared} (I:Inv X (pins ++ pl) σ H s):Inv X pins σ H s:=I.pins_of fun p hp=>I.pin p (List.mem_append_right _ (List.mem_append_left _ hp))
theorem ps_for {iter:Expr} {body:List Stmt} {wi:TI} {g:TG} {tb:TS} {pos:Pos} (hp:PassesOwn (model X.prog X.w) X.A X.env X.xe) (hc:X.calm = true) (hi:PI X tg iter wi) (hg:PG X tg g) (hb:PSs X body tb)
  (hs:∀ x,foldedSetIterable iter X.env x = pure x:=by intro _; rfl):PS X (.For tg iter body [] pos) (tFor wi g tb):=by
 intro pins s σ H D I h
 refine wpAny_For (thn (hi pins s σ H _ I h) fun v s1 h1=>thn h1 fun itv s2 h2=>?_) hs
 obtain⟨it,fp,tn,J,H2,e,I2,T,st2,f2,W,⟨m0,w0⟩,turn⟩:=h2
 subst e
 have stat:∀ {H':Hp},(∀ b∈fp,H' b = none)→∀ b∈fp,FpOk X pins H' b:=fun hn b hb=>⟨hn b hb,(f2 b hb).2⟩
 refine codeAny_forLoop_any (fun n s'=>∃ i σ' H',Inv X pins σ' H' s'∧tn i s'.heap∧(∀ b∈fp,H' b = none)∧W i n σ' H') ?_ m0 ⟨0,σ,H2,I2,st2,fun b hb=>(f2 b hb).1,w0⟩
 rintro n s3 ⟨i,σ3,H3,I3,st3,fr3,w3⟩
 rcases turn i n σ3 H3 w3 with ⟨stop,qn⟩ | ⟨go,N,hN,step⟩
 ·refine wpAny_passesOwn hp (thn (T.done X rfl rfl rfl hc i pins s3 σ3 H3 X.xe I3 (stat fr3) st3 stop) fun r s4 ⟨hr,I4⟩=>?_)
  subst hr
  exact wpAny_execs_nil ⟨σ3,H3,I4,qn⟩
 ·refine wpAny_passesOwn hp (thn (T.item X rfl rfl rfl hc i pins s3 σ3 H3 X.xe I3 (stat fr3) st3 go) fun r s4 ⟨u,hr,h4⟩=>?_)
  subst hr
  refine wpAny_passesOwn hp (thn h4 fun _ s5 ⟨x,H5,I5,r5,y5,st5,fr5⟩=>?_)
  have I5':=I5.pinned (stat fr5) (T.obj _ _ st5)
  refine wpAny_passesOwn hp (thn (hg _ s5 σ3 H5 x u _ I5' r5 (step x H5 y5)) fun _ s6 ⟨σ6,H6,I6,q6⟩=>?_)
  refine wpAny_passesOwn hp (thn (hb _ s6 σ6 H6 _ I6 q6) fun f s7 q7=>?_)
  have again:∀ {σ7:St} {H7:Hp},Inv X (pins ++ pinsAt fp s5.heap) σ7 H7 s7→N σ7 H7→∃ m,m < n∧∃ i σ' H',Inv X pins σ' H' s7∧tn i s7.heap∧(∀ b∈fp,H' b = none)∧W i m σ' H':=fun {σ7 H7} I7 n7=>by
   obtain⟨m',hm,w7⟩:=hN σ7 H7 n7
   refine⟨m',hm,i + 1,σ7,H7,I7.unpinned,T.keep _ _ _ st5 fun b hb o e=>(I7.pin (b,o) (List.mem_append_right _ (List.mem_append_right _ (mem_pinsAt hb e)))).1,fun b hb=>?_,w7⟩
   obtain⟨o,e,d⟩:=T.obj _ _ st5 b hb
   exact (I7.pin (b,o) (List.mem_append_right _ (List.mem_append_right _ (mem_pinsAt hb e)))).2.1
  cases f with
  | next=>obtain⟨σ7,H7,I7,n7⟩:=q7; exact again I7 n7
  | cont=>obtain⟨σ7,H7,I7,n7⟩:=q7; exact again I7 n7
  | brk=>obtain⟨σ7,H7,I7,q7⟩:=q7; exact⟨σ7,H7,I7.unpinned,q7⟩
  | ret v=>obtain⟨x7,σ7,H7,I7,r7,q7⟩:=q7; exact⟨x7,σ7,H7,I7.unpinned,r7,q7⟩
end
theorem for_list {K:PySem.W.Frag} {a:Addr} {xs:List V} {g:TG} {tb:TS} {D:Ends} {σ:St} {H:Hp} (Pv:Nat→St→Hp→Prop) (h0:Pv 0 σ H) (hl:∀ i σ H,i≤xs.length→Pv i σ H→SqL K H a xs)
  (hs:∀ i x σ H,xs[i]? = some x→Pv i σ H→g x σ H fun σ2 H2=>tb { D with nx:=Pv (i + 1),ct:=Pv (i + 1),bk:=D.nx } σ2 H2) (hd:∀ σ H,Pv xs.length σ H→D.nx σ H) :
  ∃ W:Nat→Nat→St→Hp→Prop,(∃ m,W 0 m σ H)∧∀ i m σ H,W i m σ H →
   ((Itl K a).stop i H∧D.nx σ H)∨((Itl K a).go i H∧∃ N:St→Hp→Prop,(∀ σ' H',N σ' H'→∃ m',m' < m∧W (i + 1) m' σ' H')∧∀ x H',(Itl K a).yld i H x H'→g x σ H' fun σ2 H2=>tb { D with nx:=N,ct:=N,bk:=D.nx } σ2 H2):=by
 refine⟨fun i m σ H=>m = xs.length - i∧i≤xs.length∧Pv i σ H,⟨xs.length,by simp,Nat.zero_le _,h0⟩,?_⟩
 rintro i m σ H ⟨rfl,hi,p⟩
 have q:=hl i σ H hi p
 by_cases hlt:i < xs.length
 ·refine .inr ⟨⟨xs,xs[i],q,by simp [hlt]⟩,Pv (i + 1),fun σ' H' p'=>⟨xs.length - (i + 1),by omega,rfl,hlt,p'⟩,fun x H' y=>?_⟩
  obtain⟨e,y⟩:=y
  subst e
  exact hs i x σ _ (y xs q) p
 ·have e:i = xs.length:=by omega
  subst e
  exact .inl ⟨⟨xs,q,Nat.le_refl _⟩,hd σ H p⟩
theorem for_range {lo:Int} {n:Nat} {g:TG} {tb:TS} {D:Ends} {σ:St} {H:Hp} (Pv:Nat→St→Hp→Prop) (h0:Pv 0 σ H)
  (hs:∀ i σ H,i < n→Pv i σ H→g (.int (lo + i)) σ H fun σ2 H2=>tb { D with nx:=Pv (i + 1),ct:=Pv (i + 1),bk:=D.nx } σ2 H2) (hd:∀ σ H,Pv n σ H→D.nx σ H) :
  ∃ W:Nat→Nat→St→Hp→Prop,(∃ m,W 0 m σ H)∧∀ i m σ H,W i m σ H →
   ((Itr lo n).stop i H∧D.nx σ H)∨((Itr lo n).go i H∧∃ N:St→Hp→Prop,(∀ σ' H',N σ' H'→∃ m',m' < m∧W (i + 1) m' σ' H')∧∀ x H',(Itr lo n).yld i H x H'→g x σ H' fun σ2 H2=>tb { D with nx:=N,ct:=N,bk:=D.nx } σ2 H2):=by
 refine⟨fun i m σ H=>m = n - i∧i≤n∧Pv i σ H,⟨n,by simp,Nat.zero_le _,h0⟩,?_⟩
 rintro i m σ H ⟨rfl,hi,p⟩
 by_cases hlt:i < n
 ·refine .inr ⟨hlt,Pv (i + 1),fun σ' H' p'=>⟨n - (i + 1),by omega,rfl,hlt,p'⟩,fun x H' y=>?_⟩
  obtain⟨e,y⟩:=y
  subst e y
  exact hs i σ _ hlt p
 ·have e:i = n:=by omega
  subst e
  exact .inl ⟨Nat.le_refl _,hd σ H p⟩
end L2
namespace L2
open PySem PySem.Spec PyProof.Rows
abbrev R2:=V→V→Hp→VK→Prop
def OpR (X:Cx) (f:Value→Value→Sem Value) (r:R2):Prop :=
 ∀ (pins:List (Addr × Obj)) (s:Shared) (σ:St) (H:Hp) (x y:V) (v u:Value) (Q:VK),Inv X pins σ H s→RelV x v→RelV y u→r x y H Q →
  wpAny (model X.prog X.w) X.A (f v u) (EP X pins σ Q) X.xe s
def UnR (X:Cx) (f:Value→Sem Value) (r:V→Hp→VK→Prop):Prop :=
 ∀ (pins:List (Addr × Obj)) (s:Shared) (σ:St) (H:Hp) (x:V) (v:Value) (Q:VK),Inv X pins σ H s→RelV x v→r x H Q →
  wpAny (model X.prog X.w) X.A (f v) (EP X pins σ Q) X.xe s
def CallR (X:Cx) (f:Value) (r:List V→Hp→VK→Prop):Prop :=
 ∀ (pins:List (Addr × Obj)) (s:Shared) (σ:St) (H:Hp) (xs:List V) (us:List Value) (Q:VK),Inv X pins σ H s→Vals xs us→r xs H Q →
  wpAny (model X.prog X.w) X.A (call f us) (EP X pins σ Q) X.xe s
def tOp (r:R2) (ta tb:TE):TE:=fun σ H Q=>ta σ H fun x H1=>tb σ H1 fun y H2=>r x y H2 Q
def tUn (r:V→Hp→VK→Prop) (ta:TE):TE:=fun σ H Q=>ta σ H fun x H1=>r x H1 Q
def rI (C:Int→Int→Prop) (g:Int→Int→V):R2:=fun x y H Q=>∃ i j,x = .int i∧y = .int j∧C i j∧Q (g i j) H
def rI0 (g:Int→Int→V):R2:=fun x y H Q=>∃ i j,x = .int i∧y = .int j∧Q (g i j) H
def rU (g:Int→V):V→Hp→VK→Prop:=fun x H Q=>∃ i,x = .int i∧Q (g i) H
section
variable {X:Cx} {a b c:Expr} {ta tb tc:TE} {pos:Pos}
theorem binT (ha:PE X a ta) (hb:PE X b tb) {pins:List (Addr × Obj)} {s:Shared} {σ:St} {H:Hp} {R:V→V→Hp→Prop} (I:Inv X pins σ H s)
  (h:ta σ H fun x H1=>tb σ H1 fun y H2=>R x y H2) {Q:Value→Shared→Prop} {f:Value→Value→Sem Value}
  (hf:∀ v u s2 x y H2,Inv X pins σ H2 s2→RelV x v→RelV y u→R x y H2→wpAny (model X.prog X.w) X.A (f v u) Q X.xe s2) :
  wpAny (model X.prog X.w) X.A (eval a X.env) (fun v s₁=>wpAny (model X.prog X.w) X.A (eval b X.env) (fun u s₂=>wpAny (model X.prog X.w) X.A (f v u) Q X.xe s₂) X.xe s₁) X.xe s:=by
 refine thn (ha pins s σ H _ I h) fun v s1 ⟨x,H1,I1,r1,q1⟩=>?_
 refine thn (hb pins s1 σ H1 _ I1 q1) fun u s2 ⟨y,H2,I2,r2,q2⟩=>?_
 exact hf v u s2 x y H2 I2 r1 r2 q2
theorem pe_op {op:Operator} {r:R2} (ho:OpR X (binaryOp op) r) (ha:PE X a ta) (hb:PE X b tb):PE X (.BinOp a op b pos) (tOp r ta tb):=by
 intro pins s σ H Q I h
 exact wpAny_BinOp (binT ha hb I h fun v u s2 x y H2 I2 rx ry q=>ho pins s2 σ H2 x y v u Q I2 rx ry q)
theorem pe_un {op:UnaryOp} {r:V→Hp→VK→Prop} (ho:UnR X (unaryOp op) r) (ha:PE X a ta):PE X (.UnaryOp op a pos) (tUn r ta):=by
 intro pins s σ H Q I h
 exact UnaryOp_ (thn (ha pins s σ H _ I h) fun v s1 ⟨x,H1,I1,r1,q1⟩=>ho pins s1 σ H1 x v Q I1 r1 q1)
theorem opI {f:Value→Value→Sem Value} {C:Int→Int→Prop} {g:Int→Int→Int}
  (rule:∀ (i j:Int) (t u:Tok) (s:Shared) (Q:Value→Shared→Prop) (E:Value→Shared→Prop),C i j→Q (.int (g i j) s.toks) { s with toks:=s.toks + 1 }→wpAny (model X.prog X.w) X.A (f (.int i t) (.int j u)) Q E s) :
  OpR X f (rI C fun i j=>.int (g i j)):=by
 intro pins s σ H x y v u Q I rx ry h
 obtain⟨i,j,rfl,rfl,hc,q⟩:=h
 obtain⟨t,rfl⟩:=rx
 obtain⟨t',rfl⟩:=ry
 exact rule i j t t' s _ _ hc ⟨.int (g i j),H,I.tok _,⟨_,rfl⟩,q⟩
theorem opI0 {f:Value→Value→Sem Value} {g:Int→Int→Int}
  (rule:∀ (i j:Int) (t u:Tok) (s:Shared) (Q:Value→Shared→Prop) (E:Value→Shared→Prop),Q (.int (g i j) s.toks) { s with toks:=s.toks + 1 }→wpAny (model X.prog X.w) X.A (f (.int i t) (.int j u)) Q E s) :
  OpR X f (rI0 fun i j=>.int (g i j)):=by
 intro pins s σ H x y v u Q I rx ry h
 obtain⟨i,j,rfl,rfl,q⟩:=h
 obtain⟨t,rfl⟩:=rx
 obtain⟨t',rfl⟩:=ry
 exact rule i j t t' s _ _ ⟨.int (g i j),H,I.tok _,⟨_,rfl⟩,q⟩
theorem opB0 {f:Value→Value→Sem Value} {g:Int→Int→Bool}
  (rule:∀ (i j:Int) (t u:Tok) (s:Shared) (Q:Value→Shared→Prop) (E:Value→Shared→Prop),Q (.bool (g i j)) s→wpAny (model X.prog X.w) X.A (f (.int i t) (.int j u)) Q E s) :
  OpR X f (rI0 fun i j=>.bl (g i j)):=by
 intro pins s σ H x y v u Q I rx ry h
 obtain⟨i,j,rfl,rfl,q⟩:=h
 obtain⟨t,rfl⟩:=rx
 obtain⟨t',rfl⟩:=ry
 exact rule i j t t' s _ _ ⟨.bl (g i j),H,I,rfl,q⟩
def CPow (i j:Int):Prop:=0≤j∧j≤1000000∧i.natAbs < 2 ^ 64
def CMul (i j:Int):Prop:=(-(2 ^ 64) < i∧i < 2 ^ 64)∨(-(2 ^ 64) < j∧j < 2 ^ 64)
theorem CMul.ok {i j:Int} (h:CMul i j):IntMulOk i j:=by
 rcases h with ⟨h1,h2⟩ | ⟨h1,h2⟩
 ·exact .of_left (intBits_le_64 h1 h2)
 ·exact .of_right (intBits_le_64 h1 h2)
theorem op_add:OpR X (binaryOp .Add) (rI0 fun i j=>.int (i + j)):=opI0 fun _ _ _ _ _ _ _ q=>add_int q
theorem op_sub:OpR X (binaryOp .Sub) (rI0 fun i j=>.int (i - j)):=opI0 fun _ _ _ _ _ _ _ q=>sub_int q
theorem op_mul:OpR X (binaryOp .Mult) (rI CMul fun i j=>.int (i * j)):=opI fun _ _ _ _ _ _ _ hc q=>mul_int q hc.ok
theorem op_mod:OpR X (binaryOp .Mod) (rI (fun _ j=>0 < j) fun i j=>.int (i % j)):=opI fun i j _ _ _ _ _ hc q=>by
 have h1:(0:Int) < j:=hc
 exact mod_int' (by omega) (by rw [Int.fmod_eq_emod_of_nonneg i (by omega)]; exact q)
theorem op_pow:OpR X (binaryOp .Pow) (rI CPow fun i j=>.int (i ^ j.toNat)):=opI fun _ _ _ _ _ _ _ hc q=>pow_int_small hc.1 hc.2.1 hc.2.2 q
theorem unI {f:Value→Sem Value} {g:Int→Int}
  (rule:∀ (i:Int) (t:Tok) (s:Shared) (Q:Value→Shared→Prop) (E:Value→Shared→Prop),Q (.int (g i) s.toks) { s with toks:=s.toks + 1 }→wpAny (model X.prog X.w) X.A (f (.int i t)) Q E s) :
  UnR X f (rU fun i=>.int (g i)):=by
 intro pins s σ H x v Q I rx h
 obtain⟨i,rfl,q⟩:=h
 obtain⟨t,rfl⟩:=rx
 exact rule i t s _ _ ⟨.int (g i),H,I.tok _,⟨_,rfl⟩,q⟩
theorem un_neg:UnR X (unaryOp .USub) (rU fun i=>.int (-i)):=unI fun _ _ _ _ _ q=>neg_int q
end
section
variable {X:Cx} {a b c:Expr} {ta tb tc:TE} {pos:Pos}
theorem fin_bl {pins:List (Addr × Obj)} {σ:St} {H:Hp} {s:Shared} {Q:VK} {k k':Bool} (I:Inv X pins σ H s) (q:Q (.bl k) H) (e:k = k'):EP X pins σ Q (.bool k') s:=by
 subst e
 exact⟨.bl k,H,I,rfl,q⟩
theorem op_lt:OpR X (compareOp .Lt) (rI0 fun i j=>.bl (decide (i < j))):=opB0 fun _ _ _ _ _ _ _ q=>lt_int q
theorem op_le:OpR X (compareOp .LtE) (rI0 fun i j=>.bl (decide (i≤j))):=opB0 fun _ _ _ _ _ _ _ q=>le_int q
theorem op_gt:OpR X (compareOp .Gt) (rI0 fun i j=>.bl (decide (j < i))):=opB0 fun _ _ _ _ _ _ _ q=>gt_int q
theorem op_ge:OpR X (compareOp .GtE) (rI0 fun i j=>.bl (decide (j≤i))):=opB0 fun _ _ _ _ _ _ _ q=>ge_int q
theorem op_isN:OpR X (compareOp .Is) (fun x y H Q=>y = .non∧Q (.bl (decide (x = .non))) H):=by
 intro pins s σ H x y v u Q I rx ry h
 obtain⟨rfl,q⟩:=h
 cases ry
 refine is_none_gen (fin_bl I q ?_)
 cases x <;> first
  | (cases rx; rfl)
  | (obtain⟨t,rfl⟩:=rx; rfl)
theorem op_notN:OpR X (compareOp .IsNot) (fun x y H Q=>y = .non∧Q (.bl (!decide (x = .non))) H):=by
 intro pins s σ H x y v u Q I rx ry h
 obtain⟨rfl,q⟩:=h
 cases ry
 refine isnot_none_gen (fin_bl I q ?_)
 cases x <;> first
  | (cases rx; rfl)
  | (obtain⟨t,rfl⟩:=rx; rfl)
theorem nomark (b:Expr) {op:CmpOp} (h:op≠.In:=by decide) (h2:op≠.NotIn:=by decide):behindInMarks op b = false:=by
 have e1:(op == CmpOp.In) = false:=by cases op <;> first | rfl | exact absurd rfl h
 have e2:(op == CmpOp.NotIn) = false:=by cases op <;> first | rfl | exact absurd rfl h2
 cases b <;> simp [behindInMarks,e1,e2]
theorem pe_cmpR {op:CmpOp} {r:R2} (ho:OpR X (compareOp op) r) (ha:PE X a ta) (hb:PE X b tb) (hm:behindInMarks op b = false):PE X (.Compare a [op] [b] pos) (tOp r ta tb):=by
 intro pins s σ H Q I h
 exact wpAny_Compare1 (binT ha hb I h fun v u s2 x y H2 I2 rx ry q=>ho pins s2 σ H2 x y v u Q I2 rx ry q) hm
theorem line63:(sizeLine:Nat) < 2 ^ 63:=by rw [sizeLine_eq]; decide
theorem vals1 {x:V} {us:List Value} (r:Vals [x] us):∃ u,us = [u]∧RelV x u:=by
 cases r with
 | cons r1 r2=>cases r2; exact⟨_,rfl,r1⟩
end
end L2
namespace L2
open PySem PySem.Spec PyProof.Rows
section
variable {prog:Program} {w:World} {A:Around} {E:Value→Shared→Prop} {s:Shared} {K:PySem.W.Frag} {x dx C f:Addr} {mA:Str→Option Value} {name:Str} {v:Value}
end
theorem RelO.some_of {v:V} {o:Option Value} (r:RelO (some v) o):∃ u,o = some u∧RelV v u:=by
 cases o with
 | none=>exact (show False from r).elim
 | some u=>exact⟨u,rfl,r⟩
section
variable {P:Program} {w:World} {H H':Hp} {h h':Heap} {a C dx:Addr} {fs fs':List (Str × V)}
end
section
variable {X:Cx} {pins:List (Addr × Obj)} {σ:St} {H:Hp} {s:Shared} {a C dx:Addr} {fs:List (Str × V)} {f:Str} {v:V} {A:Around} {E:Value→Shared→Prop}
end
section
variable {X:Cx} {o e value:Expr} {f:Str} {pos pos' tpos:Pos} {ta tv:TE}
end
section
variable {X:Cx} {pins:List (Addr × Obj)} {σ:St} {H:Hp} {s:Shared} {A:Around} {E:Value→Shared→Prop} {Q:Value→Shared→Prop} {c:Value} {b:Bool}
end
end L2
namespace L2
open PySem PySem.Spec PyProof.Rows
structure Room (k:Nat) (A:Around):Prop where
 hd:A.handled = none
 dp:A.depth + 3 * k + 5 < recursionLimit
 un:A.units + 16 * k + 200 < cLine
theorem Room.mono {j k:Nat} {A:Around} (r:Room k A) (h:j≤k):Room j A:=⟨r.hd,by have:=r.dp; omega,by have:=r.un; omega⟩
theorem Room.deeper {k:Nat} {A:Around} (r:Room (k + 1) A) (env:Env):Room k (A.deeper env) :=
 ⟨r.hd,by have:=r.dp; show A.depth + 1 + 3 * k + 5 < _; omega,by have:=r.un; show A.units + 3 + 16 * k + 200 < _; omega⟩
theorem Room.depth {k:Nat} {A:Around} (r:Room k A):A.depth < recursionLimit:=by have:=r.dp; omega
theorem Room.units {k:Nat} {A:Around} (r:Room k A):A.units + 64 < cLine:=by have:=r.un; omega
def tNil:TA:=fun _ H Q=>Q [] H
def tCons (ta:TE) (tr:TA):TA:=fun σ H Q=>ta σ H fun x H1=>tr σ H1 fun xs H2=>Q (x :: xs) H2
section
variable {X:Cx} {e:Expr} {es:List Expr} {te:TE} {t:TA} {pos:Pos}
theorem pa_nil:PA X [] tNil:=fun _ _ _ _ H Q I h=>Calls.spliced_nil ⟨[],H,I,.nil,h⟩
theorem pa_cons (ha:PE X e te) (hr:PA X es t) (hs:starEach (e :: es) X.env = (false,eval e X.env) :: starEach es X.env:=by rfl):PA X (e :: es) (tCons te t):=by
 intro pos pins s σ H Q I h
 rw [hs]
 show wpAny _ _ (spliced ((false,eval e X.env) :: backTo pos (starEach es X.env))) _ _ s
 refine Calls.spliced_cons (thn (ha pins s σ H _ I h) fun u s1 ⟨x,H1,I1,r1,q1⟩=>?_)
 exact thn (hr pos pins s1 σ H1 _ I1 q1) fun us s2 ⟨xs,H2,I2,r2,q2⟩=>⟨x :: xs,H2,I2,.cons r1 r2,q2⟩
def tTup (t:TA):TE:=fun σ H Q=>t σ H fun xs H1=>xs.length≤sizeLine∧∀ p,H1 p = none→Q (.ref p) (upd H1 p (.tup xs))
def tLst (t:TA):TE:=fun σ H Q=>t σ H fun xs H1=>xs.length≤sizeLine∧∀ p,H1 p = none→Q (.ref p) (upd H1 p (.lst xs))
theorem pe_tup {x1} (h:PA X es t):PE X (.Tuple es x1 pos) (tTup t):=by
 intro pins s σ H Q I hq
 refine wpAny_Tuple_spliced (thn (h pos pins s σ H _ I hq) fun us s1 ⟨xs,H1,I1,r,z,q⟩=>⟨by rw [← r.length]; exact z,?_⟩)
 have hf:H1 s1.heap.objs.size = none:=I1.hok.fresh (Nat.le_refl _)
 refine⟨.ref s1.heap.objs.size,upd H1 s1.heap.objs.size (.tup xs),I1.laid (t':=s1.toks) (fun b u e=>Heap.get?_push_of_some _ e) (Nat.le_refl _) ?_,rfl,q _ hf⟩
 exact⟨z,us,r,.of (Heap.get?_push_size _ rfl)⟩
theorem pe_lst (h:PA X es t):PE X (.List es pos) (tLst t):=by
 intro pins s σ H Q I hq
 refine wpAny_List_spliced (thn (h pos pins s σ H _ I hq) fun us s1 ⟨xs,H1,I1,r,z,q⟩=>⟨by rw [← r.length]; exact z,?_⟩)
 have hf:H1 s1.heap.objs.size = none:=I1.hok.fresh (Nat.le_refl _)
 refine⟨.ref s1.heap.objs.size,upd H1 s1.heap.objs.size (.lst xs),I1.laid (t':=s1.toks) (fun b u e=>Heap.get?_push_of_some _ e) (Nat.le_refl _) ?_,rfl,q _ hf⟩
 exact⟨z,us,0,r,Heap.get?_push_size _ rfl⟩
end
abbrev Sp:=List V→Hp→VK→XK→Prop
abbrev CXT:=List Env→Hp→Shared→XK→Value→Shared→Prop
structure Env0 (P:Program) (w:World) (K:PySem.W.Frag) (mg:Str→Option Value) (base:Heap) (A:Around) (outer:List Env) (s:Shared) (H:Hp):Prop where
 frames:A.frames = some outer
 mod:Mod K mg base
 bs:∀ b o,base.get? b = some o→s.heap.get? b = some o∧H b = none
 bsz:base.objs.size≤s.heap.objs.size
 funs:s.heap.FunFrames base outer
 frf:∀ b∈frs outer,H b = none
 hok:HOk P w H s.heap
 bare:AllBare s.gens
def CE (outer:List Env) (P:Program) (w:World) (H:Hp) (s:Shared) (Q:VK) (u:Value) (s':Shared):Prop :=
 ∃ v H',s'.os = s.os∧AllBare s'.gens∧Un (frs outer) [] H H' s.heap s'.heap∧HOk P w H' s'.heap∧RelV v u∧Q v H'
def CR (CX:CXT) (outer:List Env) (P:Program) (w:World) (H:Hp) (s:Shared) (Q:VK) (E:XK) (r:Result) (s':Shared):Prop :=
 match r with
 | .ok (.ret u)=>CE outer P w H s Q u s'
 | .ok _=>False
 | .error e=>CX outer H s E e s'
structure FnOk (P:Program) (w:World) (K:PySem.W.Frag) (mg:Str→Option Value) (base:Heap) (CX:CXT) (k:Nat) (f:Addr) (fd:FuncData) (ps:List Str) (sp:Sp):Prop where
 len:∀ vs H Q E,sp vs H Q E→vs.length = ps.length
 run:∀ (A:Around) (outer:List Env) (s:Shared) (H:Hp) (args:Args) (us:List Value) (vs:List V) (Q:VK) (E:XK),Room k A→Env0 P w K mg base A outer s H→BindsTo s fd args (ps.zip us)→Vals vs us→sp vs H Q E →
  codeAny (model P w) A (.call (.ref f) args) (CR CX outer P w H s Q E) s
section
variable {X:Cx} {pins:List (Addr × Obj)} {σ:St} {H:Hp} {s s':Shared}
theorem Inv.env0 (I:Inv X pins σ H s):Env0 X.prog X.w X.K X.mg X.base X.A X.stack s H :=
 ⟨I.ok.frames,I.ok.mod,I.bs,Nat.le_trans I.ok.bsz I.sz,I.stack,I.stkFree,I.hok,I.bare⟩
theorem Inv.after {Q:VK} {u:Value} (I:Inv X pins σ H s) (h:CE X.stack X.prog X.w H s Q u s'):EP X pins σ Q u s':=by
 obtain⟨v,H',os,bare,un,hok,r,q⟩:=h
 obtain⟨hh,g,d,t,os'⟩:=s'
 obtain rfl:os' = s.os:=os
 exact⟨v,H',I.call (h':=hh) (g':=g) (d':=d) (t':=t) (ch:=[]) un hok bare (fun b z=>absurd z (by simp)),r,q⟩
end
def tCall (sp:Sp) (dvs:List V) (E:XK) (t:TA):TE:=fun σ H Q=>t σ H fun vs H1=>sp (vs ++ dvs) H1 Q E
def Binds (K:PySem.W.Frag) (fd:FuncData) (ps:List Str) (ds:List Value):Prop :=
 ∀ (s:Shared) (us:List Value),K.In s.heap→(us ++ ds).length = ps.length→BindsTo s fd ⟨us,[]⟩ (ps.zip (us ++ ds))
theorem Binds.all {K:PySem.W.Frag} {fd:FuncData} {ps:List Str} (h:∀ us:List Value,us.length = ps.length→bindArgs fd ⟨us,[]⟩ = pure (ps.zip us)):Binds K fd ps []:=fun s us _ hl=>by
 rw [List.append_nil] at hl ⊢
 exact .of_eq (h us hl)
def Passes (CX:CXT) (X:Cx) (E:XK):Prop:=∀ (pins:List (Addr × Obj)) (σ:St) (H:Hp) (s:Shared) (e:Value) (s':Shared),Inv X pins σ H s→CX X.stack H s E e s'→X.xe e s'
section
variable {X:Cx} {CX:CXT} {k:Nat} {f C:Addr} {fd:FuncData} {ps:List Str} {sp:Sp} {dvs:List V} {ds:List Value} {E:XK} {x m:Str} {p pos apos:Pos} {e o:Expr} {es:List Expr} {ta:TE} {t:TA}
theorem run_fn {pins:List (Addr × Obj)} {σ:St} {H:Hp} {s:Shared} {Q:VK} {us:List Value} {vs:List V} (F:FnOk X.prog X.w X.K X.mg X.base CX k f fd ps sp) (hr:Room k X.A) (hb:Binds X.K fd ps ds) (hd:Vals dvs ds) (hx:Passes CX X E)
  (I:Inv X pins σ H s) (r:Vals vs us) (h:sp (vs ++ dvs) H Q E):wpAny (model X.prog X.w) X.A (call (.ref f) us) (EP X pins σ Q) X.xe s:=by
 have r2:Vals (vs ++ dvs) (us ++ ds):=r.append hd
 have hl:(us ++ ds).length = ps.length:=by rw [← r2.length]; exact F.len _ _ _ _ h
 refine wpAny_call (codeAny_mono (F.run X.A X.stack s H ⟨us,[]⟩ (us ++ ds) (vs ++ dvs) Q E hr I.env0 (hb s us I.kIn hl) r2 h) fun r s' hq=>?_)
 cases r with
 | error e=>exact hx pins σ H s e s' I hq
 | ok fl =>
  cases fl with
  | ret u=>exact I.after hq
  | next=>exact False.elim hq
  | brk=>exact False.elim hq
  | cont=>exact False.elim hq
theorem pe_call (F:FnOk X.prog X.w X.K X.mg X.base CX k f fd ps sp) (hr:Room k X.A) (hg:Gl X x) (hm:X.mg x = some (.ref f)) (hk:PySem.W.keepIn X.K (.ref f) = true) (hb:Binds X.K fd ps ds) (hd:Vals dvs ds) (hx:Passes CX X E)
  (ha:PA X (e :: es) t) (hdb:(x == ("__debug__":Str)) = false:=by decide) (he:starEach (e :: es) X.env = (false,eval e X.env) :: starEach es X.env:=by rfl) (hpl:(backTo pos (starEach es X.env)).any (·.1) = false:=by rfl) :
  PE X (.Call (.Name x p) (e :: es) [] pos) (tCall sp dvs E t):=by
 intro pins s σ H Q I h
 refine wpAny_Call_Name_kw (ld_glob I hg hm ?_ hdb)
 refine PySem.W.callWith_K (h₀:=X.base) I.ok.mod.kin hk (thn (ha pos pins s σ H _ I h) fun us s1 ⟨vs,H1,I1,r,q⟩=>⟨I1.kIn,?_⟩) he hpl
 exact run_fn F hr hb hd hx I1 r q
end
section
variable {X:Cx} {CX:CXT} {k:Nat} {f C:Addr} {fd:FuncData} {ps ks:List Str} {sp:Sp} {E:XK} {x m:Str} {p pos apos kpos:Pos} {e o:Expr} {es:List Expr} {kws:List Keyword} {te ta:TE} {t tk:TA} {nm:Option Str}
variable {g:List Value→List Value→List Value} {gV:List V→List V→List V}
end
structure FnScope (N P:List Str) (sc:Scope):Prop where
 kind:sc.kind = .function
 co:sc.isCoroutine = false
 gen:sc.isGenerator = false
 nd:N.Nodup
 pre:N.take P.length = P
 par:∀ x∈P,sc.names.lookup x = some .local∨sc.names.lookup x = some .cell
 nofree:∀ y∈sc.names,y.2≠.free
theorem bindL_out {kindOf:Str→Option NameKind} {x:Str}:∀ {binds:List (Str × Value)} {m:Str→Option Value},(∀ v,(x,v) ∉ binds)→bindL kindOf binds m x = m x
 | [],_,_=>rfl
 | (n,v) :: r,m,h=>by
  unfold bindL
  rw [bindL_out fun w hw=>h w (List.mem_cons_of_mem _ hw)]
  split
  ·have:x≠n:=by rintro rfl; exact h v List.mem_cons_self
   simp [this]
  ·rfl
theorem bindC_out {kindOf:Str→Option NameKind} {x:Str}:∀ {binds:List (Str × Value)} {m:Str→Option Value},(∀ v,(x,v) ∉ binds)→bindC kindOf binds m x = m x
 | [],_,_=>rfl
 | (n,v) :: r,m,h=>by
  unfold bindC
  rw [bindC_out fun w hw=>h w (List.mem_cons_of_mem _ hw)]
  split
  ·rfl
  ·have:x≠n:=by rintro rfl; exact h v List.mem_cons_self
   simp [this]
theorem bindL_get {kindOf:Str→Option NameKind} {x:Str} {v:Value}:∀ {P:List Str} {vs:List Value} {i:Nat} {m:Str→Option Value},P.Nodup→P[i]? = some x→vs[i]? = some v→kindOf x = some .local →
  bindL kindOf (P.zip vs) m x = some v
 | [],_,_,_,_,h,_,_=>by simp at h
 | _ :: _,[],_,_,_,_,h,_=>by simp at h
 | p :: P,w :: vs,0,m,nd,h1,h2,hk=>by
  simp at h1 h2; subst h1; subst h2
  show bindL kindOf ((p,w) :: P.zip vs) m p = _
  unfold bindL
  rw [bindL_out fun v hv=>(List.nodup_cons.mp nd).1 (List.of_mem_zip hv).1,if_pos hk]
  simp
 | p :: P,w :: vs,i + 1,m,nd,h1,h2,hk=>by
  show bindL kindOf ((p,w) :: P.zip vs) m x = _
  unfold bindL
  exact bindL_get (i:=i) (List.nodup_cons.mp nd).2 (by simpa using h1) (by simpa using h2) hk
theorem bindC_get {kindOf:Str→Option NameKind} {x:Str} {v:Value}:∀ {P:List Str} {vs:List Value} {i:Nat} {m:Str→Option Value},P.Nodup→P[i]? = some x→vs[i]? = some v→kindOf x≠some .local →
  bindC kindOf (P.zip vs) m x = some v
 | [],_,_,_,_,h,_,_=>by simp at h
 | _ :: _,[],_,_,_,_,h,_=>by simp at h
 | p :: P,w :: vs,0,m,nd,h1,h2,hk=>by
  simp at h1 h2; subst h1; subst h2
  show bindC kindOf ((p,w) :: P.zip vs) m p = _
  unfold bindC
  rw [bindC_out fun v hv=>(List.nodup_cons.mp nd).1 (List.of_mem_zip hv).1,if_neg hk]
  simp
 | p :: P,w :: vs,i + 1,m,nd,h1,h2,hk=>by
  show bindC kindOf ((p,w) :: P.zip vs) m x = _
  unfold bindC
  exact bindC_get (i:=i) (List.nodup_cons.mp nd).2 (by simpa using h1) (by simpa using h2) hk
def start (N:List Str) (vs:List V):St:=vs.map some ++ List.replicate (N.length - vs.length) none
def cxOf (CX:CXT) (P:Program) (w:World) (K:PySem.W.Frag) (mg:Str→Option Value) (base:Heap) (N:List Str) (qual:Str) (scope:Scope) (f:Addr) (cd:Value) (A:Around) (outer:List Env) (s:Shared) (H:Hp) (E:XK):Cx where
 prog:=P
 w:=w
 K:=K
 mg:=mg
 base:=base
 A:=A.deeper (envOfC qual scope s.heap.objs.size f cd)
 N:=N
 s₀:=s
 H₀:=H
 env:=envOfC qual scope s.heap.objs.size f cd
 outer:=outer
 stack:=envOfC qual scope s.heap.objs.size f cd :: outer
 ex:=[]
 calm:=true
 fn:=fun _=>true
 pn:=[]
 xe:=fun e s'=>wpAny (model P w) (A.deeper (envOfC qual scope s.heap.objs.size f cd)) (leaving (envOfC qual scope s.heap.objs.size f cd) e) (fun _ s''=>CX outer H s E e s'') (fun e' s''=>CX outer H s E e' s'') s'
theorem cell_has {sc:Scope} {n:Nat} {x:Str} (h:sc.names.lookup x = some .cell):∃ c,(cellsFrom n sc.names []).lookup x = some c:=by
 have q:=PySem.W.cellsFrom_some sc.names n [] (.inl h)
 exact Option.isSome_iff_exists.mp q
theorem inv_start {CX:CXT} {P:Program} {w:World} {K:PySem.W.Frag} {mg:Str→Option Value} {base:Heap} {N ps:List Str} {qual:Str} {scope:Scope} {f:Addr} {cd:Value} {A:Around} {outer:List Env} {s s1:Shared} {H:Hp} {E:XK} {us:List Value} {vs:List V}
  (S:FnScope N ps scope) (hd:A.handled = none) (e0:Env0 P w K mg base A outer s H) (hl:vs.length = ps.length) (r:Vals vs us)
  (x:InCallC s s.heap.objs.size (bindL (envOfC qual scope s.heap.objs.size f cd).kindOf (ps.zip us) fun _=>none) (cellsFrom (s.heap.objs.size + 1) scope.names []) (bindC (envOfC qual scope s.heap.objs.size f cd).kindOf (ps.zip us) fun _=>none) s1) :
  Inv (cxOf CX P w K mg base N qual scope f cd A outer s H E) [] (start N vs) H s1:=by
 have hpl:ps.length≤N.length:=by have:=congrArg List.length S.pre; rw [List.length_take] at this; omega
 obtain⟨h1,tk,rfl,hk⟩:=x.done
 have noA:∀ b:Addr,b ∉ (cxOf CX P w K mg base N qual scope f cd A outer s H E).ex:=fun b z=>absurd (show b∈([]:List Addr) from z) (by simp)
 refine⟨⟨e0.mod,S.kind,rfl,rfl,Nat.le_refl _,fun y z c h1 h2=>?_,fun y hy=>?_,fun y c _ h=>?_,fun _=>hd,Around.frames_deeper e0.frames,.inr ⟨rfl,rfl⟩,fun b z=>absurd z (noA b),e0.bs,e0.bsz,fun b _ _=>noA b,fun b z=>absurd z (noA b),e0.funs,e0.frf⟩,
  rfl,e0.bare,Un.kept hk,⟨_,x.toInCall.ns,fun i y v h1 h2 h3=>?_⟩,fun y c h=>⟨_,x.cell y c h⟩,e0.hok.fresh (Nat.le_refl _),fun y c h=>?_,fun p hp=>absurd (show p∈([]:List (Addr × Obj)) from hp) (by simp),e0.hok.kept hk,?_⟩
 ·exact name_of_addr x.apart (PySem.mem_of_lookup h1) (PySem.mem_of_lookup h2)
 ·have hy:scope.names.lookup y = some .cell∨scope.names.lookup y = some .free:=hy
  rcases hy with hy | hy
  ·exact cell_has hy
  ·exact absurd rfl (S.nofree _ (PySem.mem_of_lookup hy))
 ·exact Nat.le_of_lt (x.above y c (PySem.mem_of_lookup h))
 ·have hi:i < vs.length:=by
   unfold start at h2
   by_cases hi:i < vs.length
   ·exact hi
   ·rw [List.getElem?_append_right (by simpa using hi)] at h2
    rw [List.getElem?_replicate] at h2
    split at h2 <;> cases h2
  have ha:vs[i]? = some v:=by
   unfold start at h2
   rw [List.getElem?_append_left (by simpa using hi),List.getElem?_map] at h2
   cases e:vs[i]? with
   | none=>rw [e] at h2; cases h2
   | some a=>rw [e] at h2; cases h2; rfl
  obtain⟨u,hu,rv⟩:=r.get ha
  have hp:ps[i]? = some y:=by
   rw [← S.pre,List.getElem?_take_of_lt (by omega)]; exact h1
  have ndP:ps.Nodup:=by rw [← S.pre]; exact S.nd.sublist (List.take_sublist _ _)
  refine⟨u,rv,?_⟩
  rcases S.par y (List.mem_of_getElem? hp) with k | k
  ·exact .inl ⟨k,bindL_get ndP hp hu k⟩
  ·obtain⟨c,e⟩:=cell_has (n:=s.heap.objs.size + 1) k
   refine .inr ⟨.inl k,c,e,?_⟩
   have q:=x.cell y c e
   rw [bindC_get ndP hp hu (by show scope.names.lookup y≠_; rw [k]; decide)] at q
   exact q
 ·exact e0.hok.fresh (Nat.le_of_lt (x.above y c (PySem.mem_of_lookup h)))
 ·unfold start
  show _ = N.length
  rw [List.length_append,List.length_map,List.length_replicate]
  omega
theorem fn_of {CX:CXT} {P:Program} {w:World} {K:PySem.W.Frag} {mg:Str→Option Value} {base:Heap} {k:Nat} {f:Addr} {name qual:Str} {params:Arguments} {body:List Stmt} {scope:Scope} {dV kV doc pm cdv ct oc:Value} {an od:Option Addr}
  {osl:Array (Option Value)} {N ps:List Str} {sp:Sp} (lk:K.lookup f = some ⟨oc,od,.func (PySem.W.fnOf name qual params body scope dV kV doc pm an cdv ct),osl⟩) (hcd:PySem.W.codeIn K cdv qual = true) (S:FnScope N ps scope)
  (len:∀ vs H Q E,sp vs H Q E→vs.length = ps.length)
  (hbody:∀ (A:Around) (outer:List Env) (s:Shared) (H:Hp) (vs:List V) (Q:VK) (E:XK),Room k (A.deeper (envOfC qual scope s.heap.objs.size f cdv))→sp vs H Q E →
   ∃ t,PSs (cxOf CX P w K mg base N qual scope f cdv A outer s H E) body t∧t { nx:=fun _ H'=>Q .non H',rt:=Q } (start N vs) H) :
  FnOk P w K mg base CX (k + 1) f (PySem.W.fnOf name qual params body scope dV kV doc pm an cdv ct) ps sp:=by
 refine⟨len,fun A outer s H args us vs Q E hr e0 hb r hsp=>?_⟩
 have hl:=len _ _ _ _ hsp
 have KX:K.In s.heap:=e0.mod.kin.keeps fun b o e=>(e0.bs b o e).1
 have lim:s.heap.NoLimit:=e0.mod.nolimit.keeps fun b o e=>(e0.bs b o e).1
 have hkind:∀ y∈ps.zip us,scope.names.lookup y.1 = some .local∨(scope.names.lookup y.1 = some .cell∧((cellsFrom (s.heap.objs.size + 1) scope.names []).lookup y.1).isSome = true):=fun ⟨n,v⟩ hy=>by
  rcases S.par n (List.of_mem_zip hy).1 with q | q
  ·exact .inl q
  ·exact .inr ⟨q,PySem.W.cellsFrom_some _ _ _ (.inl q)⟩
 refine codeAny_call_function hr.depth (KX _ _ lk) rfl S.co S.gen rfl (PySem.W.codeRec_of KX hcd) (hb _ _ _ _ ?_)
 refine wpAny_newFunctionEnv_cells S.kind hkind fun env he s1 x=>?_
 subst he
 refine⟨lim.keeps x.toInCall.keep,codeAny_func ?_⟩
 obtain⟨t,ht,hq⟩:=hbody A outer s H vs Q E (hr.deeper _) hsp
 have I:Inv (cxOf CX P w K mg base N qual scope f cdv A outer s H E) [] (start N vs) H s1:=inv_start S hr.hd e0 hl r x
 refine wpAny_mono (ht [] s1 (start N vs) H _ I hq) (fun fl s' hs=>?_) fun e s' hs=>hs
 have fin:∀ {σ':St} {H':Hp} {v:V} {u:Value},Inv (cxOf CX P w K mg base N qual scope f cdv A outer s H E) [] σ' H' s'→RelV v u→Q v H'→CE outer P w H s Q u s' :=
  fun {σ' H' v u} J rv q=>⟨v,H',J.os,J.bare,J.base,J.hok,rv,q⟩
 cases fl with
 | ret u =>
  obtain⟨v,σ',H',J,rv,q⟩:=hs
  exact fin J rv q
 | next =>
  obtain⟨σ',H',J,q⟩:=hs
  exact fin (v:=V.non) (u:=Value.none) J rfl q
 | brk =>
  obtain⟨_,_,_,q⟩:=hs
  exact False.elim q
 | cont =>
  obtain⟨_,_,_,q⟩:=hs
  exact False.elim q
end L2
namespace L2
open PySem PySem.Spec PyProof.Rows
section
variable {X:Cx} {x:Str} {p pos:Pos} {e:Expr} {es:List Expr} {t:TA} {id T:String} {r:List V→Hp→VK→Prop}
def tCB (r:List V→Hp→VK→Prop) (t:TA):TE:=fun σ H Q=>t σ H fun vs H1=>r vs H1 Q
theorem pe_callB (hc:CallR X (.builtin id) r) (hg:Gl X x) (hm:X.mg x = none) (hv:bootBuiltins x = some (.builtin id)) (ha:PA X (e :: es) t) (hn:x≠"__name__":=by decide) (hdb:(x == ("__debug__":Str)) = false:=by decide)
  (he:starEach (e :: es) X.env = (false,eval e X.env) :: starEach es X.env:=by rfl) (hpl:(backTo pos (starEach es X.env)).any (·.1) = false:=by rfl):PE X (.Call (.Name x p) (e :: es) [] pos) (tCB r t):=by
 intro pins s σ H Q I h
 refine wpAny_Call_Name_kw (ld_blt I hg hm hv ?_ hn hdb)
 exact PyProof.Rows.callWith_builtin1 (thn (ha pos pins s σ H _ I h) fun us s1 ⟨vs,H1,I1,r1,q1⟩=>hc pins s1 σ H1 vs us Q I1 r1 q1) he hpl
theorem pe_callTy (hc:CallR X (.type T) r) (hg:Gl X x) (hm:X.mg x = none) (hv:bootBuiltins x = some (.type T)) (ha:PA X (e :: es) t) (hn:x≠"__name__":=by decide) (hdb:(x == ("__debug__":Str)) = false:=by decide)
  (he:starEach (e :: es) X.env = (false,eval e X.env) :: starEach es X.env:=by rfl) (hpl:(backTo pos (starEach es X.env)).any (·.1) = false:=by rfl):PE X (.Call (.Name x p) (e :: es) [] pos) (tCB r t):=by
 intro pins s σ H Q I h
 refine wpAny_Call_Name_kw (ld_blt I hg hm hv ?_ hn hdb)
 exact PyProof.Rows.callWith_type1 (thn (ha pos pins s σ H _ I h) fun us s1 ⟨vs,H1,I1,r1,q1⟩=>hc pins s1 σ H1 vs us Q I1 r1 q1) he hpl
end
end L2
namespace HT
open PySem PyProof.Rows
theorem rcLt_int (A:Around) (s:Shared) (a:Int) (t:Tok) (c:Int) (u:Tok) (prog:Program) (w:World) (E:Value→Shared→Prop) (Q:Value→Shared→Prop) (h:Q (.bool (decide (a < c))) s) :
  wpAny (model prog w) A (richCompare .Lt (.int a t) (.int c u)) Q E s :=
 (PyProof.Rows.lt_int h:wpAny (model prog w) A (compareOp .Lt (.int a t) (.int c u)) Q E s)
section
open PySem.SeqAt
open PySem.AutoSeq1 (wpAny_loadPart')
open PySem.MeetsSeq PySem.MeetsSeq2 PySem.MeetsSeq3
end
section
variable {prog:Program} {w:World} {A:Around} {E:Value→Shared→Prop} {s:Shared}
theorem cat_tup {t b:Addr} {vs ws:List Value} {Q:Value→Shared→Prop} (ht:IsTup s.heap t vs.toArray) (hb:IsTup s.heap b ws.toArray) (hv:vs≠[])
  (h1:ws = []→Q (.ref t) s) (h2:ws≠[]→Q (.ref s.heap.objs.size) { s with heap:=s.heap.push { cls:=.type "tuple",data:=.seq (vs ++ ws).toArray } })
  (hsz:vs.length + ws.length≤sizeLine):wpAny (model prog w) A (binaryOp .Add (.ref t) (.ref b)) Q E s:=by
 obtain⟨⟨cls,dd,data,sl⟩,ho,hc,n,hd⟩:=id ht
 obtain⟨⟨cls2,dd2,data2,sl2⟩,ho2,hc2,n2,hd2⟩:=id hb
 simp only at hc hd hc2 hd2
 subst hc hd hc2 hd2
 have e:vs.toArray ++ ws.toArray = (vs ++ ws).toArray:=by simp
 by_cases hw:ws = []
 ·exact concat_meets ⟨_,ho,rfl⟩ ⟨_,ho2,rfl⟩ noFill_tuple_add seq_tuple_add PySem.F.slot_tuple_add PySem.F.entry_tuple_add (PySem.F.args_tuple_add_2 _ _)
   (tuple_addW1 t b vs.toArray ws.toArray n n2 dd dd2 sl sl2 (by simpa using hv) (by simp [hw])) ⟨ho,ho2,h1 hw⟩
 ·refine concat_meets ⟨_,ho,rfl⟩ ⟨_,ho2,rfl⟩ noFill_tuple_add seq_tuple_add PySem.F.slot_tuple_add PySem.F.entry_tuple_add (PySem.F.args_tuple_add_2 _ _)
   (tuple_addW2 t b vs.toArray ws.toArray n n2 dd dd2 sl sl2 (by simpa using hv) (by simpa using hw) (by rw [List.size_toArray,List.size_toArray]; exact hsz)) ⟨ho,ho2,?_⟩
  rw [e]
  exact h2 hw
def sIx (n d:Nat):Option Int→Nat
 | none=>d
 | some v=>if v < 0 then (v + (n:Int)).toNat else min v.toNat n
theorem sIx_nat (n d k:Nat):sIx n d (some (k:Int)) = min k n:=by
 show (if (k:Int) < 0 then ((k:Int) + (n:Int)).toNat else min (k:Int).toNat n) = min k n
 rw [if_neg (by omega),Int.toNat_natCast]
theorem sIx_le (n d:Nat) (hd:d≤n) (o:Option Int):sIx n d o≤n:=by
 cases o with
 | none=>exact hd
 | some v =>
  show (if v < 0 then (v + (n:Int)).toNat else min v.toNat n)≤n
  by_cases hv:v < 0
  ·rw [if_pos hv]; omega
  ·rw [if_neg hv]; exact Nat.min_le_right _ _
theorem clip_eq (v:Int) (n d:Nat):(if v < 0 then max (v + (n:Int)) 0 else min v (n:Int)) = ((sIx n d (some v):Nat):Int):=by
 show (if v < 0 then max (v + (n:Int)) 0 else min v (n:Int)) = (((if v < 0 then (v + (n:Int)).toNat else min v.toNat n):Nat):Int)
 by_cases hv:v < 0
 ·simp only [if_pos hv]; omega
 ·simp only [if_neg hv]; omega
theorem adjust_gen (lo hi:Option Int) (n:Nat):Builtin.Slice.sliceAdjust lo hi 1 (n:Int) = (((sIx n 0 lo:Nat):Int),((sIx n n hi:Nat):Int)):=by
 have h1:¬ ((1:Int) < 0):=by omega
 unfold Builtin.Slice.sliceAdjust
 simp only [h1,if_false]
 refine Prod.ext ?_ ?_
 ·cases lo with
  | none=>rfl
  | some v=>exact clip_eq v n 0
 ·cases hi with
  | none=>rfl
  | some v=>exact clip_eq v n n
theorem places_gen (i j:Nat):Builtin.Slice.slicePlaces (i:Int) (j:Int) 1 = j - i:=by
 unfold Builtin.Slice.slicePlaces
 have h1:(1:Int) > 0:=by omega
 simp only [h1,if_true,Int.ediv_one]
 split <;> omega
theorem slicePart_ {v:Value} {o:Option Int} {Q:Option Int→Shared→Prop} (p:IsPart v o) (h:Q o s):wpAny (model prog w) A (Builtin.Slice.slicePartIndex v) Q E s:=by
 cases p with
 | none=>exact slicePart_none h
 | int i t=>exact slicePart_int h
theorem sliceApplied_gen {sl:Addr} {vl vu:Value} {lo hi:Option Int} {n:Nat} {Q:Int × Int × Nat→Shared→Prop} (hs:s.heap.IsSliceOf sl vl vu .none) (pl:IsPart vl lo) (pu:IsPart vu hi)
  (h:Q (((sIx n 0 lo:Nat):Int),1,sIx n n hi - sIx n 0 lo) s):wpAny (model prog w) A (Builtin.Slice.sliceApplied (.ref sl) (pure (n:Int))) Q E s:=by
 obtain⟨os,hos,hcs,hds⟩:=id hs
 unfold Builtin.Slice.sliceApplied Builtin.Slice.sliceFields
 refine wpAny_bind (wpAny_bind (wpAny_field hos hds (x:=vl) rfl (wpAny_bind (wpAny_field hos hds (x:=vu) rfl (wpAny_bind (wpAny_field hos hds (x:=.none) rfl (wpAny_pure ?_)))))))
 refine wpAny_bind (slicePart_none ?_)
 show wpAny _ _ (if ((1:Int) == 0) = true then _ else _) _ _ s
 rw [if_neg (by decide)]
 refine wpAny_bind (slicePart_ pl (wpAny_bind (slicePart_ pu (wpAny_bind (wpAny_pure ?_)))))
 show wpAny _ _ (match Builtin.Slice.sliceAdjust lo hi 1 (n:Int) with | (lo,hi)=>pure (lo,(1:Int),Builtin.Slice.slicePlaces lo hi 1)) _ _ s
 rw [adjust_gen lo hi n]
 show wpAny _ _ (pure (((sIx n 0 lo:Nat):Int),(1:Int),Builtin.Slice.slicePlaces ((sIx n 0 lo:Nat):Int) ((sIx n n hi:Nat):Int) 1)) _ _ s
 rw [places_gen]
 exact wpAny_pure h
theorem pick_gen (xs:Array Value) (i k:Nat):((List.range k).filterMap fun (m:Nat)=>xs[((i:Int) + (m:Int) * 1).toNat]?).toArray = ((xs.toList.drop i).take k).toArray:=by
 have e:(fun (m:Nat)=>xs[((i:Int) + (m:Int) * 1).toNat]?) = fun m=>xs[i + m]?:=by
  funext m
  have:((i:Int) + (m:Int) * 1).toNat = i + m:=by omega
  rw [this]
 rw [e]
 have:=pick_run xs i k
 rw [List.filterMap_map] at this
 have e2:((fun x=>xs[x]?) ∘ fun x=>i + x) = fun m=>xs[i + m]?:=rfl
 rw [e2] at this
 rw [this]
theorem getItem_tuple_cut {t sl:Addr} {items:Array Value} {vl vu:Value} {lo hi:Option Int} {Q:Value→Shared→Prop} (ht:IsTup s.heap t items) (hs:s.heap.IsSliceOf sl vl vu .none) (pl:IsPart vl lo) (pu:IsPart vu hi)
  (hw:¬ (sIx items.size 0 lo = 0∧sIx items.size items.size hi = items.size))
  (h:Q (.ref s.heap.objs.size) { s with heap:=s.heap.push { cls:=.type "tuple",data:=.seq ((items.toList.drop (sIx items.size 0 lo)).take (sIx items.size items.size hi - sIx items.size 0 lo)).toArray } })
  (hsz:items.size≤sizeLine):wpAny (model prog w) A (getItem (.ref t) (.ref sl)) Q E s:=by
 have htake:sizeOk (.seq ((items.toList.drop (sIx items.size 0 lo)).take (sIx items.size items.size hi - sIx items.size 0 lo)).toArray):=by
  show ((items.toList.drop (sIx items.size 0 lo)).take (sIx items.size items.size hi - sIx items.size 0 lo)).toArray.size≤sizeLine
  rw [List.size_toArray,List.length_take,List.length_drop,Array.length_toList]
  omega
 have hj:sIx items.size items.size hi≤items.size:=sIx_le _ _ (Nat.le_refl _) hi
 obtain⟨os,hos,hcs,hds⟩:=id hs
 have hTs:s.TypeIs (.ref sl) "slice":=⟨os,hos,hcs⟩
 unfold getItem
 try with_reducible refine wpAny_holding ?_
 first | refine wpAny_bind (wpAny_pure ?_) | skip
 refine wpAny_bind (wpAny_sequenceKey ht.typeIs (by decide) ?_)
 refine wpAny_bind (wpAny_callSpecial?_slot (name:=Str.ofString "__getitem__") ht.typeIs PyProof.Rows.slot_tuple_getitem
  (wpAny_call_entry PyProof.Rows.slot_tuple_getitem ht.typeIs entry_tuple_getitem ?_ (args_tuple_getitem _ _)))
 show wpAny _ _ (Builtin.Tuple.tupleItemsOf (.ref t) >>= _) _ _ s
 refine wpAny_bind (tupleItemsOf_ ht ?_)
 refine wpAny_bind (wpAny_typeOf hTs ?_)
 rw [if_pos (by decide)]
 refine wpAny_bind (sliceApplied_gen hs pl pu ?_)
 have hno:¬ ((((sIx items.size 0 lo:Nat):Int) == 0 && (1:Int) == 1 && (sIx items.size items.size hi - sIx items.size 0 lo) == items.size) = true):=by
  intro q
  rw [Bool.and_eq_true,Bool.and_eq_true] at q
  have q1:((sIx items.size 0 lo:Nat):Int) = 0:=eq_of_beq q.1.1
  have q2:sIx items.size items.size hi - sIx items.size 0 lo = items.size:=eq_of_beq q.2
  exact hw ⟨by omega,by omega⟩
 show wpAny _ _ (if (((sIx items.size 0 lo:Nat):Int) == 0 && (1:Int) == 1 && (sIx items.size items.size hi - sIx items.size 0 lo) == items.size) = true then _ else _) _ _ s
 rw [if_neg hno,pick_gen]
 first
  | exact wpAny_bind (m:=Builtin.Tuple.tupleExact _) (wpAny_newObj_type (wpAny_pure ⟨_,rfl,wpAny_pure h⟩) htake)
  | exact wpAny_bind (m:=Builtin.Tuple.tupleExact _) (wpAny_newObj_type (wpAny_bind (wpAny_pure (wpAny_pure ⟨_,rfl,wpAny_pure h⟩))) htake)
  | exact wpAny_bind (wpAny_bind (m:=Builtin.Tuple.tupleExact _) (wpAny_newObj_type (wpAny_pure (wpAny_pure ⟨_,rfl,wpAny_pure h⟩)) htake))
  | exact wpAny_bind (wpAny_bind (m:=Builtin.Tuple.tupleExact _) (wpAny_newObj_type (wpAny_pure ⟨_,rfl,wpAny_pure h⟩) htake))
end
end HT
namespace L2
open PySem PySem.Spec PyProof.Rows
abbrev TO:=St→Hp→(Option Int→Hp→Prop)→Prop
def PO (X:Cx) (e:Option Expr) (t:TO):Prop :=
 ∀ (pins:List (Addr × Obj)) (s:Shared) (σ:St) (H:Hp) (Q:Option Int→Hp→Prop),Inv X pins σ H s→t σ H Q →
  wpAny (model X.prog X.w) X.A (evalPart e X.env) (fun u s'=>∃ o H',Inv X pins σ H' s'∧IsPart u o∧Q o H') X.xe s
def tNoPart:TO:=fun _ H Q=>Q none H
section
variable {X:Cx} {e:Expr} {te:TE} {lo hi:Option Expr} {tl th:TO} {pos p2:Pos}
theorem po_none:PO X none tNoPart:=by
 intro pins s σ H Q I h
 rw [evalPart_none]
 exact wpAny_pure ⟨none,H,I,.none,h⟩
def SlR (X:Cx) (r:V→Option Int→Option Int→Hp→VK→Prop):Prop :=
 ∀ (pins:List (Addr × Obj)) (s:Shared) (σ:St) (H:Hp) (x:V) (v vl vu:Value) (lo hi:Option Int) (sl:Addr) (Q:VK),Inv X pins σ H s→RelV x v→s.heap.IsSliceOf sl vl vu .none→IsPart vl lo→IsPart vu hi→r x lo hi H Q →
  ∃ T id,typeLookup (.type T) "__getitem__" = pure (some (.builtin id))∧s.TypeIs v T∧wpAny (model X.prog X.w) X.A (getItem v (.ref sl)) (EP X pins σ Q) X.xe s
def tSl (r:V→Option Int→Option Int→Hp→VK→Prop) (te:TE) (tl th:TO):TE:=fun σ H Q=>te σ H fun x H1=>tl σ H1 fun l H2=>th σ H2 fun u H3=>r x l u H3 Q
theorem pe_slice {r:V→Option Int→Option Int→Hp→VK→Prop} (hr:SlR X r) (he:PE X e te) (hl:PO X lo tl) (hu:PO X hi th):PE X (.Subscript e (.Slice lo hi none p2) pos) (tSl r te tl th):=by
 intro pins s σ H Q I h
 refine Subscript_ (thn (he pins s σ H _ I h) fun v s1 ⟨x,H1,I1,r1,q1⟩=>?_)
 refine wpAny_Slice (thn (hl pins s1 σ H1 _ I1 q1) fun vl s2 ⟨l,H2,I2,pl,q2⟩=>thn (hu pins s2 σ H2 _ I2 q2) fun vu s3 ⟨u,H3,I3,pu,q3⟩=>?_)
 rw [evalPart_none]
 refine wpAny_pure ?_
 have I4:Inv X pins σ H3 { s3 with heap:=s3.heap.push { cls:=.type "slice",data:=.fields #[vl,vu,.none] } }:=I3.kept (t':=s3.toks) fun b ob q=>Heap.get?_push_of_some _ q
 obtain⟨T,id,hT,ht,hg⟩:=hr pins { s3 with heap:=s3.heap.push { cls:=.type "slice",data:=.fields #[vl,vu,.none] } } σ H3 x v vl vu l u s3.heap.objs.size Q I4 r1 (Heap.IsSliceOf.new ..) pl pu q3
 show wpAny (model X.prog X.w) X.A (subscriptTail e (.Slice lo hi none p2) v (.ref s3.heap.objs.size)) (EP X pins σ Q) X.xe { s3 with heap:=s3.heap.push { cls:=.type "slice",data:=.fields #[vl,vu,.none] } }
 exact tail_any (ops:=[.ref s3.heap.objs.size,v]) ht hT hg (by with_unfolding_all rfl)
def cutV (xs:List V) (lo hi:Option Int):List V:=(xs.drop (HT.sIx xs.length 0 lo)).take (HT.sIx xs.length xs.length hi - HT.sIx xs.length 0 lo)
theorem cutV_length (xs:List V) (lo hi:Option Int):(cutV xs lo hi).length≤xs.length:=by
 unfold cutV
 rw [List.length_take,List.length_drop]
 omega
def rSlT (K:PySem.W.Frag):V→Option Int→Option Int→Hp→VK→Prop:=fun x lo hi H Q=>∃ a xs,x = .ref a∧SqT K H a xs ∧
 ¬ (HT.sIx xs.length 0 lo = 0∧HT.sIx xs.length xs.length hi = xs.length)∧∀ p,H p = none→Q (.ref p) (upd H p (.tup (cutV xs lo hi)))
theorem sl_tup:SlR X (rSlT X.K):=by
 intro pins s σ H x v vl vu lo hi sl Q I rx hs pl pu h
 obtain⟨a,xs,rfl,hx,hw,q⟩:=h
 cases rx
 obtain⟨its,r,ht,hz⟩:=I.tuple hx
 have hlen:its.toArray.size = xs.length:=by rw [List.size_toArray]; exact r.length.symm
 refine⟨"tuple",_,PyProof.Rows.slot_tuple_getitem.lookup,ht.typeIs,?_⟩
 refine HT.getItem_tuple_cut ht hs pl pu (by rw [hlen]; exact hw) ?_ (by rw [hlen]; exact hz)
 rw [hlen]
 refine⟨.ref s.heap.objs.size,_,I.laid (t':=s.toks) (o:=.tup (cutV xs lo hi)) (fun b ob q=>Heap.get?_push_of_some _ q) (Nat.le_refl _) ?_,rfl,q _ (I.hok.fresh (Nat.le_refl _))⟩
 exact⟨Nat.le_trans (cutV_length xs lo hi) hz,_,(r.drop (HT.sIx xs.length 0 lo)).take (HT.sIx xs.length xs.length hi - HT.sIx xs.length 0 lo),IsTupN.new _ _⟩
def rCatT (K:PySem.W.Frag):R2:=fun x y H Q=>∃ a b xs ys,x = .ref a∧y = .ref b∧SqT K H a xs∧SqT K H b ys∧xs≠[]∧xs.length + ys.length≤sizeLine ∧
 (ys = []→Q (.ref a) H)∧(ys≠[]→∀ p,H p = none→Q (.ref p) (upd H p (.tup (xs ++ ys))))
theorem Vals.nil_iff {xs:List V} {us:List Value} (r:Vals xs us):us = [] ↔ xs = []:=by
 cases r with
 | nil=>simp
 | cons _ _=>simp
theorem op_catT:OpR X (binaryOp .Add) (rCatT X.K):=by
 intro pins s σ H x y v u Q I rx ry h
 obtain⟨a,b,xs,ys,rfl,rfl,ha,hb,hx,hz,q1,q2⟩:=h
 cases rx
 cases ry
 obtain⟨its,r1,p1,_⟩:=I.tuple ha
 obtain⟨its2,r2,p2,_⟩:=I.tuple hb
 refine HT.cat_tup p1 p2 (fun z=>hx (r1.nil_iff.mp z)) (fun z=>⟨.ref a,H,I,rfl,q1 (r2.nil_iff.mp z)⟩) (fun z=>?_) (by rw [← r1.length,← r2.length]; exact hz)
 refine⟨.ref s.heap.objs.size,_,I.laid (t':=s.toks) (o:=.tup (xs ++ ys)) (fun b ob q=>Heap.get?_push_of_some _ q) (Nat.le_refl _) ?_,rfl,q2 (fun w=>z (r2.nil_iff.mpr w)) _ (I.hok.fresh (Nat.le_refl _))⟩
 exact⟨by rw [List.length_append]; exact hz,_,r1.append r2,IsTupN.new _ _⟩
end
end L2
namespace L2
open PySem PySem.Spec PyProof.Rows
def ixN (n:Nat) (i:Int):Option Nat:=if 0≤i then (if i < n then some i.toNat else none) else if -(n:Int)≤i then some (i + n).toNat else none
def atI {α:Type} (xs:List α) (i:Int):Option α:=(ixN xs.length i).bind fun j=>xs[j]?
theorem ixN_seq {n:Nat} {i:Int} {j:Nat} (h:ixN n i = some j):seqIndex? i n = some j∧j < n∧-(n:Int)≤i∧i < n:=by
 unfold ixN at h
 by_cases h0:0≤i
 ·rw [if_pos h0] at h
  by_cases h1:i < n
  ·rw [if_pos h1] at h
   have e:i.toNat = j:=Option.some.inj h
   exact⟨by rw [seqIndex_of h0 h1,e],by omega,by omega,h1⟩
  ·rw [if_neg h1] at h; cases h
 ·rw [if_neg h0] at h
  by_cases h1:-(n:Int)≤i
  ·rw [if_pos h1] at h
   have e:(i + n).toNat = j:=Option.some.inj h
   exact⟨by rw [seqIndex_neg (by omega) h1,e],by omega,h1,by omega⟩
  ·rw [if_neg h1] at h; cases h
theorem atI_get {α:Type} {xs:List α} {i:Int} {v:α} (h:atI xs i = some v):∃ j,seqIndex? i xs.length = some j∧xs[j]? = some v∧j < xs.length∧-(xs.length:Int)≤i∧i < xs.length:=by
 unfold atI at h
 cases e:ixN xs.length i with
 | none=>rw [e] at h; cases h
 | some j =>
  rw [e] at h
  obtain⟨h1,h2,h3,h4⟩:=ixN_seq e
  exact⟨j,h1,h,h2,h3,h4⟩
theorem atI_nat {α:Type} {xs:List α} {j:Nat} {v:α} (h:xs[j]? = some v):atI xs (j:Int) = some v:=by
 have hj:j < xs.length:=(List.getElem?_eq_some_iff.mp h).1
 have e:ixN xs.length (j:Int) = some j:=by
  unfold ixN
  rw [if_pos (by omega),if_pos (by omega)]; simp
 unfold atI; rw [e]; exact h
def PlainIx (b:Expr):Prop:=∀ o i,subscripted b false o i = operate [o,i] (getItem o i)
def IxR (X:Cx) (r:R2):Prop :=
 ∀ (value slice:Expr) (pins:List (Addr × Obj)) (s:Shared) (σ:St) (H:Hp) (x y:V) (v u:Value) (Q:VK),Inv X pins σ H s→RelV x v→RelV y u→r x y H Q →
  subscripted slice false v u = operate [v,u] (getItem v u)→wpAny (model X.prog X.w) X.A (subscriptTail value slice v u) (EP X pins σ Q) X.xe s
def MtR (X:Cx) (id:String) (r:V→List V→Hp→VK→Prop):Prop :=
 ∀ (pins:List (Addr × Obj)) (s:Shared) (σ:St) (H:Hp) (x:V) (xs:List V) (v:Value) (us:List Value) (Q:VK),Inv X pins σ H s→RelV x v→Vals xs us→r x xs H Q →
  wpAny (model X.prog X.w) X.A (call (.builtin id) (v :: us)) (EP X pins σ Q) X.xe s
section
variable {X:Cx} {a b:Expr} {ta tb:TE} {pos:Pos}
theorem pe_ix {r:R2} (hr:IxR X r) (ha:PE X a ta) (hb:PE X b tb) (hs:PlainIx b):PE X (.Subscript a b pos) (tOp r ta tb):=by
 intro pins s σ H Q I h
 exact Subscript_ (binT ha hb I h fun v u s2 x y H2 I2 rx ry q=>hr a b pins s2 σ H2 x y v u Q I2 rx ry q (hs _ _))
def rIxL (K:PySem.W.Frag):R2:=fun x y H Q=>∃ p xs i v,x = .ref p∧y = .int i∧SqL K H p xs∧atI xs i = some v∧Q v H
def rIxT (K:PySem.W.Frag):R2:=fun x y H Q=>∃ p xs i v,x = .ref p∧y = .int i∧SqT K H p xs∧atI xs i = some v∧Q v H
theorem ix_list:IxR X (rIxL X.K):=by
 intro value slice pins s σ H x y v u Q I rx ry h hs
 obtain⟨p,xs,i,z,rfl,rfl,hq,he,q⟩:=h
 cases rx
 obtain⟨t,rfl⟩:=ry
 obtain⟨its,r,pl,hz⟩:=I.list hq
 obtain⟨j,h1,h2,h3,h4,h5⟩:=atI_get he
 obtain⟨w,ew,rw'⟩:=r.get h2
 have hl:=r.length
 have hn:=line63
 have fin:EP X pins σ Q w s:=⟨z,H,I,rw',q⟩
 by_cases h0:0≤i
 ·have hj:i.toNat = j:=by
   rw [seqIndex_of h0 h5] at h1
   exact Option.some.inj h1
  exact item_listR pl.isList h0 (by omega) (by rw [hj]; simpa using ew) fin hs
 ·have hj:(i + (its.toArray.size:Int)).toNat = j:=by
   rw [seqIndex_neg (by omega) h4] at h1
   rw [List.size_toArray,← hl]
   exact Option.some.inj h1
  exact subscriptTail_builtinR (x:=w) pl.isList.typeIs slot_list_getitem.lookup
   (wpAny_getItem_list_neg (Q:=fun r s'=>r = w∧EP X pins σ Q r s') pl.isList (by omega) (by rw [List.size_toArray] <;> omega) (by omega) (by rw [hj]; simpa using ew) ⟨rfl,fin⟩) hs
theorem ix_tup:IxR X (rIxT X.K):=by
 intro value slice pins s σ H x y v u Q I rx ry h hs
 obtain⟨p,xs,i,z,rfl,rfl,hq,he,q⟩:=h
 cases rx
 obtain⟨t,rfl⟩:=ry
 obtain⟨its,r,pl,hz⟩:=I.tuple hq
 obtain⟨j,h1,h2,h3,h4,h5⟩:=atI_get he
 obtain⟨w,ew,rw'⟩:=r.get h2
 have hl:=r.length
 have hn:=line63
 have fin:EP X pins σ Q w s:=⟨z,H,I,rw',q⟩
 exact subscriptTail_builtinR (x:=w) pl.typeIs slot_tuple_getitem.lookup
  (getItem_tuple (j:=j) (Q:=fun r s'=>r = w∧EP X pins σ Q r s') pl (by omega) (by omega) (by rw [List.size_toArray,← hl]; exact h1) (by simpa using ew) ⟨rfl,fin⟩) hs
theorem mapSeq_set (its:List Value) (n j:Nat) (u:Value):Obj.mapSeq (·.setIfInBounds j u) { cls:=.type "list",data:=.seq its.toArray n } = { cls:=.type "list",data:=.seq (its.set j u).toArray n }:=by
 simp [Obj.mapSeq]
theorem Inv.lst {pins:List (Addr × Obj)} {σ:St} {H:Hp} {s:Shared} {p:Addr} {xs:List V} (I:Inv X pins σ H s) (h:H p = some (.lst xs)) :
  ∃ (its:List Value) (n:Nat),Vals xs its∧s.heap.get? p = some { cls:=.type "list",data:=.seq its.toArray n }∧xs.length≤sizeLine:=by
 obtain⟨z,its,n,r,e⟩:=I.hok p _ h
 exact⟨its,n,r,e,z⟩
theorem Inv.lstUpd {pins:List (Addr × Obj)} {σ:St} {H:Hp} {s:Shared} {p:Addr} {xs ys:List V} {its its':List Value} {n n':Nat} {f:Obj→Obj} (I:Inv X pins σ H s) (h:H p = some (.lst xs))
  (ho:s.heap.get? p = some { cls:=.type "list",data:=.seq its.toArray n }) (hf:f { cls:=.type "list",data:=.seq its.toArray n } = { cls:=.type "list",data:=.seq its'.toArray n' }) (r:Vals ys its') (hz:ys.length≤sizeLine) (t:Nat) :
  Inv X pins σ (upd H p (.lst ys)) { s with heap:=s.heap.update p f,toks:=t }:=by
 have e:(s.heap.update p f).get? p = some { cls:=.type "list",data:=.seq its'.toArray n' }:=by
  rw [Heap.get?_update_self f ho (by rw [hf] <;> rfl),hf]
 refine I.write (x:=p) (e:=p) (by rw [h]; trivial) (.inl rfl) (fun b u hb q=>(Heap.get?_update_other _ _ (Ne.symm hb)).trans q) ⟨_,e⟩ ?_
 exact⟨hz,its',n',r,e⟩
def rSetL:V→V→V→Hp→(Hp→Prop)→Prop:=fun o i v H Q=>∃ p xs k j,o = .ref p∧i = .int k∧H p = some (.lst xs)∧ixN xs.length k = some j∧Q (upd H p (.lst (xs.set j v)))
theorem set_list:PSet X rSetL:=by
 intro pins s σ H o i v ov iv u Q I ro ri rv h
 obtain⟨p,xs,k,j,rfl,rfl,hp,hj,q⟩:=h
 cases ro
 obtain⟨t,rfl⟩:=ri
 obtain⟨its,n,r,ho,hz⟩:=I.lst hp
 obtain⟨h1,h2,h3,h4⟩:=ixN_seq hj
 have hl:=r.length
 have hn:=line63
 have I':Inv X pins σ (upd H p (.lst (xs.set j v))) { s with heap:=s.heap.update p (Obj.mapSeq (·.setIfInBounds j u)) } :=
  I.lstUpd hp ho (mapSeq_set its n j u) (r.set rv j) (by rw [List.length_set]; exact hz) s.toks
 by_cases h0:0≤k
 ·have hk:k.toNat = j:=by
   rw [seqIndex_of h0 h4] at h1
   exact Option.some.inj h1
  exact PySem.W.ki_setAt ho h0 (by omega) (by rw [List.size_toArray,← hl]; exact h4) (by rw [hk]; exact⟨_,I',q⟩)
 ·have hk:(k + (its.toArray.size:Int)).toNat = j:=by
   rw [seqIndex_neg (by omega) h3] at h1
   rw [List.size_toArray,← hl]
   exact Option.some.inj h1
  exact PySem.W.ki_setBack ho (by omega) (by rw [List.size_toArray,← hl]; exact h3) (by omega) (by rw [hk]; exact⟨_,I',q⟩)
theorem slice_bounds (lo hi:Option Int) (n:Nat):(sliceBounds lo hi none n).1 = ((HT.sIx n 0 lo:Nat):Int)∧(sliceBounds lo hi none n).2.1 = ((HT.sIx n n hi:Nat):Int)∧(sliceBounds lo hi none n).2.2 = 1:=by
 refine⟨?_,?_,rfl⟩
 ·cases lo with
  | none=>simp [sliceBounds,HT.sIx]
  | some i =>
   simp only [sliceBounds,HT.sIx,Option.getD_none,show (1:Int) > 0 by decide,if_true]
   by_cases h:i < 0
   ·simp only [h,if_true] <;> omega
   ·simp only [h,if_false] <;> omega
 ·cases hi with
  | none=>simp [sliceBounds,HT.sIx]
  | some i =>
   simp only [sliceBounds,HT.sIx,Option.getD_none,show (1:Int) > 0 by decide,if_true]
   by_cases h:i < 0
   ·simp only [h,if_true] <;> omega
   ·simp only [h,if_false] <;> omega
theorem slicePick_cut (its:List Value) (lo hi:Option Int):slicePick its.toArray lo hi none = ((its.drop (HT.sIx its.length 0 lo)).take (HT.sIx its.length its.length hi - HT.sIx its.length 0 lo)).toArray:=by
 obtain⟨h1,h2,h3⟩:=slice_bounds lo hi its.toArray.size
 unfold slicePick
 rw [h1,h2,h3]
 simp only [sliceRange_one,pick_run,List.size_toArray] <;> rfl
def rSlL (K:PySem.W.Frag):V→Option Int→Option Int→Hp→VK→Prop:=fun x lo hi H Q=>∃ a xs,x = .ref a∧SqL K H a xs∧∀ p,H p = none→Q (.ref p) (upd H p (.lst (cutV xs lo hi)))
theorem sl_list:SlR X (rSlL X.K):=by
 intro pins s σ H x v vl vu lo hi sl Q I rx hs pl pu h
 obtain⟨a,xs,rfl,hx,q⟩:=h
 cases rx
 obtain⟨its,r,ht,hz⟩:=I.list hx
 have hlen:=r.length
 refine⟨"list",_,slot_list_getitem.lookup,ht.isList.typeIs,?_⟩
 refine wpAny_getItem_list_slice ht.isList hs pl pu .none (by simp) ?_ (by rw [List.size_toArray] <;> omega)
 rw [slicePick_cut,← hlen]
 refine⟨.ref s.heap.objs.size,_,I.laid (t':=s.toks) (o:=.lst (cutV xs lo hi)) (fun b ob q=>Heap.get?_push_of_some _ q) (Nat.le_refl _) ?_,rfl,q _ (I.hok.fresh (Nat.le_refl _))⟩
 exact⟨Nat.le_trans (cutV_length xs lo hi) hz,_,0,(r.drop (HT.sIx xs.length 0 lo)).take (HT.sIx xs.length xs.length hi - HT.sIx xs.length 0 lo),Heap.get?_push_size _ rfl⟩
def flatV:V→Bool
 | .non=>true
 | .bl _=>true
 | .int _=>true
 | .str _=>true
 | _=>false
def eqV:V→V→Bool
 | .non,.non=>true
 | .bl a,.bl b=>a == b
 | .bl a,.int b=>(if a then 1 else 0) == b
 | .int a,.bl b=>a == (if b then 1 else 0)
 | .int a,.int b=>a == b
 | .str a,.str b=>a == b
 | _,_=>false
theorem eqAt_V {A:Around} {s:Shared} {y x:V} {u v:Value} (ry:RelV y u) (rx:RelV x v) (fy:flatV y = true) (fx:flatV x = true):SeqAt.EqAt A s u v (eqV y x):=by
 cases y with
 | non =>
  cases ry
  cases x with
  | non=>cases rx; exact SeqAt.EqAt.same _
  | bl b=>cases rx; exact SeqAt.EqAt.none_bool b
  | int b=>obtain⟨t,rfl⟩:=rx; exact SeqAt.EqAt.none_int b t
  | str b=>obtain⟨t,rfl⟩:=rx; exact SeqAt.EqAt.none_str b t
  | _=>exact absurd (show false = true from fx) Bool.false_ne_true
 | bl a =>
  cases ry
  cases x with
  | non=>cases rx; exact SeqAt.EqAt.bool_none a
  | bl b=>cases rx; exact SeqAt.EqAt.bool_bool a b
  | int b=>obtain⟨t,rfl⟩:=rx; exact SeqAt.EqAt.bool_int a b t
  | str b=>obtain⟨t,rfl⟩:=rx; exact SeqAt.EqAt.bool_str a b t
  | _=>exact absurd (show false = true from fx) Bool.false_ne_true
 | int a =>
  obtain⟨t',rfl⟩:=ry
  cases x with
  | non=>cases rx; exact SeqAt.EqAt.int_none a t'
  | bl b=>cases rx; exact SeqAt.EqAt.int_bool a t' b
  | int b=>obtain⟨t,rfl⟩:=rx; exact SeqAt.EqAt.int_int a t' b t
  | str b=>obtain⟨t,rfl⟩:=rx; exact SeqAt.EqAt.int_str a t' b t
  | _=>exact absurd (show false = true from fx) Bool.false_ne_true
 | str a =>
  obtain⟨t',rfl⟩:=ry
  cases x with
  | non=>cases rx; exact SeqAt.EqAt.str_none a t'
  | bl b=>cases rx; exact SeqAt.EqAt.str_bool a t' b
  | int b=>obtain⟨t,rfl⟩:=rx; exact SeqAt.EqAt.str_int a t' b t
  | str b=>obtain⟨t,rfl⟩:=rx; exact SeqAt.EqAt.str_str a t' b t
  | _=>exact absurd (show false = true from fx) Bool.false_ne_true
 | _=>exact absurd (show false = true from fy) Bool.false_ne_true
def eqU (x:V) (u:Value):Bool:=match u with
 | .none=>eqV .non x
 | .bool b=>eqV (.bl b) x
 | .int i _=>eqV (.int i) x
 | .str z _=>eqV (.str z) x
 | _=>false
theorem eqU_of {x y:V} {u:Value} (r:RelV y u) (f:flatV y = true):eqU x u = eqV y x:=by
 cases y with
 | non=>cases r; rfl
 | bl b=>cases r; rfl
 | int i=>obtain⟨t,rfl⟩:=r; rfl
 | str z=>obtain⟨t,rfl⟩:=r; rfl
 | _=>exact absurd (show false = true from f) Bool.false_ne_true
theorem any_eqU {x:V}:∀ {xs:List V} {us:List Value},Vals xs us→xs.all flatV = true→us.any (eqU x) = xs.any fun y=>eqV y x
 | _,_,.nil,_=>rfl
 | y :: xs,u :: us,.cons r t,f=>by
  rw [List.all_cons,Bool.and_eq_true] at f
  rw [List.any_cons,List.any_cons,eqU_of r f.1,any_eqU t f.2]
theorem mem_eqAt {A:Around} {s:Shared} {x:V} {v:Value} (rx:RelV x v) (fx:flatV x = true):∀ {xs:List V} {us:List Value},Vals xs us→xs.all flatV = true→∀ u∈us,SeqAt.EqAt A s u v (eqU x u)
 | _,_,.nil,_=>fun u hu=>by cases hu
 | y :: xs,u :: us,.cons r t,f=>fun u' hu=>by
  rw [List.all_cons,Bool.and_eq_true] at f
  rcases List.mem_cons.mp hu with rfl | hu
  ·rw [eqU_of r f.1]; exact eqAt_V r rx f.1 fx
  ·exact mem_eqAt rx fx t f.2 u' hu
def inV (x:V) (xs:List V):Bool:=xs.any fun y=>eqV y x
def rIn (K:PySem.W.Frag) (neg:Bool):R2:=fun x y H Q=>∃ p xs,y = .ref p∧(SqL K H p xs∨SqT K H p xs)∧flatV x = true∧xs.all flatV = true∧Q (.bl (if neg then !inV x xs else inV x xs)) H
theorem op_in_seq:OpR X (compareOp .In) (rIn X.K false):=by
 intro pins s σ H x y v u Q I rx ry h
 obtain⟨p,xs,rfl,hq,fx,fs,q⟩:=h
 cases ry
 rcases hq with hq | hq
 ·obtain⟨its,r,pl,hz⟩:=I.list hq
  refine SeqAt.in_listAt (eqU x) pl.isList (fun w hw=>mem_eqAt rx fx r fs w (by simpa using hw)) ⟨.bl _,H,I,rfl,?_⟩
  rw [show its.toArray.any (eqU x) = its.any (eqU x) by simp,any_eqU r fs]
  exact q
 ·obtain⟨its,r,pl,hz⟩:=I.tuple hq
  refine SeqAt.in_tupleAt (eqU x) pl (fun w hw=>mem_eqAt rx fx r fs w (by simpa using hw)) ⟨.bl _,H,I,rfl,?_⟩
  rw [show its.toArray.any (eqU x) = its.any (eqU x) by simp,any_eqU r fs]
  exact q
theorem call_len_seq:CallR X (.builtin "len") (fun xs H Q=>∃ p ys,xs = [.ref p]∧(SqL X.K H p ys∨SqT X.K H p ys)∧Q (.int ys.length) H):=by
 intro pins s σ H xs us Q I r h
 obtain⟨p,ys,rfl,hq,q⟩:=h
 obtain⟨u,rfl,rx⟩:=vals1 r
 cases rx
 have hn:=line63
 rcases hq with hq | hq
 ·obtain⟨its,r',pl,hz⟩:=I.list hq
  have hlen:=r'.length
  exact Calls.call_len_list pl.isList (by simp only [List.size_toArray] <;> omega) ⟨.int ys.length,H,I.tok _,⟨s.toks + 1,by rw [List.size_toArray,hlen]⟩,q⟩
 ·obtain⟨its,r',pl,hz⟩:=I.tuple hq
  have hlen:=r'.length
  exact len_tuple pl (by simp only [List.size_toArray] <;> omega) ⟨.int ys.length,H,I.tok _,⟨s.toks + 1,by rw [List.size_toArray,hlen]⟩,q⟩
theorem call_list_of:CallR X (.type "list") (fun xs H Q=>∃ p ys,xs = [.ref p]∧(SqL X.K H p ys∨SqT X.K H p ys)∧∀ l,H l = none→Q (.ref l) (upd H l (.lst ys))):=by
 intro pins s σ H xs us Q I r h
 obtain⟨p,ys,rfl,hq,q⟩:=h
 obtain⟨u,rfl,rx⟩:=vals1 r
 cases rx
 have fin:∀ (its:List Value),Vals ys its→ys.length≤sizeLine→∀ (h':Heap) (c':Nat),(∀ b o',s.heap.get? b = some o'→h'.get? b = some o') →
   h'.get? s.heap.objs.size = some { cls:=.type "list",dict:=none,data:=.seq its.toArray c',slots:=#[] }→EP X pins σ Q (.ref s.heap.objs.size) { s with heap:=h' }:=fun its r' hz h' c' kp e =>
  ⟨.ref s.heap.objs.size,_,I.laid (t':=s.toks) kp (Nat.le_refl _) (show ObjOk X.prog X.w _ h' _ (.lst ys) from ⟨hz,its,c',r',e⟩),rfl,q _ (I.hok.fresh (Nat.le_refl _))⟩
 rcases hq with hq | hq
 ·obtain⟨its,r',pl,hz⟩:=I.list hq
  have hlen:=r'.length
  obtain⟨o,ho,hc,n,hd⟩:=pl.isList
  exact call_list_seq p (.inl rfl) ho hc hd (fun h' c' kp e=>fin its r' hz h' c' kp e) (by simp only [List.size_toArray] <;> omega)
 ·obtain⟨its,r',pl,hz⟩:=I.tuple hq
  have hlen:=r'.length
  obtain⟨o,ho,hc,n,hd⟩:=pl
  exact call_list_seq p (.inr rfl) ho hc hd (fun h' c' kp e=>fin its r' hz h' c' kp e) (by simp only [List.size_toArray] <;> omega)
theorem call_tuple_of:CallR X (.type "tuple") (fun xs H Q=>∃ p ys,xs = [.ref p]∧((SqL X.K H p ys∧∀ l,H l = none→Q (.ref l) (upd H l (.tup ys)))∨(SqT X.K H p ys∧Q (.ref p) H))):=by
 intro pins s σ H xs us Q I r h
 obtain⟨p,ys,rfl,h⟩:=h
 obtain⟨u,rfl,rx⟩:=vals1 r
 cases rx
 rcases h with ⟨hq,q⟩ | ⟨hq,q⟩
 ·obtain⟨its,r',pl,hz⟩:=I.list hq
  have hlen:=r'.length
  refine call_tuple_list pl.isList (fun h' kp=>?_) (by simp only [List.size_toArray] <;> omega)
  have I1:Inv X pins σ H { s with heap:=h' }:=I.kept (t':=s.toks) kp
  have I2:Inv X pins σ (upd H h'.objs.size (.tup ys)) { s with heap:=h'.push { cls:=.type "tuple",data:=.seq its.toArray } } :=
   I1.laid (t':=s.toks) (fun b o e=>Heap.get?_push_of_some _ e) (Nat.le_refl _) (show ObjOk X.prog X.w _ _ _ (.tup ys) from ⟨hz,its,r',IsTupN.new _ _⟩)
  exact⟨.ref h'.objs.size,_,I2,rfl,q _ (I1.hok.fresh (Nat.le_refl _))⟩
 ·obtain⟨its,r',pl,hz⟩:=I.tuple hq
  exact call_tuple_same pl ⟨.ref p,H,I,rfl,q⟩
def tyV (K:PySem.W.Frag) (T:String) (x:V) (H:Hp):Prop:=match x with
 | .str _=>T = "str"
 | .int _=>T = "int"
 | .ref p=>(T = "list"∧∃ xs,SqL K H p xs)∨(T = "tuple"∧∃ o,K.lookup p = some o∧o.cls = .type "tuple"∧o.dict = none) ∨
   (T = "dict"∧((∃ kvs,H p = some (.dK kvs))∨∃ kvs,H p = some (.dT kvs)))∨(T = "set"∧∃ S n,H p = some (.set S n))
 | _=>False
theorem tyV_is {pins:List (Addr × Obj)} {σ:St} {H:Hp} {s:Shared} {T:String} {x:V} {v:Value} (I:Inv X pins σ H s) (r:RelV x v) (ty:tyV X.K T x H) :
  s.TypeIs v T∧∀ a,v = .ref a→∃ ob,s.heap.get? a = some ob∧ob.dict = none:=by
 cases x with
 | str z =>
  obtain⟨t,rfl⟩:=r
  cases (show T = "str" from ty)
  exact⟨typeIs_str s z t,fun _ e=>nomatch e⟩
 | int i =>
  obtain⟨t,rfl⟩:=r
  cases (show T = "int" from ty)
  exact⟨typeIs_int s i t,fun _ e=>nomatch e⟩
 | ref p =>
  cases r
  rcases ty with ⟨rfl,xs,hq⟩ | ⟨rfl,o,hk,hc,hd⟩ | ⟨rfl,hk⟩ | ⟨rfl,S,n,hk⟩
  ·obtain⟨its,_,pl,_⟩:=I.list hq
   refine⟨pl.isList.typeIs,fun a e=>?_⟩
   cases e
   obtain⟨o,n,e,c,hd,_⟩:=pl
   exact⟨o,e,hd⟩
  ·refine⟨⟨o,I.kIn p o hk,hc⟩,fun a e=>?_⟩
   cases e
   exact⟨o,I.kIn _ o hk,hd⟩
  ·have z:∃ o,s.heap.get? p = some o∧o.ExactDict:=by
    rcases hk with ⟨kvs,hk⟩ | ⟨kvs,hk⟩
    ·obtain⟨_,_,_,_,o,_,_,e,ex,_⟩:=I.hok p _ hk
     exact⟨o,e,ex⟩
    ·obtain⟨_,_,_,_,o,_,_,e,ex,_⟩:=I.hok p _ hk
     exact⟨o,e,ex⟩
   obtain⟨o,e,ex⟩:=z
   refine⟨⟨o,e,ex.1⟩,fun a e2=>?_⟩
   cases e2
   exact⟨o,e,ex.2.1⟩
  ·obtain⟨o,_,_,_,e,ex,_⟩:=I.hok p _ hk
   refine⟨⟨o,e,ex.1⟩,fun a e2=>?_⟩
   cases e2
   exact⟨o,e,ex.2.1⟩
 | _=>exact False.elim ty
def tBM (K:PySem.W.Frag) (T:String) (r:V→List V→Hp→VK→Prop) (to:TE) (t:TA):TE:=fun σ H Q=>to σ H fun x H1=>tyV K T x H1∧t σ H1 fun xs H2=>r x xs H2 Q
variable {o e:Expr} {es:List Expr} {to:TE} {t:TA} {name:Str} {apos cpos:Pos} {T id:String} {r:V→List V→Hp→VK→Prop}
theorem pe_bm (pa:PlainAttrs T) (slot:Slot T name id) (hty:typeOf (.builtin id) = pure (.type "method_descriptor")) (hm:MtR X id r) (ho:PE X o to) (ha:PA X (e :: es) t)
  (hbase:attributeBase o name X.env (eval o X.env) = eval o X.env:=by rfl)
  (hfew:((backTo cpos (starEach (e :: es) X.env)).all (fun x=>!x.1) && (backToKw cpos (keywordEach [] X.env)).all (fun x=>x.1.isSome)
   && decide ((e :: es).length + ([]:List Keyword).length + (if ([]:List Keyword).isEmpty then 0 else 1) < 30)) = true:=by rfl)
  (hline:(apos.endLine == cpos.line) = true:=by rfl) (hs:starEach (e :: es) X.env = (false,eval e X.env) :: starEach es X.env:=by rfl) (hplain:(backTo cpos (starEach es X.env)).any (·.1) = false:=by rfl) :
  PE X (.Call (.Attribute o name apos) (e :: es) [] cpos) (tBM X.K T r to t):=by
 intro pins s σ H Q I h
 refine wpAny_Call_method_late hbase hfew hline rfl (thn (ho pins s σ H _ I h) fun v s1 ⟨x,H1,I1,r1,ty,q1⟩=>?_)
 obtain⟨h1,h2⟩:=tyV_is I1 r1 ty
 refine⟨T,id,pa,slot,hty,h1,h2,?_⟩
 have hA:=ha cpos pins s1 σ H1 _ I1 q1
 rw [hs] at hA ⊢
 refine Calls.callWith_builtin (by show (false || (backTo cpos (starEach es X.env)).any (·.1)) = false; rw [hplain] <;> rfl) (Calls.evalArgs_plain ?_)
 exact thn hA fun us s2 ⟨vs,H2,I2,r2,q2⟩=>hm pins s2 σ H2 x vs v us Q I2 r1 r2 q2
end
end L2
namespace L2
open PySem PySem.Spec PyProof.Rows
def MtM (X:Cx) (id:String) (r:V→List V→Hp→VK→Prop):Prop :=
 ∀ (pins:List (Addr × Obj)) (s:Shared) (σ:St) (H:Hp) (x:V) (xs:List V) (v:Value) (us:List Value) (Q:VK),Inv X pins σ H s→RelV x v→Vals xs us→r x xs H Q →
  wpAny (model X.prog X.w) X.A (call (.builtin id) (v :: us)) (EP X pins σ Q) X.xe s
theorem Vals.one:∀ {x:V} {us:List Value},Vals [x] us→∃ u,us = [u]∧RelV x u
 | _,_,.cons r .nil=>⟨_,rfl,r⟩
section
variable {X:Cx} {pins:List (Addr × Obj)} {σ:St} {H:Hp} {s:Shared} {l b:Addr} {xs ys zs:List V}
theorem Inv.lset {its its':List Value} {n:Nat} {f:Array Value→Array Value} {t':Nat} (I:Inv X pins σ H s) (hH:H l = some (.lst xs))
  (e:s.heap.get? l = some { cls:=.type "list",data:=.seq its.toArray n }) (hf:f its.toArray = its'.toArray) (hv:Vals ys its') (hz:ys.length≤sizeLine) :
  Inv X pins σ (upd H l (.lst ys)) { s with heap:=s.heap.update l (Obj.mapSeq f),toks:=t' }:=by
 have q:=PySem.IsL.update e f
 rw [hf] at q
 refine I.write (x:=l) (e:=l) (by rw [hH]; exact trivial) (.inl rfl) (fun b' u hb hu=>(Heap.get?_update_other s.heap (Obj.mapSeq f) (Ne.symm hb)).trans hu) ⟨_,q⟩ ?_
 exact⟨hz,its',_,hv,q⟩
theorem Inv.lnew {its:List Value} {t':Nat} (I:Inv X pins σ H s) (hv:Vals ys its) (hz:ys.length≤sizeLine) :
  Inv X pins σ (upd H s.heap.objs.size (.lst ys)) { s with heap:=s.heap.push { cls:=.type "list",data:=.seq its.toArray },toks:=t' } :=
 I.laid (fun _ _ q=>Heap.get?_push_of_some _ q) (Nat.le_refl _) ⟨hz,its,0,hv,Heap.get?_push_size _ rfl⟩
theorem Inv.fresh (I:Inv X pins σ H s):H s.heap.objs.size = none:=I.hok.fresh (Nat.le_refl _)
theorem Inv.lstM (I:Inv X pins σ H s) (hH:H l = some (.lst xs)):xs.length≤sizeLine∧∃ (its:List Value) (n:Nat),Vals xs its∧xs.length = its.length∧s.heap.get? l = some { cls:=.type "list",data:=.seq its.toArray n }:=by
 obtain⟨z,its,n,r,e⟩:=I.hok l _ hH
 exact⟨z,its,n,r,r.length,e⟩
end
section
variable {X:Cx}
def rAppend:V→List V→Hp→VK→Prop:=fun x vs H Q=>∃ l xs y,x = .ref l∧vs = [y]∧H l = some (.lst xs)∧xs.length < sizeLine∧Q .non (upd H l (.lst (xs ++ [y])))
theorem mt_append:MtM X "list.append" rAppend:=by
 intro pins s σ H x vs v us Q I rx rv h
 obtain⟨l,xs,y,rfl,rfl,hH,hz,q⟩:=h
 cases rx
 obtain⟨u,rfl,ru⟩:=rv.one
 obtain⟨z,its,n,r,hl,e⟩:=I.lstM hH
 refine call_meets F.slot_list_append ⟨_,e,rfl⟩ F.entry_list_append (F.args_list_append_2 _ _) (PySem.list_append l its.toArray n u (by rw [List.size_toArray]; omega)) ⟨e,?_⟩
 refine⟨.non,_,I.lset (its':=its ++ [u]) hH e (by simp) (r.append (.cons ru .nil)) ?_,rfl,q⟩
 rw [List.length_append,List.length_singleton]
 omega
def rCat:R2:=fun x y H Q=>∃ l b xs zs,x = .ref l∧y = .ref b∧H l = some (.lst xs)∧H b = some (.lst zs)∧xs.length + zs.length≤sizeLine∧∀ p,H p = none→Q (.ref p) (upd H p (.lst (xs ++ zs)))
theorem op_cat:OpR X (binaryOp .Add) rCat:=by
 intro pins s σ H x y v u Q I rx ry h
 obtain⟨l,b,xs,zs,rfl,rfl,hH,hB,hz,q⟩:=h
 cases rx
 cases ry
 obtain⟨z,its,n,r,hl,e⟩:=I.lstM hH
 obtain⟨z2,its2,n2,r2,hl2,e2⟩:=I.lstM hB
 refine PySem.P.add_list e e2 ?_ (by rw [List.size_toArray,List.size_toArray]; omega)
 have ea:its.toArray ++ its2.toArray = (its ++ its2).toArray:=by simp
 rw [ea]
 exact⟨.ref _,_,I.lnew (t':=s.toks) (r.append r2) (by rw [List.length_append]; omega),rfl,q _ I.fresh⟩
end
section
variable {prog:Program} {w:World} {A:Around} {E:Value→Shared→Prop} {s:Shared}
end
section
variable {X:Cx}
end
end L2
namespace L2
open PySem PySem.Spec PyProof.Rows
section
variable {κ:Type} [DecidableEq κ]
def valV (kvs:List (κ × V)) (k:κ):Option V:=(kvs.find? fun kv=>decide (kv.1 = k)).map (·.2)
theorem valV_pos {p:κ × V} {r:List (κ × V)} {k:κ} (e:p.1 = k):valV (p :: r) k = some p.2:=by simp [valV,List.find?_cons,e]
theorem valV_neg {p:κ × V} {r:List (κ × V)} {k:κ} (e:¬ p.1 = k):valV (p :: r) k = valV r k:=by simp [valV,List.find?_cons,e]
theorem KV.val {kvs:List (κ × V)} {vs:List (κ × Value)} (r:KV kvs vs) (k:κ):RelO (valV kvs k) (valueAt vs k):=by
 unfold KV at r
 induction r with
 | nil=>exact True.intro
 | @cons p q ps qs h t ih =>
  obtain⟨h1,h2⟩:=h
  by_cases e:p.1 = k
  ·have e':q.1 = k:=h1.symm.trans e
   have b:valueAt (q :: qs) k = some q.2:=by simp [valueAt,List.find?_cons,e']
   rw [valV_pos e,b]; exact h2
  ·have e':¬ q.1 = k:=fun z=>e (h1.trans z)
   have b:valueAt (q :: qs) k = valueAt qs k:=by simp [valueAt,List.find?_cons,e']
   rw [valV_neg e,b]; exact ih
end
section
variable {P:Program} {w:World} {H:Hp} {h:Heap} {a:Addr}
theorem rd_of {u:HO} (ok:HOk P w H h) (e:Rd H a u):ObjOk P w H h a u:=e.ok ok
theorem dk_rd {kvs:List (Key × V)} (ok:HOk P w H h) (e:Rd H a (.dK kvs)):kvs.length≤sizeLine∧(a == sysModules) = false∧∃ vs,KV kvs vs∧h.DictOf (mixKind P w) a vs :=
 show ObjOk P w H h a (.dK kvs) from rd_of ok e
theorem dk_of {kvs:List (Key × V)} (ok:HOk P w H h) (e:H a = some (.dK kvs)):kvs.length≤sizeLine∧(a == sysModules) = false∧∃ vs,KV kvs vs∧h.DictOf (mixKind P w) a vs:=dk_rd ok (.inl e)
end
section
variable {X:Cx} {pins:List (Addr × Obj)} {σ:St} {H:Hp} {s:Shared} {a:Addr} {y v:V} {u r:Value} {o:Option V} {A:Around} {E:Value→Shared→Prop}
theorem Inv.big (I:Inv X pins σ H s):sysModules < s.heap.objs.size:=by
 have h:mainGlobals < s.heap.objs.size:=(I.mod.glob.keeps I.bk).lt
 exact Nat.lt_trans (by decide) h
theorem d_write {h':Heap} {t':Nat} {ob:HO} (I:Inv X pins σ H s) (mu:Mut (H a)) (hs:Heap.SameBut a s.heap h') (he:∃ q,h'.get? a = some q) (new:ObjOk X.prog X.w (upd H a ob) h' a ob) :
  Inv X pins σ (upd H a ob) { s with heap:=h',toks:=t' } :=
 I.write (x:=a) (e:=a) mu (.inl rfl) (fun b q hb z=>(hs.2 b hb).trans z) he new
end
section
variable {X:Cx} {pins:List (Addr × Obj)} {σ:St} {H:Hp} {s:Shared} {a:Addr} {kvs:List (Key × V)} {k:Key} {u:Value} {A:Around} {E:Value→Shared→Prop}
end
def NoSl (i:Expr):Prop:=∀ ov iv,subscripted i false ov iv = operate [ov,iv] (getItem ov iv)
theorem subD_of {prog:Program} {w:World} {A:Around} {E:Value→Shared→Prop} {s:Shared} {env:Env} {value slice:Expr} {pos:Pos} {T id:String} {Q:Value→Shared→Prop}
  (hl:typeLookup (.type T) "__getitem__" = pure (some (.builtin id))) (hs:NoSl slice)
  (h:wpAny (model prog w) A (eval value env) (fun o s₁=>wpAny (model prog w) A (eval slice env) (fun i s₂=>s₂.TypeIs o T∧wpAny (model prog w) A (getItem o i) Q E s₂) E s₁) E s) :
  wpAny (model prog w) A (eval (.Subscript value slice pos) env) Q E s:=by
 refine Subscript_ (wpAny_mono h (fun o s₁ h₁=>wpAny_mono h₁ (fun i s₂ h₂=>?_) fun _ _ x=>x) fun _ _ x=>x)
 obtain⟨hT,h₂⟩:=h₂
 unfold subscriptTail
 refine wpAny_bind ?_
 rw [getitemInPython_of_ne hT.not_modules]
 refine wpAny_bind (wpAny_specialOf hT hl ?_)
 have fin:wpAny (model prog w) A (subscripted slice false o i) (fun r s₃=>wpAny (model prog w) A (letTemporaryGo value o r >>= fun _=>pure r) Q E s₃) E s₂:=by
  rw [hs o i]
  exact wpAny_operating (wpAny_mono h₂ (fun r s₃ h₃=>wpAny_bind (wpAny_letTemporaryGo (wpAny_pure h₃))) fun _ _ x=>x)
 first
  | exact wpAny_pure (wpAny_bind fin)
  | exact wpAny_bind (wpAny_pure (wpAny_bind fin))
  | exact wpAny_bind fin
section
variable {X:Cx} {o i e value:Expr} {pos pos' tpos:Pos} {td ty tv:TE}
end
theorem dk_empty {P:Program} {w:World} {H:Hp} (h:Heap) (hb:sysModules < h.objs.size):ObjOk P w H (h.push { cls:=.type "dict",data:=.dict #[] }) h.objs.size (.dK []) :=
 ⟨Nat.zero_le _,beq_eq_false_iff_ne.mpr (Ne.symm (Nat.ne_of_lt hb)),[],.nil,Heap.DictOf.new h⟩
section
variable {X:Cx} {pos:Pos}
end
def tPairs:List (TE × TE)→St→Hp→(List (V × V)→Hp→Prop)→Prop
 | [],_,H,Q=>Q [] H
 | (tk,tv) :: r,σ,H,Q=>tk σ H fun x H1=>tv σ H1 fun y H2=>tPairs r σ H2 fun ps H3=>Q ((x,y) :: ps) H3
abbrev VV:List (V × V)→List (Value × Value)→Prop:=Paired fun p q=>RelV p.1 q.1∧RelV p.2 q.2
def PPs (X:Cx) (pos:Pos) (keys:List (Option Expr)) (values:List Expr) (trs:List (TE × TE)):Prop :=
 ∀ (pins:List (Addr × Obj)) (s:Shared) (σ:St) (H:Hp) (Q:List (V × V)→Hp→Prop),Inv X pins σ H s→tPairs trs σ H Q →
  wpAny (model X.prog X.w) X.A (evalPairs (pairTrees keys values X.env pos)) (fun vs s'=>∃ ps H',Inv X pins σ H' s'∧VV ps vs∧Q ps H') X.xe s
theorem pps_nil {X:Cx} {pos:Pos}:PPs X pos [] [] []:=fun pins s σ H Q I h=>pairTrees_nil_walk ⟨[],H,I,.nil,h⟩
theorem pps_cons {X:Cx} {pos:Pos} {k v:Expr} {ks:List (Option Expr)} {vs:List Expr} {tk tv:TE} {trs:List (TE × TE)} (hk:PE X k tk) (hv:PE X v tv) (hr:PPs X pos ks vs trs) :
  PPs X pos (some k :: ks) (v :: vs) ((tk,tv) :: trs):=fun pins s σ H Q I h =>
 pairTrees_cons_walk (thn (hk pins s σ H _ I h) fun u s1 ⟨x,H1,I1,rx,q1⟩=>thn (hv pins s1 σ H1 _ I1 q1) fun w2 s2 ⟨y,H2,I2,ry,q2⟩ =>
  thn (hr pins s2 σ H2 _ I2 q2) fun ws s3 ⟨ps,H3,I3,rel,q3⟩=>⟨(x,y) :: ps,H3,I3,.cons ⟨rx,ry⟩ rel,q3⟩)
section
variable {X:Cx} {pins:List (Addr × Obj)} {σ:St} {H:Hp} {s:Shared} {a:Addr} {y d:V} {u r:Value} {o:Option V} {A:Around} {E:Value→Shared→Prop}
end
section
variable {X:Cx} {o e f:Expr} {apos cpos:Pos} {td ty tx:TE}
end
section
variable {X:Cx} {pins:List (Addr × Obj)} {σ:St} {H:Hp} {s:Shared} {a:Addr} {kvs:List (Key × V)} {A:Around} {E:Value→Shared→Prop}
end
section
variable {X:Cx} {pins:List (Addr × Obj)} {σ:St} {H:Hp} {s:Shared} {a:Addr} {y:V} {u:Value} {A:Around} {E:Value→Shared→Prop}
end
end L2
namespace Att
open PySem PySem.W PySem.Calls PyProof.Rows
theorem ints_of_wellAll {P:Params} {h:Heap}:∀ (ns:List Int) (vs:List Value),WellAll P h vs (ns.map WData.int)→IntsAre vs ns:=by
 intro ns
 induction ns with
 | nil =>
  intro vs w
  rw [List.map_nil] at w
  cases w
  exact .nil
 | cons n ns ih =>
  intro vs w
  rw [List.map_cons] at w
  cases w with
  | cons a b =>
   cases a
   exact .cons _ _ (ih _ b)
theorem script_of {l:OpenLaw} {n:Nat} (hn:l.most = some n) {P:Params} {h:Heap} {args:List WData} {vals:List Value}
  (hpre:l.row.toRowW.claim.pre args = true) (hwl:WellAll P h vals args) :
  ∃ a vs ns,vals = [Value.ref a]∧args = [WData.list (ns.map WData.int)]∧h.get? a = some { cls:=.type "list",data:=.seq vs.toArray }∧IntsAre vs ns∧ns.length≤n:=by
 have hsh:WShape.hasAll [] args [.list .int] = true:=(pre_splitW hpre).1
 have hc:l.pre.holds [] { args:=args } = true:=(pre_splitW hpre).2
 obtain⟨d,r,rfl,h1,h2⟩:=hasAllW_cons hsh
 obtain rfl:=hasAllW_nil h2
 obtain⟨xs,rfl,h3⟩:=hasW_list h1
 obtain⟨ns,rfl⟩:=items_int h3
 have hlen:ns.length≤n:=by
  unfold OpenLaw.pre at hc
  have h4:(WTm.not (.lt (.lit (.int (n:Int))) (.len (.arg 0)))).holds [] { args:=[.list (ns.map .int)] } = true:=by
   have h4:=(holds_andW hc).1
   rw [hn] at h4
   exact h4
  have h5:=condW_of h4 (w_not (w_lt w_lit (w_len_list (w_arg rfl))))
  rw [List.length_map] at h5
  refine Nat.le_of_not_lt fun q=>?_
  have q':(n:Int) < ((ns.length:Nat):Int):=by omega
  first
   | (rw [decide_eq_true q'] at h5; exact absurd h5 (by decide))
   | (simp at h5; omega)
 cases hwl with
 | cons w1 w2 =>
  cases w2
  cases w1 with
  | list ho hall=>exact⟨_,_,ns,rfl,rfl,ho,ints_of_wellAll ns _ hall,hlen⟩
theorem post_true (l:OpenLaw) (args:List WData):l.row.toRowW.claim.post args (.bool true) args = true :=
 postW_of (r:=l.row.toRowW) (X:=(true == true))
  (show WShape.has [] (.bool true) .bool = true by first | rfl | decide | simp [WShape.has,WShape.arms,WShape.armsAll])
  (show (WTm.eq .res (.lit (.bool true))).value [] { args:=args,res:=some (.bool true),after:=args } = some (.bool (true == true)) from w_eq_bool (w_res rfl) w_lit) rfl
theorem attach_call {l:OpenLaw} {n:Nat} {q:Program} {loose:List Str} {XP:(Str→Option Value)→Heap→Prop} {YP:World→Heap→Prop} {d:DefRec}
  (hn:l.most = some n) (hdf:d.params.defaults = [])
  (call:∀ (w:World) (s₀ s₁:Shared) (mg mb:Str→Option Value) (fa:Addr) (o:Obj) (pm cd doc:Value) (a:Addr) (vs:List Value) (ns:List Int),
   Ground q loose [] XP w s₀ mg mb s₁.heap→YP w s₁.heap →
   s₁.heap.get? fa = some o→o.data = .func (docDef d.name d.params d.body d.scope pm cd doc)→s₁.heap.CodeRec cd d.name→mg d.name = some (.ref fa) →
   s₁.heap.get? a = some { cls:=.type "list",data:=.seq vs.toArray }→IntsAre vs ns→ns.length≤n→s₁.gens = #[] →
   codeAny (model l.prog w) callerA (.call (.ref fa) ⟨[.ref a],[]⟩) (fun r s'=>r = .ok (.ret (.bool true))∧OldK s₁.heap s'.heap∧s'.os = s₁.os∧AllBare s'.gens) s₁) :
  WalkO q loose XP YP l.row.toRowW d [] (fun f vs=>PySem.call f vs):=by
 intro w s₀ s₁ mg mb G Y fa o pm cd doc dV kV ho hd hcd hD hmg hg args vals as hpre hlay hrd hwl hlo
 obtain rfl:dV = .none:=Dflts.none hD hdf
 obtain rfl:kV = .none:=Dflts.noKw hD
 obtain⟨a,vs,ns,rfl,rfl,hobj,hints,hlen⟩:=script_of hn hpre hwl
 refine enter_call (codeAny_mono (call w s₀ s₁ mg mb fa o pm cd doc a vs ns G Y ho (fd_plain hd) hcd hmg hobj hints hlen hg) fun r s' hq=>?_)
 obtain⟨rfl,h2,h3,h4⟩:=hq
 exact⟨.inl ⟨.bool true,.bool true,[],rfl,fun _=>rfl,.bool true,post_true l _,fun _=>⟨List.Pairwise.nil,fun _ hm=>(nomatch hm)⟩⟩,h2,h3,h4⟩
section
variable {prog:Program} {w:World} {A:Around} {E:Value→Shared→Prop} {s:Shared} {K:Frag}
end
end Att
namespace L2
open PySem PySem.Spec PyProof.Rows
theorem vals_ints:∀ {vs:List Value} {ns:List Int},IntsAre vs ns→Vals (ns.map V.int) vs
 | _,_,.nil=>.nil
 | _,_,.cons n t h=>.cons ⟨t,rfl⟩ (vals_ints h)
def Only (H:Hp):Prop:=∀ b,H b = none∨∃ o xs,H b = some (.frz o (.lst xs))
theorem law_call {P:Program} {w:World} {K:PySem.W.Frag} {mg mb:Str→Option Value} {CX:CXT} {k:Nat} {fa a:Addr} {fd:FuncData} {x:Str} {sp:Sp} {s₁:Shared} {vs:List Value} {ns:List Int}
  (KX:K.In s₁.heap) (hns:s₁.heap.Ns mainGlobals mg) (hb:s₁.heap.Ns builtinsNs mb) (hbb:∀ x:Str,x≠"__name__"→mb x = bootBuiltins x) (hlim:s₁.heap.NoLimit) (hg:s₁.gens = #[])
  (ha:s₁.heap.get? a = some { cls:=.type "list",data:=.seq vs.toArray }) (hi:IntsAre vs ns) (hl:ns.length≤sizeLine) (hr:Room k callerA)
  (F:∀ base:Heap,K.In base→base.Ns mainGlobals mg→FnOk P w K mg base CX k fa fd [x] sp) (hbind:∀ (s:Shared) (u:Value),BindsTo s fd ⟨[u],[]⟩ [(x,u)])
  (hsp:∀ H:Hp,Only H→SqL K H a (ns.map V.int)→sp [.ref a] H (fun v _=>v = .bl true) fun _ _ _=>False)
  (hCX:∀ H e s',CX [] H s₁ (fun _ _ _=>False) e s'→False) :
  codeAny (model P w) callerA (.call (.ref fa) ⟨[.ref a],[]⟩) (fun r s'=>r = .ok (.ret (.bool true))∧OldK s₁.heap s'.heap∧s'.os = s₁.os∧AllBare s'.gens) s₁:=by
 have rv:=vals_ints hi
 have lenV:=hi.length
 have core:∀ H:Hp,Only H→SqL K H a (ns.map V.int)→HOk P w H s₁.heap→(∀ b,H b≠none→b = a)→(H a≠none→K.lookup a = none) →
   codeAny (model P w) callerA (.call (.ref fa) ⟨[.ref a],[]⟩) (fun r s'=>r = .ok (.ret (.bool true))∧OldK s₁.heap s'.heap∧s'.os = s₁.os∧AllBare s'.gens) s₁:=by
  intro H hO hS hok hA hK
  have base_of:∀ {b:Addr} {o:Obj},s₁.heap.get? b = some o→H b = none→(hidT s₁.heap H).get? b = some o:=fun e n=>hidT_get e n
  have noA:∀ {b:Addr} {o:Obj} {es:Array DictEntry} {ep:Nat},s₁.heap.get? b = some o→o.data = .dict es ep→H b = none:=fun {b o es ep} e d=>by
   cases q:H b with
   | none=>rfl
   | some u =>
    have e':b = a:=hA b (by rw [q]; simp)
    subst e'
    rw [ha] at e; cases e
    have d':Data.seq vs.toArray _ = Data.dict es ep:=d
    cases d'
  have nsK:∀ {b:Addr} {m:Str→Option Value},s₁.heap.Ns b m→(hidT s₁.heap H).Ns b m:=fun {b m} ⟨o,es,ep,e,d,r⟩=>⟨o,es,ep,base_of e (noA e d),d,r⟩
  have hKb:K.In (hidT s₁.heap H):=fun b o e=>base_of (KX b o e) (by
   cases q:H b with
   | none=>rfl
   | some u =>
    have e':b = a:=hA b (by rw [q]; simp)
    subst e'
    rw [hK (by rw [q]; simp)] at e; cases e)
  have hM:Mod K mg (hidT s₁.heap H):=⟨hKb,nsK hns,⟨mb,nsK hb,hbb⟩,let ⟨mc,h1,h2⟩:=hlim; ⟨mc,nsK h1,h2⟩⟩
  have e0:Env0 P w K mg (hidT s₁.heap H) callerA [] s₁ H:=⟨rfl,hM,fun b o e=>of_hidT e,Nat.le_of_eq (hidT_size _ _),trivial,fun b hb=>absurd (show b∈([]:List Addr) from hb) (by simp),hok,.of_eq hg⟩
  refine codeAny_mono ((F _ hKb (nsK hns)).run callerA [] s₁ H ⟨[.ref a],[]⟩ [.ref a] [.ref a] _ _ hr e0 (hbind s₁ (.ref a)) (.cons rfl .nil) (hsp H hO hS)) fun r s' h=>?_
  cases r with
  | error e=>exact (hCX H e s' h).elim
  | ok fl =>
   cases fl with
   | next=>exact False.elim h
   | brk=>exact False.elim h
   | cont=>exact False.elim h
   | ret u =>
    obtain⟨v,H',os,bare,un,hok',r',q⟩:=h
    have q':v = .bl true:=q
    subst q'
    obtain rfl:u = Value.bool true:=r'
    refine⟨rfl,OldK.of_keep fun b o e=>?_,os,bare⟩
    cases q:H b with
    | none=>exact un.keep b o e q (by intro z; exact absurd (show b∈([]:List Addr) from z) (by simp)) (by simp)
    | some u =>
     rcases hO b with z | ⟨ob,xs,z⟩
     ·rw [q] at z; cases z
     ·have z2:=un.frzs b ob _ z
      obtain⟨e1,_⟩:=hok b _ z
      obtain⟨e2,_⟩:=hok' b _ z2
      rw [e] at e1; cases e1
      exact e2
 cases hk:K.lookup a with
 | some o =>
  have e:=KX a o hk
  rw [ha] at e
  cases e
  refine core (fun _=>none) (fun _=>.inl rfl) (.inr ⟨_,vs.toArray,_,hk,rfl,rfl,rfl,by rw [List.size_toArray,lenV]; exact hl,by simpa using rv⟩) (fun b u z=>by have z':(none:Option HO) = some u:=z; cases z') (fun b z=>absurd rfl z) fun z=>absurd rfl z
 | none =>
  refine core (fun b=>if b = a then some (.frz { cls:=.type "list",data:=.seq vs.toArray } (.lst (ns.map V.int))) else none) (fun b=>?_) (.inl (.inr ⟨{ cls:=.type "list",data:=.seq vs.toArray },if_pos rfl⟩)) (fun b u z=>?_) (fun b z=>?_) fun _=>hk
  ·by_cases hb:b = a
   ·exact .inr ⟨_,_,if_pos hb⟩
   ·exact .inl (if_neg hb)
  ·by_cases hb:b = a
   ·have z':=(if_pos hb).symm.trans z
    cases z'
    subst hb
    exact⟨ha,by rw [List.length_map]; exact hl,vs,_,rv,ha⟩
   ·have z':=(if_neg hb).symm.trans z
    cases z'
  ·by_cases hb:b = a
   ·exact hb
   ·exact absurd (if_neg hb) z
end L2
namespace L2
open PySem PySem.Spec PyProof.Rows
theorem walk_of {l:PySem.W.OpenLaw} {n k:Nat} {q:Program} {loose:List Str} {XP:(Str→Option Value)→Heap→Prop} {YP:World→Heap→Prop} {d:DefRec} {K:Params→PySem.W.Frag} {CX:World→CXT} {sp:World→Sp} {x:Str}
  (hn:l.most = some n) (hn2:n≤sizeLine) (hdf:d.params.defaults = []) (hr:Room k callerA)
  (hY:∀ (w:World) (h:Heap),YP w h→(K w.params).In h)
  (F:∀ (w:World) (mg:Str→Option Value) (fa:Addr) (h:Heap),(K w.params).In h→h.Ns mainGlobals mg→mg d.name = some (.ref fa) →
   ∃ fd:FuncData,(∀ (s:Shared) (u:Value),BindsTo s fd ⟨[u],[]⟩ [(x,u)]) ∧
    ∀ base:Heap,(K w.params).In base→base.Ns mainGlobals mg→FnOk l.prog w (K w.params) mg base (CX w) k fa fd [x] (sp w))
  (hsp:∀ (w:World) (H:Hp) (a:Addr) (ns:List Int),ns.length≤n→Only H→SqL (K w.params) H a (ns.map V.int)→sp w [.ref a] H (fun v _=>v = .bl true) fun _ _ _=>False)
  (hCX:∀ (w:World) (H:Hp) (s:Shared) (e:Value) (s':Shared),CX w [] H s (fun _ _ _=>False) e s'→False) :
  PySem.W.WalkO q loose XP YP l.row.toRowW d [] (fun f vs=>PySem.call f vs):=by
 refine Att.attach_call hn hdf fun w s₀ s₁ mg mb fa o pm cd doc a vs ns G Y ho hd hcd hmg hobj hints hlen hg=>?_
 have KX:=hY w _ Y
 obtain⟨fd,hb,hF⟩:=F w mg fa _ KX G.T.g hmg
 exact law_call KX G.T.g G.T.b G.T.builtins G.T.nolimit hg hobj hints (Nat.le_trans hlen hn2) hr hF hb (fun H hO hS=>hsp w H a ns hlen hO hS) fun H e s'=>hCX w H s₁ e s'
end L2
namespace L2
open PySem PySem.Spec PyProof.Rows
def defArgs (s:Stmt):Arguments:=match s with
 | .FunctionDef _ a _ _ _ _ _ _ _ _=>a
 | _=>{ posonlyargs:=[],args:=[],vararg:=none,kwonlyargs:=[],kw_defaults:=[],kwarg:=none,defaults:=[] }
def defBody (s:Stmt):List Stmt:=match s with
 | .FunctionDef _ _ b _ _ _ _ _ _ _=>b
 | _=>[]
def defScope (s:Stmt):Scope:=match s with
 | .FunctionDef _ _ _ _ _ _ sc _ _ _=>sc
 | _=>{ kind:=.function,names:=[],isGenerator:=false,isCoroutine:=false }
abbrev CX0:CXT:=fun _ _ _ _ _ _=>False
abbrev E0:XK:=fun _ _ _=>False
theorem pass0 {X:Cx}:Passes CX0 X E0:=fun _ _ _ _ _ _ _ h=>h.elim
structure Fun (K:PySem.W.Frag) (x qual:Str) (st:Stmt) (f:Addr) (fd:FuncData):Prop where
 ex:∃ (oc:Value) (od:Option Addr) (kV doc pm:Value) (an:Option Addr) (cdv ct:Value) (osl:Array (Option Value)),
  fd = PySem.W.fnOf x qual (defArgs st) (defBody st) (defScope st) .none kV doc pm an cdv ct∧K.lookup f = some ⟨oc,od,.func fd,osl⟩∧PySem.W.codeIn K cdv qual = true
 kp:PySem.W.keepIn K (.ref f) = true
section
variable {P:Program} {w:World} {K:PySem.W.Frag} {mg:Str→Option Value} {base:Heap}
theorem Fun.ok {x qual:Str} {st:Stmt} {f:Addr} {fd:FuncData} {N ps:List Str} {k:Nat} {sp:Sp} (F:Fun K x qual st f fd) (S:FnScope N ps (defScope st)) (len:∀ vs H Q E,sp vs H Q E→vs.length = ps.length)
  (hbody:∀ (cdv:Value) (A:Around) (outer:List Env) (s:Shared) (H:Hp) (vs:List V) (Q:VK) (E:XK),Room k (A.deeper (envOfC qual (defScope st) s.heap.objs.size f cdv))→sp vs H Q E →
   ∃ t,PSs (cxOf CX0 P w K mg base N qual (defScope st) f cdv A outer s H E).nox (defBody st) t∧t { nx:=fun _ H'=>Q .non H',rt:=Q } (start N vs) H):FnOk P w K mg base CX0 (k + 1) f fd ps sp:=by
 obtain⟨oc,od,kV,doc,pm,an,cdv,ct,osl,rfl,lk,hcd⟩:=F.ex
 refine fn_of lk hcd S len fun A outer s H vs Q E hr hsp=>?_
 obtain⟨t,h,q⟩:=hbody cdv A outer s H vs Q E hr hsp
 exact⟨t,h.nox,q⟩
theorem Fun.binds {x qual:Str} {st:Stmt} {f:Addr} {fd:FuncData} {ps:List Str} (F:Fun K x qual st f fd)
  (h:∀ (kV doc pm:Value) (an:Option Addr) (cdv ct:Value) (us:List Value),us.length = ps.length→bindArgs (PySem.W.fnOf x qual (defArgs st) (defBody st) (defScope st) .none kV doc pm an cdv ct) ⟨us,[]⟩ = pure (ps.zip us)):Binds K fd ps []:=by
 obtain⟨oc,od,kV,doc,pm,an,cdv,ct,osl,rfl,lk,hcd⟩:=F.ex
 exact .all (h kV doc pm an cdv ct)
theorem fun_mk {x qual:Str} {st:Stmt} {f:Addr} {oc:Value} {od an:Option Addr} {osl:Array (Option Value)} {kV doc pm cdv ct:Value} (l:K.lookup f = some ⟨oc,od,.func (PySem.W.fnOf x qual (defArgs st) (defBody st) (defScope st) .none kV doc pm an cdv ct),osl⟩)
  (c:PySem.W.codeIn K cdv qual = true) (k:PySem.W.keepIn K (.ref f) = true):Fun K x qual st f (PySem.W.fnOf x qual (defArgs st) (defBody st) (defScope st) .none kV doc pm an cdv ct):=⟨⟨oc,od,kV,doc,pm,an,cdv,ct,osl,rfl,l,c⟩,k⟩
end
theorem hu_of {A:Around} {k:Nat} (hr:Room k A):A.units + 1 < cLine:=Nat.lt_of_le_of_lt (Nat.add_le_add_left (by decide:1≤64) _) hr.units
section
variable {X:Cx}
end
section
variable {κ:Type} [DecidableEq κ]
end
end L2
end
section
set_option Elab.async false
set_option linter.all false
set_option maxRecDepth 100000
set_option maxHeartbeats 4000000
namespace L2
open PySem PySem.Spec PyProof.Rows
def freeNames (sc:Scope):List Str:=(sc.names.filter fun x=>x.2 == .free).map (·.1)
def closOf (sc:Scope) (env:Env):List (Str × Addr):=((freeNames sc).reverse).map fun n=>(n,(env.cells.lookup n).getD 0)
theorem closureFor_of {sc:Scope} {env:Env} (h:∀ n∈freeNames sc,∃ c,env.cells.lookup n = some c):closureFor sc env = pure (closOf sc env):=by
 have key:∀ (l:List (Str × NameKind)) (cs:List (Str × Addr)),(∀ x∈l,x.2 = .free→∃ c,env.cells.lookup x.1 = some c) →
   (forIn l cs fun (x:Str × NameKind) (r:List (Str × Addr))=>(if (x.2 == NameKind.free) = true then (do let a ← cellOf env x.1; pure (ForInStep.yield ((x.1,a) :: r))) else pure (ForInStep.yield r):Sem (ForInStep (List (Str × Addr)))))
    = pure ((((l.filter fun x=>x.2 == .free).map (·.1)).reverse).map (fun n=>(n,(env.cells.lookup n).getD 0)) ++ cs):=by
  intro l
  induction l with
  | nil=>intro cs _; rfl
  | cons x r ih =>
   intro cs hx
   rw [List.forIn_cons]
   by_cases hk:x.2 = .free
   ·obtain⟨c,hc⟩:=hx x List.mem_cons_self hk
    have e1:(x.2 == NameKind.free) = true:=by rw [hk]; rfl
    have e2:cellOf env x.1 = pure c:=by unfold cellOf; rw [hc]
    rw [if_pos e1,e2]
    show (forIn r ((x.1,c) :: cs) _:Sem _) = _
    rw [ih _ fun y hy=>hx y (List.mem_cons_of_mem _ hy)]
    rw [List.filter_cons,if_pos e1,List.map_cons,List.reverse_cons,List.map_append,List.append_assoc]
    simp [hc]
   ·have e1:(x.2 == NameKind.free) = false:=by simpa using hk
    rw [if_neg (by rw [e1]; decide)]
    show (forIn r cs _:Sem _) = _
    rw [ih _ fun y hy=>hx y (List.mem_cons_of_mem _ hy)]
    rw [List.filter_cons,if_neg (by rw [e1]; decide)]
 unfold closureFor closOf freeNames
 have:=key sc.names [] fun x hx hf=>h x.1 (by
  unfold freeNames
  exact List.mem_map.mpr ⟨x,List.mem_filter.mpr ⟨hx,by rw [hf]; rfl⟩,rfl⟩)
 rw [List.append_nil] at this
 show (forIn sc.names [] _ >>= pure:Sem _) = _
 refine Eq.trans (congrArg (· >>= pure) (Eq.trans (congrArg (fun f=>(forIn sc.names [] f:Sem (List (Str × Addr)))) (funext fun x=>funext fun r=>?_)) this)) rfl
 obtain⟨n,k⟩:=x
 rfl
theorem lookup_tab {f:Str→Addr} {x:Str}:∀ {l:List Str} {c:Addr},(l.map fun n=>(n,f n)).lookup x = some c→x∈l∧c = f x
 | [],_,h=>by simp at h
 | n :: r,c,h=>by
  simp only [List.map_cons,List.lookup_cons] at h
  cases hx:x == n with
  | true =>
   rw [hx] at h
   have e:x = n:=by simpa using hx
   subst e
   exact⟨List.mem_cons_self,(Option.some.inj h).symm⟩
  | false =>
   rw [hx] at h
   obtain⟨a,b⟩:=lookup_tab h
   exact⟨List.mem_cons_of_mem _ a,b⟩
theorem tab_lookup {f:Str→Addr} {x:Str}:∀ {l:List Str},x∈l→(l.map fun n=>(n,f n)).lookup x = some (f x)
 | n :: r,h=>by
  simp only [List.map_cons,List.lookup_cons]
  cases hx:x == n with
  | true =>
   have e:x = n:=by simpa using hx
   subst e
   rfl
  | false =>
   rcases List.mem_cons.mp h with e | e
   ·subst e; simp at hx
   ·exact tab_lookup e
theorem lookup_relabel_free {env:Env}:∀ {names:List (Str × NameKind)} {x:Str},names.lookup x = some .free →
  (names.map fun (n,k)=>if (k == NameKind.free && env.scope.kind == .function && env.kindOf n == some .cell) then (n,NameKind.cell) else (n,k)).lookup x = some .cell ∨
  (names.map fun (n,k)=>if (k == NameKind.free && env.scope.kind == .function && env.kindOf n == some .cell) then (n,NameKind.cell) else (n,k)).lookup x = some .free
 | [],_,h=>by simp at h
 | (n,k) :: r,x,h=>by
  have ih:=@lookup_relabel_free env r x
  show List.lookup x ((if (k == NameKind.free && env.scope.kind == .function && env.kindOf n == some .cell) = true then (n,NameKind.cell) else (n,k)) :: _) = _ ∨
   List.lookup x ((if (k == NameKind.free && env.scope.kind == .function && env.kindOf n == some .cell) = true then (n,NameKind.cell) else (n,k)) :: _) = _
  cases hx:x == n with
  | true =>
   simp only [List.lookup_cons,hx] at h
   by_cases hc:(k == NameKind.free && env.scope.kind == .function && env.kindOf n == some .cell) = true
   ·rw [if_pos hc]; simp only [List.lookup_cons,hx]; exact .inl trivial
   ·rw [if_neg hc]; simp only [List.lookup_cons,hx]; exact .inr h
  | false =>
   simp only [List.lookup_cons,hx] at h
   by_cases hc:(k == NameKind.free && env.scope.kind == .function && env.kindOf n == some .cell) = true
   ·rw [if_pos hc]; simp only [List.lookup_cons,hx]; exact ih h
   ·rw [if_neg hc]; simp only [List.lookup_cons,hx]; exact ih h
theorem relabel_back {env:Env}:∀ {names:List (Str × NameKind)} {x:Str},(∀ y∈names,y.2≠.cell) →
  ((names.map fun (n,k)=>if (k == NameKind.free && env.scope.kind == .function && env.kindOf n == some .cell) then (n,NameKind.cell) else (n,k)).lookup x = some .cell ∨
  (names.map fun (n,k)=>if (k == NameKind.free && env.scope.kind == .function && env.kindOf n == some .cell) then (n,NameKind.cell) else (n,k)).lookup x = some .free)→(x,NameKind.free)∈names
 | [],_,_,h=>by simp at h
 | (n,k) :: r,x,nc,h=>by
  have ih:=@relabel_back env r x fun y hy=>nc y (List.mem_cons_of_mem _ hy)
  change (List.lookup x ((if (k == NameKind.free && env.scope.kind == .function && env.kindOf n == some .cell) = true then (n,NameKind.cell) else (n,k)) :: _) = _ ∨
   List.lookup x ((if (k == NameKind.free && env.scope.kind == .function && env.kindOf n == some .cell) = true then (n,NameKind.cell) else (n,k)) :: _) = _) at h
  cases hx:x == n with
  | true =>
   have e:x = n:=by simpa using hx
   subst e
   by_cases hc:(k == NameKind.free && env.scope.kind == .function && env.kindOf x == some .cell) = true
   ·have:k = .free:=by
     have:=(Bool.and_eq_true_iff.mp (Bool.and_eq_true_iff.mp hc).1).1
     simpa using this
    rw [this]; exact List.mem_cons_self
   ·rw [if_neg hc] at h
    simp only [List.lookup_cons,hx] at h
    rcases h with h | h
    ·exact absurd (Option.some.inj h) (nc (x,k) List.mem_cons_self)
    ·rw [Option.some.inj h]; exact List.mem_cons_self
  | false =>
   refine List.mem_cons_of_mem _ (ih ?_)
   by_cases hc:(k == NameKind.free && env.scope.kind == .function && env.kindOf n == some .cell) = true
   ·rw [if_pos hc] at h; simpa only [List.lookup_cons,hx] using h
   ·rw [if_neg hc] at h; simpa only [List.lookup_cons,hx] using h
def compN (X:Cx) (own:List Str) (fr:List Nat):List Str:=own ++ fr.map fun k=>X.N.getD k Str.empty
def compSt (n:Nat) (fr:List Nat) (σ:St):St:=List.replicate n none ++ fr.map fun k=>(σ[k]?).join
def compCx (X:Cx) (sc:Scope) (own:List Str) (fr:List Nat) (C:Addr) (s₀:Shared) (H₀:Hp) (ex:List Addr):Cx where
 prog:=X.prog
 w:=X.w
 K:=X.K
 mg:=X.mg
 base:=X.base
 A:=X.A
 N:=compN X own fr
 s₀:=s₀
 H₀:=H₀
 env:=compEnvC sc (closOf sc X.env) C X.env
 outer:=X.stack
 stack:=X.stack
 ex:=ex
 fn:=fun _=>false
 calm:=X.calm
 pn:=[]
 xe:=fun _ _=>False
def FrOk (X:Cx) (sc:Scope):List Nat→Prop
 | []=>True
 | k :: r=>(sc.names.lookup (X.N.getD k Str.empty) = some .free∧(X.env.scope.names.lookup (X.N.getD k Str.empty) = some .cell∨X.env.scope.names.lookup (X.N.getD k Str.empty) = some .free))∧FrOk X sc r
theorem FrOk.mem {X:Cx} {sc:Scope}:∀ {fr:List Nat},FrOk X sc fr→∀ k∈fr,sc.names.lookup (X.N.getD k Str.empty) = some .free∧(X.env.scope.names.lookup (X.N.getD k Str.empty) = some .cell∨X.env.scope.names.lookup (X.N.getD k Str.empty) = some .free)
 | _ :: _,h,k,hk=>by
  rcases List.mem_cons.mp hk with e | e
  ·subst e; exact h.1
  ·exact FrOk.mem h.2 k e
def FreesOk (X:Cx):List Str→Prop
 | []=>True
 | n :: r=>(X.env.scope.names.lookup n = some .cell∨X.env.scope.names.lookup n = some .free)∧FreesOk X r
theorem FreesOk.mem {X:Cx}:∀ {l:List Str},FreesOk X l→∀ n∈l,X.env.scope.names.lookup n = some .cell∨X.env.scope.names.lookup n = some .free
 | _ :: _,h,n,hn=>by
  rcases List.mem_cons.mp hn with e | e
  ·subst e; exact h.1
  ·exact FreesOk.mem h.2 n e
structure CompScope (X:Cx) (sc:Scope) (fr:List Nat):Prop where
 kind:sc.kind = .function
 nocell:∀ y∈sc.names,y.2≠.cell
 names:∀ y∈sc.names,y.2 = .local→sc.names.lookup y.1 = some .local
 frees:FreesOk X (freeNames sc)
 fr:FrOk X sc fr
section
variable {X:Cx} {sc:Scope} {own:List Str} {fr:List Nat} {pins:List (Addr × Obj)} {σ:St} {H:Hp} {s:Shared}
theorem CompScope.cells (S:CompScope X sc fr) (I:Inv X pins σ H s):∀ n∈freeNames sc,∃ c,X.env.cells.lookup n = some c:=fun n hn=>I.ok.has n (S.frees.mem n hn)
theorem CompScope.look (S:CompScope X sc fr) (I:Inv X pins σ H s) {x:Str} {c:Addr} (h:(closOf sc X.env).lookup x = some c):X.env.cells.lookup x = some c:=by
 obtain⟨a,b⟩:=lookup_tab h
 obtain⟨d,e⟩:=S.cells I x (List.mem_reverse.mp a)
 rw [e] at b
 rw [e,b]
 rfl
theorem mem_freeNames {x:Str} (h:(x,NameKind.free)∈sc.names):x∈freeNames sc:=List.mem_map.mpr ⟨_,List.mem_filter.mpr ⟨h,rfl⟩,rfl⟩
theorem CompScope.back (S:CompScope X sc fr) (I:Inv X pins σ H s) {x:Str} (hx:x∈freeNames sc):∃ c,(closOf sc X.env).lookup x = some c∧X.env.cells.lookup x = some c:=by
 obtain⟨c,e⟩:=S.cells I x hx
 refine⟨c,?_,e⟩
 unfold closOf
 rw [tab_lookup (List.mem_reverse.mpr hx),e]
 rfl
theorem inv_comp (S:CompScope X sc fr) {fp:List Addr} (I:Inv X pins σ H s) (hf:∀ b∈fp,FpOk X pins H b) (ho:∀ b∈fp,∃ o,s.heap.get? b = some o) {h₁:Heap} {t:Nat}
  (hns:h₁.Ns s.heap.objs.size (fun _=>none)) (hk:∀ b o,s.heap.get? b = some o→h₁.get? b = some o) :
  Inv (compCx X sc own fr s.heap.objs.size s H fp) [] (compSt own.length fr σ) H { s with heap:=h₁,toks:=t }:=by
 have ltC:∀ b o,s.heap.get? b = some o→b≠s.heap.objs.size:=fun b o e=>Nat.ne_of_lt (Heap.lt_size e)
 have cellOld:∀ x c,(closOf sc X.env).lookup x = some c→∃ v,s.heap.IsCell c v:=fun x c e=>I.cell x c (S.look I e)
 refine⟨⟨I.ok.mod,S.kind,I.ok.glob,I.ok.blt,Nat.le_refl _,fun x y c h1 h2=>I.ok.inj x y c (S.look I h1) (S.look I h2),fun x hx=>?_,fun x c z=>absurd z (by simp [compCx]),I.ok.hd,I.ok.frames,.inl rfl,fun b hb=>?_,I.bs,Nat.le_trans I.ok.bsz I.sz,fun b o e hb=>?_,fun b hb=>?_,I.stack,I.stkFree⟩,
  rfl,I.bare,Un.kept hk,⟨_,hns,fun i x v e1 e2 e3=>?_⟩,fun x c e=>?_,I.hok.fresh (Nat.le_refl _),fun x c e=>I.freeC x c (S.look I e),fun p hp=>absurd (show p∈([]:List (Addr × Obj)) from hp) (by simp),I.hok.kept hk,?_⟩
 ·have:=relabel_back (env:=X.env) S.nocell hx
  obtain⟨c,e,_⟩:=S.back I (mem_freeNames this)
  exact⟨c,e⟩
 ·obtain⟨o,e⟩:=ho b hb
  obtain⟨_,_,_,_,f4,_⟩:=hf b hb
  exact⟨ltC b o e,fun x c e'=>f4 x c (S.look I e')⟩
 ·obtain⟨_,_,_,f3,_⟩:=hf b hb
  rcases f3 with z | z
  ·exact I.ok.noex b o e z
  ·exact absurd (Nat.lt_of_lt_of_le (Heap.lt_size e) (Nat.le_trans I.ok.bsz z)) (Nat.lt_irrefl _)
 ·obtain⟨_,f1,f2,_⟩:=hf b hb
  intro z
  rcases List.mem_cons.mp (I.stkSub b z) with q | q
  ·exact f1 q
  ·exact f2 q
 ·
  have hi:own.length≤i:=by
   rcases Nat.lt_or_ge i own.length with z | z
   ·exfalso
    change (List.replicate own.length none ++ fr.map fun k=>(σ[k]?).join)[i]? = some (some v) at e2
    rw [List.getElem?_append_left (by simpa using z),List.getElem?_replicate,if_pos z] at e2
    cases e2
   ·exact z
  change (List.replicate own.length none ++ fr.map fun k=>(σ[k]?).join)[i]? = some (some v) at e2
  rw [List.getElem?_append_right (by simpa using hi),List.length_replicate,List.getElem?_map] at e2
  change (own ++ fr.map fun k=>X.N.getD k Str.empty)[i]? = some x at e1
  rw [List.getElem?_append_right hi,List.getElem?_map] at e1
  cases e:fr[i - own.length]? with
  | none=>rw [e] at e1; cases e1
  | some k =>
   rw [e] at e1 e2
   have e1:X.N.getD k Str.empty = x:=Option.some.inj e1
   have e2:(σ[k]?).join = some v:=Option.some.inj e2
   have e2':σ[k]? = some (some v):=by
    cases q:σ[k]? with
    | none=>rw [q] at e2; cases e2
    | some z=>rw [q] at e2; cases z with
     | none=>cases e2
     | some z=>rw [show z = v from Option.some.inj e2]
   have hkl:k < X.N.length:=by
    have:=(List.getElem?_eq_some_iff.mp e2').1
    rw [I.len] at this
    exact this
   have e1':X.N[k]? = some x:=by
    rw [List.getElem?_eq_getElem hkl,← e1]
    simp [List.getD,hkl]
   obtain⟨q1,q2⟩:=S.fr.mem k (List.mem_of_getElem? e)
   rw [e1] at q1 q2
   have hvis:Vis X.env.scope x:=by
    rcases q2 with z | z
    ·exact .inr (.inl z)
    ·exact .inr (.inr z)
   obtain⟨m,hn,hl⟩:=I.loc
   obtain⟨u,r,l⟩:=hl k x v e1' e2' hvis
   refine⟨u,r,.inr ⟨?_,?_⟩⟩
   ·exact lookup_relabel_free (env:=X.env) q1
   ·rcases l with ⟨z,_⟩ | ⟨_,c,hc,z⟩
    ·exfalso
     have z:X.env.scope.names.lookup x = some .local:=z
     rcases q2 with y | y
     ·rw [z] at y; cases y
     ·rw [z] at y; cases y
    ·obtain⟨c',h1,h2⟩:=S.back I (mem_freeNames (PySem.mem_of_lookup q1))
     rw [hc] at h2
     cases h2
     obtain⟨o,ho',hd⟩:=z
     exact⟨c,h1,o,hk c o ho',hd⟩
 ·obtain⟨v,o,ho',hd⟩:=cellOld x c e
  exact⟨v,o,hk c o ho',hd⟩
 ·show (List.replicate own.length none ++ fr.map fun k=>(σ[k]?).join).length = (own ++ fr.map fun k=>X.N.getD k Str.empty).length
  simp
end
def PTs (X:Cx) (ifs:List Expr) (t:TT):Prop :=
 ∀ (pins:List (Addr × Obj)) (s:Shared) (σ:St) (H:Hp) (Q:Bool→Hp→Prop),Inv X pins σ H s→t σ H Q →
  wpAny (model X.prog X.w) X.A (forIn ifs true fun c r=>if r = true then do let ok ← isTrue c X.env (eval c X.env); pure (ForInStep.yield ok) else pure (ForInStep.yield r)) (TP X pins σ Q) X.xe s
def tYes:TT:=fun _ H Q=>Q true H
theorem pts_nil {X:Cx}:PTs X [] tYes:=fun pins s σ H Q I h=>wpAny_tests_nil ⟨H,I,h⟩
theorem pts_one {X:Cx} {c:Expr} {t:TT} (hc:PT X c t):PTs X [c] t:=fun pins s σ H Q I h=>wpAny_tests_one (hc pins s σ H Q I h)
abbrev TM:=Addr→St→Hp→(Hp→Prop)→Prop
def PM (X:Cx) (emit:Env→Addr→Sem Unit) (t:TM):Prop :=
 ∀ (pins:List (Addr × Obj)) (s:Shared) (σ:St) (H:Hp) (D:Addr) (Q:Hp→Prop),Inv X pins σ H s→t D σ H Q →
  wpAny (model X.prog X.w) X.A (emit X.env D) (fun _ s'=>∃ H',Inv X pins σ H' s'∧Q H') X.xe s
def tCompB (acc:HO) (wi:TI) (n:Nat) (fr:List Nat) (g:TG) (tc:TT) (tm:TM):St→Hp→(Addr→Hp→Prop)→Prop:=fun σ H Q =>
 wi σ H fun J H1=>∀ p,H1 p = none→∃ W:Nat→Nat→St→Hp→Prop,(∃ m,W 0 m (compSt n fr σ) (upd H1 p acc)) ∧
  ∀ i m σ' H',W i m σ' H'→(J.stop i H'∧Q p H')∨(J.go i H'∧∃ N:St→Hp→Prop,(∀ σ2 H2,N σ2 H2→∃ m',m' < m∧W (i + 1) m' σ2 H2)∧∀ x H2,J.yld i H' x H2→g x σ' H2 fun σ3 H3=>tc σ3 H3 fun b H4 =>
   if b = true then tm p σ3 H4 (N σ3) else N σ3 H4)
structure CompForm (e:Expr) (tg iter:Expr) (ifs:List Expr) (emit:Env→Addr→Sem Unit):Prop where
 cl:∃ gs,clausesOf e = ⟨tg,iter,ifs,0⟩ :: gs
 under:∀ (A:Around) it acc env,A.under (.compLoop e 0 it acc env) = A
 den:∀ (prog:Program) (w:World) it acc env,(model prog w).den (.compLoop e 0 it acc env) = ((compTurn e 0 it acc env).onRaise (fun x=>do noteFrame x env; theTreesLotGoes x))
 turn:∀ it D env,compTurn e 0 it (.ref D) env = (do
   standAt iter.pos
   match ← pyNext it with
   | none=>pure (.done .next)
   | some v =>
    letOwnedTupleGo tg it v
    assign tg env v
    let mut ok:=true
    for c in ifs do
     if ok then ok ← isTrue c env (eval c env)
    if ok then
     emit env D
    again (.compLoop e 0 it (.ref D) env))
 start:∀ (prog:Program) (w:World) (A:Around) (R:Result→Shared→Prop) (s:Shared) it acc env,codeAny (model prog w) A (.compLoop e 0 it acc env) R s →
  wpAny (model prog w) A (pyIter it) (fun it' s'=>codeAny (model prog w) A (.compLoop e 0 it' acc env) R s') (notedBy (model prog w) A env fun x s'=>R (.error x) s') s →
  codeAny (model prog w) A (.compStart e 0 it acc env) R s
section
variable {X:Cx} {sc:Scope} {own:List Str} {fr:List Nat} {e tg iter:Expr} {ifs:List Expr} {emit:Env→Addr→Sem Unit} {wi:TI} {g:TG} {tc:TT} {tm:TM} {acc:HO}
theorem comp_loop (F:CompForm e tg iter ifs emit) (hc:X.calm = true) {C:Addr} {s₀:Shared} {H₀:Hp} {fp:List Addr} {it D:Addr} {tn:Nat→Heap→Prop} {J:It} {R:Result→Shared→Prop} {s:Shared}
  (hg:PG (compCx X sc own fr C s₀ H₀ fp) tg g) (ht:PTs (compCx X sc own fr C s₀ H₀ fp) ifs tc) (hm:PM (compCx X sc own fr C s₀ H₀ fp) emit tm)
  (T:Turn X.prog X.w X.K tg J fp it tn) (hfp:∀ b∈fp,b≠C∧b ∉ frs X.stack∧∀ x c,(closOf sc X.env).lookup x = some c→c≠b)
  (W:Nat→Nat→St→Hp→Prop) {Q:Hp→Prop} (turn:∀ i m σ' H',W i m σ' H'→(J.stop i H'∧Q H')∨(J.go i H'∧∃ N:St→Hp→Prop,(∀ σ2 H2,N σ2 H2→∃ m',m' < m∧W (i + 1) m' σ2 H2)∧∀ x H2,J.yld i H' x H2→g x σ' H2 fun σ3 H3=>tc σ3 H3 fun b H4 =>
   if b = true then tm D σ3 H4 (N σ3) else N σ3 H4))
  (hR:∀ σ' H' s',Inv (compCx X sc own fr C s₀ H₀ fp) [] σ' H' s'→Q H'→R (.ok .next) s')
  {m0:Nat} {σ0:St} {H0:Hp} (I0:Inv (compCx X sc own fr C s₀ H₀ fp) [] σ0 H0 s) (st0:tn 0 s.heap) (fr0:∀ b∈fp,H0 b = none) (w0:W 0 m0 σ0 H0) :
  codeAny (model X.prog X.w) X.A (.compLoop e 0 (.ref it) (.ref D) (compEnvC sc (closOf sc X.env) C X.env)) R s:=by
 have stat:∀ {H':Hp},(∀ b∈fp,H' b = none)→∀ b∈fp,FpOk (compCx X sc own fr C s₀ H₀ fp) [] H' b:=fun hn b hb =>
  ⟨hn b hb,(hfp b hb).1,(hfp b hb).2.1,.inl hb,(hfp b hb).2.2,fun p hp=>absurd (show p∈([]:List (Addr × Obj)) from hp) (by simp)⟩
 refine codeAny_loop rfl (fun n s'=>∃ i σ' H',Inv (compCx X sc own fr C s₀ H₀ fp) [] σ' H' s'∧tn i s'.heap∧(∀ b∈fp,H' b = none)∧W i n σ' H') (fun n s hI=>?_) m0 ⟨0,σ0,H0,I0,st0,fr0,w0⟩
 rw [F.under,F.den]
 refine wpAny_noted ?_
 rw [F.turn]
 obtain⟨i,σ3,H3,I3,st3,fr3,w3⟩:=hI
 have lift:∀ {α:Type} {t:Sem α} {Q':α→Shared→Prop} {E:Value→Shared→Prop} {s:Shared},wpAny (model X.prog X.w) X.A t Q' (fun _ _=>False) s→wpAny (model X.prog X.w) X.A t Q' E s:=fun h=>wpAny_mono h (fun _ _ q=>q) fun _ _ z=>z.elim
 refine wpAny_bind (wpAny_standAt (wpAny_bind ?_))
 rcases turn i n σ3 H3 w3 with ⟨stop,qn⟩ | ⟨go,N,hN,step⟩
 ·refine lift (thn (T.done (compCx X sc own fr C s₀ H₀ fp) rfl rfl rfl hc i [] s σ3 H3 (fun _ _=>False) I3 (stat fr3) st3 stop) fun r s4 ⟨hr,I4⟩=>?_)
  subst hr
  exact wpAny_pure (hR σ3 H3 s4 I4 qn)
 ·refine lift (thn (T.item (compCx X sc own fr C s₀ H₀ fp) rfl rfl rfl hc i [] s σ3 H3 (fun _ _=>False) I3 (stat fr3) st3 go) fun r s4 ⟨u,hr,h4⟩=>?_)
  subst hr
  refine wpAny_bind (lift (thn h4 fun _ s5 ⟨x,H5,I5,r5,y5,st5,fr5⟩=>?_))
  have I5':=I5.pinned (stat fr5) (T.obj _ _ st5)
  refine wpAny_bind (lift (thn (hg _ s5 σ3 H5 x u _ I5' r5 (step x H5 y5)) fun _ s6 ⟨σ6,H6,I6,q6⟩=>?_))
  refine wpAny_bind (lift (thn (ht _ s6 σ6 H6 _ I6 q6) fun ok s7 ⟨H7,I7,q7⟩=>?_))
  have again:∀ {σ8:St} {H8:Hp} {s8:Shared},Inv (compCx X sc own fr C s₀ H₀ fp) ([] ++ pinsAt fp s5.heap) σ8 H8 s8→(∃ m',m' < n∧W (i + 1) m' σ8 H8)→∃ m,m < n∧∃ i σ' H',Inv (compCx X sc own fr C s₀ H₀ fp) [] σ' H' s8∧tn i s8.heap∧(∀ b∈fp,H' b = none)∧W i m σ' H':=fun {σ8 H8 s8} I8 ⟨m',hm',w8⟩=>by
   refine⟨m',hm',i + 1,σ8,H8,I8.unpinned,T.keep _ _ _ st5 fun b hb o e=>(I8.pin (b,o) (List.mem_append_right _ (List.mem_append_right _ (mem_pinsAt hb e)))).1,fun b hb=>?_,w8⟩
   obtain⟨o,e,d⟩:=T.obj _ _ st5 b hb
   exact (I8.pin (b,o) (List.mem_append_right _ (List.mem_append_right _ (mem_pinsAt hb e)))).2.1
  cases ok with
  | false=>exact wpAny_pure ⟨rfl,again I7 (hN _ _ q7)⟩
  | true =>
   refine wpAny_bind (lift (thn (hm _ s7 σ6 H7 D _ I7 q7) fun _ s8 ⟨H8,I8,q8⟩=>?_))
   exact wpAny_pure ⟨rfl,again I8 (hN _ _ q8)⟩
end
def PNew (X:Cx) (newAcc:Sem Value) (acc:HO):Prop :=
 ∀ (pins:List (Addr × Obj)) (s:Shared) (σ:St) (H:Hp) (E:Value→Shared→Prop) (Q:Value→Shared→Prop),Inv X pins σ H s →
  (∀ p s',H p = none→p = s.heap.objs.size→(∀ b o,s.heap.get? b = some o→s'.heap.get? b = some o)→s'.os = s.os→Inv X pins σ (upd H p acc) s'→Q (.ref p) s')→wpAny (model X.prog X.w) X.A newAcc Q E s
theorem pnew_list {X:Cx}:PNew X (newList []) (.lst []):=by
 intro pins s σ H E Q I h
 refine wpAny_newObj_type ?_
 exact h _ _ (I.hok.fresh (Nat.le_refl _)) rfl (fun b o e=>Heap.get?_push_of_some _ e) rfl (I.lnew (its:=[]) (t':=s.toks) .nil (Nat.zero_le _))
theorem pnew_dict {X:Cx}:PNew X newDict (.dK []):=by
 intro pins s σ H E Q I h
 refine wpAny_newObj_type ?_
 exact h _ _ (I.hok.fresh (Nat.le_refl _)) rfl (fun b o e=>Heap.get?_push_of_some _ e) rfl (I.laid (a:=s.heap.objs.size) (o:=.dK []) (t':=s.toks) (fun _ _ q=>Heap.get?_push_of_some _ q) (Nat.le_refl _) (dk_empty s.heap I.big))
section
variable {X:Cx} {sc:Scope} {own:List Str} {fr:List Nat} {e tg iter:Expr} {ifs:List Expr} {emit:Env→Addr→Sem Unit} {wi:TI} {g:TG} {tc:TT} {tm:TM} {acc:HO} {newAcc:Sem Value} {pos:Pos}
theorem comp_any (F:CompForm e tg iter ifs emit) (hc:X.calm = true) (S:CompScope X sc fr) (hi:PI X tg iter wi) (hnew:PNew X newAcc acc)
  (hg:∀ C s₀ H₀ fp,PG (compCx X sc own fr C s₀ H₀ fp) tg g) (ht:∀ C s₀ H₀ fp,PTs (compCx X sc own fr C s₀ H₀ fp) ifs tc) (hm:∀ C s₀ H₀ fp,PM (compCx X sc own fr C s₀ H₀ fp) emit tm)
  (hs:∀ x,foldedSetIterable iter X.env x = pure x) {use:Option (Value→Sem Unit)} {pins:List (Addr × Obj)} {s:Shared} {σ:St} {H:Hp} {Q:Addr→Hp→Prop} {Q':Value→Shared→Prop} (I:Inv X pins σ H s)
  (h:tCompB acc wi own.length fr g tc tm σ H Q)
  (hq:∀ (p C:Addr) (H':Hp) (s':Shared) (m:Str→Option Value),Inv X pins σ H' s'→Q p H'→s'.heap.Ns C m→H' C = none→C≠X.env.locals→X.s₀.heap.objs.size≤C→(∀ x c,X.env.cells.lookup x = some c→c≠C)→(∀ q∈X.pn ++ pins,q.1≠C) →
   compPost (model X.prog X.w) X.A X.xe use Q' (.ref p) C (.ok .next) s') :
  wpAny (model X.prog X.w) X.A (comprehension e sc X.env pos newAcc false (eval iter X.env) use) Q' X.xe s:=by
 obtain⟨gs,hcl⟩:=F.cl
 refine wpAny_comprehension_free hcl hs (closureFor_of (S.cells I)) S.kind S.names (thn (hi pins s σ H _ I h) fun v s1 h1=>thn h1 fun itv s2 h2=>?_)
 obtain⟨it,fp,tn,J,H2,e2,I2,T,st2,f2,q2⟩:=h2
 subst e2
 refine hnew pins s2 σ H2 _ _ I2 fun p s3 np hp k3 os3 I3=>?_
 obtain⟨W,⟨m0,w0⟩,turn⟩:=q2 p np
 refine wpAny_newFunctionEnv S.nocell (by intro x hx; simp at hx) (fun h₁ hns hsb=>?_) S.kind
 have hk:∀ b o,s3.heap.get? b = some o→h₁.get? b = some o:=fun b o eb=>hsb.extBut b o (Nat.ne_of_lt (Heap.lt_size eb)) (Heap.get?_push_of_some _ eb)
 have ob2:∀ b∈fp,∃ o,s2.heap.get? b = some o:=fun b hb=>let ⟨o,eo,_⟩:=T.obj _ _ st2 b hb; ⟨o,eo⟩
 have fpn:∀ b∈fp,b≠p:=fun b hb z=>by
  obtain⟨o,eo⟩:=ob2 b hb
  rw [z,hp] at eo
  exact absurd (Heap.lt_size eo) (Nat.lt_irrefl _)
 have f3:∀ b∈fp,FpOk X pins (upd H2 p acc) b:=fun b hb=>by
  obtain⟨a1,a2⟩:=f2 b hb
  exact⟨by rw [upd_ne (fpn b hb)]; exact a1,a2⟩
 have ob3:∀ b∈fp,∃ o,s3.heap.get? b = some o:=fun b hb=>let ⟨o,eo⟩:=ob2 b hb; ⟨o,k3 b o eo⟩
 have I4:=inv_comp (own:=own) (t:=s3.toks + ([]:List (Str × Value)).length) S I3 f3 ob3 (h₁:=h₁) hns hk
 have st4:tn 0 h₁:=T.keep _ _ _ st2 fun b hb o eo=>hk b o (k3 b o eo)
 have hfp:∀ b∈fp,b≠s3.heap.objs.size∧b ∉ frs X.stack∧∀ x c,(closOf sc X.env).lookup x = some c→c≠b:=fun b hb=>by
  obtain⟨_,f1,f2',_,f4,_⟩:=f3 b hb
  obtain⟨o,eo⟩:=ob3 b hb
  refine⟨Nat.ne_of_lt (Heap.lt_size eo),fun z=>?_,fun x c ec=>f4 x c (S.look I3 ec)⟩
  rcases List.mem_cons.mp (I3.stkSub b z) with q | q
  ·exact f1 q
  ·exact f2' q
 have loop:codeAny (model X.prog X.w) X.A (.compLoop e 0 (.ref it) (.ref p) (compEnvC sc (closOf sc X.env) s3.heap.objs.size X.env)) (compPost (model X.prog X.w) X.A X.xe use Q' (.ref p) s3.heap.objs.size) { s3 with heap:=h₁,toks:=s3.toks + ([]:List (Str × Value)).length }:=by
  refine comp_loop (s₀:=s3) (H₀:=upd H2 p acc) (own:=own) (fr:=fr) (Q:=fun H'=>Q p H') F hc (hg _ _ _ _) (ht _ _ _ _) (hm _ _ _ _) T hfp W turn (fun σ' H' s' J' qq=>?_) I4 st4 (fun b hb=>(f3 b hb).1) w0
  obtain⟨m,hn,_⟩:=J'.loc
  have un:Un (frs X.stack) fp H2 H' s2.heap s'.heap:=(Un.laid (o:=acc) k3 (by rw [hp]; exact Nat.le_refl _) np).trans J'.base
  have IX:Inv X pins σ H' s':=I2.call' (ch:=fp) (J'.os.trans os3) un J'.hok J'.bare fun b hb=>by
   obtain⟨_,f1,_,f3',f4,f5⟩:=f2 b hb
   exact⟨f3',f1,f4,f5⟩
  refine hq p s3.heap.objs.size H' s' m IX qq hn J'.free (Ne.symm (Nat.ne_of_lt I3.lt)) I3.sz (fun x c ec=>?_) fun q hq'=>?_
  ·obtain⟨v,o,eo,_⟩:=I3.cell x c ec
   exact Nat.ne_of_lt (Heap.lt_size eo)
  ·exact Nat.ne_of_lt (Heap.lt_size (I3.pin q hq').1)
 exact F.start _ _ _ _ _ _ _ _ loop (T.self _ _ _ _ _ st4 loop)
theorem comp_value (F:CompForm e tg iter ifs emit) (hc:X.calm = true) (S:CompScope X sc fr) (hi:PI X tg iter wi) (hnew:PNew X newAcc acc)
  (hg:∀ C s₀ H₀ fp,PG (compCx X sc own fr C s₀ H₀ fp) tg g) (ht:∀ C s₀ H₀ fp,PTs (compCx X sc own fr C s₀ H₀ fp) ifs tc) (hm:∀ C s₀ H₀ fp,PM (compCx X sc own fr C s₀ H₀ fp) emit tm)
  (hs:∀ x,foldedSetIterable iter X.env x = pure x) {pins:List (Addr × Obj)} {s:Shared} {σ:St} {H:Hp} {Q:VK} (I:Inv X pins σ H s)
  (h:tCompB acc wi own.length fr g tc tm σ H fun p H'=>Q (.ref p) H') :
  wpAny (model X.prog X.w) X.A (comprehension e sc X.env pos newAcc false (eval iter X.env) none) (EP X pins σ Q) X.xe s:=by
 refine comp_any F hc S hi hnew hg ht hm hs I h fun p C H' s' m I' q hn h1 h2 h3 h4 h5=>⟨m,hn,fun h' hb=>?_⟩
 exact⟨.ref p,H',I'.turned (t':=s'.toks) (fun b o hne eo=>hb.extBut b o hne eo) h1 h2 (.inr h3) h4 h5,rfl,q⟩
theorem comp_store (F:CompForm e tg iter ifs emit) (hc:X.calm = true) (S:CompScope X sc fr) (hi:PI X tg iter wi) (hnew:PNew X newAcc acc)
  (hg:∀ C s₀ H₀ fp,PG (compCx X sc own fr C s₀ H₀ fp) tg g) (ht:∀ C s₀ H₀ fp,PTs (compCx X sc own fr C s₀ H₀ fp) ifs tc) (hm:∀ C s₀ H₀ fp,PM (compCx X sc own fr C s₀ H₀ fp) emit tm)
  (hs:∀ x,foldedSetIterable iter X.env x = pure x) {pins:List (Addr × Obj)} {s:Shared} {σ:St} {H:Hp} {D:Ends} {j:Nat} {y:Str} {py:Pos} (hN:X.N.Nodup) (hj:X.N[j]? = some y) (hy:Loc X.env.scope y)
  (hf:X.fn y = true∨X.env.scope.names.lookup y = some .local) (I:Inv X pins σ H s)
  (h:tCompB acc wi own.length fr g tc tm σ H fun p H'=>D.nx (σ.set j (some (.ref p))) H') :
  wpAny (model X.prog X.w) X.A (comprehension e sc X.env pos newAcc false (eval iter X.env) (some (assign (.Name y py) X.env))) (fun _ s'=>SP X pins D .next s') X.xe s:=by
 refine comp_any F hc S hi hnew hg ht hm hs I h fun p C H' s' m I' q hn h1 h2 h3 h4 h5=>?_
 show wpAny _ _ (assign (.Name y py) X.env (.ref p)) _ _ s'
 refine wpAny_assign_Name (store_ok2 I' hN hj hy (show RelV (V.ref p) (Value.ref p) from rfl) (fun s2 I2 ⟨a,sb,ha⟩=>?_) hf)
 have hCa:C≠a:=by
  rcases ha with z | z
  ·rw [z]; exact h2
  ·exact fun w=>h4 y a z w.symm
 refine⟨m,hn.sameBut sb hCa,fun h' hb=>?_⟩
 exact⟨_,H',I2.turned (t':=s2.toks) (fun b o hne eo=>hb.extBut b o hne eo) h1 h2 (.inr h3) h4 h5,q⟩
end
def emitL (elt:Expr):Env→Addr→Sem Unit:=fun env D=>do let _ ← call (.builtin "list.append") [.ref D,← eval elt env]
theorem form_list {elt tg iter:Expr} {ifs:List Expr} {sc:Scope} {pos:Pos}:CompForm (.ListComp elt [⟨tg,iter,ifs,0⟩] sc pos) tg iter ifs (emitL elt) :=
 ⟨⟨_,rfl⟩,fun _ _ _ _=>rfl,fun _ _ _ _ _=>rfl,fun _ _ _=>rfl,fun _ _ _ _ _ _ _ _ h0 h=>codeAny_compStart_list h0 h⟩
def mApp (te:TE):TM:=fun p σ H Q=>te σ H fun y H1=>∃ ys,H1 p = some (.lst ys)∧ys.length < sizeLine∧Q (upd H1 p (.lst (ys ++ [y])))
theorem pm_list {X:Cx} {elt:Expr} {te:TE} (h:PE X elt te):PM X (emitL elt) (mApp te):=by
 intro pins s σ H D Q I hw
 unfold emitL
 refine wpAny_bind (thn (h pins s σ H _ I hw) fun u s1 ⟨y,H1,I1,r1,ys,e1,l1,q1⟩=>wpAny_bind ?_)
 obtain⟨z,its,n,r,hl,e⟩:=I1.lstM e1
 refine call_meets F.slot_list_append ⟨_,e,rfl⟩ F.entry_list_append (F.args_list_append_2 _ _) (PySem.list_append D its.toArray n u (by rw [List.size_toArray]; omega)) ⟨e,?_⟩
 refine wpAny_pure ⟨_,I1.lset (its':=its ++ [u]) e1 e (by simp) (r.append (.cons r1 .nil)) ?_,q1⟩
 rw [List.length_append,List.length_singleton]
 omega
def tLC (wi:TI) (n:Nat) (fr:List Nat) (g:TG) (tc:TT) (te:TE):TE:=fun σ H Q=>tCompB (.lst []) wi n fr g tc (mApp te) σ H fun p H'=>Q (.ref p) H'
section
variable {X:Cx} {sc:Scope} {own:List Str} {fr:List Nat} {elt tg iter:Expr} {ifs:List Expr} {wi:TI} {g:TG} {tc:TT} {te:TE} {pos:Pos}
theorem pe_lc (hc:X.calm = true) (S:CompScope X sc fr) (hi:PI X tg iter wi)
  (hg:∀ C s₀ H₀ fp,PG (compCx X sc own fr C s₀ H₀ fp) tg g) (ht:∀ C s₀ H₀ fp,PTs (compCx X sc own fr C s₀ H₀ fp) ifs tc) (he:∀ C s₀ H₀ fp,PE (compCx X sc own fr C s₀ H₀ fp) elt te)
  (hs:∀ x,foldedSetIterable iter X.env x = pure x:=by intro _; rfl):PE X (.ListComp elt [⟨tg,iter,ifs,0⟩] sc pos) (tLC wi own.length fr g tc te):=by
 intro pins s σ H Q I h
 rw [eval_ListComp]
 exact comp_value form_list hc S hi pnew_list hg ht (fun _ _ _ _=>pm_list (he _ _ _ _)) hs I h
theorem ps_lc {j:Nat} {y:Str} {py spos:Pos} (hc:X.calm = true) (hN:X.N.Nodup) (hj:X.N[j]? = some y) (hy:Loc X.env.scope y) (S:CompScope X sc fr) (hi:PI X tg iter wi)
  (hg:∀ C s₀ H₀ fp,PG (compCx X sc own fr C s₀ H₀ fp) tg g) (ht:∀ C s₀ H₀ fp,PTs (compCx X sc own fr C s₀ H₀ fp) ifs tc) (he:∀ C s₀ H₀ fp,PE (compCx X sc own fr C s₀ H₀ fp) elt te)
  (hsw:swapsWith (.ListComp elt [⟨tg,iter,ifs,0⟩] sc pos) (some (.Name y py)) spos.line X.env = pure true:=by rfl)
  (hf:X.fn y = true∨X.env.scope.names.lookup y = some .local:=by first | exact .inl rfl | exact .inr rfl | assumption)
  (hs:∀ x,foldedSetIterable iter X.env x = pure x:=by intro _; rfl):PS X (.Assign [.Name y py] (.ListComp elt [⟨tg,iter,ifs,0⟩] sc pos) spos) (tAsg (tLC wi own.length fr g tc te) (gName j)):=by
 intro pins s σ H D I h
 rw [exec_Assign_Name_used _ _ _ _ hsw]
 refine wpAny_bind (wpAny_standAt (wpAny_bind ?_))
 show wpAny _ _ (do let _ ← comprehension (.ListComp elt [⟨tg,iter,ifs,0⟩] sc pos) sc X.env _ (newList []) false (eval iter X.env) (some (assign (.Name y py) X.env))) _ _ s
 refine wpAny_bind (thn (comp_store form_list hc S hi pnew_list hg ht (fun _ _ _ _=>pm_list (he _ _ _ _)) hs hN hj hy hf I h) fun _ s' q=>wpAny_pure (wpAny_pure q))
end
def emitD (kx vx:Expr):Env→Addr→Sem Unit:=fun env D=>do
 let kv ← eval kx env
 let vv ← holding [kv] (eval vx env)
 standAt { kx.pos with endLine:=vx.pos.endLine,endCol:=vx.pos.endCol }
 holding [kv,vv] (dictSet D kv vv)
theorem form_dict {kx vx tg iter:Expr} {ifs:List Expr} {sc:Scope} {pos:Pos}:CompForm (.DictComp kx vx [⟨tg,iter,ifs,0⟩] sc pos) tg iter ifs (emitD kx vx) :=
 ⟨⟨_,rfl⟩,fun _ _ _ _=>rfl,fun _ _ _ _ _=>rfl,fun _ _ _=>rfl,fun _ _ _ _ _ _ _ _ h0 h=>codeAny_compStart_dict h0 h⟩
section
variable {X:Cx} {sc:Scope} {own:List Str} {fr:List Nat} {kx vx tg iter:Expr} {ifs:List Expr} {wi:TI} {g:TG} {tc:TT} {tk tv:TE} {pos:Pos}
end
theorem comp_list {K:PySem.W.Frag} {a:Addr} {xs:List V} {g:TG} {tc:TT} {tm:TM} {σ:St} {H:Hp} {p:Addr} {Q:Hp→Prop} (Pv:Nat→St→Hp→Prop) (h0:Pv 0 σ H)
  (hl:∀ i σ H,i≤xs.length→Pv i σ H→SqL K H a xs)
  (hs:∀ i x σ H,xs[i]? = some x→Pv i σ H→g x σ H fun σ3 H3=>tc σ3 H3 fun b H4=>if b = true then tm p σ3 H4 (Pv (i + 1) σ3) else Pv (i + 1) σ3 H4) (hd:∀ σ H,Pv xs.length σ H→Q H) :
  ∃ W:Nat→Nat→St→Hp→Prop,(∃ m,W 0 m σ H) ∧
  ∀ i m σ' H',W i m σ' H'→((Itl K a).stop i H'∧Q H')∨((Itl K a).go i H'∧∃ N:St→Hp→Prop,(∀ σ2 H2,N σ2 H2→∃ m',m' < m∧W (i + 1) m' σ2 H2)∧∀ x H2,(Itl K a).yld i H' x H2→g x σ' H2 fun σ3 H3=>tc σ3 H3 fun b H4 =>
   if b = true then tm p σ3 H4 (N σ3) else N σ3 H4):=by
 refine⟨fun i m σ H=>m = xs.length - i∧i≤xs.length∧Pv i σ H,⟨xs.length,by simp,Nat.zero_le _,h0⟩,?_⟩
 rintro i m σ H ⟨rfl,hi,pv⟩
 have q:=hl i σ H hi pv
 by_cases hlt:i < xs.length
 ·refine .inr ⟨⟨xs,xs[i],q,by simp [hlt]⟩,Pv (i + 1),fun σ' H' p'=>⟨xs.length - (i + 1),by omega,rfl,hlt,p'⟩,fun x H' y=>?_⟩
  obtain⟨e,y⟩:=y
  subst e
  exact hs i x σ _ (y xs q) pv
 ·have e:i = xs.length:=by omega
  subst e
  exact .inl ⟨⟨xs,q,Nat.le_refl _⟩,hd σ H pv⟩
theorem comp_tup {K:PySem.W.Frag} {a:Addr} {xs:List V} {g:TG} {tc:TT} {tm:TM} {σ:St} {H:Hp} {p:Addr} {Q:Hp→Prop} (Pv:Nat→St→Hp→Prop) (h0:Pv 0 σ H)
  (hl:∀ i σ H,i≤xs.length→Pv i σ H→SqT K H a xs)
  (hs:∀ i x σ H,xs[i]? = some x→Pv i σ H→g x σ H fun σ3 H3=>tc σ3 H3 fun b H4=>if b = true then tm p σ3 H4 (Pv (i + 1) σ3) else Pv (i + 1) σ3 H4) (hd:∀ σ H,Pv xs.length σ H→Q H) :
  ∃ W:Nat→Nat→St→Hp→Prop,(∃ m,W 0 m σ H) ∧
  ∀ i m σ' H',W i m σ' H'→((Itt K a).stop i H'∧Q H')∨((Itt K a).go i H'∧∃ N:St→Hp→Prop,(∀ σ2 H2,N σ2 H2→∃ m',m' < m∧W (i + 1) m' σ2 H2)∧∀ x H2,(Itt K a).yld i H' x H2→g x σ' H2 fun σ3 H3=>tc σ3 H3 fun b H4 =>
   if b = true then tm p σ3 H4 (N σ3) else N σ3 H4):=by
 refine⟨fun i m σ H=>m = xs.length - i∧i≤xs.length∧Pv i σ H,⟨xs.length,by simp,Nat.zero_le _,h0⟩,?_⟩
 rintro i m σ H ⟨rfl,hi,pv⟩
 have q:=hl i σ H hi pv
 by_cases hlt:i < xs.length
 ·refine .inr ⟨⟨xs,xs[i],q,by simp [hlt]⟩,Pv (i + 1),fun σ' H' p'=>⟨xs.length - (i + 1),by omega,rfl,hlt,p'⟩,fun x H' y=>?_⟩
  obtain⟨e,y⟩:=y
  subst e
  exact hs i x σ _ (y xs q) pv
 ·have e:i = xs.length:=by omega
  subst e
  exact .inl ⟨⟨xs,q,Nat.le_refl _⟩,hd σ H pv⟩
theorem comp_range {lo:Int} {n:Nat} {g:TG} {tc:TT} {tm:TM} {σ:St} {H:Hp} {p:Addr} {Q:Hp→Prop} (Pv:Nat→St→Hp→Prop) (h0:Pv 0 σ H)
  (hs:∀ i σ H,i < n→Pv i σ H→g (.int (lo + i)) σ H fun σ3 H3=>tc σ3 H3 fun b H4=>if b = true then tm p σ3 H4 (Pv (i + 1) σ3) else Pv (i + 1) σ3 H4) (hd:∀ σ H,Pv n σ H→Q H) :
  ∃ W:Nat→Nat→St→Hp→Prop,(∃ m,W 0 m σ H) ∧
  ∀ i m σ' H',W i m σ' H'→((Itr lo n).stop i H'∧Q H')∨((Itr lo n).go i H'∧∃ N:St→Hp→Prop,(∀ σ2 H2,N σ2 H2→∃ m',m' < m∧W (i + 1) m' σ2 H2)∧∀ x H2,(Itr lo n).yld i H' x H2→g x σ' H2 fun σ3 H3=>tc σ3 H3 fun b H4 =>
   if b = true then tm p σ3 H4 (N σ3) else N σ3 H4):=by
 refine⟨fun i m σ H=>m = n - i∧i≤n∧Pv i σ H,⟨n,by simp,Nat.zero_le _,h0⟩,?_⟩
 rintro i m σ H ⟨rfl,hi,pv⟩
 by_cases hlt:i < n
 ·refine .inr ⟨hlt,Pv (i + 1),fun σ' H' p'=>⟨n - (i + 1),by omega,rfl,hlt,p'⟩,fun x H' y=>?_⟩
  obtain⟨e,y⟩:=y
  subst e y
  exact hs i σ _ hlt pv
 ·have e:i = n:=by omega
  subst e
  exact .inl ⟨Nat.le_refl _,hd σ H pv⟩
end L2
end
section
set_option Elab.async false
set_option linter.all false
set_option maxRecDepth 100000
set_option maxHeartbeats 4000000
namespace L2
open PySem PySem.Spec PyProof.Rows
inductive DD where
 | non | bl (b:Bool) | int (i:Int) | str (x:Str) | lst (ds:List DD) | tup (ds:List DD)
mutual
def dep:DD→Nat
 | .lst ds=>depL ds + 1
 | .tup ds=>depL ds + 1
 | _=>0
def depL:List DD→Nat
 | []=>0
 | d :: ds=>max (dep d) (depL ds)
end
mutual
def eqD:DD→DD→Bool
 | .non,.non=>true
 | .bl a,.bl b=>a == b
 | .bl a,.int b=>(if a then 1 else 0) == b
 | .int a,.bl b=>a == (if b then 1 else 0)
 | .int a,.int b=>a == b
 | .str a,.str b=>a == b
 | .lst as,.lst bs=>eqDs as bs
 | .tup as,.tup bs=>eqDs as bs
 | _,_=>false
def eqDs:List DD→List DD→Bool
 | [],[]=>true
 | a :: as,b :: bs=>eqD a b && eqDs as bs
 | _,_=>false
end
mutual
def Den (H:Hp) (v:V):DD→Prop
 | .non=>v = .non
 | .bl b=>v = .bl b
 | .int i=>v = .int i
 | .str x=>v = .str x
 | .lst ds=>∃ a xs,v = .ref a∧H a = some (.lst xs)∧Dens H xs ds
 | .tup ds=>∃ a xs,v = .ref a∧H a = some (.tup xs)∧Dens H xs ds
def Dens (H:Hp) (xs:List V):List DD→Prop
 | []=>xs = []
 | d :: ds=>∃ x r,xs = x :: r∧Den H x d∧Dens H r ds
end
theorem depL_mem:∀ {ds:List DD} {d:DD},d∈ds→dep d≤depL ds
 | d :: ds,e,h=>by
  rw [depL]
  rcases List.mem_cons.mp h with rfl | h
  ·omega
  ·have:=depL_mem h
   omega
theorem Dens.length:∀ {H:Hp} {xs:List V} {ds:List DD},Dens H xs ds→xs.length = ds.length
 | _,_,[],h=>by rw [Dens] at h; subst h; rfl
 | _,_,d :: ds,h=>by
  rw [Dens] at h
  obtain⟨x,r,rfl,_,h⟩:=h
  simp [Dens.length h]
theorem Dens.get {H:Hp}:∀ {xs:List V} {ds:List DD} {i:Nat} {d:DD},Dens H xs ds→ds[i]? = some d→∃ x,xs[i]? = some x∧Den H x d
 | _,[],_,_,_,e=>by simp at e
 | _,d :: ds,i,c,h,e=>by
  rw [Dens] at h
  obtain⟨x,r,rfl,h1,h⟩:=h
  cases i with
  | zero=>simp at e; subst e; exact⟨x,rfl,h1⟩
  | succ i =>
   obtain⟨y,e1,e2⟩:=Dens.get (i:=i) h (by simpa using e)
   exact⟨y,by simpa using e1,e2⟩
theorem Dens.get' {H:Hp} {xs:List V} {ds:List DD} {i:Nat} {x:V} (h:Dens H xs ds) (e:xs[i]? = some x):∃ d,ds[i]? = some d∧Den H x d:=by
 have hi:i < ds.length:=by rw [← h.length]; exact (List.getElem?_eq_some_iff.mp e).1
 obtain⟨y,e1,e2⟩:=h.get (List.getElem?_eq_getElem hi)
 rw [e] at e1
 cases e1
 exact⟨_,List.getElem?_eq_getElem hi,e2⟩
def Sub (G H:Hp):Prop:=∀ a o,G a = some o→H a = some o
theorem Sub.refl {H:Hp}:Sub H H:=fun _ _ h=>h
theorem Sub.trans {A B C:Hp} (h:Sub A B) (h':Sub B C):Sub A C:=fun a o e=>h' a o (h a o e)
theorem Sub.upd {G H:Hp} {p:Addr} {o:HO} (h:Sub G H) (n:G p = none):Sub G (upd H p o):=fun a u e=>by
 rw [upd_ne (ne_of_none e n)]
 exact h a u e
theorem Sub.new {H:Hp} {p:Addr} {o:HO} (n:H p = none):Sub H (L2.upd H p o):=Sub.upd Sub.refl n
theorem Sub.free {G H:Hp} {p:Addr} (h:Sub G H) (n:H p = none):G p = none:=by
 cases e:G p with
 | none=>rfl
 | some o=>rw [h p o e] at n; cases n
mutual
theorem Den.inj {H:Hp}:∀ {v:V} (d e:DD),Den H v d→Den H v e→d = e
 | v,.non,e,h,h'=>by
  rw [Den] at h
  subst h
  cases e <;> rw [Den] at h' <;> first | rfl | (cases h'; done) | (obtain⟨_,_,z,_⟩:=h'; cases z)
 | v,.bl b,e,h,h'=>by
  rw [Den] at h
  subst h
  cases e <;> rw [Den] at h' <;> first | (cases h'; rfl) | (cases h'; done) | (obtain⟨_,_,z,_⟩:=h'; cases z)
 | v,.int b,e,h,h'=>by
  rw [Den] at h
  subst h
  cases e <;> rw [Den] at h' <;> first | (cases h'; rfl) | (cases h'; done) | (obtain⟨_,_,z,_⟩:=h'; cases z)
 | v,.str b,e,h,h'=>by
  rw [Den] at h
  subst h
  cases e <;> rw [Den] at h' <;> first | (cases h'; rfl) | (cases h'; done) | (obtain⟨_,_,z,_⟩:=h'; cases z)
 | v,.lst ds,e,h,h'=>by
  rw [Den] at h
  obtain⟨a,xs,rfl,h1,h2⟩:=h
  cases e <;> rw [Den] at h' <;> first | (cases h'; done) | (obtain⟨b,ys,z,h3,h4⟩:=h'; cases z; rw [h1] at h3; cases h3; done) | (obtain⟨b,ys,z,h3,h4⟩:=h'; cases z; rw [h1] at h3; cases h3; rw [Dens.inj ds _ h2 h4])
 | v,.tup ds,e,h,h'=>by
  rw [Den] at h
  obtain⟨a,xs,rfl,h1,h2⟩:=h
  cases e <;> rw [Den] at h' <;> first | (cases h'; done) | (obtain⟨b,ys,z,h3,h4⟩:=h'; cases z; rw [h1] at h3; cases h3; done) | (obtain⟨b,ys,z,h3,h4⟩:=h'; cases z; rw [h1] at h3; cases h3; rw [Dens.inj ds _ h2 h4])
theorem Dens.inj {H:Hp}:∀ {xs:List V} (ds es:List DD),Dens H xs ds→Dens H xs es→ds = es
 | _,[],es,h,h'=>by
  rw [Dens] at h
  subst h
  cases es with
  | nil=>rfl
  | cons e es=>obtain⟨_,_,z,_⟩:=h'; cases z
 | _,d :: ds,es,h,h'=>by
  rw [Dens] at h
  obtain⟨x,r,rfl,h1,h2⟩:=h
  cases es with
  | nil=>cases h'
  | cons e es =>
   obtain⟨y,q,z,h3,h4⟩:=h'
   cases z
   rw [Den.inj d e h1 h3,Dens.inj ds es h2 h4]
end
mutual
theorem eqD_refl:∀ d:DD,eqD d d = true
 | .non=>by simp [eqD]
 | .bl b=>by simp [eqD]
 | .int b=>by simp [eqD]
 | .str b=>by simp [eqD]
 | .lst ds=>by rw [eqD]; exact eqDs_refl ds
 | .tup ds=>by rw [eqD]; exact eqDs_refl ds
theorem eqDs_refl:∀ ds:List DD,eqDs ds ds = true
 | []=>by simp [eqDs]
 | d :: ds=>by rw [eqDs,eqD_refl d,eqDs_refl ds]; rfl
end
theorem eqDs_all:∀ as bs:List DD,eqDs as bs = ((List.range (min as.length bs.length)).all (fun j=>eqD (as.getD j .non) (bs.getD j .non)) && as.length == bs.length)
 | [],[]=>by simp [eqDs]
 | [],b :: bs=>by simp [eqDs]
 | a :: as,[]=>by simp [eqDs]
 | a :: as,b :: bs=>by
  rw [eqDs,eqDs_all as bs]
  rw [show min (a :: as).length (b :: bs).length = min as.length bs.length + 1 by simp only [List.length_cons]; omega]
  rw [List.range_succ_eq_map,List.all_cons,List.all_map]
  simp only [List.getD_cons_zero,List.length_cons,Bool.and_assoc]
  congr 1
  congr 1
  have:∀ (m n:Nat),(m + 1 == n + 1) = (m == n):=fun m n=>by
   by_cases h:m = n
   ·subst h; simp
   ·rw [beq_eq_false_iff_ne.mpr h,beq_eq_false_iff_ne.mpr (by omega)]
  rw [this]
section
variable {X:Cx} {pins:List (Addr × Obj)} {σ:St} {H:Hp} {s:Shared}
open PySem.SeqAt
def EqAll (A:Around) (s:Shared) (u v:Value) (b:Bool):Prop:=EqAt A s u v b∧RcAt A s u v b∧RcNeAt A s u v (!b)
theorem vals_getD {H:Hp} {xs:List V} {ds:List DD} {us:List Value} (h:Dens H xs ds) (r:Vals xs us) {j:Nat} (hj:j < us.toArray.size):∃ x d,Den H x d∧RelV x (us.toArray[j])∧ds.getD j .non = d∧d∈ds:=by
 rw [List.size_toArray] at hj
 have hj':j < xs.length:=by rw [r.length]; exact hj
 obtain⟨u,e1,e2⟩:=r.get (List.getElem?_eq_getElem hj')
 obtain⟨d,e3,e4⟩:=h.get' (List.getElem?_eq_getElem hj')
 refine⟨_,d,e4,?_,?_,List.mem_of_getElem? e3⟩
 ·rw [List.getElem?_eq_getElem hj] at e1
  cases e1
  simpa using e2
 ·rw [List.getD_eq_getElem?_getD,e3]; rfl
theorem eq_all (I:Inv X pins σ H s):∀ (n:Nat) (d e:DD) (A:Around) (x y:V) (u v:Value),dep d≤n→Den H x d→Den H y e→RelV x u→RelV y v→A.units + n < cLine→EqAll A s u v (eqD d e):=by
 intro n
 induction n with
 | zero =>
  intro d e A x y u v hd hx hy rx ry hu
  cases d with
  | lst ds=>simp [dep] at hd
  | tup ds=>simp [dep] at hd
  | non =>
   rw [Den] at hx; subst hx; cases rx
   cases e with
   | non=>rw [Den] at hy; subst hy; cases ry; exact⟨EqAt.same _,RcAt.none_none,RcNeAt.none_none⟩
   | bl b=>rw [Den] at hy; subst hy; cases ry; exact⟨EqAt.none_bool b,RcAt.none_bool b,RcNeAt.none_bool b⟩
   | int b=>rw [Den] at hy; subst hy; obtain⟨t,rfl⟩:=ry; exact⟨EqAt.none_int b t,RcAt.none_int b t,RcNeAt.none_int b t⟩
   | str b=>rw [Den] at hy; subst hy; obtain⟨t,rfl⟩:=ry; exact⟨EqAt.none_str b t,RcAt.none_str b t,RcNeAt.none_str b t⟩
   | lst es=>rw [Den] at hy; obtain⟨a,xs,rfl,h1,h2⟩:=hy; cases ry; obtain⟨its,_,p,_⟩:=I.list (SqL.of h1); exact⟨EqAt.none_list p.isList hu,RcAt.none_list p.isList hu,RcNeAt.none_list p.isList hu⟩
   | tup es=>rw [Den] at hy; obtain⟨a,xs,rfl,h1,h2⟩:=hy; cases ry; obtain⟨its,_,p,_⟩:=I.tuple (SqT.of h1); exact⟨EqAt.none_tuple p hu,RcAt.none_tuple p hu,RcNeAt.none_tuple p hu⟩
  | bl a =>
   rw [Den] at hx; subst hx; cases rx
   cases e with
   | non=>rw [Den] at hy; subst hy; cases ry; exact⟨EqAt.bool_none a,RcAt.bool_none a,RcNeAt.bool_none a⟩
   | bl b=>rw [Den] at hy; subst hy; cases ry; exact⟨EqAt.bool_bool a b,RcAt.bool_bool a b,RcNeAt.bool_bool a b⟩
   | int b=>rw [Den] at hy; subst hy; obtain⟨t,rfl⟩:=ry; exact⟨EqAt.bool_int a b t,RcAt.bool_int a b t,RcNeAt.bool_int a b t⟩
   | str b=>rw [Den] at hy; subst hy; obtain⟨t,rfl⟩:=ry; exact⟨EqAt.bool_str a b t,RcAt.bool_str a b t,RcNeAt.bool_str a b t⟩
   | lst es=>rw [Den] at hy; obtain⟨b,xs,rfl,h1,h2⟩:=hy; cases ry; obtain⟨its,_,p,_⟩:=I.list (SqL.of h1); exact⟨EqAt.bool_list a p.isList hu,RcAt.bool_list a p.isList hu,RcNeAt.bool_list a p.isList hu⟩
   | tup es=>rw [Den] at hy; obtain⟨b,xs,rfl,h1,h2⟩:=hy; cases ry; obtain⟨its,_,p,_⟩:=I.tuple (SqT.of h1); exact⟨EqAt.bool_tuple a p hu,RcAt.bool_tuple a p hu,RcNeAt.bool_tuple a p hu⟩
  | int a =>
   rw [Den] at hx; subst hx; obtain⟨t',rfl⟩:=rx
   cases e with
   | non=>rw [Den] at hy; subst hy; cases ry; exact⟨EqAt.int_none a t',RcAt.int_none a t',RcNeAt.int_none a t'⟩
   | bl b=>rw [Den] at hy; subst hy; cases ry; exact⟨EqAt.int_bool a t' b,RcAt.int_bool a t' b,RcNeAt.int_bool a t' b⟩
   | int b=>rw [Den] at hy; subst hy; obtain⟨t,rfl⟩:=ry; exact⟨EqAt.int_int a t' b t,RcAt.int_int a t' b t,RcNeAt.int_int a t' b t⟩
   | str b=>rw [Den] at hy; subst hy; obtain⟨t,rfl⟩:=ry; exact⟨EqAt.int_str a t' b t,RcAt.int_str a t' b t,RcNeAt.int_str a t' b t⟩
   | lst es=>rw [Den] at hy; obtain⟨b,xs,rfl,h1,h2⟩:=hy; cases ry; obtain⟨its,_,p,_⟩:=I.list (SqL.of h1); exact⟨EqAt.int_list a t' p.isList hu,RcAt.int_list a t' p.isList hu,RcNeAt.int_list a t' p.isList hu⟩
   | tup es=>rw [Den] at hy; obtain⟨b,xs,rfl,h1,h2⟩:=hy; cases ry; obtain⟨its,_,p,_⟩:=I.tuple (SqT.of h1); exact⟨EqAt.int_tuple a t' p hu,RcAt.int_tuple a t' p hu,RcNeAt.int_tuple a t' p hu⟩
  | str a =>
   rw [Den] at hx; subst hx; obtain⟨t',rfl⟩:=rx
   cases e with
   | non=>rw [Den] at hy; subst hy; cases ry; exact⟨EqAt.str_none a t',RcAt.str_none a t',RcNeAt.str_none a t'⟩
   | bl b=>rw [Den] at hy; subst hy; cases ry; exact⟨EqAt.str_bool a t' b,RcAt.str_bool a t' b,RcNeAt.str_bool a t' b⟩
   | int b=>rw [Den] at hy; subst hy; obtain⟨t,rfl⟩:=ry; exact⟨EqAt.str_int a t' b t,RcAt.str_int a t' b t,RcNeAt.str_int a t' b t⟩
   | str b=>rw [Den] at hy; subst hy; obtain⟨t,rfl⟩:=ry; exact⟨EqAt.str_str a t' b t,RcAt.str_str a t' b t,RcNeAt.str_str a t' b t⟩
   | lst es=>rw [Den] at hy; obtain⟨b,xs,rfl,h1,h2⟩:=hy; cases ry; obtain⟨its,_,p,_⟩:=I.list (SqL.of h1); exact⟨EqAt.str_list a t' p.isList hu,RcAt.str_list a t' p.isList hu,RcNeAt.str_list a t' p.isList hu⟩
   | tup es=>rw [Den] at hy; obtain⟨b,xs,rfl,h1,h2⟩:=hy; cases ry; obtain⟨its,_,p,_⟩:=I.tuple (SqT.of h1); exact⟨EqAt.str_tuple a t' p hu,RcAt.str_tuple a t' p hu,RcNeAt.str_tuple a t' p hu⟩
 | succ n ih =>
  intro d e A x y u v hd hx hy rx ry hu
  have hu0:A.units < cLine:=by omega
  cases d with
  | lst ds =>
   have hdl:∀ c∈ds,dep c≤n:=fun c hc=>by have:=depL_mem hc; rw [dep] at hd; omega
   have hxd:=hx
   rw [Den] at hx; obtain⟨a,xs,rfl,h1,h2⟩:=hx; cases rx
   obtain⟨its,r,p,_⟩:=I.list (SqL.of h1)
   cases e with
   | non=>rw [Den] at hy; subst hy; cases ry; exact⟨EqAt.list_none p.isList hu0,RcAt.list_none p.isList hu0,RcNeAt.list_none p.isList hu0⟩
   | bl b=>rw [Den] at hy; subst hy; cases ry; exact⟨EqAt.list_bool b p.isList hu0,RcAt.list_bool b p.isList hu0,RcNeAt.list_bool b p.isList hu0⟩
   | int b=>rw [Den] at hy; subst hy; obtain⟨t,rfl⟩:=ry; exact⟨EqAt.list_int b t p.isList hu0,RcAt.list_int b t p.isList hu0,RcNeAt.list_int b t p.isList hu0⟩
   | str b=>rw [Den] at hy; subst hy; obtain⟨t,rfl⟩:=ry; exact⟨EqAt.list_str b t p.isList hu0,RcAt.list_str b t p.isList hu0,RcNeAt.list_str b t p.isList hu0⟩
   | tup es=>rw [Den] at hy; obtain⟨b,ys,rfl,h3,h4⟩:=hy; cases ry; obtain⟨its',_,p',_⟩:=I.tuple (SqT.of h3); exact⟨EqAt.list_tuple p.isList p' hu0,RcAt.list_tuple p.isList p' hu0,RcNeAt.list_tuple p.isList p' hu0⟩
   | lst es =>
    have hyd:=hy
    rw [Den] at hy; obtain⟨b,ys,rfl,h3,h4⟩:=hy; cases ry
    obtain⟨its',r',p',_⟩:=I.list (SqL.of h3)
    have l1:=h2.length; have l2:=h4.length; have l3:=r.length; have l4:=r'.length
    have ch:∀ j (g1:j < its.toArray.size) (g2:j < its'.toArray.size),EqAt A.in1 s its.toArray[j] its'.toArray[j] (eqD (ds.getD j .non) (es.getD j .non)):=fun j g1 g2=>by
     obtain⟨x1,d1,a1,a2,a3,a4⟩:=vals_getD h2 r g1
     obtain⟨x2,d2,b1,b2,b3,b4⟩:=vals_getD h4 r' g2
     rw [a3,b3]
     exact (ih d1 d2 A.in1 x1 x2 _ _ (hdl d1 a4) a1 b1 a2 b2 (by show A.units + 1 + n < _; omega)).1
    have main:RcAt A s (.ref a) (.ref b) (eqD (.lst ds) (.lst es))∧RcNeAt A s (.ref a) (.ref b) (!eqD (.lst ds) (.lst es)):=by
     rw [eqD,eqDs_all]
     by_cases hl:ds.length = es.length
     ·have hs:its.toArray.size = its'.toArray.size:=by simp; omega
      have e1:min ds.length es.length = its.toArray.size:=by simp; omega
      have e2:(ds.length == es.length) = true:=by simpa using hl
      rw [e1,e2,Bool.and_true]
      exact⟨RcAt.lists p.isList p'.isList hs hu0 ch,RcNeAt.lists p.isList p'.isList hs hu0 ch⟩
     ·have hs:(its.toArray.size != its'.toArray.size) = true:=by simp; omega
      have e2:(ds.length == es.length) = false:=by simpa using hl
      rw [e2,Bool.and_false]
      exact⟨RcAt.lists_lengths p.isList p'.isList hs hu0,RcNeAt.lists_lengths p.isList p'.isList hs hu0⟩
    refine⟨?_,main⟩
    by_cases hab:a = b
    ·subst hab
     have:=Den.inj _ _ hxd hyd
     rw [this,eqD_refl]
     exact EqAt.same _
    ·exact EqAt.of_refs hab main.1
  | tup ds =>
   have hdl:∀ c∈ds,dep c≤n:=fun c hc=>by have:=depL_mem hc; rw [dep] at hd; omega
   have hxd:=hx
   rw [Den] at hx; obtain⟨a,xs,rfl,h1,h2⟩:=hx; cases rx
   obtain⟨its,r,p,_⟩:=I.tuple (SqT.of h1)
   cases e with
   | non=>rw [Den] at hy; subst hy; cases ry; exact⟨EqAt.tuple_none p hu0,RcAt.tuple_none p hu0,RcNeAt.tuple_none p hu0⟩
   | bl b=>rw [Den] at hy; subst hy; cases ry; exact⟨EqAt.tuple_bool b p hu0,RcAt.tuple_bool b p hu0,RcNeAt.tuple_bool b p hu0⟩
   | int b=>rw [Den] at hy; subst hy; obtain⟨t,rfl⟩:=ry; exact⟨EqAt.tuple_int b t p hu0,RcAt.tuple_int b t p hu0,RcNeAt.tuple_int b t p hu0⟩
   | str b=>rw [Den] at hy; subst hy; obtain⟨t,rfl⟩:=ry; exact⟨EqAt.tuple_str b t p hu0,RcAt.tuple_str b t p hu0,RcNeAt.tuple_str b t p hu0⟩
   | lst es=>rw [Den] at hy; obtain⟨b,ys,rfl,h3,h4⟩:=hy; cases ry; obtain⟨its',_,p',_⟩:=I.list (SqL.of h3); exact⟨EqAt.tuple_list p p'.isList hu0,RcAt.tuple_list p p'.isList hu0,RcNeAt.tuple_list p p'.isList hu0⟩
   | tup es =>
    have hyd:=hy
    rw [Den] at hy; obtain⟨b,ys,rfl,h3,h4⟩:=hy; cases ry
    obtain⟨its',r',p',_⟩:=I.tuple (SqT.of h3)
    have l1:=h2.length; have l2:=h4.length; have l3:=r.length; have l4:=r'.length
    have ch:∀ j (g1:j < its.toArray.size) (g2:j < its'.toArray.size),EqAt A.in1 s its.toArray[j] its'.toArray[j] (eqD (ds.getD j .non) (es.getD j .non)):=fun j g1 g2=>by
     obtain⟨x1,d1,a1,a2,a3,a4⟩:=vals_getD h2 r g1
     obtain⟨x2,d2,b1,b2,b3,b4⟩:=vals_getD h4 r' g2
     rw [a3,b3]
     exact (ih d1 d2 A.in1 x1 x2 _ _ (hdl d1 a4) a1 b1 a2 b2 (by show A.units + 1 + n < _; omega)).1
    have main:RcAt A s (.ref a) (.ref b) (eqD (.tup ds) (.tup es))∧RcNeAt A s (.ref a) (.ref b) (!eqD (.tup ds) (.tup es)):=by
     rw [eqD,eqDs_all]
     have e1:min ds.length es.length = min its.toArray.size its'.toArray.size:=by simp; omega
     have e2:(ds.length == es.length) = (its.toArray.size == its'.toArray.size):=by
      rw [List.size_toArray,List.size_toArray,← l1,← l2,l3,l4]
     rw [e1,e2]
     exact⟨RcAt.tuples p p' hu0 ch,RcNeAt.tuples p p' hu0 ch⟩
    refine⟨?_,main⟩
    by_cases hab:a = b
    ·subst hab
     have:=Den.inj _ _ hxd hyd
     rw [this,eqD_refl]
     exact EqAt.same _
    ·exact EqAt.of_refs hab main.1
  | non=>exact ih .non e A x y u v (by simp [dep]) hx hy rx ry (by omega)
  | bl b=>exact ih (.bl b) e A x y u v (by simp [dep]) hx hy rx ry (by omega)
  | int b=>exact ih (.int b) e A x y u v (by simp [dep]) hx hy rx ry (by omega)
  | str b=>exact ih (.str b) e A x y u v (by simp [dep]) hx hy rx ry (by omega)
def rEqD:R2:=fun x y H Q=>∃ d e,Den H x d∧Den H y e∧dep d≤60∧Q (.bl (eqD d e)) H
theorem op_eqD {k:Nat} (hr:Room k X.A):OpR X (compareOp .Eq) rEqD:=by
 intro pins s σ H x y v u Q I rx ry h
 obtain⟨d,e,h1,h2,h3,q⟩:=h
 have hu:=hr.units
 exact (eq_all I 60 d e X.A x y _ _ h3 h1 h2 rx ry (by omega)).2.1 _ _ _ _ ⟨.bl _,H,I,rfl,q⟩
end
end L2
end
section
set_option Elab.async false
set_option linter.all false
set_option maxRecDepth 100000
set_option maxHeartbeats 4000000
namespace L2
open PySem PySem.Spec PyProof.Rows
structure ExC (K:PySem.W.Frag) (C:Addr):Prop where
 ga:PySem.W.findIn K (.ref C) "__getattribute__" = some (some (.builtin "BaseException.__getattribute__"))
 na:PySem.W.findIn K (.ref C) "__getattr__" = some none
 cl:PySem.W.findIn K (.ref C) "__class__" = some (some (.builtin "object.__class__"))
 gt:PySem.W.specialIn K (.builtin "object.__class__") "__get__" = some (some (.builtin "getset_descriptor.__get__"))
 tk:PySem.W.takesIn K (.builtin "object.__class__") = some true
 mo:PySem.W.mroIn K C (.type "object") = some true
 mb:PySem.W.mroIn K C (.type "BaseException") = some true
 ci:(PySem.W.clsIn K C).isSome = true
section
variable {prog:Program} {w:World} {A:Around} {E:Value→Shared→Prop} {s:Shared} {K:PySem.W.Frag} {x C:Addr}
open PySem.W PySem.Builtin PySem.Builtin.ObjectAttr PySem.Builtin.Getset_descriptor
end
section
variable {X:Cx} {pins:List (Addr × Obj)} {σ:St} {H:Hp} {s:Shared} {A:Around} {E:Value→Shared→Prop} {Q:Value→Shared→Prop} {c:Value} {b:Bool}
end
end L2
end
section
set_option Elab.async false
set_option linter.all false
set_option maxRecDepth 100000
set_option maxHeartbeats 4000000
namespace L2
open PySem PySem.Spec PyProof.Rows
def CXE (P:Program) (w:World):CXT:=fun outer H s E e s'=>∃ (x C:Addr) (B hr:Heap) (a0:Value) (H':Hp),e = .ref x∧s'.os = s.os∧AllBare s'.gens∧Un (frs outer) [] H H' s.heap hr∧HOk P w H' hr ∧
 Heap.FlyingW B outer x (.ref C) a0 s'.heap∧hr.UpToSlots s'.heap∧hr.get? x = none∧(∀ b o,hr.get? b = some o→b ∉ frs outer→B.get? b = none→s.heap.objs.size≤b∧H' b = none) ∧
 (∀ b o,hr.get? b = some o→B.get? b = none∨B.get? b = some o)∧E (.ref C) none H'
section
variable {X:Cx} {pins:List (Addr × Obj)} {σ:St} {H:Hp} {s:Shared}
theorem own_obj {K:PySem.W.Frag} {h₀:Heap} {C:Addr} {bmB:List Value} {newId:String} (X:K.In h₀) (q:PySem.W.excIn K C bmB newId = true) :
  ∃ bm N nm q bs hdct sn sub ab col dd k0 k1 k2 k3 k5 mN,h₀.get? C = some (excClassObj nm q C N bs bm hdct sn sub ab col dd k0 k1 k2 k3 k5 newId)∧h₀.Ns N mN∧mN "__init__" = none∧OwnTail h₀ bmB bm:=by
 open PySem.W in
 unfold excIn at q
 split at q
 ·rename_i dd cd sl ho
  split at q
  ·rename_i C' bm k0 k1 k2 k3 n k5 hm hs
   simp only [Bool.and_eq_true,beq_iff_eq,Bool.not_eq_true'] at q
   obtain⟨⟨⟨⟨⟨rfl,rfl⟩,hdel⟩,ht⟩,hok⟩,hni⟩:=q
   obtain⟨nm,bs,mro,ns,qn,hd,sn,sub,ab,col,del⟩:=cd
   dsimp only at hm hdel hok hni
   subst hm hdel
   have hsl:sl = #[k0,k1,k2,k3,some (.builtin n),k5]:=by
    obtain⟨l⟩:=sl
    simp only at hs
    rw [hs]
   subst hsl
   exact⟨bm,ns,nm,qn,bs,hd,sn,sub,ab,col,dd,k0,k1,k2,k3,k5,_,X _ _ ho,.of_isNs (PySem.W.isNs_of_in X hok),PySem.W.nsMap_none_of_in X hok hni,PySem.W.tail_of_in X ht⟩
  ·cases q
 ·cases q
abbrev veMro:List Value:=[.type "ValueError",.type "Exception",.type "BaseException",.type "object"]
structure ExK (K:PySem.W.Frag) (C:Addr):Prop where
 inn:PySem.W.excIn K C veMro "ValueError.__new__" = true
 kp:PySem.W.keepIn K (.ref C) = true
section
variable {C:Addr} {y:Str} {p pos:Pos} {e:Expr} {es:List Expr} {t:TA}
end
def Wants (X:Cx) (E:St→Addr→Hp→Prop):Prop:=∀ (pins:List (Addr × Obj)) (σ:St) (H:Hp) (s:Shared) (h':Heap) (x C:Addr) (vs:List Value),Inv X pins σ H s→Heap.MadeExcOf s.heap h' x (.ref C) vs→E σ C H→X.xe (.ref x) { s with heap:=h' }
def tRaise (C:Addr) (E:St→Addr→Hp→Prop) (t:TA):TS:=fun _ σ H=>t σ H fun vs H1=>vs.length≤sizeLine∧E σ C H1
section
variable {C:Addr} {y:Str} {np cpos pos:Pos} {e:Expr} {es:List Expr} {t:TA} {E:St→Addr→Hp→Prop}
theorem ps_raise (hc:X.calm = true) (M:ExK X.K C) (hg:Gl X y) (hm:X.mg y = some (.ref C)) (hw:Wants X E) (ha:PA X (e :: es) t) (hdb:(y == ("__debug__":Str)) = false:=by decide)
  (he:starEach (e :: es) X.env = (false,eval e X.env) :: starEach es X.env:=by rfl) (hpl:(backTo cpos (starEach es X.env)).any (·.1) = false:=by rfl):PS X (.Raise (some (.Call (.Name y np) (e :: es) [] cpos)) none pos) (tRaise C E t):=by
 intro pins s σ H D I h
 obtain⟨bm,N,nm,q,bs,hdct,sn,sub,ab,col,dd,k0,k1,k2,k3,k5,mN,hC,hN,hni,T⟩:=own_obj I.ok.mod.kin M.inn
 refine wpAny_Raise_call_subT (C:=C) (nm:=nm) (q:=q) (N:=N) (bs:=bs) (bm:=bm) (hdct:=hdct) (sn:=sn) (sub:=sub) (ab:=ab) (col:=col) (dd:=dd) (k0:=k0) (k1:=k1) (k2:=k2) (k3:=k3) (k5:=k5)
  PySem.F.excBase_ValueError (mN:=mN) (T.hasType PySem.F.excBase_ValueError.hasBase) (I.ok.hd hc) (by rw [he]; show (false || (backTo cpos (starEach es X.env)).any (·.1)) = false; rw [hpl]; rfl) hni (ld_glob I hg hm ⟨rfl,?_⟩ hdb)
 have ha':=ha cpos pins s σ H _ I h
 rw [he] at ha' ⊢
 refine Calls.evalArgs_plain (thn ha' fun us s1 ⟨vs,H1,I1,r,z,hE⟩=>⟨rfl,by rw [← r.length]; exact z,I1.bk _ _ hC,hN.keeps I1.bk,T.keeps I1.bk,fun h' x m=>?_⟩)
 exact hw pins σ H1 s1 h' x C _ I1 m hE
end
section
variable {P:Program} {w:World} {K:PySem.W.Frag} {mg:Str→Option Value} {base:Heap} {N:List Str} {qual:Str} {scope:Scope} {f:Addr} {cd:Value} {A:Around} {outer:List Env} {s:Shared} {H:Hp} {E:XK}
theorem hide_of {h:Heap} {as:List Addr} {b:Addr} {o:Obj} (e:h.get? b = some o):(PySem.W.hideAll h as).get? b = none∨(PySem.W.hideAll h as).get? b = some o:=by
 by_cases hb:b∈as
 ·exact .inl (PySem.W.hideAll_none as hb)
 ·exact .inr (PySem.W.hideAll_get _ e hb)
theorem stays_hide {h:Heap} {as:List Addr}:(PySem.W.hideAll h as).StaysIn h:=fun b o e=>PySem.W.of_hideAll as e
theorem Inv.hidden {X:Cx} {pins:List (Addr × Obj)} {σ:St} {H:Hp} {s:Shared} (I:Inv X pins σ H s):s.heap.FunFrames (PySem.W.hideAll s.heap (frs X.stack)) X.stack :=
 PySem.W.funFrames_hide I.stack fun env he b hb=>List.mem_filterMap.mpr ⟨env,he,hb⟩
theorem wants_fn:Wants (cxOf (CXE P w) P w K mg base N qual scope f cd A outer s H E) (fun _ C H'=>E (.ref C) none H'):=by
 intro pins σ H1 s1 h' x C vs I m hE
 show wpAny (model P w) _ (leaving (envOfC qual scope s.heap.objs.size f cd) (.ref x)) _ _ _
 have hst:frs (cxOf (CXE P w) P w K mg base N qual scope f cd A outer s H E).stack = s.heap.objs.size :: frs outer:=rfl
 refine wpAny_leaves_madeW (base:=PySem.W.hideAll s1.heap (frs (cxOf (CXE P w) P w K mg base N qual scope f cd A outer s H E).stack)) (h:=s1.heap) (env:=envOfC qual scope s.heap.objs.size f cd) (outer:=outer) I.ok.frames rfl stays_hide I.hidden m fun h2 t fl _ _ up=>?_
 refine⟨x,C,_,s1.heap,_,H1,rfl,I.os,I.bare,I.base,I.hok,fl,(Heap.UpToSlots.of_keeps m.keeps).trans up,m.new,fun b o e hb n=>?_,fun b o e=>hide_of e,hE⟩
 by_cases hs:b∈frs (cxOf (CXE P w) P w K mg base N qual scope f cd A outer s H E).stack
 ·rw [hst] at hs
  rcases List.mem_cons.mp hs with z | z
  ·subst z
   exact⟨Nat.le_refl _,I.free⟩
  ·exact absurd z hb
 ·rw [PySem.W.hideAll_get _ e hs] at n
  cases n
theorem Inv.raised {X:Cx} {pins:List (Addr × Obj)} {σ:St} {H H':Hp} {s s':Shared} {hr:Heap} (I:Inv X pins σ H s) (ho:s'.os = s.os) (un:Un (frs X.stack) [] H H' s.heap hr) (hok:HOk X.prog X.w H' hr) (hg:AllBare s'.gens):Inv X pins σ H' { s' with heap:=hr } :=
 I.call' (s':={ s' with heap:=hr }) (ch:=[]) ho un hok hg (by intro b z; simp at z)
theorem passes_fn:Passes (CXE P w) (cxOf (CXE P w) P w K mg base N qual scope f cd A outer s H E) E:=by
 intro pins σ H1 s1 e s' I hcx
 obtain⟨x,C,B,hr,a0,H',rfl,hos,hbare,un,hok,fl,up,hnew,cov,bb,hE⟩:=hcx
 show wpAny (model P w) _ (leaving (envOfC qual scope s.heap.objs.size f cd) (.ref x)) _ _ _
 have I2:=I.raised hos un hok hbare
 refine wpAny_leaves_onW (env:=envOfC qual scope s.heap.objs.size f cd) (outer:=outer) I.ok.frames rfl fl fun h2 fl2 up2=>?_
 refine⟨x,C,B,hr,a0,H',rfl,I2.os,hbare,I2.base,I2.hok,fl2,up.trans up2,hnew,fun b o e hb n=>?_,bb,hE⟩
 have hst:frs (cxOf (CXE P w) P w K mg base N qual scope f cd A outer s H E).stack = s.heap.objs.size :: frs outer:=rfl
 by_cases hs:b∈frs (cxOf (CXE P w) P w K mg base N qual scope f cd A outer s H E).stack
 ·rw [hst] at hs
  rcases List.mem_cons.mp hs with z | z
  ·subst z
   exact⟨Nat.le_refl _,I2.free⟩
  ·exact absurd z hb
 ·obtain⟨c1,c2⟩:=cov b o e hs n
  exact⟨Nat.le_trans I.sz c1,c2⟩
theorem Fun.okE {x qual:Str} {st:Stmt} {f:Addr} {fd:FuncData} {N ps:List Str} {k:Nat} {sp:Sp} (F:Fun K x qual st f fd) (S:FnScope N ps (defScope st)) (len:∀ vs H Q E,sp vs H Q E→vs.length = ps.length)
  (hbody:∀ (cdv:Value) (A:Around) (outer:List Env) (s:Shared) (H:Hp) (vs:List V) (Q:VK) (E:XK),Room k (A.deeper (envOfC qual (defScope st) s.heap.objs.size f cdv))→sp vs H Q E →
   ∃ t,PSs (cxOf (CXE P w) P w K mg base N qual (defScope st) f cdv A outer s H E) (defBody st) t∧t { nx:=fun _ H'=>Q .non H',rt:=Q } (start N vs) H):FnOk P w K mg base (CXE P w) (k + 1) f fd ps sp:=by
 obtain⟨oc,od,kV,doc,pm,an,cdv,ct,osl,rfl,lk,hcd⟩:=F.ex
 exact fn_of lk hcd S len fun A outer s H vs Q E hr hsp=>hbody cdv A outer s H vs Q E hr hsp
end
section
variable {X:Cx} {pins:List (Addr × Obj)} {σ:St} {H:Hp} {s:Shared} {T:St→Addr→Hp→Prop} {pn:List (Addr × Obj)} {x:Addr}
end
end
end L2
end
section
set_option Elab.async false
set_option linter.all false
set_option maxRecDepth 100000
set_option maxHeartbeats 4000000
namespace L2
open PySem PySem.Spec PyProof.Rows
theorem PE.imp {X:Cx} {e:Expr} {t t':TE} (h:PE X e t) (i:∀ σ H Q,t' σ H Q→t σ H Q):PE X e t':=fun pins s σ H Q I q=>h pins s σ H Q I (i σ H Q q)
theorem OpR.imp {X:Cx} {f:Value→Value→Sem Value} {r r':R2} (h:OpR X f r) (i:∀ x y H Q,r' x y H Q→r x y H Q):OpR X f r':=fun pins s σ H x y v u Q I rx ry q=>h pins s σ H x y v u Q I rx ry (i x y H Q q)
theorem CallR.imp {X:Cx} {f:Value} {r r':List V→Hp→VK→Prop} (h:CallR X f r) (i:∀ xs H Q,r' xs H Q→r xs H Q):CallR X f r':=fun pins s σ H xs us Q I rx q=>h pins s σ H xs us Q I rx (i xs H Q q)
@[irreducible] def ifB (b:Bool) (p q:Prop):Prop:=if b = true then p else q
theorem ifB_eq (b:Bool) (p q:Prop):ifB b p q = (if b = true then p else q):=by unfold ifB; rfl
theorem ifB.mk {b:Bool} {p q:Prop} (h1:b = true→p) (h2:b = false→q):ifB b p q:=by
 rw [ifB_eq]
 cases b with
 | true=>rw [if_pos rfl]; exact h1 rfl
 | false=>rw [if_neg Bool.false_ne_true]; exact h2 rfl
theorem ifB.yes {b:Bool} {p q:Prop} (e:b = true) (h:p):ifB b p q:=ifB.mk (fun _=>h) fun z=>by rw [e] at z; cases z
theorem ifB.no {b:Bool} {p q:Prop} (e:b = false) (h:q):ifB b p q:=ifB.mk (fun z=>by rw [e] at z; cases z) fun _=>h
theorem ifB.dec {c:Prop} [Decidable c] {p q:Prop} (h1:c→p) (h2:¬ c→q):ifB (decide c) p q:=ifB.mk (fun z=>h1 (of_decide_eq_true z)) fun z=>h2 (of_decide_eq_false z)
def tV (i:Nat):TE:=fun σ H Q=>match σ[i]? with | some (some v)=>Q v H | _=>False
def bV (x:V) (Q:Bool→Prop):Prop:=match x with | .bl k=>Q k | _=>False
def cT (t:TE):TT:=fun σ H Q=>t σ H fun x H'=>bV x fun k=>Q k H'
def cI (f:Int→Int→V):R2:=fun x y H Q=>match x,y with | .int i,.int j=>Q (f i j) H | _,_=>False
def cL (C:Int→Int→Prop) (f:Int→Int→Int) (F:Int→Int→Int→Prop):R2:=fun x y H Q=>match x,y with | .int i,.int j=>C i j∧∀ m,m = f i j→F i j m→Q (.int m) H | _,_=>False
abbrev CMod (_ j:Int):Prop:=0 < j
theorem cpow {i j:Int} (h:(decide (0≤j) && decide (j≤1000000) && decide (i.natAbs < 2 ^ 64)) = true):CPow i j:=by
 simp only [Bool.and_eq_true,decide_eq_true_eq] at h
 exact⟨h.1.1,h.1.2,h.2⟩
abbrev CFdiv (_ j:Int):Prop:=0 < j∧j.natAbs.log2 < 9000
def cAtom (neg:Bool):R2:=fun x y H Q=>match x,y with
 | .int i,.int j=>Q (.bl (if neg then !decide (i = j) else decide (i = j))) H
 | .str i,.str j=>Q (.bl (if neg then !decide (i = j) else decide (i = j))) H
 | .bl i,.bl j=>Q (.bl (if neg then !decide (i = j) else decide (i = j))) H
 | _,_=>False
section
variable {X:Cx} {a b:Expr} {ta tb:TE} {pos:Pos}
theorem tV_var {i:Nat} {σ:St} {H:Hp} {Q:VK} (h:tV i σ H Q):tVar i σ H Q:=by
 unfold tV at h
 split at h
 ·rename_i v e; exact⟨v,e,h⟩
 ·exact h.elim
theorem qv (i:Nat) {x:Str} {pos:Pos} (hN:X.N[i]? = some x:=by rfl) (hv:Vis X.env.scope x:=by first | exact Or.inl rfl | exact Or.inr (Or.inl rfl) | exact Or.inr (Or.inr rfl)) (hd:(x == ("__debug__":Str)) = false:=by decide)
  (hcd:(x == ("__classdict__":Str)) = false:=by decide):PE X (.Name x pos) (tV i):=(pe_var hN hv hd hcd).imp fun _ _ _ h=>tV_var h
theorem cI_of {f:Int→Int→V} {x y:V} {H:Hp} {Q:VK} (h:cI f x y H Q):rI0 f x y H Q:=by
 unfold cI at h
 split at h
 ·exact⟨_,_,rfl,rfl,h⟩
 ·exact h.elim
theorem q_add:OpR X (binaryOp .Add) (cI fun i j=>.int (i + j)):=op_add.imp fun _ _ _ _=>cI_of
theorem q_sub:OpR X (binaryOp .Sub) (cI fun i j=>.int (i - j)):=op_sub.imp fun _ _ _ _=>cI_of
theorem cL_of {C:Int→Int→Prop} {f:Int→Int→Int} {F:Int→Int→Int→Prop} (hF:∀ i j,C i j→F i j (f i j)) {x y:V} {H:Hp} {Q:VK} (h:cL C f F x y H Q):rI C (fun i j=>.int (f i j)) x y H Q:=by
 unfold cL at h
 split at h
 ·exact⟨_,_,rfl,rfl,h.1,h.2 _ rfl (hF _ _ h.1)⟩
 ·exact h.elim
theorem q_mul:OpR X (binaryOp .Mult) (cL CMul (fun i j=>i * j) fun _ _ _=>True):=op_mul.imp fun _ _ _ _=>cL_of fun _ _ _=>trivial
theorem q_mod:OpR X (binaryOp .Mod) (cL CMod (fun i j=>i % j) fun _ j m=>0≤m∧m < j):=op_mod.imp fun _ _ _ _ h=>cL_of (fun i j hj=>⟨Int.emod_nonneg _ (by have:0 < j:=hj; omega),Int.emod_lt_of_pos _ hj⟩) h
theorem q_fdiv:OpR X (binaryOp .FloorDiv) (cL CFdiv (fun i j=>i / j) fun _ _ _=>True):=by
 intro pins s σ H x y v u Q I rx ry h
 obtain⟨i,j,rfl,rfl,⟨h0,h1⟩,q⟩:=cL_of (fun _ _ _=>trivial) h
 obtain⟨t,rfl⟩:=rx
 obtain⟨t',rfl⟩:=ry
 refine floordiv_int (by omega) ?_ (.inl (PyProof.noPylong_of_log2 h1))
 rw [Int.fdiv_eq_ediv_of_nonneg _ (by omega)]
 exact⟨.int _,H,I.tok _,⟨_,rfl⟩,q⟩
theorem q_pow:OpR X (binaryOp .Pow) (cL CPow (fun i j=>i ^ j.toNat) fun _ _ _=>True):=op_pow.imp fun _ _ _ _=>cL_of fun _ _ _=>trivial
theorem q_lt:OpR X (compareOp .Lt) (cI fun i j=>.bl (decide (i < j))):=op_lt.imp fun _ _ _ _=>cI_of
theorem q_le:OpR X (compareOp .LtE) (cI fun i j=>.bl (decide (i≤j))):=op_le.imp fun _ _ _ _=>cI_of
theorem q_gt:OpR X (compareOp .Gt) (cI fun i j=>.bl (decide (j < i))):=op_gt.imp fun _ _ _ _=>cI_of
theorem q_ge:OpR X (compareOp .GtE) (cI fun i j=>.bl (decide (j≤i))):=op_ge.imp fun _ _ _ _=>cI_of
theorem dI {i j:Int}:decide (i = j) = (i == j):=by rw [Bool.eq_iff_iff]; simp
theorem dB {i j:Bool}:decide (i = j) = (i == j):=by rw [Bool.eq_iff_iff]; simp
theorem dS {i j:Str}:decide (i = j) = (i == j):=by rw [Bool.eq_iff_iff]; simp
theorem ifB_t {p q:Prop} (h:ifB true p q):p:=by rw [ifB_eq,if_pos rfl] at h; exact h
theorem ifB_f {p q:Prop} (h:ifB false p q):q:=by rw [ifB_eq,if_neg Bool.false_ne_true] at h; exact h
theorem q_eq:OpR X (compareOp .Eq) (cAtom false):=by
 intro pins s σ H x y v u Q I rx ry h
 unfold cAtom at h
 split at h
 ·obtain⟨t,rfl⟩:=rx; obtain⟨t',rfl⟩:=ry; exact SeqAt.RcAt.int_int _ t _ t' _ _ _ _ (fin_bl I h (by rw [if_neg (by decide)]; exact dI))
 ·obtain⟨t,rfl⟩:=rx; obtain⟨t',rfl⟩:=ry; exact SeqAt.RcAt.str_str _ t _ t' _ _ _ _ (fin_bl I h (by rw [if_neg (by decide)]; exact dS))
 ·cases rx; cases ry; exact SeqAt.RcAt.bool_bool _ _ _ _ _ _ (fin_bl I h (by rw [if_neg (by decide)]; exact dB))
 ·exact h.elim
theorem q_ne:OpR X (compareOp .NotEq) (cAtom true):=by
 intro pins s σ H x y v u Q I rx ry h
 unfold cAtom at h
 split at h
 ·obtain⟨t,rfl⟩:=rx; obtain⟨t',rfl⟩:=ry; exact SeqAt.RcNeAt.int_int _ t _ t' _ _ _ _ (fin_bl I h (by rw [if_pos rfl,dI]))
 ·obtain⟨t,rfl⟩:=rx; obtain⟨t',rfl⟩:=ry; exact SeqAt.RcNeAt.str_str _ t _ t' _ _ _ _ (fin_bl I h (by rw [if_pos rfl,dS]))
 ·cases rx; cases ry; exact SeqAt.RcNeAt.bool_bool _ _ _ _ _ _ (fin_bl I h (by rw [if_pos rfl,dB]))
 ·exact h.elim
def cNeg:V→Hp→VK→Prop:=fun x H Q=>match x with | .int i=>Q (.int (-i)) H | _=>False
theorem q_neg:UnR X (unaryOp .USub) cNeg:=by
 intro pins s σ H x v Q I rx h
 refine un_neg pins s σ H x v Q I rx ?_
 unfold cNeg at h
 split at h
 ·exact⟨_,rfl,h⟩
 ·exact h.elim
theorem bV_ex {x:V} {Q:Bool→Prop} (h:bV x Q):∃ k,x = .bl k∧Q k:=by
 cases x with
 | bl k=>exact⟨k,rfl,h⟩
 | _=>exact False.elim h
theorem pt_e {e:Expr} {t:TE} (h:PE X e t) (he:∀ whole,isTrue e X.env whole = (do let v ← whole; standAt e.pos; holding [v] (truthy v)):=by intro _; rfl):PT X e (cT t):=by
 intro pins s σ H Q I hw
 rw [he]
 refine wpAny_bind (thn (h pins s σ H _ I hw) fun v s1 ⟨x,H1,I1,r1,q1⟩=>wpAny_bind (wpAny_standAt (wpAny_holding ?_)))
 obtain⟨k,rfl,q⟩:=bV_ex q1
 cases r1
 exact wpAny_truthy_bool ⟨H1,I1,q⟩
theorem pt_c {op:CmpOp} {r:R2} (ho:OpR X (compareOp op) r) (ha:PE X a ta) (hb:PE X b tb) (hm:behindInMarks op b = false:=by first | exact nomark _ | rfl):PT X (.Compare a [op] [b] pos) (cT (tOp r ta tb)):=by
 intro pins s σ H Q I hw
 refine wpAny_isTrue_Compare1 (thn (ha pins s σ H _ I hw) fun v s1 ⟨x,H1,I1,r1,q1⟩=>thn (hb pins s1 σ H1 _ I1 q1) fun u s2 ⟨y,H2,I2,r2,q2⟩ =>
  thn (ho pins s2 σ H2 x y v u _ I2 r1 r2 q2) fun c s3 ⟨z,H3,I3,r3,q3⟩=>?_) hm
 obtain⟨k,rfl,q⟩:=bV_ex q3
 cases r3
 exact wpAny_truthy_bool ⟨H3,I3,q⟩
def cChain (r r':R2) (ta tb tc:TE):TE:=fun σ H Q=>ta σ H fun x H1=>tb σ H1 fun y H2=>r x y H2 fun z H3=>bV z fun k=>ifB k (tc σ H3 fun u H4=>r' y u H4 Q) (Q (.bl false) H3)
theorem pe_ch {op op':CmpOp} {r r':R2} {c:Expr} {tc:TE} (ho:OpR X (compareOp op) r) (ho':OpR X (compareOp op') r') (ha:PE X a ta) (hb:PE X b tb) (hc:PE X c tc)
  (hm:lastMarks [op,op'] [b,c] = false:=by with_unfolding_all rfl):PE X (.Compare a [op,op'] [b,c] pos) (cChain r r' ta tb tc):=by
 intro pins s σ H Q I h
 refine Compare_chain (thn (ha pins s σ H _ I h) fun v s1 ⟨x,H1,I1,r1,q1⟩=>chain_link (thn (hb pins s1 σ H1 _ I1 q1) fun u s2 ⟨y,H2,I2,r2,q2⟩ =>
  thn (ho pins s2 σ H2 x y v u _ I2 r1 r2 q2) fun d s3 ⟨z,H3,I3,r3,q3⟩=>?_)) hm
 obtain⟨k,rfl,q⟩:=bV_ex q3
 cases r3
 refine wpAny_truthy_bool ?_
 cases k with
 | false=>exact ite_ff ⟨.bl false,H3,I3,rfl,ifB_f q⟩
 | true=>exact ite_tt (chain_last (thn (hc pins s3 σ H3 _ I3 (ifB_t q)) fun w' s4 ⟨z',H4,I4,r4,q4⟩=>ho' pins s4 σ H4 y z' u w' Q I4 r2 r4 q4))
theorem pt_ch {op op':CmpOp} {r r':R2} {c:Expr} {tc:TE} (ho:OpR X (compareOp op) r) (ho':OpR X (compareOp op') r') (ha:PE X a ta) (hb:PE X b tb) (hc:PE X c tc)
  (hm:lastMarks [op,op'] [b,c] = false:=by with_unfolding_all rfl):PT X (.Compare a [op,op'] [b,c] pos) (cT (cChain r r' ta tb tc)):=by
 intro pins s σ H Q I h
 refine isTrue_chain (thn (ha pins s σ H _ I h) fun v s1 ⟨x,H1,I1,r1,q1⟩=>test_link (thn (hb pins s1 σ H1 _ I1 q1) fun u s2 ⟨y,H2,I2,r2,q2⟩ =>
  thn (ho pins s2 σ H2 x y v u _ I2 r1 r2 q2) fun d s3 ⟨z,H3,I3,r3,q3⟩=>?_)) hm
 obtain⟨k,rfl,q⟩:=bV_ex q3
 cases r3
 refine wpAny_truthy_bool ?_
 cases k with
 | false=>exact ite_ff ⟨H3,I3,ifB_f q⟩
 | true =>
  refine ite_tt (test_last (thn (hc pins s3 σ H3 _ I3 (ifB_t q)) fun w' s4 ⟨z',H4,I4,r4,q4⟩=>thn (ho' pins s4 σ H4 y z' u w' _ I4 r2 r4 q4) fun d' s5 ⟨z2,H5,I5,r5,q5⟩=>?_))
  obtain⟨k2,rfl,q6⟩:=bV_ex q5
  cases r5
  exact wpAny_truthy_bool ⟨H5,I5,q6⟩
def cIf (c:TT) (t u:TS):TS:=fun D σ H=>c σ H fun b H1=>ifB b (t D σ H1) (u D σ H1)
theorem ps_c {c:Expr} {a b:List Stmt} {tc:TT} {t u:TS} {pos:Pos} (hc:PT X c tc) (ha:PSs X a t) (hb:PSs X b u):PS X (.If c a b pos) (cIf tc t u):=by
 intro pins s σ H D I h
 refine wpAny_If (thn (hc pins s σ H _ I h) fun d s1 ⟨H1,I1,q1⟩=>?_)
 cases d with
 | true=>exact ha pins s1 σ H1 D I1 (ifB_t q1)
 | false=>exact hb pins s1 σ H1 D I1 (ifB_f q1)
def cOr (t u:TT):TT:=fun σ H Q=>t σ H fun c H1=>ifB c (Q true H1) (u σ H1 Q)
section
variable {rest:List Expr} {tA tB:TT}
theorem qw_or1 (ha:PT X a tA):PW X (.BoolOp .Or [a] pos) tA:=pw_or1 ha
theorem pw_orR (ha:PT X a tA) (hb:PW X (.BoolOp .Or (b :: rest) pos) tB):PW X (.BoolOp .Or (a :: b :: rest) pos) (cOr tA tB):=by
 intro whole pins s σ H Q I h
 exact pw_or (X:=X) (tA:=fun σ H Q=>tA σ H fun c H1=>Q c H1) (tB':=tB) ha hb whole pins s σ H Q I (by
  have e:(fun (c:Bool) (H1:Hp)=>if c = true then Q true H1 else tB σ H1 Q) = fun c H1=>ifB c (Q true H1) (tB σ H1 Q):=by funext c H1; rw [ifB_eq]
  show tA σ H (fun (c:Bool) (H1:Hp)=>if c = true then Q true H1 else tB σ H1 Q)
  rw [e]; exact h)
def cAndV (ta tb:TE):TE:=fun σ H Q=>ta σ H fun x H1=>bV x fun c=>ifB c (tb σ H1 Q) (Q (.bl false) H1)
theorem pe_andC (ha:PE X a ta) (hb:PE X (.BoolOp .And (b :: rest) pos) tb):PE X (.BoolOp .And (a :: b :: rest) pos) (cAndV ta tb):=by
 intro pins s σ H Q I h
 refine BoolOp_and (thn (ha pins s σ H _ I h) fun v s1 ⟨x,H1,I1,r1,q1⟩=>?_)
 obtain⟨c,rfl,q1⟩:=bV_ex q1
 cases r1
 refine wpAny_truthy_bool ?_
 cases c with
 | true=>exact hb pins s1 σ H1 Q I1 (ifB_t q1)
 | false=>exact⟨.bl false,H1,I1,rfl,ifB_f q1⟩
end
end
end L2
end
section
set_option Elab.async false
set_option linter.all false
set_option maxRecDepth 100000
set_option maxHeartbeats 4000000
namespace L2
open PySem PySem.Spec PyProof.Rows
theorem bt_len:bootBuiltins "len" = some (.builtin "len"):=by decide +kernel
theorem bt_all:bootBuiltins "all" = some (.builtin "all"):=by decide +kernel
theorem bt_sorted:bootBuiltins "sorted" = some (.builtin "sorted"):=by decide +kernel
theorem bt_list:bootBuiltins "list" = some (.type "list"):=by decide +kernel
theorem bt_tuple:bootBuiltins "tuple" = some (.type "tuple"):=by decide +kernel
theorem keepN {H:Hp} {a p:Addr} {o u:HO} (h:H a = some o) (n:H p = none):upd H p u a = some o:=by rw [upd_ne (ne_of_none h n)]; exact h
section
variable {X:Cx} {pins:List (Addr × Obj)} {σ:St} {H:Hp} {s:Shared}
end
section
variable {X:Cx}
end
section
variable {X:Cx}
end
end L2
end
section
set_option Elab.async false
set_option linter.all false
set_option maxRecDepth 100000
set_option maxHeartbeats 4000000
namespace L2
open PySem PySem.Spec PyProof.Rows
theorem IxR.imp {X:Cx} {r r':R2} (h:IxR X r) (i:∀ x y H Q,r' x y H Q→r x y H Q):IxR X r':=fun a b pins s σ H x y v u Q I rx ry q e=>h a b pins s σ H x y v u Q I rx ry (i x y H Q q) e
theorem MtR.imp {X:Cx} {id:String} {r r':V→List V→Hp→VK→Prop} (h:MtR X id r) (i:∀ x xs H Q,r' x xs H Q→r x xs H Q):MtR X id r':=fun pins s σ H x xs v us Q I rx rv q=>h pins s σ H x xs v us Q I rx rv (i x xs H Q q)
theorem PSet.imp {X:Cx} {t t':TSet} (h:PSet X t) (i:∀ o j v H Q,t' o j v H Q→t o j v H Q):PSet X t':=fun pins s σ H o j v ov iv u Q I ro ri rv q=>h pins s σ H o j v ov iv u Q I ro ri rv (i o j v H Q q)
theorem SlR.imp {X:Cx} {r r':V→Option Int→Option Int→Hp→VK→Prop} (h:SlR X r) (i:∀ x l u H Q,r' x l u H Q→r x l u H Q):SlR X r':=fun pins s σ H x v vl vu lo hi sl Q I rx hs pl pu q=>h pins s σ H x v vl vu lo hi sl Q I rx hs pl pu (i _ _ _ _ _ q)
theorem upd_sub {H H':Hp} {p:Addr} {o:HO} (n:H p = none) (e:upd H p o = H'):Sub H H'∧H' p = some o:=by subst e; exact⟨Sub.new n,upd_same⟩
def CV (mg:Str→Option Value) (x:Str) (v:V):Prop:=∃ u,mg x = some u∧RelV v u
section
variable {X:Cx} {a b:Expr} {ta tb:TE} {pos:Pos}
theorem pe_cv {x:Str} {v:V} {pos:Pos} (hg:Gl X x) (h:CV X.mg x v) (hd:(x == ("__debug__":Str)) = false:=by decide):PE X (.Name x pos) (tC v):=by
 obtain⟨u,h1,h2⟩:=h
 exact pe_glob hg h1 h2 hd
def cIxL (K:PySem.W.Frag):R2:=fun x y H Q=>match x,y with | .ref p,.int i=>∃ xs v,SqL K H p xs∧atI xs i = some v∧Q v H | _,_=>False
def cIxT (K:PySem.W.Frag):R2:=fun x y H Q=>match x,y with | .ref p,.int i=>∃ xs v,SqT K H p xs∧atI xs i = some v∧Q v H | _,_=>False
theorem q_ixL:IxR X (cIxL X.K):=ix_list.imp fun x y H Q h=>by
 unfold cIxL at h
 split at h
 ·obtain⟨xs,v,h1,h2,h3⟩:=h; exact⟨_,xs,_,v,rfl,rfl,h1,h2,h3⟩
 ·exact h.elim
theorem q_ixT:IxR X (cIxT X.K):=ix_tup.imp fun x y H Q h=>by
 unfold cIxT at h
 split at h
 ·obtain⟨xs,v,h1,h2,h3⟩:=h; exact⟨_,xs,_,v,rfl,rfl,h1,h2,h3⟩
 ·exact h.elim
def cSetL:TSet:=fun o i v H Q=>match o,i with | .ref p,.int k=>∃ xs j,H p = some (.lst xs)∧ixN xs.length k = some j∧Q (upd H p (.lst (xs.set j v))) | _,_=>False
theorem q_setL:PSet X cSetL:=set_list.imp fun o i v H Q h=>by
 unfold cSetL at h
 split at h
 ·obtain⟨xs,j,h1,h2,h3⟩:=h; exact⟨_,xs,_,j,rfl,rfl,h1,h2,h3⟩
 ·exact h.elim
def cCat:R2:=fun x y H Q=>match x,y with | .ref l,.ref b=>∃ xs zs,H l = some (.lst xs)∧H b = some (.lst zs)∧xs.length + zs.length≤sizeLine∧∀ p,H p = none→Q (.ref p) (upd H p (.lst (xs ++ zs))) | _,_=>False
theorem q_cat:OpR X (binaryOp .Add) cCat:=op_cat.imp fun x y H Q h=>by
 unfold cCat at h
 split at h
 ·obtain⟨xs,zs,h⟩:=h; exact⟨_,_,xs,zs,rfl,rfl,h⟩
 ·exact h.elim
def cSlL (K:PySem.W.Frag):V→Option Int→Option Int→Hp→VK→Prop:=fun x lo hi H Q=>match x with | .ref a=>∃ xs,SqL K H a xs∧∀ p,H p = none→Q (.ref p) (upd H p (.lst (cutV xs lo hi))) | _=>False
theorem q_slL:SlR X (cSlL X.K):=sl_list.imp fun x lo hi H Q h=>by
 unfold cSlL at h
 split at h
 ·obtain⟨xs,h⟩:=h; exact⟨_,xs,rfl,h⟩
 ·exact h.elim
def cLen (K:PySem.W.Frag):List V→Hp→VK→Prop:=fun xs H Q=>match xs with | [.ref p]=>∃ ys,(SqL K H p ys∨SqT K H p ys)∧Q (.int ys.length) H | _=>False
theorem q_len:CallR X (.builtin "len") (cLen X.K):=call_len_seq.imp fun xs H Q h=>by
 unfold cLen at h
 split at h
 ·obtain⟨ys,h⟩:=h; exact⟨_,ys,rfl,h⟩
 ·exact h.elim
def cApp:V→List V→Hp→VK→Prop:=fun x vs H Q=>match x,vs with | .ref l,[y]=>∃ xs,H l = some (.lst xs)∧xs.length < sizeLine∧Q .non (upd H l (.lst (xs ++ [y]))) | _,_=>False
theorem q_app:MtR X "list.append" cApp:=MtR.imp (r:=rAppend) mt_append fun x vs H Q h=>by
 unfold cApp at h
 split at h
 ·obtain⟨xs,h⟩:=h; exact⟨_,xs,_,rfl,rfl,h⟩
 ·exact h.elim
def cIn (K:PySem.W.Frag) (neg:Bool):R2:=fun x y H Q=>match y with | .ref p=>∃ xs,(SqL K H p xs∨SqT K H p xs)∧flatV x = true∧xs.all flatV = true∧Q (.bl (if neg then !inV x xs else inV x xs)) H | _=>False
theorem q_in:OpR X (compareOp .In) (cIn X.K false):=op_in_seq.imp fun x y H Q h=>by
 unfold cIn at h
 split at h
 ·obtain⟨xs,h⟩:=h; exact⟨_,xs,rfl,h⟩
 ·exact h.elim
def cList (K:PySem.W.Frag) (tl:TE):TI:=fun σ H R=>tl σ H fun x H1=>match x with | .ref a=>(∃ xs,SqL K H1 a xs)∧R (Itl K a) H1 | _=>False
theorem qi_list {tg l:Expr} {tl:TE} (hl:PE X l tl):PI X tg l (cList X.K tl):=by
 intro pins s σ H R I h
 refine thn (hl pins s σ H _ I h) fun v s1 ⟨x,H1,I1,r1,q1⟩=>?_
 obtain⟨a,rfl,⟨xs,hq⟩,q⟩:∃ a,x = .ref a∧(∃ xs,SqL X.K H1 a xs)∧R (Itl X.K a) H1:=by
  dsimp only at q1
  split at q1
  ·exact⟨_,rfl,q1⟩
  ·exact q1.elim
 cases r1
 obtain⟨its,rv,p,hz⟩:=I1.list hq
 refine wpAny_pyIter_list p.isList ?_
 refine⟨s1.heap.objs.size,[s1.heap.objs.size],_,_,H1,rfl,I1.kept (t':=s1.toks) fun b o e=>Heap.get?_push_of_some _ e,turn_list a _,⟨_,Heap.get?_push_size _ rfl,rfl,rfl⟩,fun b hb=>?_,q⟩
 have e:b = s1.heap.objs.size:=by simpa using hb
 subst e
 exact I1.fpOk (Nat.le_refl _) (I1.hok.fresh (Nat.le_refl _))
def cTupI (K:PySem.W.Frag) (tl:TE):TI:=fun σ H R=>tl σ H fun x H1=>match x with | .ref a=>(∃ xs,SqT K H1 a xs)∧R (Itt K a) H1 | _=>False
theorem qi_tup {tg l:Expr} {tl:TE} (hl:PE X l tl):PI X tg l (cTupI X.K tl):=by
 intro pins s σ H R I h
 refine thn (hl pins s σ H _ I h) fun v s1 ⟨x,H1,I1,r1,q1⟩=>?_
 obtain⟨a,rfl,⟨xs,hq⟩,q⟩:∃ a,x = .ref a∧(∃ xs,SqT X.K H1 a xs)∧R (Itt X.K a) H1:=by
  dsimp only at q1
  split at q1
  ·exact⟨_,rfl,q1⟩
  ·exact q1.elim
 cases r1
 obtain⟨its,rv,p,hz⟩:=I1.tuple hq
 refine wpAny_pyIter_tuple (show s1.heap.IsTuple a its.toArray from p) ?_
 refine⟨s1.heap.objs.size,[s1.heap.objs.size],_,_,H1,rfl,I1.kept (t':=s1.toks) fun b o e=>Heap.get?_push_of_some _ e,turn_tuple a _,⟨_,Heap.get?_push_size _ rfl,rfl,rfl⟩,fun b hb=>?_,q⟩
 have e:b = s1.heap.objs.size:=by simpa using hb
 subst e
 exact I1.fpOk (Nat.le_refl _) (I1.hok.fresh (Nat.le_refl _))
def cRng1 (ta:TA):TI:=fun σ H R=>ta σ H fun vs H1=>match vs with | [.int j]=>(-(2 ^ 62)≤j∧j < 2 ^ 62)∧R (Itr 0 j.toNat) H1 | _=>False
theorem qi_range1 {tg a:Expr} {ta:TA} {p pos:Pos} (hg:Gl X "range") (hm:X.mg "range" = none) (ha:PA X [a] ta) (hs:starEach [a] X.env = [(false,eval a X.env)]:=by rfl):PI X tg (.Call (.Name "range" p) [a] [] pos) (cRng1 ta):=by
 intro pins s σ H R I h
 refine Call_ (ld_blt I hg hm boot_range (PyProof.Rows.callWith_type1 (thn (ha pos pins s σ H _ I h) fun us s1 ⟨vs,H1,I1,r1,q1⟩=>?_) hs rfl))
 obtain⟨j,rfl,⟨q1,q2⟩,q⟩:∃ j,vs = [.int j]∧(-(2 ^ 62)≤j∧j < 2 ^ 62)∧R (Itr 0 j.toNat) H1:=by
  dsimp only at q1
  split at q1
  ·exact⟨_,rfl,q1⟩
  ·exact q1.elim
 cases r1 with
 | cons r rr =>
  cases rr
  obtain⟨t,rfl⟩:=r
  exact call_range_1 (range_it I1 (by omega) (by omega) q1 q2 (by simpa using q))
end
section
variable {X:Cx}
def cgNil:TGs:=fun vs σ H Q=>match vs with | []=>Q σ H | _=>False
def cgCons (t:TG) (u:TGs):TGs:=fun vs σ H Q=>match vs with | v :: r=>t v σ H fun σ' H'=>u r σ' H' Q | []=>False
theorem qgs_nil:PGs X [] cgNil:=fun pins s σ H vs us Q I r h=>pgs_nil pins s σ H vs us Q I r (by
 unfold cgNil at h
 split at h
 ·exact⟨rfl,h⟩
 ·exact h.elim)
theorem qgs_cons {e:Expr} {es:List Expr} {t:TG} {u:TGs} (h1:PG X e t) (h2:PGs X es u)
  (hs:(assignEach (e :: es) X.env).map (·.2) = assign e X.env :: (assignEach es X.env).map (·.2):=by rfl):PGs X (e :: es) (cgCons t u):=fun pins s σ H vs us Q I r h=>pgs_cons h1 h2 hs pins s σ H vs us Q I r (by
 unfold cgCons at h
 split at h
 ·exact⟨_,_,rfl,h⟩
 ·exact h.elim)
def cgTup (K:PySem.W.Frag) (n:Nat) (t:TGs):TG:=fun v σ H Q=>match v with | .ref a=>∃ xs,SqT K H a xs∧xs.length = n∧t xs σ H Q | _=>False
theorem qg_tup {es:List Expr} {k:Nat} {t:TGs} {n:Nat} {pos:Pos} (hc:X.calm = true) (h:PGs X es t)
  (hn:(assignEach es X.env).length = n:=by rfl) (hst:(assignEach es X.env).findIdx? (·.1) = none:=by rfl):PG X (.Tuple es k pos) (cgTup X.K n t):=fun pins s σ H v u Q I r hw=>pg_tup hc h hn hst pins s σ H v u Q I r (by
 unfold cgTup at hw
 split at hw
 ·obtain⟨xs,h⟩:=hw; exact⟨_,xs,rfl,h⟩
 ·exact hw.elim)
def cPart (t:TE):TO:=fun σ H Q=>t σ H fun x H1=>match x with | .int i=>Q (some i) H1 | _=>False
theorem qo_some {e:Expr} {te:TE} (h:PE X e te):PO X (some e) (cPart te):=by
 intro pins s σ H Q I hw
 rw [evalPart_some]
 refine thn (h pins s σ H _ I hw) fun u s1 ⟨x,H1,I1,r1,q1⟩=>?_
 obtain⟨i,rfl,q⟩:∃ i,x = .int i∧Q (some i) H1:=by
  dsimp only at q1
  split at q1
  ·exact⟨_,rfl,q1⟩
  ·exact q1.elim
 obtain⟨t,rfl⟩:=r1
 exact⟨some i,H1,I1,.int i t,q⟩
end
structure ExM (K:PySem.W.Frag) (C:Addr) (pre:List Value):Prop where
 mro:∃ cd,PySem.W.clsIn K C = some cd∧cd.mro = pre ++ veMro
 ty:PySem.W.typeIn K (.ref C) = some (.type "type")
section
open PySem.W
variable {K:PySem.W.Frag} {C D:Addr} {pre pre':List Value}
end
end L2
end
section
set_option Elab.async false
set_option linter.all false
set_option maxRecDepth 100000
set_option maxHeartbeats 4000000
namespace L2
open PySem PySem.Spec PyProof.Rows
theorem ifB.ndec {c:Prop} [Decidable c] {p q:Prop} (h1:c→q) (h2:¬ c→p):ifB (!decide c) p q:=ifB.mk (fun z=>h2 (by simpa using z)) fun z=>h1 (by simpa using z)
section
variable {X:Cx}
theorem kept_it {s:Shared} {h':Heap} {o:Obj} (hk:∀ b x,b ∉ [s.heap.objs.size]→(s.heap.push o).get? b = some x→h'.get? b = some x):∀ b x,s.heap.get? b = some x→h'.get? b = some x :=
 fun b x e=>hk b x (fun hm=>by rw [List.mem_singleton.mp hm] at e; exact Nat.lt_irrefl _ (Heap.lt_size e)) (Heap.get?_push_of_some _ e)
theorem vals_bl:∀ {bs:List Bool} {us:List Value},Vals (bs.map V.bl) us→us = bs.map Value.bool
 | [],us,r=>by cases r; rfl
 | b :: bs,us,r=>by
  rw [List.map_cons] at r
  cases r with
  | cons r1 r2=>cases r1; rw [vals_bl r2]; rfl
theorem range_allB (bs:List Bool):((List.range bs.length).all fun i=>(bs[i]?).getD true) = bs.all id:=by
 rw [Bool.eq_iff_iff,List.all_eq_true,List.all_eq_true]
 constructor
 ·intro h b hb
  obtain⟨i,hi,e⟩:=List.getElem_of_mem hb
  have:=h i (List.mem_range.mpr hi)
  simp only [List.getElem?_eq_getElem hi,Option.getD_some,e] at this
  exact this
 ·intro h i hi
  have hi':=List.mem_range.mp hi
  simp only [List.getElem?_eq_getElem hi',Option.getD_some]
  exact h _ (List.getElem_mem hi')
def cAll (K:PySem.W.Frag):List V→Hp→VK→Prop:=fun xs H Q=>match xs with | [.ref p]=>∃ bs:List Bool,SqL K H p (bs.map V.bl)∧Q (.bl (bs.all id)) H | _=>False
theorem q_all (hc:X.calm = true):CallR X (.builtin "all") (cAll X.K):=by
 intro pins s σ H xs us Q I r h
 unfold cAll at h
 split at h
 ·rename_i p
  obtain⟨bs,hq,q⟩:=h
  cases r with
  | cons r rr =>
   cases rr
   cases r
   obtain⟨its,rv,pl,hz⟩:=I.list hq
   have e:=vals_bl rv
   subst e
   have hl:=pl.isList
   have hlt:p < s.heap.objs.size:=by obtain⟨_,e,_⟩:=hl; exact Heap.lt_size e
   refine call_all_walk (wpAny_pyIter_list hl ?_)
   refine⟨s.heap.objs.size,[s.heap.objs.size,p],[s.heap.objs.size],(bs.map Value.bool).toArray.size,_,_,fun i=>(bs[i]?).getD true,rfl,Walks.list (A:=X.A.in1) (I.ok.hd hc) _ p (Nat.ne_of_lt hlt) (bs.map Value.bool).toArray,
    ⟨⟨_,Heap.get?_push_size _ rfl,rfl,rfl⟩,hl.push _⟩,fun i v s' Q' E' hP hQ=>?_,fun h' tk hk=>?_⟩
   ·have hP:(bs.map Value.bool)[i]? = some v:=by simpa using hP
    rw [List.getElem?_map] at hP
    obtain⟨b,e,rfl⟩:=Option.map_eq_some_iff.1 hP
    simp only [e,Option.getD_some] at hQ
    exact wpAny_truthy_bool hQ
   ·have e:((List.range (bs.map Value.bool).toArray.size).all fun i=>(bs[i]?).getD true) = bs.all id:=by
     rw [List.size_toArray,List.length_map]; exact range_allB bs
    rw [e]
    exact⟨.bl _,H,I.kept (t':=tk) (kept_it hk),rfl,q⟩
 ·exact h.elim
def cListOf (K:PySem.W.Frag):List V→Hp→VK→Prop:=fun xs H Q=>match xs with | [.ref p]=>∃ ys,(SqL K H p ys∨SqT K H p ys)∧∀ l,H l = none→Q (.ref l) (upd H l (.lst ys)) | _=>False
theorem q_listOf:CallR X (.type "list") (cListOf X.K):=call_list_of.imp fun xs H Q h=>by
 unfold cListOf at h
 split at h
 ·obtain⟨ys,h⟩:=h; exact⟨_,ys,rfl,h⟩
 ·exact h.elim
def cSlT (K:PySem.W.Frag):V→Option Int→Option Int→Hp→VK→Prop:=fun x lo hi H Q=>match x with
 | .ref a=>∃ xs,SqT K H a xs∧¬ (HT.sIx xs.length 0 lo = 0∧HT.sIx xs.length xs.length hi = xs.length)∧∀ p,H p = none→Q (.ref p) (upd H p (.tup (cutV xs lo hi)))
 | _=>False
theorem q_slT:SlR X (cSlT X.K):=sl_tup.imp fun x lo hi H Q h=>by
 unfold cSlT at h
 split at h
 ·obtain⟨xs,h⟩:=h; exact⟨_,xs,rfl,h⟩
 ·exact h.elim
def cCatU (K:PySem.W.Frag):R2:=fun x y H Q=>match x,y with
 | .ref a,.ref b=>∃ xs ys,SqT K H a xs∧SqT K H b ys∧xs.length + ys.length≤sizeLine∧(xs = []→Q (.ref b) H)∧(xs≠[]→ys = []→Q (.ref a) H)∧(xs≠[]→ys≠[]→∀ p,H p = none→Q (.ref p) (upd H p (.tup (xs ++ ys))))
 | _,_=>False
theorem q_catU:OpR X (binaryOp .Add) (cCatU X.K):=by
 intro pins s σ H x y v u Q I rx ry h
 unfold cCatU at h
 split at h
 ·rename_i a b
  obtain⟨xs,ys,ha,hb,hz,q0,q1,q2⟩:=h
  by_cases hx:xs = []
  ·cases rx
   cases ry
   obtain⟨its,r1,p1,_⟩:=I.tuple ha
   obtain⟨its2,r2,p2,_⟩:=I.tuple hb
   obtain⟨⟨cls,dd,data,sl⟩,ho,hc,n,hd⟩:=id p1
   obtain⟨⟨cls2,dd2,data2,sl2⟩,ho2,hc2,n2,hd2⟩:=id p2
   simp only at hc hd hc2 hd2
   subst hc hd hc2 hd2
   have hv:its = []:=r1.nil_iff.mpr hx
   exact concat_meets ⟨_,ho,rfl⟩ ⟨_,ho2,rfl⟩ noFill_tuple_add seq_tuple_add PySem.F.slot_tuple_add PySem.F.entry_tuple_add (PySem.F.args_tuple_add_2 _ _)
    (tuple_addW0 a b its.toArray its2.toArray n n2 dd dd2 sl sl2 (by simp [hv])) ⟨ho,ho2,⟨.ref b,H,I,rfl,q0 hx⟩⟩
  ·exact op_catT pins s σ H _ _ v u Q I rx ry ⟨_,_,xs,ys,rfl,rfl,ha,hb,hx,hz,q1 hx,q2 hx⟩
 ·exact h.elim
end
section
variable {prog:Program} {w:World} {A:Around} {E:Value→Shared→Prop} {s:Shared}
end
section
variable {X:Cx} {e st:Expr} {te:TE} {ts:TO} {pos p2:Pos}
end
section
variable {X:Cx} {K:PySem.W.Frag} {tg l e st:Expr} {tl te:TE} {ts:TO} {pos p2:Pos}
theorem q_ixLK (hK:X.K = K):IxR X (cIxL K):=hK ▸ q_ixL
theorem q_ixTK (hK:X.K = K):IxR X (cIxT K):=hK ▸ q_ixT
theorem q_slLK (hK:X.K = K):SlR X (cSlL K):=hK ▸ q_slL
theorem q_slTK (hK:X.K = K):SlR X (cSlT K):=hK ▸ q_slT
theorem q_lenK (hK:X.K = K):CallR X (.builtin "len") (cLen K):=hK ▸ q_len
theorem q_inK (hK:X.K = K):OpR X (compareOp .In) (cIn K false):=hK ▸ q_in
theorem q_catUK (hK:X.K = K):OpR X (binaryOp .Add) (cCatU K):=hK ▸ q_catU
theorem q_allK (hK:X.K = K) (hc:X.calm = true):CallR X (.builtin "all") (cAll K):=hK ▸ q_all hc
theorem q_listOfK (hK:X.K = K):CallR X (.type "list") (cListOf K):=hK ▸ q_listOf
theorem qi_listK (hK:X.K = K) (hl:PE X l tl):PI X tg l (cList K tl):=hK ▸ qi_list hl
theorem qi_tupK (hK:X.K = K) (hl:PE X l tl):PI X tg l (cTupI K tl):=hK ▸ qi_tup hl
theorem qg_tupK {es:List Expr} {k:Nat} {t:TGs} {n:Nat} (hK:X.K = K) (hc:X.calm = true) (h:PGs X es t)
  (hn:(assignEach es X.env).length = n:=by rfl) (hst:(assignEach es X.env).findIdx? (·.1) = none:=by rfl):PG X (.Tuple es k pos) (cgTup K n t):=hK ▸ qg_tup hc h hn hst
end
end L2
end
section
set_option autoImplicit true
set_option linter.all false
open PySem PySem.Spec PyProof.Rows
namespace L2
end L2
end
section
set_option Elab.async false
set_option linter.all false
set_option maxRecDepth 100000
set_option maxHeartbeats 4000000
namespace L2
open PySem PySem.Spec PyProof.Rows
abbrev En:=List Int
abbrev Ma:=List (List En)
def entryOk (rows signs:Int):En→Bool
 | []=>true
 | [s,w,r]=>(decide (0≤s) && decide (s < signs)) && (decide (w = -1) || decide (w = 1)) && (decide (0≤r) && decide (r < rows))
 | _=>false
def rowOk (rows signs:Int) (es:List En):Bool:=decide ((es.length:Int) = signs) && es.all (entryOk rows signs)
def isM (m:Ma):Bool:=match m with
 | []=>false
 | r0 :: _=>decide (m.length≤4) && decide (2≤r0.length) && decide (r0.length≤4) && m.all (rowOk m.length r0.length)
theorem atI_toNat {α:Type} {xs:List α} {i:Int} {v:α} (h0:0≤i) (h:xs[i.toNat]? = some v):atI xs i = some v:=by
 obtain⟨j,rfl⟩:=Int.eq_ofNat_of_zero_le h0
 exact atI_nat h
theorem ixN_toNat {n:Nat} {i:Int} (h0:0≤i) (h1:i < n):ixN n i = some i.toNat:=by
 unfold ixN
 rw [if_pos h0,if_pos h1]
def All2 {α:Type} (R:Addr→α→Prop) (as:List Addr) (xs:List α):Prop:=as.length = xs.length∧∀ (i:Nat) (a:Addr) (x:α),as[i]? = some a→xs[i]? = some x→R a x
section
variable {α:Type} {R S:Addr→α→Prop} {as:List Addr} {xs:List α}
theorem All2.nil:All2 R [] []:=⟨rfl,fun i a x h=>by simp at h⟩
theorem All2.mono (h:All2 R as xs) (i:∀ a x,a∈as→R a x→S a x):All2 S as xs:=⟨h.1,fun k a x ha hx=>i a x (List.mem_of_getElem? ha) (h.2 k a x ha hx)⟩
theorem All2.app (h:All2 R as xs) {a:Addr} {x:α} (r:R a x):All2 R (as ++ [a]) (xs ++ [x]):=by
 refine⟨by simp [h.1],fun i b y hb hy=>?_⟩
 by_cases hi:i < as.length
 ·rw [List.getElem?_append_left hi] at hb
  rw [List.getElem?_append_left (h.1 ▸ hi)] at hy
  exact h.2 i b y hb hy
 ·have e:i = as.length:=by
   have:=(List.getElem?_eq_some_iff.1 hb).1
   simp at this; omega
  subst e
  rw [List.getElem?_append_right (Nat.le_refl _),Nat.sub_self] at hb
  rw [h.1,List.getElem?_append_right (Nat.le_refl _),Nat.sub_self] at hy
  cases hb; cases hy; exact r
theorem All2.at (h:All2 R as xs) {i:Nat} {a:Addr} (ha:as[i]? = some a):∃ x,xs[i]? = some x∧R a x:=by
 have hi:=(List.getElem?_eq_some_iff.1 ha).1
 have hi':i < xs.length:=h.1 ▸ hi
 exact⟨xs[i],List.getElem?_eq_getElem hi',h.2 i a _ ha (List.getElem?_eq_getElem hi')⟩
theorem All2.set (h:All2 R as xs) {i:Nat} {a:Addr} {x:α} (r:R a x):All2 R (as.set i a) (xs.set i x):=by
 refine⟨by simp [h.1],fun k b y hb hy=>?_⟩
 rw [List.getElem?_set] at hb hy
 by_cases e:i = k
 ·subst e
  rw [if_pos rfl] at hb hy
  split at hb
  ·split at hy
   ·cases hb; cases hy; exact r
   ·cases hy
  ·cases hb
 ·rw [if_neg e] at hb hy
  exact h.2 k b y hb hy
theorem All2.setA (h:All2 R as xs) {i:Nat} {a:Addr} {x:α} (ha:as[i]? = some a) (o:∀ b y,b∈as→b≠a→R b y→S b y) (nd:as.Nodup) (s:S a x):All2 S as (xs.set i x):=by
 refine⟨by simp [h.1],fun k b y hb hy=>?_⟩
 rw [List.getElem?_set] at hy
 by_cases e:i = k
 ·subst e
  rw [if_pos rfl] at hy
  rw [ha] at hb
  cases hb
  split at hy
  ·cases hy; exact s
  ·cases hy
 ·rw [if_neg e] at hy
  refine o b y (List.mem_of_getElem? hb) ?_ (h.2 k b y hb hy)
  rintro rfl
  obtain⟨h1,h2⟩:=List.getElem?_eq_some_iff.1 ha
  obtain⟨h3,h4⟩:=List.getElem?_eq_some_iff.1 hb
  exact e ((List.getElem_inj nd).1 (h2.trans h4.symm))
theorem All2.append {bs:List Addr} {ys:List α} (h:All2 R as xs) (h':All2 R bs ys):All2 R (as ++ bs) (xs ++ ys):=by
 refine⟨by rw [List.length_append,List.length_append,h.1,h'.1],fun k b y hb hy=>?_⟩
 by_cases hi:k < as.length
 ·rw [List.getElem?_append_left hi] at hb
  rw [List.getElem?_append_left (h.1 ▸ hi)] at hy
  exact h.2 k b y hb hy
 ·rw [List.getElem?_append_right (by omega)] at hb
  rw [List.getElem?_append_right (by have:=h.1; omega),← h.1] at hy
  exact h'.2 _ b y hb hy
end
def Ent (H:Hp) (a:Addr) (e:En):Prop:=H a = some (.tup (e.map V.int))
def RowA (H:Hp) (r:Addr) (as:List Addr) (es:List En):Prop:=H r = some (.lst (as.map V.ref))∧All2 (Ent H) as es
def Row (H:Hp) (r:Addr) (es:List En):Prop:=∃ as,RowA H r as es
def MaR (H:Hp) (p:Addr) (rs:List Addr) (m:Ma):Prop:=H p = some (.lst (rs.map V.ref))∧rs.Nodup∧All2 (Row H) rs m
def Mach (H:Hp) (p:Addr) (m:Ma):Prop:=∃ rs,MaR H p rs m
theorem ref_inj {as bs:List Addr} (h:as.map V.ref = bs.map V.ref):as = bs:=by
 induction as generalizing bs with
 | nil=>cases bs with
  | nil=>rfl
  | cons b bs=>cases h
 | cons a as ih=>cases bs with
  | nil=>cases h
  | cons b bs =>
   rw [List.map_cons,List.map_cons] at h
   injection h with h1 h2
   injection h1 with h1
   rw [h1,ih h2]
section
variable {H H':Hp} {p r a:Addr} {rs as:List Addr} {m:Ma} {es:List En} {e:En}
structure Stay (H H':Hp):Prop where
 tup:∀ a xs,H a = some (.tup xs)→H' a = some (.tup xs)
 refs:∀ a (as:List Addr),H a = some (.lst (as.map V.ref))→H' a = some (.lst (as.map V.ref))
theorem Stay.sub (S:Sub H H'):Stay H H':=⟨fun _ _ h=>S _ _ h,fun _ _ h=>S _ _ h⟩
theorem Ent.stay (S:Stay H H') (h:Ent H a e):Ent H' a e:=S.tup _ _ h
theorem RowA.stay (S:Stay H H') (h:RowA H r as es):RowA H' r as es:=⟨S.refs _ _ h.1,h.2.mono fun _ _ _ z=>z.stay S⟩
theorem Row.stay (S:Stay H H'):Row H r es→Row H' r es:=fun ⟨as,h⟩=>⟨as,h.stay S⟩
theorem MaR.stay (S:Stay H H') (h:MaR H p rs m):MaR H' p rs m:=⟨S.refs _ _ h.1,h.2.1,h.2.2.mono fun _ _ _ z=>z.stay S⟩
theorem Mach.stay (S:Stay H H'):Mach H p m→Mach H' p m:=fun ⟨rs,h⟩=>⟨rs,h.stay S⟩
theorem MaR.ne (h:MaR H p rs m) (hr:r∈rs):r≠p:=by
 rintro rfl
 obtain⟨i,hi,e⟩:=List.getElem_of_mem hr
 obtain⟨es,_,as,h1,h2⟩:=h.2.2.at (List.getElem?_eq_some_iff.2 ⟨hi,e⟩)
 rw [h.1] at h1
 injection h1 with h1
 injection h1 with h1
 have:=ref_inj h1
 subst this
 obtain⟨e,_,h3⟩:=h2.at (List.getElem?_eq_some_iff.2 ⟨hi,e⟩)
 have h3:H r = some (.tup _):=h3
 rw [h.1] at h3
 cases h3
theorem Ent.upd {l:Addr} {vs us:List V} (h:Ent H a e) (hl:H l = some (.lst vs)):Ent (L2.upd H l (.lst us)) a e:=by
 show L2.upd H l (.lst us) a = _
 rw [upd_ne]
 ·exact h
 ·rintro rfl
  have h:H a = some (.tup _):=h
  rw [hl] at h; cases h
theorem RowA.upd {l:Addr} {vs us:List V} (h:RowA H r as es) (hl:H l = some (.lst vs)) (ne:r≠l):RowA (L2.upd H l (.lst us)) r as es :=
 ⟨by rw [upd_ne ne]; exact h.1,h.2.mono fun _ _ _ z=>z.upd hl⟩
theorem Row.upd {l:Addr} {vs us:List V} (h:Row H r es) (hl:H l = some (.lst vs)) (ne:r≠l):Row (L2.upd H l (.lst us)) r es:=h.elim fun as h=>⟨as,h.upd hl ne⟩
theorem MaR.row {i:Nat} {as':List Addr} (h:MaR H p rs m) (hi:rs[i]? = some r) (he:All2 (Ent H) as' es):MaR (L2.upd H r (.lst (as'.map V.ref))) p rs (m.set i es):=by
 have hr:r∈rs:=List.mem_of_getElem? hi
 obtain⟨es0,_,as,h1,h2⟩:=h.2.2.at hi
 refine⟨by rw [upd_ne (h.ne hr).symm]; exact h.1,h.2.1,h.2.2.setA hi (fun b y _ hb z=>z.upd h1 hb) h.2.1 ⟨as',upd_same,he.mono fun _ _ _ z=>z.upd h1⟩⟩
theorem MaR.app (h:MaR H p rs m) (hr:Row H r es) (hn:r ∉ rs) (hp:r≠p):MaR (L2.upd H p (.lst ((rs ++ [r]).map V.ref))) p (rs ++ [r]) (m ++ [es]):=by
 refine⟨upd_same,?_,(h.2.2.mono fun b y hb z=>z.upd h.1 (h.ne hb)).app (hr.upd h.1 hp)⟩
 rw [List.nodup_append]
 exact⟨h.2.1,by simp,fun a ha b hb=>by rw [List.mem_singleton.1 hb]; rintro rfl; exact hn ha⟩
theorem RowA.app (h:RowA H r as es) (he:Ent H a e):RowA (L2.upd H r (.lst ((as ++ [a]).map V.ref))) r (as ++ [a]) (es ++ [e]) :=
 ⟨upd_same,(h.2.mono fun _ _ _ z=>z.upd h.1).app (he.upd h.1)⟩
theorem RowA.app' (h:RowA H r as es) (he:Ent H a e):RowA (L2.upd H r (.lst (as.map V.ref ++ [V.ref a]))) r (as ++ [a]) (es ++ [e]):=by
 have:=h.app he
 rw [List.map_append] at this
 exact this
theorem MaR.app' (h:MaR H p rs m) (hr:Row H r es) (hn:r ∉ rs) (hp:r≠p):MaR (L2.upd H p (.lst (rs.map V.ref ++ [V.ref r]))) p (rs ++ [r]) (m ++ [es]):=by
 have:=h.app hr hn hp
 rw [List.map_append] at this
 exact this
theorem MaR.other {l:Addr} {vs us:List V} (h:MaR H p rs m) (hl:H l = some (.lst vs)) (np:l≠p) (nr:l ∉ rs):MaR (L2.upd H l (.lst us)) p rs m :=
 ⟨by rw [upd_ne np.symm]; exact h.1,h.2.1,h.2.2.mono fun b y hb z=>z.upd hl (by rintro rfl; exact nr hb)⟩
theorem map_set_ref (as:List Addr) (i:Nat) (a:Addr):(as.map V.ref).set i (V.ref a) = (as.set i a).map V.ref:=(List.map_set).symm
theorem MaR.rowSet {i j:Nat} {a:Addr} (h:MaR H p rs m) (hi:rs[i]? = some r) (hr:RowA H r as es) (he:Ent H a e):MaR (L2.upd H r (.lst ((as.map V.ref).set j (V.ref a)))) p rs (m.set i (es.set j e)):=by
 rw [map_set_ref]
 exact h.row hi (hr.2.set he)
theorem dens_int:∀ ns:List Int,Dens H (ns.map V.int) (ns.map DD.int)
 | []=>by rw [List.map_nil,List.map_nil,Dens]
 | n :: ns=>by rw [List.map_cons,List.map_cons,Dens]; exact⟨_,_,rfl,by rw [Den],dens_int ns⟩
abbrev dE (e:En):DD:=.tup (e.map DD.int)
theorem Ent.den (h:Ent H a e):Den H (.ref a) (dE e):=by rw [dE,Den]; exact⟨_,_,rfl,h,dens_int e⟩
theorem depL_leK {k:Nat}:∀ {ds:List DD},(∀ d∈ds,dep d≤k)→depL ds≤k
 | [],_=>by rw [depL]; omega
 | d :: ds,h=>by rw [depL]; exact Nat.max_le.2 ⟨h d (by simp),depL_leK fun x hx=>h x (by simp [hx])⟩
end
theorem MaR.out {H:Hp} {p q:Addr} {rs:List Addr} {m:Ma} (h:MaR H p rs m) (n:H q = none):q ∉ rs:=fun z=>by
 obtain⟨j,hj,e⟩:=List.getElem_of_mem z
 obtain⟨es,_,as,h1,_⟩:=h.2.2.at (List.getElem?_eq_some_iff.2 ⟨hj,e⟩)
 rw [n] at h1; cases h1
theorem MaR.outp {H:Hp} {p q:Addr} {rs:List Addr} {m:Ma} (h:MaR H p rs m) (n:H q = none):q≠p:=fun z=>by
 have:=h.1
 rw [← z,n] at this; cases this
structure Pu (pp:Addr) (k:Int) (H H':Hp):Prop where
 had:∃ n:Int,H pp = some (.lst [.int n,.int k])
 has:∃ n:Int,H' pp = some (.lst [.int n,.int k])
 keep:∀ a o,a≠pp→H a = some o→H' a = some o
section
variable {pp:Addr} {k:Int} {A B C:Hp}
theorem Pu.refl (h:∃ n:Int,A pp = some (.lst [.int n,.int k])):Pu pp k A A:=⟨h,h,fun _ _ _ e=>e⟩
theorem Pu.trans (h:Pu pp k A B) (h':Pu pp k B C):Pu pp k A C:=⟨h.had,h'.has,fun a o n e=>h'.keep a o n (h.keep a o n e)⟩
theorem Pu.sub (h:Pu pp k A B) (S:Sub B C):Pu pp k A C:=⟨h.had,h.has.imp fun _ e=>S _ _ e,fun a o n e=>S _ _ (h.keep a o n e)⟩
theorem Pu.draw (h:Pu pp k A B) (n:Int):Pu pp k A (upd B pp (.lst [.int n,.int k])):=⟨h.had,⟨n,upd_same⟩,fun a o ne e=>by rw [upd_ne ne]; exact h.keep a o ne e⟩
theorem Pu.set {p:Addr} {o:HO} (h:Pu pp k A B) (hp:A p = none):Pu pp k A (upd B p o):=by
 have ne:pp≠p:=by
  rintro rfl
  obtain⟨n,e⟩:=h.had
  rw [hp] at e; cases e
 refine⟨h.had,?_,fun a u na e=>?_⟩
 ·obtain⟨n,e⟩:=h.has
  exact⟨n,by rw [upd_ne ne]; exact e⟩
 ·rw [upd_ne]
  ·exact h.keep a u na e
  ·rintro rfl; rw [hp] at e; cases e
theorem Pu.stay (h:Pu pp k A B):Stay A B:=by
 obtain⟨n,e⟩:=h.had
 refine⟨fun a xs q=>h.keep _ _ ?_ q,fun a as q=>h.keep _ _ ?_ q⟩
 ·rintro rfl; rw [q] at e; cases e
 ·rintro rfl
  rw [q] at e
  cases as with
  | nil=>cases e
  | cons x xs=>cases e
theorem Pu.free (h:Pu pp k A B) {p:Addr} (n:B p = none):A p = none:=by
 cases e:A p with
 | none=>rfl
 | some o =>
  by_cases q:p = pp
  ·obtain⟨_,e'⟩:=h.has
   rw [← q,n] at e'; cases e'
  ·rw [h.keep _ _ q e] at n; cases n
theorem Pu.of_draw (n:Int) {n':Int} (h:A pp = some (.lst [.int n',.int k])):Pu pp k A (upd A pp (.lst [.int n,.int k])):=(Pu.refl ⟨n',h⟩).draw n
end
end L2
end
section
set_option Elab.async false
set_option linter.all false
set_option maxRecDepth 100000
set_option maxHeartbeats 4000000
namespace L2
open PySem PySem.Spec PyProof.Rows PySem.W
def gallop':Bool→Keyed→Array Keyed→Nat→Nat→Nat→StateT SortSt Sem (Option Nat):=sortPriv% PySem.Builtin.gallop
def mergeLo':Array Keyed→Array Keyed→StateT SortSt Sem (Array Keyed):=sortPriv% PySem.Builtin.mergeLo
def mergeHi':Array Keyed→Array Keyed→StateT SortSt Sem (Array Keyed):=sortPriv% PySem.Builtin.mergeHi
section
variable {M:Model} {A:Around} {E:Value→Shared→Prop} {s:Shared} {kf:Keyed→Int} {G:Keyed→Prop} {κ:SortKind}
def Cmp (M:Model) (A:Around) (E:Value→Shared→Prop) (s:Shared) (kf:Keyed→Int) (G:Keyed→Prop) (κ:SortKind):Prop :=
 ∀ (x y:Keyed) (st:SortSt) (Q:Option Bool→SortSt→Prop),G x→G y→kf x≠kf y→kindOf st = κ→Q (some (decide (kf x < kf y))) st→wpS M A E s (lt' x y) Q st
theorem gallop_ok (C:Cmp M A E s kf G κ) {left:Bool} {key:Keyed} {arr:Array Keyed} {base n hint K:Nat} {st:SortSt} {Q:Option Nat→SortSt→Prop} (hk:kindOf st = κ) (gk:G key)
  (hG:∀ i,i < n→∃ x,arr[base + i]? = some x∧G x∧kf x≠kf key∧(kf x < kf key ↔ i < K)) (hh:hint < n) (hK:K≤n) (h:Q (some K) st):wpS M A E s (gallop' left key arr base n hint) Q st:=by
 have beyond:∀ (i:Nat) (R:Option Bool→SortSt→Prop),i < n→R (some (decide (i < K))) st→wpS M A E s (do let x ← elem' arr (base + i); if left = true then lt' x key else do let r ← lt' key x; pure (r.map (!·))) R st:=by
  intro i R hi hR
  obtain⟨x,e,gx,ne,hx⟩:=hG i hi
  rw [elem'_eq,e]
  refine wpS_bind (wpS_pure ?_)
  cases left with
  | true =>
   rw [if_pos rfl]
   refine C x key st R gx gk ne hk ?_
   rw [show decide (kf x < kf key) = decide (i < K) from decide_eq_decide.2 hx]
   exact hR
  | false =>
   rw [if_neg (by simp)]
   refine wpS_bind (C key x st _ gk gx (Ne.symm ne) hk (wpS_pure ?_))
   have:(some (decide (kf key < kf x))).map (!·) = some (decide (i < K)):=by
    show some (!decide (kf key < kf x)) = _
    congr 1
    rw [show decide (i < K) = decide (kf x < kf key) from decide_eq_decide.2 hx.symm]
    by_cases q:kf x < kf key
    ·rw [decide_eq_true q,decide_eq_false (by omega)]; rfl
    ·rw [decide_eq_false q,decide_eq_true (by omega)]; rfl
   rw [this]
   exact hR
 refine wpS_bind (beyond hint _ hh ?_)
 by_cases hr:hint < K
 ·rw [decide_eq_true hr]
  refine wpS_bind (wpS_mono (wpS_forRange (I:=fun i c st'=>st' = st∧∃ l o,c = (none,l,o)∧hint + l < K∧i + 1≤o) (Q:=fun c st'=>st' = st∧∃ l o,c = (none,l,o)∧hint + l < K∧(n - hint≤o∨K≤hint + o)) ?_ ?_ ⟨rfl,0,1,rfl,by omega,by omega⟩) ?_)
  ·rintro i c st' _ hi ⟨rfl,l,o,rfl,h1,h2⟩
   dsimp only
   by_cases ho:o ≥ n - hint
   ·rw [if_pos ho]
    exact wpS_pure ⟨rfl,l,o,rfl,h1,.inl ho⟩
   ·rw [if_neg ho]
    refine wpS_bind (beyond (hint + o) _ (by omega) ?_)
    by_cases hm:hint + o < K
    ·rw [decide_eq_true hm]
     exact wpS_pure ⟨rfl,o,2 * o + 1,rfl,hm,by omega⟩
    ·rw [decide_eq_false hm]
     exact wpS_pure ⟨rfl,l,o,rfl,h1,.inr (by omega)⟩
  ·rintro c st' ⟨rfl,l,o,rfl,h1,h2⟩
   exact⟨rfl,l,o,rfl,h1,.inl (by omega)⟩
  ·rintro c st' ⟨rfl,l,o,rfl,h1,h2⟩
   dsimp only
   have b1:hint + l + 1≤K:=by omega
   have b2:K≤hint + min o (n - hint):=by omega
   have b3:hint + min o (n - hint)≤n:=by omega
   generalize hint + l + 1 = lo at b1 ⊢
   generalize hint + min o (n - hint) = hi at b2 b3 ⊢
   refine wpS_bind (wpS_mono (wpS_forRange (I:=fun i c st''=>st'' = st'∧∃ a b,c = (none,a,b)∧a≤K∧K≤b∧b≤n∧b - a≤n - i) (Q:=fun c st''=>st'' = st'∧∃ a,c = (none,a,K)) ?_ ?_ ⟨rfl,lo,hi,rfl,b1,b2,b3,by omega⟩) ?_)
   ·rintro i c st'' _ hi ⟨rfl,a,b,rfl,h1,h2,h3,h4⟩
    dsimp only
    by_cases ho:a ≥ b
    ·rw [if_pos ho]
     have:b = K:=by omega
     exact wpS_pure ⟨rfl,a,by rw [this]⟩
    ·rw [if_neg ho]
     refine wpS_bind (beyond (a + (b - a) / 2) _ (by omega) ?_)
     by_cases hm:a + (b - a) / 2 < K
     ·rw [decide_eq_true hm]
      exact wpS_pure ⟨rfl,_,_,rfl,by omega,h2,h3,by omega⟩
     ·rw [decide_eq_false hm]
      exact wpS_pure ⟨rfl,_,_,rfl,h1,by omega,by omega,by omega⟩
   ·rintro c st'' ⟨rfl,a,b,rfl,h1,h2,h3,h4⟩
    have:b = K:=by omega
    exact⟨rfl,a,by rw [this]⟩
   ·rintro c st'' ⟨rfl,a,rfl⟩
    exact wpS_pure h
 ·rw [decide_eq_false hr]
  refine wpS_bind (wpS_mono (wpS_forRange (I:=fun i c st'=>st' = st∧∃ l o,c = (none,l,o)∧K + l≤hint∧i + 1≤o) (Q:=fun c st'=>st' = st∧∃ l o,c = (none,l,o)∧K + l≤hint∧(hint + 1≤o∨hint < K + o)) ?_ ?_ ⟨rfl,0,1,rfl,by omega,by omega⟩) ?_)
  ·rintro i c st' _ hi ⟨rfl,l,o,rfl,h1,h2⟩
   dsimp only
   by_cases ho:o ≥ hint + 1
   ·rw [if_pos ho]
    exact wpS_pure ⟨rfl,l,o,rfl,h1,.inl ho⟩
   ·rw [if_neg ho]
    refine wpS_bind (beyond (hint - o) _ (by omega) ?_)
    by_cases hm:hint - o < K
    ·rw [decide_eq_true hm]
     exact wpS_pure ⟨rfl,l,o,rfl,h1,.inr (by omega)⟩
    ·rw [decide_eq_false hm]
     exact wpS_pure ⟨rfl,o,2 * o + 1,rfl,by omega,by omega⟩
  ·rintro c st' ⟨rfl,l,o,rfl,h1,h2⟩
   exact⟨rfl,l,o,rfl,h1,.inl (by omega)⟩
  ·rintro c st' ⟨rfl,l,o,rfl,h1,h2⟩
   dsimp only
   have b1:hint + 1 - min o (hint + 1)≤K:=by omega
   have b2:K≤hint - l:=by omega
   have b3:hint - l≤n:=by omega
   generalize hint + 1 - min o (hint + 1) = lo at b1 ⊢
   generalize hint - l = hi at b2 b3 ⊢
   refine wpS_bind (wpS_mono (wpS_forRange (I:=fun i c st''=>st'' = st'∧∃ a b,c = (none,a,b)∧a≤K∧K≤b∧b≤n∧b - a≤n - i) (Q:=fun c st''=>st'' = st'∧∃ a,c = (none,a,K)) ?_ ?_ ⟨rfl,lo,hi,rfl,b1,b2,b3,by omega⟩) ?_)
   ·rintro i c st'' _ hi ⟨rfl,a,b,rfl,h1,h2,h3,h4⟩
    dsimp only
    by_cases ho:a ≥ b
    ·rw [if_pos ho]
     have:b = K:=by omega
     exact wpS_pure ⟨rfl,a,by rw [this]⟩
    ·rw [if_neg ho]
     refine wpS_bind (beyond (a + (b - a) / 2) _ (by omega) ?_)
     by_cases hm:a + (b - a) / 2 < K
     ·rw [decide_eq_true hm]
      exact wpS_pure ⟨rfl,_,_,rfl,by omega,h2,h3,by omega⟩
     ·rw [decide_eq_false hm]
      exact wpS_pure ⟨rfl,_,_,rfl,h1,by omega,by omega,by omega⟩
   ·rintro c st'' ⟨rfl,a,b,rfl,h1,h2,h3,h4⟩
    have:b = K:=by omega
    exact⟨rfl,a,by rw [this]⟩
   ·rintro c st'' ⟨rfl,a,rfl⟩
    exact wpS_pure h
end
section
variable {kf:Keyed→Int} {G:Keyed→Prop}
def Ord (kf:Keyed→Int) (l:List Keyed):Prop:=l.Pairwise fun x y=>kf x < kf y
def Res (kf:Keyed→Int) (base o:List Keyed):Prop:=Ord kf o∧o.Perm base
structure MI (kf:Keyed→Int) (base o ra rb:List Keyed):Prop where
 so:Ord kf o
 sa:Ord kf ra
 sb:Ord kf rb
 oa:∀ x∈o,∀ y∈ra,kf x < kf y
 ob:∀ x∈o,∀ y∈rb,kf x < kf y
 pm:(o ++ (ra ++ rb)).Perm base
variable {base o ra rb xs:List Keyed}
theorem MI.swap (h:MI kf base o ra rb):MI kf base o rb ra:=⟨h.so,h.sb,h.sa,h.ob,h.oa,(List.Perm.append_left _ List.perm_append_comm).trans h.pm⟩
theorem MI.stepA (h:MI kf base o (xs ++ ra) rb) (hx:∀ x∈xs,∀ y∈rb,kf x < kf y):MI kf base (o ++ xs) ra rb:=by
 obtain⟨s1,s2,s3⟩:=List.pairwise_append.1 h.sa
 refine⟨List.pairwise_append.2 ⟨h.so,s1,fun x hx y hy=>h.oa x hx y (List.mem_append_left _ hy)⟩,s2,h.sb,fun x hx' y hy=>?_,fun x hx' y hy=>?_,?_⟩
 ·rcases List.mem_append.1 hx' with q | q
  ·exact h.oa x q y (List.mem_append_right _ hy)
  ·exact s3 x q y hy
 ·rcases List.mem_append.1 hx' with q | q
  ·exact h.ob x q y hy
  ·exact hx x q y hy
 ·have:=h.pm
  rw [List.append_assoc] at this
  rw [List.append_assoc]
  exact this
theorem MI.stepB (h:MI kf base o ra (xs ++ rb)) (hx:∀ x∈xs,∀ y∈ra,kf x < kf y):MI kf base (o ++ xs) ra rb:=(h.swap.stepA hx).swap
theorem MI.endA (h:MI kf base o ra []):Res kf base (o ++ ra):=⟨List.pairwise_append.2 ⟨h.so,h.sa,h.oa⟩,by have:=h.pm; rw [List.append_nil] at this; exact this⟩
theorem MI.endAB (h:MI kf base o ra rb) (hx:∀ x∈ra,∀ y∈rb,kf x < kf y):Res kf base (o ++ ra ++ rb):=by
 have:=h
 rw [← List.append_nil ra] at this
 exact (this.stepA hx).swap.endA
theorem MI.endBA (h:MI kf base o ra rb) (hx:∀ x∈ra,∀ y∈rb,kf y < kf x):Res kf base (o ++ rb ++ ra):=h.swap.endAB fun y hy x hx'=>hx x hx' y hy
theorem cut_ex (k:Int):∀ (l:List Keyed),Ord kf l→(∀ x∈l,kf x≠k)→∃ K,K≤l.length∧∀ i (h:i < l.length),(kf l[i] < k ↔ i < K)
 | [],_,_=>⟨0,Nat.le_refl _,fun i h=>absurd h (by simp)⟩
 | x :: l,hs,hn=>by
  obtain⟨s1,s2⟩:=List.pairwise_cons.1 hs
  obtain⟨K,h1,h2⟩:=cut_ex k l s2 fun y hy=>hn y (List.mem_cons_of_mem _ hy)
  by_cases hx:kf x < k
  ·refine⟨K + 1,by simp; omega,fun i hi=>?_⟩
   cases i with
   | zero=>simp [hx]
   | succ i=>rw [List.getElem_cons_succ,h2 i (by simp at hi; omega)]; omega
  ·refine⟨0,Nat.zero_le _,fun i hi=>?_⟩
   have hk:k < kf x:=by have:=hn x (List.mem_cons_self ..); omega
   cases i with
   | zero=>simp; omega
   | succ i =>
    rw [List.getElem_cons_succ]
    have hi':i < l.length:=by simp at hi; omega
    have:=s1 l[i] (List.getElem_mem _)
    omega
structure AI (kf:Keyed→Int) (a b out:Array Keyed) (ia ib:Nat):Prop where
 m:MI kf (a.toList ++ b.toList) out.toList (a.toList.drop ia) (b.toList.drop ib)
variable {a b out:Array Keyed} {ia ib k:Nat} {x y:Keyed}
theorem drop_at (h:a[ia]? = some x):a.toList.drop ia = x :: a.toList.drop (ia + 1):=by
 rw [← Array.getElem?_toList] at h
 obtain⟨h1,h2⟩:=List.getElem?_eq_some_iff.1 h
 rw [List.drop_eq_getElem_cons h1,h2]
theorem ext_drop:(a.extract ia (ia + k)).toList ++ a.toList.drop (ia + k) = a.toList.drop ia:=by
 rw [Array.toList_extract,List.extract_eq_take_drop,show ia + k - ia = k by omega,← List.drop_drop]
 exact List.take_append_drop _ _
theorem ext_end:(a.extract ia a.size).toList = a.toList.drop ia:=by
 rw [Array.toList_extract,List.extract_eq_take_drop,List.take_of_length_le]
 rw [List.length_drop,Array.length_toList]
 exact Nat.le_refl _
theorem AI.pushA (h:AI kf a b out ia ib) (hx:a[ia]? = some x) (hl:∀ y∈b.toList.drop ib,kf x < kf y):AI kf a b (out.push x) (ia + 1) ib:=by
 have:=h.m
 rw [drop_at hx] at this
 refine⟨?_⟩
 rw [Array.toList_push]
 exact this.stepA (xs:=[x]) fun z hz=>by rw [List.mem_singleton.1 hz]; exact hl
theorem AI.pushB (h:AI kf a b out ia ib) (hx:b[ib]? = some x) (hl:∀ y∈a.toList.drop ia,kf x < kf y):AI kf a b (out.push x) ia (ib + 1):=by
 have:=h.m
 rw [drop_at hx] at this
 refine⟨?_⟩
 rw [Array.toList_push]
 exact this.stepB (xs:=[x]) fun z hz=>by rw [List.mem_singleton.1 hz]; exact hl
theorem AI.extA (h:AI kf a b out ia ib) (hl:∀ x∈(a.extract ia (ia + k)).toList,∀ y∈b.toList.drop ib,kf x < kf y):AI kf a b (out ++ a.extract ia (ia + k)) (ia + k) ib:=by
 have:=h.m
 rw [← ext_drop (k:=k)] at this
 refine⟨?_⟩
 rw [Array.toList_append]
 exact this.stepA hl
theorem AI.extB (h:AI kf a b out ia ib) (hl:∀ x∈(b.extract ib (ib + k)).toList,∀ y∈a.toList.drop ia,kf x < kf y):AI kf a b (out ++ b.extract ib (ib + k)) ia (ib + k):=by
 have:=h.m
 rw [← ext_drop (a:=b) (k:=k)] at this
 refine⟨?_⟩
 rw [Array.toList_append]
 exact this.stepB hl
def ResA (kf:Keyed→Int) (a b out:Array Keyed):Prop:=Res kf (a.toList ++ b.toList) out.toList
theorem AI.done (h:AI kf a b out ia ib) (he:a.size≤ia∨b.size≤ib):ResA kf a b (out ++ a.extract ia a.size ++ b.extract ib b.size):=by
 unfold ResA
 rw [Array.toList_append,Array.toList_append,ext_end,ext_end]
 refine h.m.endAB fun x hx y hy=>?_
 rcases he with he | he
 ·rw [List.drop_eq_nil_of_le (by rw [Array.length_toList]; exact he)] at hx; cases hx
 ·rw [List.drop_eq_nil_of_le (by rw [Array.length_toList]; exact he)] at hy; cases hy
theorem AI.lastA (h:AI kf a b out ia ib) (he:ia + 1 = a.size) (hl:∀ x,a[a.size - 1]? = some x→∀ y∈b.toList,kf y < kf x):ResA kf a b (out ++ b.extract ib b.size ++ a.extract ia a.size):=by
 unfold ResA
 rw [Array.toList_append,Array.toList_append,ext_end,ext_end]
 refine h.m.endBA fun x hx y hy=>?_
 have hia:ia < a.size:=by omega
 rw [drop_at (Array.getElem?_eq_getElem hia),List.drop_eq_nil_of_le (by rw [Array.length_toList]; omega)] at hx
 rw [List.mem_singleton.1 hx]
 exact hl _ (by rw [show a.size - 1 = ia by omega]; exact Array.getElem?_eq_getElem hia) y (List.mem_of_mem_drop hy)
theorem Ord.head (h:Ord kf (x :: ra)):∀ y∈x :: ra,kf x≤kf y:=fun y hy=>by
 rcases List.mem_cons.1 hy with rfl | q
 ·exact Int.le_refl _
 ·exact Int.le_of_lt ((List.pairwise_cons.1 h).1 y q)
structure Two (kf:Keyed→Int) (G:Keyed→Prop) (a b:Array Keyed):Prop where
 ga:∀ x∈a.toList,G x
 gb:∀ x∈b.toList,G x
 ne:∀ x∈a.toList,∀ y∈b.toList,kf x≠kf y
 sa:Ord kf a.toList
 sb:Ord kf b.toList
 na:0 < a.size
 nb:0 < b.size
 hd:∀ y,b[0]? = some y→∀ x∈a.toList,kf y < kf x
 lst:∀ x,a[a.size - 1]? = some x→∀ y∈b.toList,kf y < kf x
theorem mem_at (h:a[ia]? = some x):x∈a.toList:=Array.mem_toList_iff.2 (Array.mem_of_getElem? h)
theorem at_some (h:ia < a.size):∃ x,a[ia]? = some x:=⟨_,Array.getElem?_eq_getElem h⟩
theorem AI.start (T:Two kf G a b) (h:b[0]? = some x):AI kf a b #[x] 0 1:=by
 refine⟨?_⟩
 have e:=drop_at h
 rw [List.drop_zero] at e
 have s:=T.sb
 rw [e] at s
 have s':=List.pairwise_cons.1 s
 refine⟨List.pairwise_singleton _ _,T.sa,s'.2,fun z hz y hy=>?_,fun z hz y hy=>?_,?_⟩
 ·rw [List.mem_singleton.1 hz]; exact T.hd x h y hy
 ·rw [List.mem_singleton.1 hz]; exact s'.1 y hy
 ·rw [List.drop_zero]
  conv=>rhs; rw [e]
  show (x :: (a.toList ++ List.drop 1 b.toList)).Perm _
  exact (List.perm_middle).symm
theorem AI.ltB (h:AI kf a b out ia ib) (hx:a[ia]? = some x) (hy:b[ib]? = some y) (l:kf x < kf y):∀ z∈b.toList.drop ib,kf x < kf z:=fun z hz=>by
 have s:=h.m.sb
 rw [drop_at hy] at s hz
 exact Int.lt_of_lt_of_le l (s.head z hz)
theorem AI.ltA (h:AI kf a b out ia ib) (hx:a[ia]? = some x) (hy:b[ib]? = some y) (l:kf y < kf x):∀ z∈a.toList.drop ia,kf y < kf z:=fun z hz=>by
 have s:=h.m.sa
 rw [drop_at hx] at s hz
 exact Int.lt_of_lt_of_le l (s.head z hz)
theorem mem_ext {i j:Nat} (h:x∈(a.extract i j).toList):∃ k,i≤k∧k < j∧a[k]? = some x:=by
 rw [Array.toList_extract,List.extract_eq_take_drop] at h
 obtain⟨n,hn⟩:=List.mem_iff_getElem?.1 h
 rw [List.getElem?_take] at hn
 split at hn
 ·rw [List.getElem?_drop] at hn
  refine⟨i + n,by omega,by omega,?_⟩
  rw [← Array.getElem?_toList]
  exact hn
 ·cases hn
theorem mem_drp {i:Nat} (h:x∈a.toList.drop i):∃ k,i≤k∧a[k]? = some x:=by
 obtain⟨n,hn⟩:=List.mem_iff_getElem?.1 h
 rw [List.getElem?_drop] at hn
 exact⟨i + n,by omega,by rw [← Array.getElem?_toList]; exact hn⟩
theorem cut_arr {arr:Array Keyed} {bs n:Nat} {kk:Int} (hn:bs + n≤arr.size) (hs:∀ i j x y,i < j→j < n→arr[bs + i]? = some x→arr[bs + j]? = some y→kf x < kf y)
  (hg:∀ i x,i < n→arr[bs + i]? = some x→G x∧kf x≠kk):∃ K,K≤n∧∀ i,i < n→∃ x,arr[bs + i]? = some x∧G x∧kf x≠kk∧(kf x < kk ↔ i < K):=by
 have g:∀ i (h:i < ((arr.toList.drop bs).take n).length),i < n∧arr[bs + i]? = some ((arr.toList.drop bs).take n)[i]:=fun i h=>by
  have e:=List.getElem?_eq_getElem h
  have:i < n:=by rw [List.length_take] at h; omega
  rw [List.getElem?_take,if_pos this,List.getElem?_drop,Array.getElem?_toList] at e
  exact⟨this,e⟩
 have hl:((arr.toList.drop bs).take n).length = n:=by rw [List.length_take,List.length_drop,Array.length_toList]; omega
 obtain⟨K,h1,h2⟩:=cut_ex (kf:=kf) kk ((arr.toList.drop bs).take n) (List.pairwise_iff_getElem.2 fun i j hi hj hij=>hs i j _ _ hij (g j hj).1 (g i hi).2 (g j hj).2) fun x hx=>by
  obtain⟨i,hi,rfl⟩:=List.mem_iff_getElem.1 hx
  exact (hg i _ (g i hi).1 (g i hi).2).2
 refine⟨K,by omega,fun i hi=>?_⟩
 have hi':i < ((arr.toList.drop bs).take n).length:=by omega
 obtain⟨q1,q2⟩:=hg i _ hi (g i hi').2
 exact⟨_,(g i hi').2,q1,q2,h2 i hi'⟩
theorem Ord.arr (h:Ord kf a.toList) {i j:Nat} {x y:Keyed} (hij:i < j) (hx:a[i]? = some x) (hy:a[j]? = some y):kf x < kf y:=by
 rw [← Array.getElem?_toList] at hx hy
 obtain⟨h1,rfl⟩:=List.getElem?_eq_some_iff.1 hx
 obtain⟨h2,rfl⟩:=List.getElem?_eq_some_iff.1 hy
 exact List.pairwise_iff_getElem.1 h i j h1 h2 hij
theorem Ord.ofArr (h:∀ (i j:Nat) (x y:Keyed),i < j→a[i]? = some x→a[j]? = some y→kf x < kf y):Ord kf a.toList :=
 List.pairwise_iff_getElem.2 fun i j hi hj hij=>h i j _ _ hij (by rw [← Array.getElem?_toList]; exact List.getElem?_eq_getElem hi) (by rw [← Array.getElem?_toList]; exact List.getElem?_eq_getElem hj)
theorem Two.cutA (T:Two kf G a b) (hy:y∈b.toList) {bs n:Nat} (hn:bs + n≤a.size):∃ K,K≤n∧∀ i,i < n→∃ x,a[bs + i]? = some x∧G x∧kf x≠kf y∧(kf x < kf y ↔ i < K) :=
 cut_arr hn (fun i j x z hij _ hx hz=>T.sa.arr (by omega) hx hz) fun i x _ hx=>⟨T.ga x (mem_at hx),T.ne x (mem_at hx) y hy⟩
theorem Two.cutB (T:Two kf G a b) (hx:x∈a.toList) {bs n:Nat} (hn:bs + n≤b.size):∃ K,K≤n∧∀ i,i < n→∃ y,b[bs + i]? = some y∧G y∧kf y≠kf x∧(kf y < kf x ↔ i < K) :=
 cut_arr hn (fun i j x z hij _ hx hz=>T.sb.arr (by omega) hx hz) fun i y _ hy=>⟨T.gb y (mem_at hy),Ne.symm (T.ne x hx y (mem_at hy))⟩
theorem AI.galA {K:Nat} (T:Two kf G a b) (S:AI kf a b out ia ib) (hy:b[ib]? = some y) (l1:ia + 1 < a.size) (hK:K≤a.size - ia)
  (cut:∀ i,i < a.size - ia→∃ x,a[ia + i]? = some x∧G x∧kf x≠kf y∧(kf x < kf y ↔ i < K)) :
  AI kf a b (out ++ a.extract ia (ia + K)) (ia + K) ib∧(∀ x∈a.toList.drop (ia + K),kf y < kf x)∧ia + K + 1≤a.size:=by
 have at_:∀ k x,ia≤k→a[k]? = some x→kf x≠kf y∧(kf x < kf y ↔ k < ia + K):=fun k x k1 k3=>by
  have hk3:=(Array.getElem?_eq_some_iff.1 k3).1
  obtain⟨d,rfl⟩:=Nat.exists_eq_add_of_le k1
  obtain⟨x',e,_,ne,z⟩:=cut d (by omega)
  rw [k3] at e
  cases e
  exact⟨ne,z.trans Nat.add_lt_add_iff_left.symm⟩
 refine⟨S.extA (k:=K) fun x hx z hz=>?_,fun x hx=>?_,?_⟩
 ·obtain⟨k,k1,k2,k3⟩:=mem_ext hx
  have s:=S.m.sb
  rw [drop_at hy] at s hz
  exact Int.lt_of_lt_of_le ((at_ k x k1 k3).2.2 k2) (s.head z hz)
 ·obtain⟨k,k1,k3⟩:=mem_drp hx
  obtain⟨ne,z⟩:=at_ k x (Nat.le_trans (Nat.le_add_right _ _) k1) k3
  exact (Int.lt_or_lt_of_ne ne).resolve_left fun q=>absurd (z.1 q) (Nat.not_lt.2 k1)
 ·obtain⟨xl,hxl⟩:=at_some (a:=a) (ia:=a.size - 1) (by omega)
  obtain⟨ne,z⟩:=at_ _ xl (by omega) hxl
  have q:=T.lst _ hxl y (mem_at hy)
  have:=mt z.2 (Int.not_lt.2 (Int.le_of_lt q))
  omega
theorem AI.galB {L:Nat} (S:AI kf a b out ia ib) (hx:a[ia]? = some x) (cut:∀ i,i < b.size - ib→∃ y,b[ib + i]? = some y∧G y∧kf y≠kf x∧(kf y < kf x ↔ i < L)) :
  AI kf a b (out ++ b.extract ib (ib + L)) ia (ib + L)∧∀ z∈b.toList.drop (ib + L),kf x < kf z:=by
 have at_:∀ k y,ib≤k→b[k]? = some y→kf y≠kf x∧(kf y < kf x ↔ k < ib + L):=fun k y k1 k3=>by
  have hk3:=(Array.getElem?_eq_some_iff.1 k3).1
  obtain⟨d,rfl⟩:=Nat.exists_eq_add_of_le k1
  obtain⟨x',e,_,ne,z⟩:=cut d (by omega)
  rw [k3] at e
  cases e
  exact⟨ne,z.trans Nat.add_lt_add_iff_left.symm⟩
 refine⟨S.extB (k:=L) fun z hz u hu=>?_,fun z hz=>?_⟩
 ·obtain⟨k,k1,k2,k3⟩:=mem_ext hz
  have s:=S.m.sa
  rw [drop_at hx] at s hu
  exact Int.lt_of_lt_of_le ((at_ k z k1 k3).2.2 k2) (s.head u hu)
 ·obtain⟨k,k1,k3⟩:=mem_drp hz
  obtain⟨ne,w⟩:=at_ k z (Nat.le_trans (Nat.le_add_right _ _) k1) k3
  exact (Int.lt_or_lt_of_ne ne).resolve_left fun q=>absurd (w.1 q) (Nat.not_lt.2 k1)
end
section
variable {M:Model} {A:Around} {E:Value→Shared→Prop} {s:Shared} {kf:Keyed→Int} {G:Keyed→Prop} {κ:SortKind}
abbrev setGal (st:SortSt) (g:Nat):SortSt:=SortSt.mk' (kindOf st) (arrOf st) (pendingOf st) g (failedOf st)
theorem elem_ok {a:Array Keyed} {i:Nat} {x:Keyed} {st:SortSt} {R:Keyed→SortSt→Prop} (hx:a[i]? = some x) (h:R x st):wpS M A E s (elem' a i) R st:=by rw [elem'_eq,hx]; exact wpS_pure h
theorem wpS_ite {σ α:Type} {c:Prop} [Decidable c] {m1 m2:StateT σ Sem α} {Q:α→σ→Prop} {st:σ} (h1:c→wpS M A E s m1 Q st) (h2:¬ c→wpS M A E s m2 Q st):wpS M A E s (if c then m1 else m2) Q st:=by
 by_cases h:c
 ·rw [if_pos h]; exact h1 h
 ·rw [if_neg h]; exact h2 h
theorem wpS_pick {σ α:Type} {k f:Nat→StateT σ Sem α} {Q:α→σ→Prop} {st:σ} (hk:∀ n,k n = f (n - 1)) (h:∀ n,wpS M A E s (f n) Q st):∀ mg:Nat,wpS M A E s (if mg > 1 then k mg else f mg) Q st:=fun mg=>wpS_ite (fun _=>by rw [hk]; exact h _) fun _=>h _
set_option hygiene false in
local macro_rules | `(tactic| walk_at "loEnd") => `(tactic| (
 refine wpS_bind (elem_ok hx ?_)
 have S4:=S3.pushA hx hi2
 refine wpS_ite (fun e=>?_) fun e=>?_
 ·exact wpS_pure ⟨_,rfl,.inl ⟨_,rfl,S4.lastA (by simpa using e) T.lst⟩⟩
 have e2:I + 1 + 1≠a.size:=by simpa using e
 refine wpS_ite (fun _=>?_) fun _=>?_
 ·exact wpS_pure ⟨_,rfl,.inr ⟨_,_,_,_,_,_,rfl,S4,by omega,by omega,by omega⟩⟩
 ·exact wpS_pure ⟨_,rfl,_,_,_,_,_,_,rfl,S4,by omega,by omega,by omega⟩))
set_option hygiene false in
local macro_rules | `(tactic| walk_at "loTail") => `(tactic| (
 refine wpS_bind (elem_ok hy ?_)
 have S2:=S1.pushB hy hi
 refine wpS_ite (fun e=>?_) fun e=>?_
 ·have e0:ib + 1 = b.size:=by simpa using e
  exact wpS_pure ⟨_,rfl,.inl ⟨_,rfl,S2.done (.inr (by omega))⟩⟩
 have e1:ib + 1≠b.size:=by simpa using e
 obtain⟨x,hx⟩:=at_some (a:=a) (ia:=I) (by omega)
 refine wpS_bind (elem_ok hx ?_)
 obtain⟨L,hL,cutb⟩:=T.cutB (mem_at hx) (bs:=ib + 1) (n:=b.size - (ib + 1)) (by omega)
 refine wpS_bind (gallop_ok C (K:=L) hk (T.ga x (mem_at hx)) cutb (by omega) hL ?_)
 dsimp only
 obtain⟨S3,hi2⟩:=AI.galB S2 hx cutb
 refine wpS_ite (fun _=>?_) fun eL=>?_
 ·refine wpS_ite (fun e=>?_) fun e=>?_
  ·have e0:ib + 1 + L = b.size:=by simpa using e
   exact wpS_pure ⟨_,rfl,.inl ⟨_,rfl,S3.done (.inr (by omega))⟩⟩
  have e3:ib + 1 + L≠b.size:=by simpa using e
  walk_at "loEnd"
 ·obtain rfl:L = 0:=by omega
  have S3:=S2
  walk_at "loEnd"))
theorem mergeLo_ok (C:Cmp M A E s kf G κ) {a b:Array Keyed} {st:SortSt} {Q:Array Keyed→SortSt→Prop} (hk:kindOf st = κ) (T:Two kf G a b) (h:∀ o g,ResA kf a b o→Q o (setGal st g)):wpS M A E s (mergeLo' a b) Q st:=by
 obtain⟨x0,hx0⟩:=at_some T.nb
 refine wpS_bind (wpS_lift (wpAny_rule ⟨rfl,?_⟩))
 refine wpS_bind (elem_ok hx0 ?_)
 have S:=AI.start T hx0
 by_cases h1:1 = b.size
 ·rw [if_pos (by simpa using h1)]
  exact wpS_pure (h _ (gallopOf st) (S.done (.inr (by omega))))
 by_cases h2:1 = a.size
 ·rw [if_neg (by simpa using h1),if_pos (by simpa using h2)]
  exact wpS_pure (h _ (gallopOf st) (S.lastA (by omega) T.lst))
 rw [if_neg (by simpa using h1),if_neg (by simpa using h2)]
 refine wpS_bind (wpS_get ?_)
 have na:=T.na
 have nb:=T.nb
 refine wpS_bind (wpS_mono (wpS_forRange (I:=fun i c st'=>∃ g,st' = setGal st g∧∃ out ia ib mg,c = (none,out,ia,ib,mg)∧AI kf a b out ia ib∧ia + 1 < a.size∧ib < b.size∧i + 1≤ia + ib)
  (Q:=fun c st'=>∃ g,st' = setGal st g∧∃ o,c.1 = some o∧ResA kf a b o) ?_ ?_ ⟨gallopOf st,rfl,_,0,1,_,rfl,S,by omega,by omega,by omega⟩) ?_)
 ·rintro i c st' _ hi ⟨g,rfl,out,ia,ib,mg,rfl,S,l1,l2,l3⟩
  dsimp only
  refine wpS_bind (wpS_mono (wpS_forRange (I:=fun j c st'=>st' = setGal st g∧∃ out ia ib ac bc,c = (none,out,ia,ib,ac,bc)∧AI kf a b out ia ib∧ia + 1 < a.size∧ib < b.size∧i + 1 + j≤ia + ib)
   (Q:=fun c st'=>st' = setGal st g∧((∃ o,c.1 = some o∧ResA kf a b o)∨∃ out ia ib ac bc,c = (none,out,ia,ib,ac,bc)∧AI kf a b out ia ib∧ia + 1 < a.size∧ib < b.size∧i + 2≤ia + ib)) ?_ ?_ ⟨rfl,out,ia,ib,0,0,rfl,S,l1,l2,by omega⟩) ?_)
  ·rintro j c st' _ hj ⟨rfl,out,ia,ib,ac,bc,rfl,S,l1,l2,l3⟩
   dsimp only
   obtain⟨x,hx⟩:=at_some (a:=a) (ia:=ia) (by omega)
   obtain⟨y,hy⟩:=at_some (a:=b) (ia:=ib) l2
   refine wpS_bind (elem_ok hy ?_)
   refine wpS_bind (elem_ok hx ?_)
   refine wpS_bind (C y x _ _ (T.gb y (mem_at hy)) (T.ga x (mem_at hx)) (Ne.symm (T.ne x (mem_at hx) y (mem_at hy))) hk ?_)
   have hn:=T.ne x (mem_at hx) y (mem_at hy)
   by_cases q:kf y < kf x
   ·rw [decide_eq_true q]
    dsimp only
    rw [if_pos rfl]
    refine wpS_bind (elem_ok hy ?_)
    have S':=S.pushB hy (S.ltA hx hy q)
    by_cases e1:ib + 1 = b.size
    ·rw [if_pos (by simpa using e1)]
     exact wpS_pure ⟨rfl,.inl ⟨_,rfl,S'.done (.inr (by omega))⟩⟩
    rw [if_neg (by simpa using e1)]
    split
    ·exact wpS_pure ⟨rfl,.inr ⟨_,_,_,_,_,rfl,S',l1,by omega,by omega⟩⟩
    ·exact wpS_pure ⟨rfl,_,_,_,_,_,rfl,S',l1,by omega,by omega⟩
   ·rw [decide_eq_false q]
    dsimp only
    rw [if_neg (by simp)]
    refine wpS_bind (elem_ok hx ?_)
    have S':=S.pushA hx (S.ltB hx hy (by omega))
    by_cases e1:ia + 1 + 1 = a.size
    ·rw [if_pos (by simpa using e1)]
     exact wpS_pure ⟨rfl,.inl ⟨_,rfl,S'.lastA e1 T.lst⟩⟩
    rw [if_neg (by simpa using e1)]
    split
    ·exact wpS_pure ⟨rfl,.inr ⟨_,_,_,_,_,rfl,S',by omega,by omega,by omega⟩⟩
    ·exact wpS_pure ⟨rfl,_,_,_,_,_,rfl,S',by omega,by omega,by omega⟩
  ·rintro c st' ⟨rfl,out,ia,ib,ac,bc,rfl,S,l1,l2,l3⟩
   exact⟨rfl,.inr ⟨_,_,_,_,_,rfl,S,l1,l2,by omega⟩⟩
  ·rintro c st' ⟨rfl,⟨o,e,ho⟩ | ⟨out,ia,ib,ac,bc,rfl,S,l1,l2,l3⟩⟩
   ·obtain⟨c1,c2⟩:=c
    dsimp only at e ⊢
    subst e
    exact wpS_pure ⟨g,rfl,o,rfl,ho⟩
   dsimp only
   refine wpS_bind (wpS_lift (wpAny_rule ⟨rfl,?_⟩))
   refine wpS_bind (wpS_mono (wpS_forRange (I:=fun j c st'=>∃ g,st' = setGal st g∧∃ out ia ib mg ac bc,c = (none,out,ia,ib,mg,ac,bc)∧AI kf a b out ia ib∧ia + 1 < a.size∧ib < b.size∧i + 2≤ia + ib)
    (Q:=fun c st'=>∃ g,st' = setGal st g∧((∃ o,c.1 = some o∧ResA kf a b o)∨∃ out ia ib mg ac bc,c = (none,out,ia,ib,mg,ac,bc)∧AI kf a b out ia ib∧ia + 1 < a.size∧ib < b.size∧i + 2≤ia + ib)) ?_ ?_ ⟨g,rfl,out,ia,ib,_,_,_,rfl,S,l1,l2,by omega⟩) ?_)
   ·rintro j c st' _ hj ⟨g,rfl,out,ia,ib,mg,ac,bc,rfl,S,l1,l2,l3⟩
    dsimp only
    revert mg
    refine wpS_pick (fun _=>rfl) (fun mg=>?_)
    refine wpS_bind (wpS_modify ?_)
    obtain⟨y,hy⟩:=at_some (a:=b) (ia:=ib) l2
    refine wpS_bind (elem_ok hy ?_)
    obtain⟨K,hK,cut⟩:=T.cutA (mem_at hy) (bs:=ia) (n:=a.size - ia) (by omega)
    refine wpS_bind (gallop_ok C (K:=K) hk (T.gb y (mem_at hy)) cut (by omega) hK ?_)
    dsimp only
    obtain⟨S1,hi,hKl⟩:=AI.galA T S hy l1 hK cut
    refine wpS_ite (fun _=>?_) fun eK=>?_
    ·refine wpS_ite (fun e=>?_) fun e=>?_
     ·exact wpS_pure ⟨_,rfl,.inl ⟨_,rfl,S1.lastA (by simpa using e) T.lst⟩⟩
     have e4:ia + K + 1≠a.size:=by simpa using e
     rw [if_neg (by simp; omega)]
     generalize hI:ia + K = I at *
     walk_at "loTail"
    ·obtain rfl:K = 0:=by omega
     clear S1
     have S1:=S
     rw [Nat.add_zero] at hi
     generalize ia = I at *
     walk_at "loTail"
   ·rintro c st' ⟨g,rfl,out,ia,ib,mg,ac,bc,rfl,S,l1,l2,l3⟩
    exact⟨g,rfl,.inr ⟨_,_,_,_,_,_,rfl,S,l1,l2,by omega⟩⟩
   ·rintro c st' ⟨g,rfl,⟨o,e,ho⟩ | ⟨out,ia,ib,mg,ac,bc,rfl,S,l1,l2,l3⟩⟩
    ·obtain⟨c1,c2⟩:=c
     dsimp only at e ⊢
     subst e
     exact wpS_pure ⟨g,rfl,o,rfl,ho⟩
    dsimp only
    exact wpS_bind (wpS_modify (wpS_pure ⟨_,rfl,_,_,_,_,rfl,S,l1,l2,by omega⟩))
 ·rintro c st' ⟨g,rfl,out,ia,ib,mg,rfl,S,l1,l2,l3⟩
  omega
 ·rintro ⟨c1,c2⟩ st' ⟨g,rfl,o,rfl,ho⟩
  exact wpS_pure (h o g ho)
end
section
variable {kf:Keyed→Int} {G:Keyed→Prop}
structure HI (kf:Keyed→Int) (a b out:Array Keyed) (na nb:Nat):Prop where
 m:MI (fun x=>- kf x) (a.toList ++ b.toList) out.toList (a.toList.take na).reverse (b.toList.take nb).reverse
variable {a b out:Array Keyed} {na nb k:Nat} {x y:Keyed}
theorem take_at (h:a[na]? = some x):(a.toList.take (na + 1)).reverse = x :: (a.toList.take na).reverse:=by
 rw [← Array.getElem?_toList] at h
 obtain⟨h1,h2⟩:=List.getElem?_eq_some_iff.1 h
 rw [List.take_succ_eq_append_getElem h1,h2,List.reverse_append]
 rfl
theorem ext_take (h:k≤na):(a.extract k na).reverse.toList ++ (a.toList.take k).reverse = (a.toList.take na).reverse:=by
 rw [Array.toList_reverse,← List.reverse_append,Array.toList_extract,List.extract_eq_take_drop]
 congr 1
 conv=>rhs; rw [show na = k + (na - k) by omega,List.take_add]
theorem ext_beg:(a.extract 0 na).toList = a.toList.take na:=by
 rw [Array.toList_extract,List.extract_eq_take_drop,List.drop_zero]
 rfl
theorem HI.pushA (h:HI kf a b out (na + 1) nb) (hx:a[na]? = some x) (hl:∀ y∈b.toList.take nb,kf y < kf x):HI kf a b (out.push x) na nb:=by
 have:=h.m
 rw [take_at hx] at this
 refine⟨?_⟩
 rw [Array.toList_push]
 exact this.stepA (xs:=[x]) fun z hz y hy=>by rw [List.mem_singleton.1 hz]; have:=hl y (List.mem_reverse.1 hy); omega
theorem HI.pushB (h:HI kf a b out na (nb + 1)) (hx:b[nb]? = some x) (hl:∀ y∈a.toList.take na,kf y < kf x):HI kf a b (out.push x) na nb:=by
 have:=h.m
 rw [take_at hx] at this
 refine⟨?_⟩
 rw [Array.toList_push]
 exact this.stepB (xs:=[x]) fun z hz y hy=>by rw [List.mem_singleton.1 hz]; have:=hl y (List.mem_reverse.1 hy); omega
theorem HI.extA (h:HI kf a b out na nb) (hk:k≤na) (hl:∀ x∈(a.extract k na).toList,∀ y∈b.toList.take nb,kf y < kf x):HI kf a b (out ++ (a.extract k na).reverse) k nb:=by
 have:=h.m
 rw [← ext_take hk] at this
 refine⟨?_⟩
 rw [Array.toList_append]
 exact this.stepA fun x hx y hy=>by rw [Array.toList_reverse,List.mem_reverse] at hx; have:=hl x hx y (List.mem_reverse.1 hy); omega
theorem HI.extB (h:HI kf a b out na nb) (hk:k≤nb) (hl:∀ x∈(b.extract k nb).toList,∀ y∈a.toList.take na,kf y < kf x):HI kf a b (out ++ (b.extract k nb).reverse) na k:=by
 have:=h.m
 rw [← ext_take hk] at this
 refine⟨?_⟩
 rw [Array.toList_append]
 exact this.stepB fun x hx y hy=>by rw [Array.toList_reverse,List.mem_reverse] at hx; have:=hl x hx y (List.mem_reverse.1 hy); omega
theorem Res.back {base o:List Keyed} (h:Res (fun x=>- kf x) base o):Res kf base o.reverse:=by
 refine⟨?_,(List.reverse_perm _).trans h.2⟩
 unfold Ord
 rw [List.pairwise_reverse]
 exact h.1.imp fun q=>by dsimp only at q; omega
theorem HI.done (h:HI kf a b out na nb) (he:na = 0∨nb = 0):ResA kf a b (a.extract 0 na ++ b.extract 0 nb ++ out.reverse):=by
 unfold ResA
 have:=(h.m.endBA fun x hx y hy=>by
  rcases he with rfl | rfl
  ·cases hx
  ·cases hy).back
 rw [List.reverse_append,List.reverse_append,List.reverse_reverse,List.reverse_reverse] at this
 rw [Array.toList_append,Array.toList_append,ext_beg,ext_beg,Array.toList_reverse,List.append_assoc]
 exact this
theorem HI.firstB (h:HI kf a b out na nb) (he:nb = 1) (hl:∀ y,b[0]? = some y→∀ x∈a.toList,kf y < kf x):ResA kf a b (b.extract 0 nb ++ a.extract 0 na ++ out.reverse):=by
 unfold ResA
 have:=(h.m.endAB fun x hx y hy=>by
  subst he
  rw [List.mem_reverse] at hx hy
  have:b[0]? = some y:=by
   rw [← Array.getElem?_toList]
   revert hy
   cases b.toList with
   | nil=>intro hy; cases hy
   | cons z r=>intro hy; simp at hy; subst hy; rfl
  have:=hl y this x (List.mem_of_mem_take hx)
  omega).back
 rw [List.reverse_append,List.reverse_append,List.reverse_reverse,List.reverse_reverse] at this
 rw [Array.toList_append,Array.toList_append,ext_beg,ext_beg,Array.toList_reverse,List.append_assoc]
 exact this
theorem mem_tak {i:Nat} (h:x∈a.toList.take i):∃ k,k < i∧a[k]? = some x:=by
 rw [← ext_beg] at h
 obtain⟨k,_,k2,k3⟩:=mem_ext h
 exact⟨k,k2,k3⟩
theorem HI.start (T:Two kf G a b) (h:a[a.size - 1]? = some x):HI kf a b #[x] (a.size - 1) b.size:=by
 refine⟨?_⟩
 have na:=T.na
 have e:=take_at h
 rw [show a.size - 1 + 1 = a.size by omega,show a.toList.take a.size = a.toList by rw [← Array.length_toList]; exact List.take_length] at e
 have eb:b.toList.take b.size = b.toList:=by rw [← Array.length_toList]; exact List.take_length
 rw [eb]
 have rv:∀ {l:List Keyed},Ord kf l→Ord (fun x=>- kf x) l.reverse:=fun hl=>by unfold Ord; rw [List.pairwise_reverse]; exact hl.imp fun q=>by dsimp only; omega
 have s:=rv T.sa
 rw [e] at s
 have s':=List.pairwise_cons.1 s
 refine⟨List.pairwise_singleton _ _,s'.2,rv T.sb,fun z hz y hy=>?_,fun z hz y hy=>?_,?_⟩
 ·rw [List.mem_singleton.1 hz]; exact s'.1 y hy
 ·rw [List.mem_singleton.1 hz]; have:=T.lst x h y (List.mem_reverse.1 hy); omega
 ·show (x :: ((a.toList.take (a.size - 1)).reverse ++ b.toList.reverse)).Perm _
  rw [← List.cons_append,← e]
  exact List.Perm.append (List.reverse_perm _) (List.reverse_perm _)
theorem HI.ltA (T:Two kf G a b) (hx:a[na]? = some x) (l:kf x < kf y):∀ z∈a.toList.take (na + 1),kf z < kf y:=fun z hz=>by
 obtain⟨k,h1,h2⟩:=mem_tak hz
 by_cases q:k = na
 ·subst q; rw [hx] at h2; cases h2; exact l
 ·exact Int.lt_trans (T.sa.arr (by omega) h2 hx) l
theorem HI.ltB (T:Two kf G a b) (hy:b[nb]? = some y) (l:kf y < kf x):∀ z∈b.toList.take (nb + 1),kf z < kf x:=fun z hz=>by
 obtain⟨k,h1,h2⟩:=mem_tak hz
 by_cases q:k = nb
 ·subst q; rw [hy] at h2; cases h2; exact l
 ·exact Int.lt_trans (T.sb.arr (by omega) h2 hy) l
theorem HI.galB {L:Nat} (T:Two kf G a b) (S:HI kf a b out na nb) (hna:0 < na) (hx:a[na - 1]? = some x) (hnb:0 < nb) (hL:L≤nb)
  (cut:∀ i,i < nb→∃ y,b[0 + i]? = some y∧G y∧kf y≠kf x∧(kf y < kf x ↔ i < L)) :
  HI kf a b (out ++ (b.extract L nb).reverse) na L∧(∀ z∈b.toList.take L,kf z < kf x)∧1≤L:=by
 have at_:∀ k y,k < nb→b[k]? = some y→kf y≠kf x∧(kf y < kf x ↔ k < L):=fun k y k1 k3=>by
  obtain⟨x',e,_,ne,z⟩:=cut k k1
  rw [Nat.zero_add,k3] at e
  cases e
  exact⟨ne,z⟩
 refine⟨S.extB (k:=L) hL fun z hz u hu=>?_,fun z hz=>?_,?_⟩
 ·obtain⟨k,k1,k2,k3⟩:=mem_ext hz
  obtain⟨ne,w⟩:=at_ k z k2 k3
  refine HI.ltA (na:=na - 1) T hx ((Int.lt_or_lt_of_ne ne).resolve_left fun q=>absurd (w.1 q) (Nat.not_lt.2 k1)) u ?_
  rw [Nat.sub_add_cancel hna]; exact hu
 ·obtain⟨k,k1,k3⟩:=mem_tak hz
  exact (at_ k z (Nat.lt_of_lt_of_le k1 hL) k3).2.2 k1
 ·obtain⟨y0,e⟩:=at_some (a:=b) (ia:=0) T.nb
  exact (at_ 0 y0 hnb e).2.1 (T.hd y0 e x (mem_at hx))
theorem HI.galA {K:Nat} (T:Two kf G a b) (S:HI kf a b out na nb) (hnb:0 < nb) (hy:b[nb - 1]? = some y) (hK:K≤na)
  (cut:∀ i,i < na→∃ x,a[0 + i]? = some x∧G x∧kf x≠kf y∧(kf x < kf y ↔ i < K)) :
  HI kf a b (out ++ (a.extract K na).reverse) K nb∧∀ z∈a.toList.take K,kf z < kf y:=by
 have at_:∀ k x,k < na→a[k]? = some x→kf x≠kf y∧(kf x < kf y ↔ k < K):=fun k x k1 k3=>by
  obtain⟨x',e,_,ne,z⟩:=cut k k1
  rw [Nat.zero_add,k3] at e
  cases e
  exact⟨ne,z⟩
 refine⟨S.extA (k:=K) hK fun z hz u hu=>?_,fun z hz=>?_⟩
 ·obtain⟨k,k1,k2,k3⟩:=mem_ext hz
  obtain⟨ne,w⟩:=at_ k z k2 k3
  refine HI.ltB (nb:=nb - 1) T hy ((Int.lt_or_lt_of_ne ne).resolve_left fun q=>absurd (w.1 q) (Nat.not_lt.2 k1)) u ?_
  rw [Nat.sub_add_cancel hnb]; exact hu
 ·obtain⟨k,k1,k3⟩:=mem_tak hz
  exact (at_ k z (Nat.lt_of_lt_of_le k1 hK) k3).2.2 k1
theorem HI.pushA' (h:HI kf a b out na nb) (hn:0 < na) (hx:a[na - 1]? = some x) (hl:∀ y∈b.toList.take nb,kf y < kf x):HI kf a b (out.push x) (na - 1) nb :=
 HI.pushA (by rw [Nat.sub_add_cancel hn]; exact h) hx hl
theorem HI.pushB' (h:HI kf a b out na nb) (hn:0 < nb) (hx:b[nb - 1]? = some x) (hl:∀ y∈a.toList.take na,kf y < kf x):HI kf a b (out.push x) na (nb - 1) :=
 HI.pushB (by rw [Nat.sub_add_cancel hn]; exact h) hx hl
end
section
variable {M:Model} {A:Around} {E:Value→Shared→Prop} {s:Shared} {kf:Keyed→Int} {G:Keyed→Prop} {κ:SortKind}
set_option hygiene false in
local macro_rules | `(tactic| walk_at "hiEnd") => `(tactic| (
 refine wpS_bind (elem_ok hx ?_)
 have S4:=S3.pushA' (by omega) hx hi2
 refine wpS_ite (fun e=>?_) fun e=>?_
 ·have e0:I - 1 = 0:=by simpa using e
  exact wpS_pure ⟨_,rfl,.inl ⟨_,rfl,S4.done (.inl e0)⟩⟩
 have e2:I - 1≠0:=by simpa using e
 refine wpS_ite (fun _=>?_) fun _=>?_
 ·exact wpS_pure ⟨_,rfl,.inr ⟨_,_,_,_,_,_,rfl,S4,by omega,by omega,by omega,by omega,by omega⟩⟩
 ·exact wpS_pure ⟨_,rfl,_,_,_,_,_,_,rfl,S4,by omega,by omega,by omega,by omega,by omega⟩))
set_option hygiene false in
local macro_rules | `(tactic| walk_at "hiTail") => `(tactic| (
 refine wpS_bind (elem_ok hy ?_)
 have S2:=S1.pushB' (by omega) hy hi
 refine wpS_ite (fun e=>?_) fun e=>?_
 ·have e0:nb - 1 = 1:=by simpa using e
  exact wpS_pure ⟨_,rfl,.inl ⟨_,rfl,S2.firstB e0 T.hd⟩⟩
 have e1:nb - 1≠1:=by simpa using e
 obtain⟨x,hx⟩:=at_some (a:=a) (ia:=I - 1) (by omega)
 refine wpS_bind (elem_ok hx ?_)
 obtain⟨L,hL,cutb⟩:=T.cutB (mem_at hx) (bs:=0) (n:=nb - 1) (by omega)
 refine wpS_bind (gallop_ok C (K:=L) hk (T.ga x (mem_at hx)) cutb (by omega) hL ?_)
 dsimp only
 obtain⟨S3,hi2,hL1⟩:=HI.galB T S2 (by omega) hx (by omega) hL cutb
 refine wpS_ite (fun _=>?_) fun eL=>?_
 ·refine wpS_ite (fun e=>?_) fun e=>?_
  ·have e0:L = 1:=by simpa using e
   exact wpS_pure ⟨_,rfl,.inl ⟨_,rfl,S3.firstB e0 T.hd⟩⟩
  have e3:L≠1:=by simpa using e
  rw [if_neg (by simp; omega)]
  walk_at "hiEnd"
 ·obtain rfl:L = nb - 1:=by omega
  clear S3
  have S3:=S2
  walk_at "hiEnd"))
theorem mergeHi_ok (C:Cmp M A E s kf G κ) {a b:Array Keyed} {st:SortSt} {Q:Array Keyed→SortSt→Prop} (hk:kindOf st = κ) (T:Two kf G a b) (h:∀ o g,ResA kf a b o→Q o (setGal st g)):wpS M A E s (mergeHi' a b) Q st:=by
 have ta:=T.na
 have tb:=T.nb
 obtain⟨x0,hx0⟩:=at_some (a:=a) (ia:=a.size - 1) (by omega)
 refine wpS_bind (wpS_lift (wpAny_rule ⟨rfl,?_⟩))
 refine wpS_bind (elem_ok hx0 ?_)
 have S:=HI.start T hx0
 by_cases h1:a.size - 1 = 0
 ·rw [if_pos (by simpa using h1)]
  exact wpS_pure (h _ (gallopOf st) (S.done (.inl h1)))
 by_cases h2:b.size = 1
 ·rw [if_neg (by simpa using h1),if_pos (by simpa using h2)]
  exact wpS_pure (h _ (gallopOf st) (S.firstB h2 T.hd))
 rw [if_neg (by simpa using h1),if_neg (by simpa using h2)]
 refine wpS_bind (wpS_get ?_)
 refine wpS_bind (wpS_mono (wpS_forRange (I:=fun i c st'=>∃ g,st' = setGal st g∧∃ out na nb mg,c = (none,na,nb,out,mg)∧HI kf a b out na nb∧0 < na∧1 < nb∧na < a.size∧nb≤b.size∧na + nb + i + 1≤a.size + b.size)
  (Q:=fun c st'=>∃ g,st' = setGal st g∧∃ o,c.1 = some o∧ResA kf a b o) ?_ ?_ ⟨gallopOf st,rfl,_,_,_,_,rfl,S,by omega,by omega,by omega,by omega,by omega⟩) ?_)
 ·rintro i c st' _ hi ⟨g,rfl,out,na,nb,mg,rfl,S,l1,l2,l3,l4,l5⟩
  dsimp only
  refine wpS_bind (wpS_mono (wpS_forRange (I:=fun j c st'=>st' = setGal st g∧∃ out na nb ac bc,c = (none,na,nb,out,ac,bc)∧HI kf a b out na nb∧0 < na∧1 < nb∧na < a.size∧nb≤b.size∧na + nb + i + 1 + j≤a.size + b.size)
   (Q:=fun c st'=>st' = setGal st g∧((∃ o,c.1 = some o∧ResA kf a b o)∨∃ out na nb ac bc,c = (none,na,nb,out,ac,bc)∧HI kf a b out na nb∧0 < na∧1 < nb∧na < a.size∧nb≤b.size∧na + nb + i + 2≤a.size + b.size)) ?_ ?_ ⟨rfl,out,na,nb,0,0,rfl,S,l1,l2,l3,l4,by omega⟩) ?_)
  ·rintro j c st' _ hj ⟨rfl,out,na,nb,ac,bc,rfl,S,l1,l2,l3,l4,l5⟩
   dsimp only
   obtain⟨x,hx⟩:=at_some (a:=a) (ia:=na - 1) (by omega)
   obtain⟨y,hy⟩:=at_some (a:=b) (ia:=nb - 1) (by omega)
   refine wpS_bind (elem_ok hy ?_)
   refine wpS_bind (elem_ok hx ?_)
   refine wpS_bind (C y x _ _ (T.gb y (mem_at hy)) (T.ga x (mem_at hx)) (Ne.symm (T.ne x (mem_at hx) y (mem_at hy))) hk ?_)
   have hn:=T.ne x (mem_at hx) y (mem_at hy)
   by_cases q:kf y < kf x
   ·rw [decide_eq_true q]
    dsimp only
    rw [if_pos rfl]
    refine wpS_bind (elem_ok hx ?_)
    have S':=HI.pushA (na:=na - 1) (by rw [show na - 1 + 1 = na by omega]; exact S) hx fun z hz=>HI.ltB (nb:=nb - 1) T hy q z (by rw [show nb - 1 + 1 = nb by omega]; exact hz)
    refine wpS_ite (fun e=>?_) fun e=>?_
    ·have e0:na - 1 = 0:=by simpa using e
     exact wpS_pure ⟨rfl,.inl ⟨_,rfl,S'.done (.inl e0)⟩⟩
    have e0:na - 1≠0:=by simpa using e
    refine wpS_ite (fun e=>?_) fun e=>?_
    ·exact wpS_pure ⟨rfl,.inr ⟨_,_,_,_,_,rfl,S',by omega,by omega,by omega,by omega,by omega⟩⟩
    ·exact wpS_pure ⟨rfl,_,_,_,_,_,rfl,S',by omega,by omega,by omega,by omega,by omega⟩
   ·rw [decide_eq_false q]
    dsimp only
    rw [if_neg (by simp)]
    refine wpS_bind (elem_ok hy ?_)
    have S':=HI.pushB (nb:=nb - 1) (by rw [show nb - 1 + 1 = nb by omega]; exact S) hy fun z hz=>HI.ltA (na:=na - 1) T hx (by omega) z (by rw [show na - 1 + 1 = na by omega]; exact hz)
    refine wpS_ite (fun e=>?_) fun e=>?_
    ·have e0:nb - 1 = 1:=by simpa using e
     exact wpS_pure ⟨rfl,.inl ⟨_,rfl,S'.firstB e0 T.hd⟩⟩
    have e0:nb - 1≠1:=by simpa using e
    refine wpS_ite (fun e=>?_) fun e=>?_
    ·exact wpS_pure ⟨rfl,.inr ⟨_,_,_,_,_,rfl,S',by omega,by omega,by omega,by omega,by omega⟩⟩
    ·exact wpS_pure ⟨rfl,_,_,_,_,_,rfl,S',by omega,by omega,by omega,by omega,by omega⟩
  ·rintro c st' ⟨rfl,out,na,nb,ac,bc,rfl,S,l1,l2,l3,l4,l5⟩
   exact⟨rfl,.inr ⟨_,_,_,_,_,rfl,S,l1,l2,l3,l4,by omega⟩⟩
  ·rintro c st' ⟨rfl,⟨o,e,ho⟩ | ⟨out,na,nb,ac,bc,rfl,S,l1,l2,l3,l4,l5⟩⟩
   ·obtain⟨c1,c2⟩:=c
    dsimp only at e ⊢
    subst e
    exact wpS_pure ⟨g,rfl,o,rfl,ho⟩
   dsimp only
   refine wpS_bind (wpS_lift (wpAny_rule ⟨rfl,?_⟩))
   refine wpS_bind (wpS_mono (wpS_forRange (I:=fun j c st'=>∃ g,st' = setGal st g∧∃ out na nb mg ac bc,c = (none,na,nb,out,mg,ac,bc)∧HI kf a b out na nb∧0 < na∧1 < nb∧na < a.size∧nb≤b.size∧na + nb + i + 2≤a.size + b.size)
    (Q:=fun c st'=>∃ g,st' = setGal st g∧((∃ o,c.1 = some o∧ResA kf a b o)∨∃ out na nb mg ac bc,c = (none,na,nb,out,mg,ac,bc)∧HI kf a b out na nb∧0 < na∧1 < nb∧na < a.size∧nb≤b.size∧na + nb + i + 2≤a.size + b.size)) ?_ ?_ ⟨g,rfl,out,na,nb,_,_,_,rfl,S,l1,l2,l3,l4,by omega⟩) ?_)
   ·rintro j c st' _ hj ⟨g,rfl,out,na,nb,mg,ac,bc,rfl,S,l1,l2,l3,l4,l5⟩
    dsimp only
    revert mg
    refine wpS_pick (fun _=>rfl) (fun mg=>?_)
    refine wpS_bind (wpS_modify ?_)
    obtain⟨y,hy⟩:=at_some (a:=b) (ia:=nb - 1) (by omega)
    refine wpS_bind (elem_ok hy ?_)
    obtain⟨K,hK,cut⟩:=T.cutA (mem_at hy) (bs:=0) (n:=na) (by omega)
    refine wpS_bind (gallop_ok C (K:=K) hk (T.gb y (mem_at hy)) cut (by omega) hK ?_)
    dsimp only
    obtain⟨S1,hi⟩:=HI.galA T S (by omega) hy hK cut
    refine wpS_ite (fun _=>?_) fun eK=>?_
    ·refine wpS_ite (fun e=>?_) fun e=>?_
     ·have e0:K = 0:=by simpa using e
      exact wpS_pure ⟨_,rfl,.inl ⟨_,rfl,S1.done (.inl e0)⟩⟩
     have e4:K≠0:=by simpa using e
     generalize hI:K = I at *
     walk_at "hiTail"
    ·obtain rfl:K = na:=by omega
     clear S1
     have S1:=S
     generalize K = I at *
     walk_at "hiTail"
   ·rintro c st' ⟨g,rfl,out,na,nb,mg,ac,bc,rfl,S,l1,l2,l3,l4,l5⟩
    exact⟨g,rfl,.inr ⟨_,_,_,_,_,_,rfl,S,l1,l2,l3,l4,by omega⟩⟩
   ·rintro c st' ⟨g,rfl,⟨o,e,ho⟩ | ⟨out,na,nb,mg,ac,bc,rfl,S,l1,l2,l3,l4,l5⟩⟩
    ·obtain⟨c1,c2⟩:=c
     dsimp only at e ⊢
     subst e
     exact wpS_pure ⟨g,rfl,o,rfl,ho⟩
    dsimp only
    exact wpS_bind (wpS_modify (wpS_pure ⟨_,rfl,_,_,_,_,rfl,S,l1,l2,l3,l4,by omega⟩))
 ·rintro c st' ⟨g,rfl,out,ia,ib,mg,rfl,S,l1,l2,l3,l4,l5⟩
  omega
 ·rintro ⟨c1,c2⟩ st' ⟨g,rfl,o,rfl,ho⟩
  exact wpS_pure (h o g ho)
end
section
variable {M:Model} {A:Around} {E:Value→Shared→Prop} {s:Shared} {kf:Keyed→Int} {G:Keyed→Prop} {κ:SortKind}
structure Gd (kf:Keyed→Int) (G:Keyed→Prop) (xs:Array Keyed):Prop where
 g:∀ x∈xs.toList,G x
 nd:(xs.toList.map kf).Nodup
theorem Gd.perm {xs ys:Array Keyed} (h:Gd kf G xs) (p:ys.Perm xs):Gd kf G ys:=by
 have p:=Array.perm_iff_toList_perm.1 p
 exact⟨fun x hx=>h.g x (p.mem_iff.1 hx),(p.map kf).nodup_iff.2 h.nd⟩
theorem Gd.ne {xs:Array Keyed} (h:Gd kf G xs) {i j:Nat} {x y:Keyed} (hij:i≠j) (hx:xs[i]? = some x) (hy:xs[j]? = some y):kf x≠kf y:=fun e=>by
 rw [← Array.getElem?_toList] at hx hy
 have h1:(xs.toList.map kf)[i]? = some (kf x):=by rw [List.getElem?_map,hx]; rfl
 have h2:(xs.toList.map kf)[j]? = some (kf x):=by rw [List.getElem?_map,hy,e]; rfl
 obtain⟨a1,a2⟩:=List.getElem?_eq_some_iff.1 h1
 obtain⟨b1,b2⟩:=List.getElem?_eq_some_iff.1 h2
 exact hij ((List.getElem_inj h.nd).1 (a2.trans b2.symm))
theorem Gd.at {xs:Array Keyed} (h:Gd kf G xs) {i:Nat} {x:Keyed} (hx:xs[i]? = some x):G x:=h.g x (mem_at hx)
def Seg (kf:Keyed→Int) (xs:Array Keyed) (lo hi:Nat):Prop:=∀ i j x y,lo≤i→i < j→j < hi→xs[i]? = some x→xs[j]? = some y→kf x < kf y
def Des (kf:Keyed→Int) (xs:Array Keyed) (lo hi:Nat):Prop:=∀ i j x y,lo≤i→i < j→j < hi→xs[i]? = some x→xs[j]? = some y→kf y < kf x
theorem Seg.one {xs:Array Keyed} {lo:Nat}:Seg kf xs lo (lo + 1):=fun i j x y h1 h2 h3=>by omega
theorem Seg.more {xs:Array Keyed} {lo n:Nat} {x y:Keyed} (h:Seg kf xs lo n) (hn:lo < n) (hx:xs[n - 1]? = some x) (hy:xs[n]? = some y) (l:kf x < kf y):Seg kf xs lo (n + 1):=fun i j u v h1 h2 h3 hu hv=>by
 by_cases hj:j < n
 ·exact h i j u v h1 h2 hj hu hv
 ·obtain rfl:j = n:=by omega
  rw [hy] at hv
  cases hv
  by_cases hi:i = j - 1
  ·subst hi; rw [hx] at hu; cases hu; exact l
  ·exact Int.lt_trans (h i (j - 1) u x h1 (by omega) (by omega) hu hx) l
theorem Des.more {xs:Array Keyed} {lo n:Nat} {x y:Keyed} (h:Des kf xs lo n) (hn:lo < n) (hx:xs[n - 1]? = some x) (hy:xs[n]? = some y) (l:kf y < kf x):Des kf xs lo (n + 1):=fun i j u v h1 h2 h3 hu hv=>by
 by_cases hj:j < n
 ·exact h i j u v h1 h2 hj hu hv
 ·obtain rfl:j = n:=by omega
  rw [hy] at hv
  cases hv
  by_cases hi:i = j - 1
  ·subst hi; rw [hx] at hu; cases hu; exact l
  ·exact Int.lt_trans l (h i (j - 1) u x h1 (by omega) (by omega) hu hx)
theorem Seg.congr {xs ys:Array Keyed} {lo hi:Nat} (h:Seg kf xs lo hi) (e:∀ k,lo≤k→k < hi→ys[k]? = xs[k]?):Seg kf ys lo hi:=fun i j x y h1 h2 h3 hx hy =>
 h i j x y h1 h2 h3 (by rw [← e i h1 (by omega)]; exact hx) (by rw [← e j (by omega) h3]; exact hy)
theorem ltAt_ok (C:Cmp M A E s kf G κ) {st:SortSt} {i j:Nat} {x y:Keyed} {Q:Option Bool→SortSt→Prop} (hk:kindOf st = κ) (hg:Gd kf G (arrOf st)) (hx:(arrOf st)[i]? = some x) (hy:(arrOf st)[j]? = some y) (ne:i≠j)
  (h:Q (some (decide (kf x < kf y))) st):wpS M A E s (ltAt' i j) Q st:=by
 rw [ltAt'_eq]
 refine wpS_bind (wpS_get ?_)
 refine wpS_bind (elem_ok hx (wpS_bind (elem_ok hy ?_)))
 exact C x y st Q (hg.at hx) (hg.at hy) (hg.ne ne hx hy) hk h
theorem countRun_ok (C:Cmp M A E s kf G κ) {st:SortSt} {lo nrem:Nat} {Q:Option Nat→SortSt→Prop} (hk:kindOf st = κ) (hg:Gd kf G (arrOf st)) (hn:1≤nrem) (hz:lo + nrem≤(arrOf st).size)
  (h:∀ xs n,1≤n→n≤nrem→xs.Perm (arrOf st)→(∀ k,k < lo→xs[k]? = (arrOf st)[k]?)→Seg kf xs lo (lo + n)→Q (some n) (setArr st xs)):wpS M A E s (countRun' lo nrem) Q st:=by
 refine wpS_bind (wpS_mono (wpS_forRange (I:=fun i c st'=>st' = st∧c = (none,i)∧Seg kf (arrOf st) lo (lo + i))
  (Q:=fun c st'=>st' = st∧∃ n,c = (none,n)∧1≤n∧n≤nrem∧Seg kf (arrOf st) lo (lo + n)∧(n < nrem→∀ x y,(arrOf st)[lo + n - 1]? = some x→(arrOf st)[lo + n]? = some y→kf y < kf x)) ?_ ?_ ⟨rfl,rfl,Seg.one⟩) ?_)
 ·rintro i c st' h1 h2 ⟨rfl,rfl,S⟩
  dsimp only
  obtain⟨x,hx⟩:=at_some (a:=arrOf st') (ia:=lo + i - 1) (by omega)
  obtain⟨y,hy⟩:=at_some (a:=arrOf st') (ia:=lo + i) (by omega)
  refine wpS_bind (ltAt_ok C hk hg hy hx (by omega) ?_)
  have ne:=hg.ne (by omega) hx hy
  by_cases q:kf y < kf x
  ·rw [decide_eq_true q]
   dsimp only
   rw [if_pos rfl]
   refine wpS_pure ⟨rfl,i,rfl,h1,by omega,S,fun _ x' y' hx' hy'=>?_⟩
   rw [hx] at hx'; rw [hy] at hy'; cases hx'; cases hy'
   exact q
  ·rw [decide_eq_false q]
   dsimp only
   rw [if_neg (by simp)]
   exact wpS_pure ⟨rfl,rfl,S.more (by omega) hx hy (by omega)⟩
 ·rintro c st' ⟨rfl,rfl,S⟩
  rw [show max 1 nrem = nrem by omega] at S ⊢
  exact⟨rfl,_,rfl,hn,Nat.le_refl _,S,fun z=>by omega⟩
 ·rintro c st' ⟨rfl,n,rfl,n1,n2,S,D⟩
  dsimp only
  refine wpS_ite (fun e=>wpS_pure (h (arrOf st') n n1 n2 (Array.Perm.refl _) (fun _ _=>rfl) S)) fun e=>?_
  have hlt:n < nrem:=by
   have:n≠nrem:=by simpa using e
   omega
  refine wpS_ite (fun e=>?_) fun e=>?_
  ·obtain⟨x,hx⟩:=at_some (a:=arrOf st') (ia:=lo) (by omega)
   obtain⟨y,hy⟩:=at_some (a:=arrOf st') (ia:=lo + n - 1) (by omega)
   refine wpS_bind (ltAt_ok C hk hg hx hy (by omega) ?_)
   rw [decide_eq_true (S lo (lo + n - 1) x y (Nat.le_refl _) (by omega) (by omega) hx hy)]
   dsimp only
   rw [if_pos rfl]
   exact wpS_pure (h (arrOf st') n n1 n2 (Array.Perm.refl _) (fun _ _=>rfl) S)
  obtain rfl:n = 1:=by omega
  have D:=D hlt
  refine wpS_bind (wpS_lift (wpAny_rule ⟨rfl,?_⟩))
  refine wpS_bind (wpS_mono (wpS_forRange (I:=fun i c st''=>st'' = st'∧c = (none,i,0)∧Des kf (arrOf st') lo (lo + i))
   (Q:=fun c st''=>st'' = st'∧∃ n,c = (none,n,0)∧2≤n∧n≤nrem∧Des kf (arrOf st') lo (lo + n)) ?_ ?_ ⟨rfl,rfl,fun i j x y h1 h2 h3 hx hy=>?_⟩) ?_)
  ·rintro i c st'' h1 h2 ⟨rfl,rfl,S⟩
   dsimp only
   obtain⟨x,hx⟩:=at_some (a:=arrOf st'') (ia:=lo + i - 1) (by omega)
   obtain⟨y,hy⟩:=at_some (a:=arrOf st'') (ia:=lo + i) (by omega)
   refine wpS_bind (ltAt_ok C hk hg hy hx (by omega) ?_)
   have ne:=hg.ne (by omega) hx hy
   by_cases q:kf y < kf x
   ·rw [decide_eq_true q]
    dsimp only
    rw [if_pos rfl,if_neg (by omega)]
    exact wpS_pure ⟨rfl,rfl,S.more (by omega) hx hy q⟩
   ·rw [decide_eq_false q]
    dsimp only
    rw [if_neg (by simp)]
    refine wpS_bind (ltAt_ok C hk hg hx hy (by omega) ?_)
    rw [decide_eq_true (show kf x < kf y by omega)]
    dsimp only
    rw [if_pos rfl]
    exact wpS_pure ⟨rfl,i,rfl,by omega,by omega,S⟩
  ·rintro c st'' ⟨rfl,rfl,S⟩
   rw [show max (1 + 1) nrem = nrem by omega] at S ⊢
   exact⟨rfl,_,rfl,by omega,Nat.le_refl _,S⟩
  ·obtain rfl:i = lo:=by omega
   obtain rfl:j = i + 1:=by omega
   exact D x y hx hy
  ·rintro c st'' ⟨rfl,n,rfl,m1,m2,DS⟩
   dsimp only
   rw [if_neg (by omega)]
   refine wpS_bind (wpS_modify ?_)
   show wpS M A E s _ Q (setArr st'' (mirror (arrOf st'') lo (lo + n) ((lo + n - lo) / 2)))
   have mp:=mirror_perm (arrOf st'') lo (lo + n) ((lo + n - lo) / 2)
   have me:=getElem?_mirror_all (xs:=arrOf st'') (i:=lo) (j:=lo + n) (by omega)
   generalize mirror (arrOf st'') lo (lo + n) ((lo + n - lo) / 2) = xs at mp me
   have gx:=hg.perm mp
   have sz:=mp.size_eq
   have keep:∀ k,k < lo→xs[k]? = (arrOf st'')[k]?:=fun k hk=>by rw [me,if_neg (by omega)]
   have up:Seg kf xs lo (lo + n):=fun i j x y h1 h2 h3 hx hy=>by
    rw [me,if_pos (by omega)] at hx hy
    exact DS _ _ _ _ (by omega) (by omega) (by omega) hy hx
   refine wpS_bind (wpS_mono (wpS_forRange (I:=fun i c st'=>st' = setArr st'' xs∧c = (none,i)∧Seg kf xs lo (lo + i))
    (Q:=fun c st'=>st' = setArr st'' xs∧∃ n,c = (none,n)∧1≤n∧n≤nrem∧Seg kf xs lo (lo + n)) ?_ ?_ ⟨rfl,rfl,up⟩) ?_)
   ·rintro i c st' h1 h2 ⟨rfl,rfl,S⟩
    dsimp only
    obtain⟨x,hx⟩:=at_some (a:=xs) (ia:=lo + i - 1) (by omega)
    obtain⟨y,hy⟩:=at_some (a:=xs) (ia:=lo + i) (by omega)
    refine wpS_bind (ltAt_ok C hk gx hy hx (by omega) ?_)
    have ne:=gx.ne (by omega) hx hy
    by_cases q:kf y < kf x
    ·rw [decide_eq_true q]
     dsimp only
     rw [if_pos rfl]
     exact wpS_pure ⟨rfl,i,rfl,by omega,by omega,S⟩
    ·rw [decide_eq_false q]
     dsimp only
     rw [if_neg (by simp)]
     exact wpS_pure ⟨rfl,rfl,S.more (by omega) hx hy (by omega)⟩
   ·rintro c st' ⟨rfl,rfl,S⟩
    rw [show max n nrem = nrem by omega] at S ⊢
    exact⟨rfl,_,rfl,hn,Nat.le_refl _,S⟩
   ·rintro c st' ⟨rfl,n,rfl,n1,n2,S⟩
    exact wpS_pure (h xs n n1 n2 mp keep S)
theorem binarySort_ok (C:Cmp M A E s kf G κ) {st:SortSt} {lo n ok:Nat} {Q:Bool→SortSt→Prop} (hk:kindOf st = κ) (hg:Gd kf G (arrOf st)) (hok:1≤ok) (hon:ok≤n) (hz:lo + n≤(arrOf st).size) (hs:Seg kf (arrOf st) lo (lo + ok))
  (h:∀ xs,xs.Perm (arrOf st)→(∀ k,k < lo→xs[k]? = (arrOf st)[k]?)→Seg kf xs lo (lo + n)→Q true (setArr st xs)):wpS M A E s (binarySort' lo n ok) Q st:=by
 refine wpS_bind (wpS_mono (wpS_forRange (I:=fun k c st'=>∃ xs,st' = setArr st xs∧c = (none,())∧xs.Perm (arrOf st)∧(∀ k,k < lo→xs[k]? = (arrOf st)[k]?)∧Seg kf xs lo (lo + k))
  (Q:=fun c st'=>∃ xs,st' = setArr st xs∧c = (none,())∧xs.Perm (arrOf st)∧(∀ k,k < lo→xs[k]? = (arrOf st)[k]?)∧Seg kf xs lo (lo + n)) ?_ ?_ ⟨arrOf st,rfl,rfl,Array.Perm.refl _,fun _ _=>rfl,by rw [show max ok 1 = ok by omega]; exact hs⟩) ?_)
 ·rintro k c st' h1 h2 ⟨xs,rfl,rfl,pm,keep,S⟩
  have gx:=hg.perm pm
  have sz:=pm.size_eq
  obtain⟨y,hy⟩:=at_some (a:=xs) (ia:=lo + k) (by omega)
  refine wpS_bind (wpS_mono (wpS_forRange (I:=fun i c st'=>st' = setArr st xs∧∃ l r,c = (none,l,r)∧l≤r∧r≤k∧r - l≤k - i∧(∀ i x,i < l→xs[lo + i]? = some x→kf x < kf y)∧(∀ i x,r≤i→i < k→xs[lo + i]? = some x→kf y < kf x))
   (Q:=fun c st'=>st' = setArr st xs∧∃ l r,c = (none,l,r)∧l≤k∧(∀ i x,i < l→xs[lo + i]? = some x→kf x < kf y)∧(∀ i x,l≤i→i < k→xs[lo + i]? = some x→kf y < kf x)) ?_ ?_ ⟨rfl,0,k,rfl,by omega,by omega,by omega,fun i x hi=>by omega,fun i x h1 h2=>by omega⟩) ?_)
  ·rintro i c st' g1 g2 ⟨rfl,l,r,rfl,a1,a2,a3,a4,a5⟩
   dsimp only
   refine wpS_ite (fun e=>?_) fun e=>?_
   ·obtain rfl:l = r:=by omega
    exact wpS_pure ⟨rfl,l,l,rfl,a2,a4,a5⟩
   obtain⟨x,hx⟩:=at_some (a:=xs) (ia:=lo + (l + r) / 2) (by omega)
   refine wpS_bind (ltAt_ok C hk gx hy hx (by omega) ?_)
   have ne:=gx.ne (by omega) hx hy
   by_cases q:kf y < kf x
   ·rw [decide_eq_true q]
    dsimp only
    rw [if_pos rfl]
    refine wpS_pure ⟨rfl,l,(l + r) / 2,rfl,by omega,by omega,by omega,a4,fun i z z1 z2 hz=>?_⟩
    by_cases w:i = (l + r) / 2
    ·subst w; rw [hx] at hz; cases hz; exact q
    ·exact Int.lt_trans q (S _ _ x z (by omega) (show lo + (l + r) / 2 < lo + i by omega) (by omega) hx hz)
   ·rw [decide_eq_false q]
    dsimp only
    rw [if_neg (by simp)]
    refine wpS_pure ⟨rfl,(l + r) / 2 + 1,r,rfl,by omega,by omega,by omega,fun i z z1 hz=>?_,a5⟩
    by_cases w:i = (l + r) / 2
    ·subst w; rw [hx] at hz; cases hz; omega
    ·have:=S _ _ z x (by omega) (show lo + i < lo + (l + r) / 2 by omega) (by omega) hz hx
     omega
  ·rintro c st' ⟨rfl,l,r,rfl,a1,a2,a3,a4,a5⟩
   obtain rfl:l = r:=by omega
   exact⟨rfl,l,l,rfl,a2,a4,a5⟩
  ·rintro c st' ⟨rfl,l,r,rfl,a2,a4,a5⟩
   dsimp only
   refine wpS_bind (wpS_modify ?_)
   show wpS M A E s _ _ (setArr st (bubble xs (lo + k) (lo + k - (lo + l))))
   have bp:=bubble_perm xs (lo + k) (lo + k - (lo + l))
   have be:=getElem?_bubble (xs:=xs) (src:=lo + k) (by omega) (lo + k - (lo + l)) (by omega)
   generalize bubble xs (lo + k) (lo + k - (lo + l)) = ys at bp be
   rw [show lo + k - (lo + k - (lo + l)) = lo + l by omega] at be
   refine wpS_pure ⟨ys,rfl,rfl,bp.trans pm,fun k' hk'=>?_,fun i j u v i1 i2 i3 hu hv=>?_⟩
   ·rw [be,if_neg (by omega),if_neg (by omega)]; exact keep k' hk'
   ·rw [be] at hu hv
    have lw:∀ i x,lo≤i→i < lo + l→xs[i]? = some x→kf x < kf y:=fun i x z1 z2 hx=>a4 (i - lo) x (by omega) (by rw [show lo + (i - lo) = i by omega]; exact hx)
    have hw:∀ i x,lo + l≤i→i < lo + k→xs[i]? = some x→kf y < kf x:=fun i x z1 z2 hx=>a5 (i - lo) x (by omega) (by omega) (by rw [show lo + (i - lo) = i by omega]; exact hx)
    split at hu <;> split at hv
    ·omega
    ·rw [hy] at hu; cases hu
     split at hv
     ·exact hw _ _ (by omega) (by omega) hv
     ·omega
    ·rw [hy] at hv; cases hv
     split at hu
     ·omega
     ·exact lw _ _ (by omega) (by omega) hu
    ·split at hu <;> split at hv
     all_goals first
      | (exfalso; omega)
      | exact S _ _ _ _ (by omega) (by omega) (by omega) hu hv
 ·rintro c st' ⟨xs,rfl,rfl,pm,keep,S⟩
  rw [show max (max ok 1) n = n by omega] at S
  exact⟨xs,rfl,rfl,pm,keep,S⟩
 ·rintro c st' ⟨xs,rfl,rfl,pm,keep,S⟩
  exact wpS_pure (h xs pm keep S)
end
section
variable {M:Model} {A:Around} {E:Value→Shared→Prop} {s:Shared} {kf:Keyed→Int} {G:Keyed→Prop} {κ:SortKind}
theorem fold_set (b:Nat):∀ (l:List Keyed) (n:Nat) (xs:Array Keyed) (k:Nat),b + n + l.length≤xs.size →
  ((l.zipIdx n).foldl (fun a p=>a.setIfInBounds (b + p.2) p.1) xs)[k]? = if b + n≤k∧k < b + n + l.length then l[k - (b + n)]? else xs[k]?
 | [],n,xs,k,h=>by rw [if_neg (by simp)]; rfl
 | x :: l,n,xs,k,h=>by
  rw [List.length_cons] at h
  rw [List.zipIdx_cons,List.foldl_cons,fold_set b l (n + 1) _ k (by rw [Array.size_setIfInBounds]; omega)]
  rw [List.length_cons]
  by_cases h1:b + (n + 1)≤k∧k < b + (n + 1) + l.length
  ·rw [if_pos h1,if_pos (by omega),show k - (b + n) = k - (b + (n + 1)) + 1 by omega,List.getElem?_cons_succ]
  ·rw [if_neg h1]
   by_cases h2:k = b + n
   ·subst h2
    rw [if_pos (by omega),Array.getElem?_setIfInBounds_self_of_lt (by omega),Nat.sub_self,List.getElem?_cons_zero]
   ·rw [if_neg (by omega),Array.getElem?_setIfInBounds_ne (by omega)]
theorem fold_set_list {b:Nat} {l:List Keyed} {xs:Array Keyed} (h:b + l.length≤xs.size):((l.zipIdx 0).foldl (fun a p=>a.setIfInBounds (b + p.2) p.1) xs).toList = xs.toList.take b ++ (l ++ xs.toList.drop (b + l.length)):=by
 have hx:xs.toList.length = xs.size:=Array.length_toList
 apply List.ext_getElem?
 intro k
 rw [Array.getElem?_toList,fold_set b l 0 xs k (by omega),List.getElem?_append,List.length_take,hx,Nat.min_eq_left (by omega),List.getElem?_append,List.getElem?_take,List.getElem?_drop]
 by_cases h1:k < b
 ·rw [if_neg (by omega),if_pos h1,if_pos h1,Array.getElem?_toList]
 ·rw [if_neg h1]
  by_cases h2:k < b + l.length
  ·rw [if_pos (by omega),if_pos (by omega)]; rfl
  ·rw [if_neg (by omega),if_neg (by omega),Array.getElem?_toList]
   congr 1
   omega
theorem wpS_set {σ:Type} {st st':σ} {Q:PUnit→σ→Prop} (h:Q ⟨⟩ st'):wpS M A E s (set st':StateT σ Sem PUnit) Q st:=by
 unfold wpS; rw [StateT.run_set]; exact wpAny_pure ⟨rfl,h⟩
theorem ext_at {X:Array Keyed} {i j k:Nat} (hj:j≤X.size) (hk:i + k < j):(X.extract i j)[k]? = X[i + k]?:=by
 rw [Array.getElem?_extract,if_pos (by omega)]
theorem ext_sz {X:Array Keyed} {i j:Nat} (hj:j≤X.size):(X.extract i j).size = j - i:=by rw [Array.size_extract]; omega
theorem Seg.ext {X:Array Keyed} {i j:Nat} (h:Seg kf X i j) (hj:j≤X.size):Ord kf (X.extract i j).toList:=Ord.ofArr fun u v x y huv hx hy=>by
 have h1:=(Array.getElem?_eq_some_iff.1 hx).1
 have h2:=(Array.getElem?_eq_some_iff.1 hy).1
 rw [ext_sz hj] at h1 h2
 rw [ext_at hj (by omega)] at hx hy
 exact h _ _ x y (by omega) (show i + u < i + v by omega) (by omega) hx hy
theorem Seg.sub {X:Array Keyed} {i j i' j':Nat} (h:Seg kf X i j) (h1:i≤i') (h2:j'≤j):Seg kf X i' j':=fun u v x y a b c=>h u v x y (by omega) b (by omega)
theorem Seg.merge {X o:Array Keyed} {sa sb nb K L:Nat} (s1:Seg kf X sa sb) (s2:Seg kf X sb (sb + nb)) (hK:sa + K < sb) (hL:L≤nb) (hL1:1≤L) (hz:sb + nb≤X.size)
  (ca:∀ i x y,sa≤i→i < sa + K→X[i]? = some x→X[sb]? = some y→kf x < kf y) (cb:∀ j x y,sb + L≤j→j < sb + nb→X[sb - 1]? = some x→X[j]? = some y→kf x < kf y)
  (R:ResA kf (X.extract (sa + K) sb) (X.extract sb (sb + L)) o):((o.toList.zipIdx 0).foldl (fun a p=>a.setIfInBounds (sa + K + p.2) p.1) X).Perm X ∧
  (∀ k,k < sa∨sb + nb≤k→((o.toList.zipIdx 0).foldl (fun a p=>a.setIfInBounds (sa + K + p.2) p.1) X)[k]? = X[k]?)∧Seg kf ((o.toList.zipIdx 0).foldl (fun a p=>a.setIfInBounds (sa + K + p.2) p.1) X) sa (sb + nb):=by
 have hl:o.toList.length = sb - (sa + K) + L:=by
  have:=R.2.length_eq
  rw [List.length_append,Array.length_toList (xs:=X.extract _ _),Array.length_toList (xs:=X.extract _ _),ext_sz (by omega),ext_sz (by omega)] at this
  omega
 have hlt:=fold_set_list (b:=sa + K) (l:=o.toList) (xs:=X) (by omega)
 have hat:=fun k=>fold_set (sa + K) o.toList 0 X k (by omega)
 rw [hl] at hlt hat
 generalize (o.toList.zipIdx 0).foldl (fun a p=>a.setIfInBounds (sa + K + p.2) p.1) X = Y at hlt hat
 refine⟨?_,fun k hk=>?_,?_⟩
 ·rw [Array.perm_iff_toList_perm,hlt]
  have e1:=ext_drop (a:=X) (ia:=sa + K) (k:=sb - (sa + K))
  have e2:=ext_drop (a:=X) (ia:=sb) (k:=L)
  rw [show sa + K + (sb - (sa + K)) = sb by omega] at e1
  conv=>rhs; rw [← List.take_append_drop (sa + K) X.toList,← e1,← e2,← List.append_assoc (as:=(X.extract (sa + K) sb).toList)]
  rw [show sa + K + (sb - (sa + K) + L) = sb + L by omega]
  exact List.Perm.append_left _ (List.Perm.append_right _ R.2)
 ·rw [hat,if_neg (by omega)]
 ·have mo:∀ k x,k < sb - (sa + K) + L→o.toList[k]? = some x→(∃ i,sa + K≤i∧i < sb∧X[i]? = some x)∨(∃ i,sb≤i∧i < sb + L∧X[i]? = some x):=fun k x _ hx=>by
   have:=R.2.mem_iff.1 (List.mem_of_getElem? hx)
   rcases List.mem_append.1 this with q | q
   ·exact .inl (mem_ext q)
   ·exact .inr (mem_ext q)
  obtain⟨y0,hy0⟩:=at_some (a:=X) (ia:=sb) (by omega)
  obtain⟨xl,hxl⟩:=at_some (a:=X) (ia:=sb - 1) (by omega)
  have lo1:∀ i x,sb≤i→i < sb + nb→X[i]? = some x→kf y0≤kf x:=fun i x a b hx=>by
   by_cases q:i = sb
   ·subst q; rw [hy0] at hx; cases hx; exact Int.le_refl _
   ·exact Int.le_of_lt (s2 sb i y0 x (Nat.le_refl _) (by omega) b hy0 hx)
  have hi1:∀ i x,sa≤i→i < sb→X[i]? = some x→kf x≤kf xl:=fun i x a b hx=>by
   by_cases q:i = sb - 1
   ·subst q; rw [hxl] at hx; cases hx; exact Int.le_refl _
   ·exact Int.le_of_lt (s1 i (sb - 1) x xl a (by omega) (by omega) hx hxl)
  intro i j x y a b c hx hy
  rw [hat] at hx hy
  split at hx <;> split at hy
  ·rw [Nat.add_zero] at hx hy
   exact R.1.arr (a:=o) (i:=i - (sa + K)) (j:=j - (sa + K)) (by omega) (by rw [← Array.getElem?_toList]; exact hx) (by rw [← Array.getElem?_toList]; exact hy)
  ·rcases mo _ x (by omega) hx with ⟨u,u1,u2,u3⟩ | ⟨u,u1,u2,u3⟩
   ·exact Int.lt_of_le_of_lt (hi1 u x (by omega) u2 u3) (cb j xl y (by omega) c hxl hy)
   ·exact s2 u j x y u1 (by omega) c u3 hy
  ·rcases mo _ y (by omega) hy with ⟨u,u1,u2,u3⟩ | ⟨u,u1,u2,u3⟩
   ·exact s1 i u x y a (by omega) u2 hx u3
   ·exact Int.lt_of_lt_of_le (ca i x y0 a (by omega) hx hy0) (lo1 u y u1 (by omega) u3)
  ·by_cases q1:i < sa + K
   ·by_cases q2:j < sa + K
    ·exact s1 i j x y a b (by omega) hx hy
    ·exact Int.lt_of_lt_of_le (ca i x y0 a q1 hx hy0) (lo1 j y (by omega) c hy)
   ·exact s2 i j x y (by omega) b c hx hy
theorem mergeAt_ok (C:Cmp M A E s kf G κ) {st:SortSt} {i sa na p sb nb p':Nat} {Q:Bool→SortSt→Prop} (hk:kindOf st = κ) (hf:failedOf st = none) (hg:Gd kf G (arrOf st)) (h1:(pendingOf st)[i]? = some (sa,na,p)) (h2:(pendingOf st)[i + 1]? = some (sb,nb,p'))
  (hb:sb = sa + na) (n1:1≤na) (n2:1≤nb) (hz:sb + nb≤(arrOf st).size) (s1:Seg kf (arrOf st) sa sb) (s2:Seg kf (arrOf st) sb (sb + nb))
  (h:∀ xs g,xs.Perm (arrOf st)→(∀ k,k < sa∨sb + nb≤k→xs[k]? = (arrOf st)[k]?)→Seg kf xs sa (sb + nb)→Q true (SortSt.mk' κ xs (((pendingOf st).setIfInBounds i (sa,na + nb,p)).eraseIdxIfInBounds (i + 1)) g none)):wpS M A E s (mergeAt' i) Q st:=by
 refine wpS_bind (wpS_get ?_)
 rw [h1,h2]
 dsimp only
 refine wpS_bind (wpS_set ?_)
 obtain⟨y0,hy0⟩:=at_some (a:=arrOf st) (ia:=sb) (by omega)
 refine wpS_bind (elem_ok hy0 ?_)
 obtain⟨K,hK,cut⟩:=cut_arr (G:=G) (kf:=kf) (arr:=arrOf st) (bs:=sa) (n:=na) (kk:=kf y0) (by omega) (fun u v x y huv hv hx hy=>s1 _ _ x y (by omega) (show sa + u < sa + v by omega) (by omega) hx hy) fun u x hu hx=>⟨hg.at hx,hg.ne (by omega) hx hy0⟩
 refine wpS_bind (gallop_ok C (K:=K) hk (hg.at hy0) cut (by omega) hK ?_)
 dsimp only
 have ca:∀ i x y,sa≤i→i < sa + K→(arrOf st)[i]? = some x→(arrOf st)[sb]? = some y→kf x < kf y:=fun i x y a b hx hy=>by
  rw [hy0] at hy; cases hy
  obtain⟨x',e,_,_,z⟩:=cut (i - sa) (by omega)
  rw [show sa + (i - sa) = i by omega,hx] at e
  cases e
  exact z.2 (by omega)
 have cA:∀ i x,sa + K≤i→i < sb→(arrOf st)[i]? = some x→kf y0 < kf x:=fun i x a b hx=>by
  obtain⟨x',e,_,ne,z⟩:=cut (i - sa) (by omega)
  rw [show sa + (i - sa) = i by omega,hx] at e
  cases e
  have:=z.1
  omega
 refine wpS_ite (fun e=>?_) fun e=>?_
 ·have e0:na - K = 0:=by simpa using e
  have:=h (arrOf st) (gallopOf st) (Array.Perm.refl _) (fun _ _=>rfl) fun i j x y a b c hx hy=>by
   have lo1:∀ i x,sb≤i→i < sb + nb→(arrOf st)[i]? = some x→kf y0≤kf x:=fun i x a b hx=>by
    by_cases q:i = sb
    ·subst q; rw [hy0] at hx; cases hx; exact Int.le_refl _
    ·exact Int.le_of_lt (s2 sb i y0 x (Nat.le_refl _) (by omega) b hy0 hx)
   by_cases q1:i < sb
   ·by_cases q2:j < sb
    ·exact s1 i j x y a b q2 hx hy
    ·exact Int.lt_of_lt_of_le (ca i x y0 a (by omega) hx hy0) (lo1 j y (by omega) c hy)
   ·exact s2 i j x y (by omega) b c hx hy
  rw [← hk,← hf] at this
  exact wpS_pure this
 have e0:na - K≠0:=by simpa using e
 obtain⟨xl,hxl⟩:=at_some (a:=arrOf st) (ia:=sa + K + (na - K) - 1) (by omega)
 refine wpS_bind (elem_ok hxl ?_)
 have ex:sa + K + (na - K) - 1 = sb - 1:=by omega
 rw [ex] at hxl
 obtain⟨L,hL,cut2⟩:=cut_arr (G:=G) (kf:=kf) (arr:=arrOf st) (bs:=sb) (n:=nb) (kk:=kf xl) (by omega) (fun u v x y huv hv hx hy=>s2 _ _ x y (by omega) (show sb + u < sb + v by omega) (by omega) hx hy) fun u x hu hx=>⟨hg.at hx,hg.ne (by omega) hx hxl⟩
 refine wpS_bind (gallop_ok C (K:=L) hk (hg.at hxl) cut2 (by omega) hL ?_)
 dsimp only
 have cb:∀ j x y,sb + L≤j→j < sb + nb→(arrOf st)[sb - 1]? = some x→(arrOf st)[j]? = some y→kf x < kf y:=fun j x y a b hx hy=>by
  rw [hxl] at hx; cases hx
  obtain⟨x',e,_,ne,z⟩:=cut2 (j - sb) (by omega)
  rw [show sb + (j - sb) = j by omega,hy] at e
  cases e
  have:=z.1
  omega
 have cB:∀ j y,sb≤j→j < sb + L→(arrOf st)[j]? = some y→kf y < kf xl:=fun j y a b hy=>by
  obtain⟨x',e,_,ne,z⟩:=cut2 (j - sb) (by omega)
  rw [show sb + (j - sb) = j by omega,hy] at e
  cases e
  exact z.2 (by omega)
 have hL1:1≤L:=by
  obtain⟨x',e,_,ne,z⟩:=cut2 0 (by omega)
  rw [Nat.add_zero,hy0] at e
  cases e
  have:=z.1 (cA (sb - 1) xl (by omega) (by omega) hxl)
  omega
 rw [if_neg (by simp; omega)]
 have T:Two kf G ((arrOf st).extract (sa + K) sb) ((arrOf st).extract sb (sb + L)):=by
  refine⟨fun x hx=>?_,fun x hx=>?_,fun x hx y hy=>?_,(s1.sub (by omega) (Nat.le_refl _)).ext (by omega),(s2.sub (Nat.le_refl _) (by omega)).ext (by omega),by rw [ext_sz (by omega)]; omega,by rw [ext_sz (by omega)]; omega,fun y hy x hx=>?_,fun x hx y hy=>?_⟩
  ·obtain⟨k,_,_,k3⟩:=mem_ext hx; exact hg.at k3
  ·obtain⟨k,_,_,k3⟩:=mem_ext hx; exact hg.at k3
  ·obtain⟨k,k1,k2,k3⟩:=mem_ext hx
   obtain⟨l,l1,l2,l3⟩:=mem_ext hy
   exact hg.ne (by omega) k3 l3
  ·rw [ext_at (by omega) (by omega),Nat.add_zero,hy0] at hy
   cases hy
   obtain⟨k,k1,k2,k3⟩:=mem_ext hx
   exact cA k x k1 k2 k3
  ·rw [ext_sz (by omega),ext_at (by omega) (by omega),show sa + K + (sb - (sa + K) - 1) = sb - 1 by omega,hxl] at hx
   cases hx
   obtain⟨k,k1,k2,k3⟩:=mem_ext hy
   exact cB k y k1 k2 k3
 refine wpS_ite (fun _=>?_) fun _=>?_
 ·refine wpS_bind (mergeLo_ok C hk T fun o g R=>?_)
  obtain⟨r1,r2,r3⟩:=Seg.merge s1 s2 (by omega) hL hL1 hz ca cb R
  refine wpS_bind (wpS_modify (wpS_bind (wpS_get (wpS_pure ?_))))
  have:=h _ g r1 r2 r3
  rw [← hk] at this
  show Q (Option.isNone (failedOf st)) (SortSt.mk' (kindOf st) _ _ g (failedOf st))
  rw [hf]
  exact this
 ·refine wpS_bind (mergeHi_ok C hk T fun o g R=>?_)
  obtain⟨r1,r2,r3⟩:=Seg.merge s1 s2 (by omega) hL hL1 hz ca cb R
  refine wpS_bind (wpS_modify (wpS_bind (wpS_get (wpS_pure ?_))))
  have:=h _ g r1 r2 r3
  rw [← hk] at this
  show Q (Option.isNone (failedOf st)) (SortSt.mk' (kindOf st) _ _ g (failedOf st))
  rw [hf]
  exact this
end
section
variable {M:Model} {A:Around} {E:Value→Shared→Prop} {s:Shared} {kf:Keyed→Int} {G:Keyed→Prop} {κ:SortKind}
def Chain (kf:Keyed→Int) (xs:Array Keyed):Nat→List (Nat × Nat × Nat)→Nat→Prop
 | a,[],e=>a = e
 | a,t :: r,e=>t.1 = a∧1≤t.2.1∧Seg kf xs a (a + t.2.1)∧Chain kf xs (a + t.2.1) r e
theorem Chain.le {xs:Array Keyed}:∀ {l:List (Nat × Nat × Nat)} {a e:Nat},Chain kf xs a l e→a + l.length≤e
 | [],a,e,h=>by cases h; exact Nat.le_refl _
 | t :: r,a,e,h=>by have:=Chain.le h.2.2.2; have:=h.2.1; rw [List.length_cons]; omega
theorem Chain.app {xs:Array Keyed}:∀ {l l':List (Nat × Nat × Nat)} {a e:Nat},Chain kf xs a (l ++ l') e ↔ ∃ m,Chain kf xs a l m∧Chain kf xs m l' e
 | [],l',a,e=>⟨fun h=>⟨a,rfl,h⟩,fun ⟨m,h1,h2⟩=>by cases h1; exact h2⟩
 | t :: r,l',a,e=>by
  constructor
  ·rintro ⟨h1,h2,h3,h4⟩
   obtain⟨m,m1,m2⟩:=Chain.app.1 h4
   exact⟨m,⟨h1,h2,h3,m1⟩,m2⟩
  ·rintro ⟨m,⟨h1,h2,h3,m1⟩,m2⟩
   exact⟨h1,h2,h3,Chain.app.2 ⟨m,m1,m2⟩⟩
theorem Chain.congr {xs ys:Array Keyed}:∀ {l:List (Nat × Nat × Nat)} {a e:Nat},Chain kf xs a l e→(∀ k,a≤k→k < e→ys[k]? = xs[k]?)→Chain kf ys a l e
 | [],a,e,h,_=>h
 | t :: r,a,e,⟨h1,h2,h3,h4⟩,q=>by
  have:=Chain.le h4
  exact⟨h1,h2,h3.congr fun k k1 k2=>q k k1 (by omega),Chain.congr h4 fun k k1 k2=>q k (by omega) k2⟩
theorem Chain.pow {xs:Array Keyed} {f:Nat × Nat × Nat→Nat × Nat × Nat} (hf:∀ t,(f t).1 = t.1∧(f t).2.1 = t.2.1):∀ {l:List (Nat × Nat × Nat)} {a e:Nat} (i:Nat),Chain kf xs a l e→Chain kf xs a (l.modify i f) e
 | [],a,e,i,h=>by cases i <;> exact h
 | t :: r,a,e,0,⟨h1,h2,h3,h4⟩=>by
  obtain⟨f1,f2⟩:=hf t
  show Chain kf xs a (f t :: r) e
  exact⟨f1.trans h1,by rw [f2]; exact h2,by rw [f2]; exact h3,by rw [f2]; exact h4⟩
 | t :: r,a,e,i + 1,⟨h1,h2,h3,h4⟩=>⟨h1,h2,h3,Chain.pow hf i h4⟩
theorem two_at {P:Array (Nat × Nat × Nat)} {i:Nat} (hi:i + 1 < P.size):∃ l t u r,P.toList = l ++ t :: u :: r∧l.length = i∧P[i]? = some t∧P[i + 1]? = some u:=by
 have h1:i < P.toList.length:=by rw [Array.length_toList]; omega
 have h2:i + 1 < P.toList.length:=by rw [Array.length_toList]; omega
 refine⟨P.toList.take i,P.toList[i],P.toList[i + 1],P.toList.drop (i + 2),?_,by rw [List.length_take]; omega,?_,?_⟩
 ·rw [← List.drop_eq_getElem_cons h2,← List.drop_eq_getElem_cons h1,List.take_append_drop]
 ·rw [← Array.getElem?_toList]; exact List.getElem?_eq_getElem h1
 ·rw [← Array.getElem?_toList]; exact List.getElem?_eq_getElem h2
theorem erase_at {P:Array (Nat × Nat × Nat)} {l r:List (Nat × Nat × Nat)} {t u v:Nat × Nat × Nat} {i:Nat} (h:P.toList = l ++ t :: u :: r) (hl:l.length = i):((P.setIfInBounds i v).eraseIdxIfInBounds (i + 1)).toList = l ++ v :: r:=by
 subst hl
 have hs:l.length + 1 < (P.setIfInBounds l.length v).size:=by
  rw [Array.size_setIfInBounds,← Array.length_toList,h]; simp
 rw [Array.eraseIdxIfInBounds,dif_pos hs,Array.toList_eraseIdx,Array.toList_setIfInBounds,h]
 simp [List.set_append,List.eraseIdx_append]
 omega
theorem mergeChain (C:Cmp M A E s kf G κ) {xs:Array Keyed} {P:Array (Nat × Nat × Nat)} {g i e:Nat} {Q:Bool→SortSt→Prop} (hg:Gd kf G xs) (hc:Chain kf xs 0 P.toList e) (he:e≤xs.size) (hi:i + 1 < P.size)
  (h:∀ ys P' g',ys.Perm xs→(∀ k,e≤k→ys[k]? = xs[k]?)→Chain kf ys 0 P'.toList e→P'.size + 1 = P.size→Q true (SortSt.mk' κ ys P' g' none)):wpS M A E s (mergeAt' i) Q (SortSt.mk' κ xs P g none):=by
 obtain⟨l,⟨sa,na,p⟩,⟨sb,nb,p'⟩,r,hP,hl,e1,e2⟩:=two_at hi
 rw [hP] at hc
 obtain⟨m,c1,c2⟩:=Chain.app.1 hc
 obtain⟨d1,d2,d3,d4,d5,d6,d7⟩:=c2
 dsimp only at d1 d2 d3 d4 d5 d6 d7
 subst d1
 have hle:=Chain.le c1
 have hle2:=Chain.le d7
 rw [← d4] at d6
 refine mergeAt_ok C (st:=SortSt.mk' κ xs P g none) rfl rfl hg e1 e2 d4 d2 d5 (by show sb + nb≤xs.size; omega) (by rw [d4]; exact d3) d6 fun ys g' pm keep sg=>?_
 refine h ys _ g' pm (fun k hk=>keep k (.inr (by omega))) ?_ ?_
 ·show Chain kf ys 0 ((P.setIfInBounds i (sa,na + nb,p)).eraseIdxIfInBounds (i + 1)).toList e
  rw [erase_at hP hl]
  refine Chain.app.2 ⟨sa,c1.congr fun k _ hk=>keep k (.inl hk),rfl,by show 1≤na + nb; omega,?_,?_⟩
  ·show Seg kf ys sa (sa + (na + nb))
   rw [show sa + (na + nb) = sb + nb by omega]
   exact sg
  ·show Chain kf ys (sa + (na + nb)) r e
   rw [show sa + (na + nb) = sb + nb by omega]
   rw [← d4] at d7
   exact d7.congr fun k hk _=>keep k (.inr hk)
 ·show ((P.setIfInBounds i (sa,na + nb,p)).eraseIdxIfInBounds (i + 1)).size + 1 = P.size
  have:=congrArg List.length (erase_at (v:=(sa,na + nb,p)) hP hl)
  rw [Array.length_toList] at this
  rw [this,← Array.length_toList,hP]
  simp
  omega
theorem pick_lt {c:Prop} [Decidable c] {n:Nat} (h:1 < n):(if c then n - 2 - 1 else n - 2) + 1 < n:=by split <;> omega
set_option hygiene false in
local macro_rules | `(tactic| walk_at "runTail") => `(tactic| (
 refine wpS_bind (wpS_get ?_)
 have push:∀ (us:Array Keyed) (P':Array (Nat × Nat × Nat)) (g':Nat),us.Perm xs→Chain kf us 0 P'.toList lo→Seg kf us lo (lo + nn)→∃ ys P g,SortSt.mk' κ us (P'.push (lo,nn,0)) g' none = SortSt.mk' κ ys P g none∧ys.Perm xs∧∃ lo',((none:Option Unit),lo + nn) = (none,lo')∧i + 1≤lo'∧lo'≤xs.size∧Chain kf ys 0 P.toList lo' :=
  fun us P' g' pm ch sg=>⟨us,_,g',rfl,pm,lo + nn,rfl,by omega,by omega,by rw [Array.toList_push]; exact Chain.app.2 ⟨lo,ch,rfl,nn1,sg,rfl⟩⟩
 obtain hb | ⟨⟨s1,n1',pw'⟩,hb⟩:P.back? = none∨∃ t,P.back? = some t:=by cases P.back? <;> simp
 ·have hb':(pendingOf (SortSt.mk' κ zs P g none)).back? = none:=hb
  rw [hb']
  exact wpS_bind (wpS_modify (wpS_pure (push zs P g pmz chz sgz)))
 ·have hb':(pendingOf (SortSt.mk' κ zs P g none)).back? = some (s1,n1',pw'):=hb
  rw [hb']
  dsimp only
  refine wpS_bind (wpS_mono (wpS_forRange (I:=fun _ c st'=>c = (none,())∧∃ us P' g',st' = SortSt.mk' κ us P' g' none∧us.Perm xs∧Chain kf us 0 P'.toList lo∧Seg kf us lo (lo + nn))
   (Q:=fun c st'=>c = (none,())∧∃ us P' g',st' = SortSt.mk' κ us P' g' none∧us.Perm xs∧Chain kf us 0 P'.toList lo∧Seg kf us lo (lo + nn)) ?_ (fun _ _ h=>h) ⟨rfl,zs,P,g,rfl,pmz,chz,sgz⟩) ?_)
  ·rintro j c st' _ _ ⟨rfl,us,P',g',rfl,pm',ch',sg'⟩
   refine wpS_bind (wpS_get ?_)
   by_cases hs:1 < P'.size
   ·have hs':(pendingOf (SortSt.mk' κ us P' g' none)).size > 1:=hs
    rw [if_pos hs']
    obtain⟨⟨q1,q2,q3⟩,hq⟩:∃ t,P'[P'.size - 2]? = some t:=⟨_,Array.getElem?_eq_getElem (by omega)⟩
    have hq':(pendingOf (SortSt.mk' κ us P' g' none))[(pendingOf (SortSt.mk' κ us P' g' none)).size - 2]? = some (q1,q2,q3):=hq
    rw [hq']
    dsimp only
    refine wpS_ite (fun _=>wpS_pure ⟨rfl,us,P',g',rfl,pm',ch',sg'⟩) fun _=>?_
    have szu:=pm'.size_eq
    refine wpS_bind (mergeChain C (hg.perm pm') ch' (by omega) (i:=P'.size - 2) (by omega) fun vs P'' g'' pv kv cv _=>?_)
    rw [if_neg (by simp)]
    exact wpS_pure ⟨rfl,vs,P'',g'',rfl,pv.trans pm',cv,sg'.congr fun k k1 _=>kv k k1⟩
   ·have hs':¬ (pendingOf (SortSt.mk' κ us P' g' none)).size > 1:=hs
    rw [if_neg hs']
    exact wpS_pure ⟨rfl,us,P',g',rfl,pm',ch',sg'⟩
  ·rintro c st' ⟨rfl,us,P',g',rfl,pm',ch',sg'⟩
   dsimp only
   refine wpS_bind (wpS_modify (wpS_bind (wpS_modify (wpS_pure (push us _ g' pm' ?_ sg')))))
   rw [Array.toList_modify]
   refine Chain.pow ?_ _ ch'
   exact fun t=>⟨rfl,rfl⟩))
theorem sortRuns_ok (C:Cmp M A E s kf G κ) {xs:Array Keyed} {g:Nat} {Q:Unit→SortSt→Prop} (hg:Gd kf G xs) (h:∀ ys P g',ys.Perm xs→Seg kf ys 0 ys.size→Q () (SortSt.mk' κ ys P g' none)) :
  wpS M A E s sortRuns' Q (SortSt.mk' κ xs #[] g none):=by
 refine wpS_bind (wpS_get ?_)
 refine wpS_bind (wpS_mono (wpS_forRange (I:=fun i c st'=>∃ ys P g,st' = SortSt.mk' κ ys P g none∧ys.Perm xs∧∃ lo,c = (none,lo)∧i≤lo∧lo≤xs.size∧Chain kf ys 0 P.toList lo)
  (Q:=fun c st'=>∃ ys P g,st' = SortSt.mk' κ ys P g none∧ys.Perm xs∧∃ lo,c = (none,lo)∧lo = xs.size∧Chain kf ys 0 P.toList lo) ?_ ?_ ⟨xs,#[],g,rfl,Array.Perm.refl _,0,rfl,by omega,by omega,rfl⟩) ?_)
 ·rintro i c st' _ hi ⟨ys,P,g,rfl,pm,lo,rfl,h1,h2,ch⟩
  have gy:=hg.perm pm
  have sz:=pm.size_eq
  dsimp only
  refine wpS_ite (fun e=>?_) fun e=>?_
  ·exact wpS_pure ⟨ys,P,g,rfl,pm,lo,rfl,by have:xs.size≤lo:=e;omega,ch⟩
  have e:lo < xs.size:=Nat.not_le.1 e
  refine wpS_bind (countRun_ok C (st:=SortSt.mk' κ ys P g none) rfl gy (by show 1≤xs.size - lo; omega) (by show lo + (xs.size - lo)≤ys.size; omega) fun zs n n1 n2 pm2 kp sg=>?_)
  dsimp only
  have pmz:zs.Perm xs:=Array.Perm.trans pm2 pm
  have chz:Chain kf zs 0 P.toList lo:=ch.congr fun k _ hk=>kp k hk
  have gz:=hg.perm pmz
  have szz:=pmz.size_eq
  refine wpS_ite (fun e'=>?_) fun e'=>?_
  ·refine wpS_bind (wpS_lift (wpAny_rule ⟨rfl,?_⟩))
   refine wpS_bind (binarySort_ok C (st:=SortSt.mk' κ zs P g none) rfl gz n1 (by omega) (by show lo + _≤zs.size; omega) sg fun zs pw kw sgz=>?_)
   rw [if_neg (by simp)]
   have pmz:zs.Perm xs:=Array.Perm.trans pw pmz
   have chz:Chain kf zs 0 P.toList lo:=chz.congr fun k _ hk=>kw k hk
   show wpS M A E s _ _ (SortSt.mk' κ zs P g none)
   have nn1:1≤min (xs.size - lo) (minRun' xs.size xs.size 0):=by
    have:n < minRun' xs.size xs.size 0:=e'
    omega
   obtain⟨nn,hnn⟩:∃ nn,nn = min (xs.size - lo) (minRun' xs.size xs.size 0):=⟨_,rfl⟩
   have hnn2:lo + nn≤xs.size:=by omega
   rw [← hnn] at nn1
   have sgz:Seg kf zs lo (lo + nn):=by rw [hnn]; exact sgz
   unfold minRun' at hnn
   rw [← hnn]
   walk_at "runTail"
  ·show wpS M A E s _ _ (SortSt.mk' κ zs P g none)
   obtain⟨nn,hnn⟩:∃ nn,nn = n:=⟨_,rfl⟩
   subst hnn
   have nn1:=n1
   have sgz:=sg
   walk_at "runTail"
 ·rintro c st' ⟨ys,P,g,rfl,pm,lo,rfl,h1,h2,ch⟩
  refine⟨ys,P,g,rfl,pm,lo,rfl,?_,ch⟩
  have:max 0 xs.size≤lo:=h1
  omega
 ·rintro c st' ⟨ys,P,g,rfl,pm,lo,rfl,rfl,ch⟩
  dsimp only
  have hP:P.size≤xs.size:=by have:=Chain.le ch; rw [Array.length_toList] at this; omega
  refine wpS_bind (wpS_mono (wpS_forRange (I:=fun j c st'=>c = (none,())∧∃ us P' g',st' = SortSt.mk' κ us P' g' none∧us.Perm xs∧Chain kf us 0 P'.toList xs.size∧P'.size + j≤xs.size)
   (Q:=fun c st'=>c = (none,())∧∃ us P' g',st' = SortSt.mk' κ us P' g' none∧us.Perm xs∧Chain kf us 0 P'.toList xs.size∧P'.size≤1) ?_ ?_ ⟨rfl,ys,P,g,rfl,pm,ch,by omega⟩) ?_)
  ·rintro j c st' _ hj ⟨rfl,us,P',g',rfl,pm',ch',hs⟩
   refine wpS_bind (wpS_get ?_)
   refine wpS_ite (fun e=>wpS_pure ⟨rfl,us,P',g',rfl,pm',ch',e⟩) fun e=>?_
   have e:1 < P'.size:=Nat.not_le.1 e
   have szu:=pm'.size_eq
   refine wpS_bind (mergeChain C (hg.perm pm') ch' (by omega) ?_ fun vs P'' g'' pv kv cv hs'=>?_)
   ·exact pick_lt e
   rw [if_neg (by simp)]
   exact wpS_pure ⟨rfl,vs,P'',g'',rfl,pv.trans pm',cv,by omega⟩
  ·rintro c st' ⟨rfl,us,P',g',rfl,pm',ch',hs⟩
   refine⟨rfl,us,P',g',rfl,pm',ch',?_⟩
   have:P'.size + max 0 xs.size≤xs.size:=hs
   omega
  ·rintro c st' ⟨rfl,us,P',g',rfl,pm',ch',hs⟩
   refine wpS_pure (h us P' g' pm' ?_)
   have szu:=pm'.size_eq
   rw [szu]
   rw [← Array.length_toList] at hs
   revert ch' hs
   cases P'.toList with
   | nil =>
    intro ch' _
    have:0 = xs.size:=ch'
    exact fun i j x y _ _ _=>by omega
   | cons t r =>
    intro ch' hs
    cases r with
    | nil =>
     obtain⟨_,_,c3,c4⟩:=ch'
     have c4:0 + t.2.1 = xs.size:=c4
     rw [← c4]
     exact c3
    | cons u r=>simp at hs
end
end L2
end
section
set_option Elab.async false
set_option linter.all false
set_option maxRecDepth 100000
set_option maxHeartbeats 4000000
namespace L2
open PySem PySem.Spec PyProof.Rows PySem.W
theorem perm_places {α:Type} (d:α):∀ {l' l:List α},l'.Perm l→∃ p:List Nat,p.Perm (List.range l.length)∧l' = p.map fun i=>l.getD i d:=fun h=>by
 induction h with
 | nil=>exact⟨[],List.Perm.refl _,rfl⟩
 | @cons x l1 l2 _ ih =>
  obtain⟨p,p1,p2⟩:=ih
  refine⟨0 :: p.map Nat.succ,?_,?_⟩
  ·rw [List.length_cons,List.range_succ_eq_map]
   exact (p1.map _).cons _
  ·rw [p2,List.map_cons,List.map_map]
   rfl
 | swap x y l =>
  refine⟨1 :: 0 :: (List.range l.length).map (· + 2),?_,?_⟩
  ·rw [List.length_cons,List.length_cons,List.range_succ_eq_map,List.range_succ_eq_map,List.map_cons,List.map_map]
   exact List.Perm.swap _ _ _
  ·rw [List.map_cons,List.map_cons,List.map_map]
   show y :: x :: l = y :: x :: (List.range l.length).map (fun i=>l.getD i d)
   congr 2
   apply List.ext_getElem?
   intro i
   by_cases hi:i < l.length
   ·simp [hi]
   ·simp [Nat.le_of_not_lt hi]
 | @trans l1 l2 l3 _ _ ih1 ih2 =>
  obtain⟨p1,a1,b1⟩:=ih1
  obtain⟨p2,a2,b2⟩:=ih2
  have hl:l2.length = p2.length:=by rw [b2,List.length_map]
  refine⟨p1.map fun i=>p2.getD i 0,?_,?_⟩
  ·refine (a1.map _).trans ?_
   have:(List.range l2.length).map (fun i=>p2.getD i 0) = p2:=by
    apply List.ext_getElem?
    intro i
    by_cases hi:i < p2.length
    ·simp [hi,hl]
    ·simp [Nat.le_of_not_lt hi,hl]
   rw [this]
   exact a2
  ·rw [b1,List.map_map]
   refine List.map_congr_left fun i hi=>?_
   have hi:i < p2.length:=by rw [← hl]; exact List.mem_range.1 (a1.mem_iff.1 hi)
   show l2.getD i d = l3.getD (p2.getD i 0) d
   rw [b2]
   simp [hi]
section
variable {prog:Program} {w:World} {A:Around} {E:Value→Shared→Prop} {s:Shared}
theorem gsort {a:Addr} {vs:List Value} {n:Nat} {ky:Nat→Int} {κ:SortKind} {kf:Heap→Keyed→Int} {G:Heap→Keyed→Prop} {P:PySem.Fin→Shared→Prop} (ho:s.heap.get? a = some (seqObj "list" vs.toArray n)) (h64:vs.length < 65536)
  (hkind:∀ h6:Heap,(∀ b o,b≠a→s.heap.get? b = some o→h6.get? b = some o)→2≤vs.length→∀ Q:SortKind→Shared→Prop,Q κ { s with heap:=h6 }→wpAny (model prog w) A (keyKind' vs.toArray) Q E { s with heap:=h6 })
  (hcmp:∀ h6:Heap,(∀ b o,b≠a→s.heap.get? b = some o→h6.get? b = some o)→Cmp (model prog w) A E { s with heap:=h6 } (kf h6) (G h6) κ)
  (hkey:∀ h6:Heap,(∀ b o,b≠a→s.heap.get? b = some o→h6.get? b = some o)→∀ i v,vs[i]? = some v→G h6 (v,v)∧kf h6 (v,v) = ky i)
  (hd:∀ i j,i < vs.length→j < vs.length→i≠j→ky i≠ky j)
  (h:∀ (p:List Nat) (h':Heap) (c:Nat),p.Perm (List.range vs.length)→(∀ i j,i < j→j < vs.length→ky (p.getD i 0) < ky (p.getD j 0))→(∀ b o,b≠a→s.heap.get? b = some o→h'.get? b = some o) →
   h'.get? a = some (seqObj "list" (p.map fun i=>vs.getD i Value.none).toArray c)→P (.done (.ret .none)) { s with heap:=h' }) :
  wpAny (model prog w) A (Builtin.«list.sort» ⟨[.ref a],[]⟩) P E s:=by
 have ha:a < s.heap.objs.size:=Heap.lt_size ho
 have s1:=Heap.SameBut.update s.heap a (Obj.mapSeq fun _=>(#[]:Array Value))
 obtain⟨e1,ho1⟩:∃ e1,(s.heap.update a (Obj.mapSeq fun _=>(#[]:Array Value))).get? a = some (seqObj "list" #[] e1):=⟨_,get?_update_seq ho fun _=>#[]⟩
 have ho6:(((s.heap.update a (Obj.mapSeq fun _=>(#[]:Array Value))).push (seqObj "tuple" vs.toArray 0)).push (seqObj "list" #[] 0)).get? a = some (seqObj "list" #[] e1):=Heap.get?_push_of_some _ (Heap.get?_push_of_some _ ho1)
 have keep:∀ b o,b≠a→s.heap.get? b = some o→(((s.heap.update a (Obj.mapSeq fun _=>(#[]:Array Value))).push (seqObj "tuple" vs.toArray 0)).push (seqObj "list" #[] 0)).get? b = some o:=fun b o hb e =>
  Heap.get?_push_of_some _ (Heap.get?_push_of_some _ ((s1.2 b hb).trans e))
 rw [list_sort_plain]
 refine wpAny_bind (listItems_at ho rfl ?_)
 refine wpAny_bind (listUpdate_at ho rfl ?_ (by rw [List.size_toArray,sizeLine_eq]; omega) (Nat.zero_le _))
 refine wpAny_bind (seqEpoch_at ho1 rfl ?_)
 refine wpAny_bind (wpAny_newTuple ?_ (by show vs.length≤_; rw [sizeLine_eq]; omega))
 refine wpAny_bind (wpAny_newList ?_ (Nat.zero_le _))
 refine wpAny_holding ?_
 show wpAny (model prog w) A _ P E { s with heap:=((s.heap.update a (Obj.mapSeq fun _=>(#[]:Array Value))).push (seqObj "tuple" vs.toArray 0)).push (seqObj "list" #[] 0) }
 generalize ((s.heap.update a (Obj.mapSeq fun _=>(#[]:Array Value))).push (seqObj "tuple" vs.toArray 0)).push (seqObj "list" #[] 0) = h6 at ho6 keep ⊢
 dsimp only
 by_cases h2:vs.toArray.size < 2
 ·rw [if_pos h2,if_pos h2]
  refine wpAny_bind (wpAny_pure ?_)
  rw [StateT.run_pure]
  refine wpAny_bind (wpAny_pure ?_)
  dsimp only
  refine wpAny_bind (seqEpoch_at ho6 rfl ?_)
  have eo:(vs.toArray.zip vs.toArray).map (·.2) = ((List.range vs.length).map fun i=>vs.getD i Value.none).toArray:=by
   apply Array.toList_inj.mp
   rw [Array.toList_map,Array.toList_zip]
   apply List.ext_getElem?
   intro i
   by_cases hi:i < vs.length
   ·simp [hi]
   ·simp [Nat.le_of_not_lt hi]
  refine wpAny_bind (listUpdate_at ho6 rfl ?_ (Nat.zero_le _) (by rw [Array.size_map]; show (vs.toArray.zip vs.toArray).size≤_; simp; rw [sizeLine_eq]; omega))
  simp only [bne_self_eq_false,Bool.false_eq_true,if_false]
  refine wpAny_pure ?_
  have s2:=Heap.SameBut.update h6 a (Obj.mapSeq fun _=>(vs.toArray.zip vs.toArray).map (·.2))
  obtain⟨c2,hc2⟩:∃ c2,(h6.update a (Obj.mapSeq fun _=>(vs.toArray.zip vs.toArray).map (·.2))).get? a = some (seqObj "list" ((vs.toArray.zip vs.toArray).map (·.2)) c2):=⟨_,get?_update_seq ho6 fun _=>(vs.toArray.zip vs.toArray).map (·.2)⟩
  refine h (List.range vs.length) _ c2 (List.Perm.refl _) (fun i j hij hj=>?_) (fun b o hb e=>(s2.2 b hb).trans (keep b o hb e)) (by rw [← eo]; exact hc2)
  rw [List.size_toArray] at h2
  omega
 ·rw [if_neg h2,if_neg h2]
  rw [List.size_toArray] at h2
  refine wpAny_bind (hkind h6 keep (by omega) _ ?_)
  have hz:(vs.toArray.zip vs.toArray).toList = vs.map fun v=>(v,v):=by
   rw [Array.toList_zip]
   apply List.ext_getElem?
   intro i
   by_cases hi:i < vs.length
   ·simp [hi]
   ·simp [Nat.le_of_not_lt hi]
  have key:=hkey h6 keep
  have gd:Gd (kf h6) (G h6) (vs.toArray.zip vs.toArray):=by
   constructor
   ·intro x hx
    rw [hz] at hx
    obtain⟨v,hv,rfl⟩:=List.mem_map.1 hx
    obtain⟨i,hi⟩:=List.getElem?_of_mem hv
    exact (key i v hi).1
   ·rw [hz,List.map_map]
    rw [List.Nodup,List.pairwise_iff_getElem]
    intro i j hi hj hij
    rw [List.length_map] at hi hj
    rw [List.getElem_map,List.getElem_map]
    show kf h6 (vs[i],vs[i])≠kf h6 (vs[j],vs[j])
    rw [(key i _ (List.getElem?_eq_getElem hi)).2,(key j _ (List.getElem?_eq_getElem hj)).2]
    exact hd i j hi hj (by omega)
  refine wpAny_bind (wpAny_mono (sortRuns_ok (s:={ s with heap:=h6 }) (hcmp h6 keep) (g:=7) (Q:=fun _ st'=>∃ ys P g,st' = SortSt.mk' (κ) ys P g none∧ys.Perm (vs.toArray.zip vs.toArray)∧Seg (kf h6) ys 0 ys.size) gd fun ys P g a1 a2=>⟨ys,P,g,rfl,a1,a2⟩) ?_ fun _ _ e=>e)
  rintro ⟨⟨⟩,st'⟩ s' ⟨rfl,ys,P',g,rfl,pm,sg⟩
  dsimp only
  have pm':=Array.perm_iff_toList_perm.1 pm
  rw [hz] at pm'
  obtain⟨p,hp,hm⟩:=perm_places ((Value.none,Value.none):Keyed) pm'
  rw [List.length_map] at hp
  have hpl:p.length = vs.length:=by have:=hp.length_eq; rw [List.length_range] at this; exact this
  have plt:∀ i,i < p.length→p.getD i 0 < vs.length:=fun i hi=>by
   rw [List.getD_eq_getElem?_getD,List.getElem?_eq_getElem hi]
   exact List.mem_range.1 (hp.mem_iff.1 (List.getElem_mem hi))
  have hm':ys.toList = p.map fun i=>(vs.getD i Value.none,vs.getD i Value.none):=by
   rw [hm]
   refine List.map_congr_left fun i hi=>?_
   have hi:i < vs.length:=List.mem_range.1 (hp.mem_iff.1 hi)
   simp [hi]
  have hout:(arrOf (SortSt.mk' (κ) ys P' g none)).map (·.2) = (p.map fun i=>vs.getD i Value.none).toArray:=by
   show ys.map (·.2) = _
   apply Array.toList_inj.mp
   rw [Array.toList_map,hm',List.map_map]
   rfl
  rw [hout]
  have hsz:(List.toArray (p.map fun i=>vs.getD i Value.none)).size = vs.length:=by rw [List.size_toArray,List.length_map,hpl]
  have s2:=Heap.SameBut.update h6 a (Obj.mapSeq fun _=>List.toArray (p.map fun i=>vs.getD i Value.none))
  obtain⟨c2,hc2⟩:∃ c2,(h6.update a (Obj.mapSeq fun _=>List.toArray (p.map fun i=>vs.getD i Value.none))).get? a = some (seqObj "list" (List.toArray (p.map fun i=>vs.getD i Value.none)) c2):=⟨_,get?_update_seq ho6 fun _=>List.toArray (p.map fun i=>vs.getD i Value.none)⟩
  refine wpAny_bind (seqEpoch_at ho6 rfl ?_)
  refine wpAny_bind (listUpdate_at ho6 rfl ?_ (Nat.zero_le _) (Nat.le_trans (Nat.le_of_eq hsz) (by rw [sizeLine_eq]; omega)))
  simp only [bne_self_eq_false,Bool.false_eq_true,if_false]
  refine wpAny_pure (h p _ c2 hp (fun i j hij hj=>?_) (fun b o hb e=>(s2.2 b hb).trans (keep b o hb e)) hc2)
  have yat:∀ i,i < vs.length→∃ x,ys[i]? = some x∧kf h6 x = ky (p.getD i 0):=fun i hi=>by
   have hi':i < p.length:=by omega
   refine⟨_,by rw [← Array.getElem?_toList,hm',List.getElem?_map,List.getElem?_eq_getElem hi']; rfl,?_⟩
   have:=plt i hi'
   rw [show p.getD i 0 = p[i] by rw [List.getD_eq_getElem?_getD,List.getElem?_eq_getElem hi']; rfl] at this ⊢
   dsimp only
   rw [show vs.getD p[i] Value.none = vs[p[i]] by rw [List.getD_eq_getElem?_getD,List.getElem?_eq_getElem this]; rfl]
   exact (key _ _ (List.getElem?_eq_getElem this)).2
  obtain⟨x,x1,x2⟩:=yat i (by omega)
  obtain⟨y,y1,y2⟩:=yat j hj
  rw [← x2,← y2]
  exact sg i j x y (Nat.zero_le _) hij (by have:=(Array.getElem?_eq_some_iff.1 y1).1; exact this) x1 y1
end
end L2
end
section
set_option Elab.async false
set_option linter.all false
set_option maxRecDepth 100000
set_option maxHeartbeats 4000000
namespace L2
open PySem PySem.Spec PyProof.Rows PySem.W
section
variable {X:Cx} {pins:List (Addr × Obj)} {σ:St} {H H':Hp} {s:Shared} {h':Heap}
theorem ObjOk.there {P:Program} {w:World} {H:Hp} {h:Heap} {a:Addr} {o:HO} (x:ObjOk P w H h a o):∃ u,h.get? a = some u:=by
 cases o with
 | lst xs=>obtain⟨_,_,_,_,e⟩:=x; exact⟨_,e⟩
 | tup xs=>obtain⟨_,_,_,o,e,_⟩:=x; exact⟨_,e⟩
 | dK kvs=>obtain⟨_,_,_,_,o,_,_,e,_⟩:=x; exact⟨_,e⟩
 | dT kvs=>obtain⟨_,_,_,_,o,_,_,e,_⟩:=x; exact⟨_,e⟩
 | set S n=>obtain⟨o,_,_,_,e,_⟩:=x; exact⟨_,e⟩
 | ins C dx fs=>obtain⟨_,_,_,e,_⟩:=x; exact⟨_,e⟩
 | own y=>exact x
 | xd fs=>obtain⟨_,⟨_,_,_,e,_⟩,_⟩:=x; exact⟨_,e⟩
 | rng lo hi=>obtain⟨_,_,_,e⟩:=x; exact⟨_,e⟩
 | frz ob u=>obtain⟨e,_⟩:=x; exact⟨_,e⟩
 | tbl ps=>exact⟨_,(show h.get? a = some _ from x)⟩
 | met f y=>exact⟨_,(show h.get? a = some _ from x)⟩
 | ext φ=>obtain⟨_,e,_⟩:=x; exact e
theorem Inv.noneAt {a:Addr} (I:Inv X pins σ H s) (n:s.heap.get? a = none):H a = none:=by
 cases q:H a with
 | none=>rfl
 | some o =>
  obtain⟨u,e⟩:=ObjOk.there (I.hok a o q)
  rw [n] at e; cases e
theorem Inv.more {t':Nat} (I:Inv X pins σ H s) (k:∀ b u,s.heap.get? b = some u→h'.get? b = some u) (S:Sub H H') (new:∀ a o,H' a = some o→H a = none→s.heap.get? a = none∧ObjOk X.prog X.w H' h' a o) :
  Inv X pins σ H' { s with heap:=h',toks:=t' }:=by
 refine I.un ⟨fun b o e _ _ _=>k b o e,fun b o e _ _ _=>⟨o.slots,k b o e⟩,fun b o e n _=>?_,fun b o e _=>⟨o,k b o e⟩,fun b xs e=>S _ _ e,fun b o u e=>S _ _ e,fun b ps e=>⟨#[],by rw [S _ _ e]; simp⟩⟩ fun a o e=>?_
 ·cases q:H' b with
  | none=>rfl
  | some u=>have:=(new b u q n).1; rw [e] at this; cases this
 ·cases q:H a with
  | none=>exact (new a o e q).2
  | some u =>
   have:=S a u q
   rw [e] at this
   cases this
   exact (I.hok a o q).stay (fun b u _ z=>k b u z) (fun b z=>S _ _ z) fun b xs z=>S _ _ z
end
theorem range_getD {α:Type} (l:List α) (d:α):(List.range l.length).map (fun i=>l.getD i d) = l:=by
 apply List.ext_getElem?
 intro i
 rw [List.getElem?_map]
 by_cases h:i < l.length
 ·rw [List.getElem?_range h]; simp [h]
 ·rw [List.getElem?_eq_none (by rw [List.length_range]; omega),List.getElem?_eq_none (by omega)]; rfl
theorem vals_ref:∀ bs:List Addr,Vals (bs.map V.ref) (bs.map Value.ref)
 | []=>.nil
 | _ :: bs=>.cons rfl (vals_ref bs)
section
variable {X:Cx}
end
end L2
end
section
set_option Elab.async false
set_option linter.all false
set_option maxRecDepth 100000
set_option maxHeartbeats 4000000
namespace L2
open PySem PySem.Spec PyProof.Rows PySem.W
section
variable {X:Cx} {pins:List (Addr × Obj)} {σ:St} {H:Hp} {s:Shared}
end
section
variable {X:Cx}
end
end L2
end
section
set_option Elab.async false
set_option linter.all false
set_option maxRecDepth 100000
set_option maxHeartbeats 4000000
namespace PySem
open Sem (wp)
section
variable {prog:Program} {w:World} {A:Around} {E:Value→Shared→Prop} {h:Heap} {g:Array GenState} {d:Drawn} {t:Nat} {os:OsState} {a:Addr} {o:Obj} {its:Array Value} {n:Nat}
end
end PySem
end
section
set_option Elab.async false
set_option linter.all false
set_option maxRecDepth 100000
set_option maxHeartbeats 4000000
namespace L2
open PySem PySem.Spec PyProof.Rows PySem.W
section
variable {prog:Program} {w:World} {K:Type} [DecidableEq K] {knd:PySem.KeyKind prog w K} {A:Around} {s:Shared} {R:Result→Shared→Prop}
end
section
variable {X:Cx}
end
end L2
end
section
set_option Elab.async false
set_option linter.all false
set_option maxRecDepth 100000
set_option maxHeartbeats 4000000
namespace PySem
open Sem (wp)
section
variable {prog:Program} {w:World} {A:Around} {E:Value→Shared→Prop} {h:Heap} {g:Array GenState} {d:Drawn} {t:Nat} {os:OsState} {a:Addr} {o:Obj} {its:Array Value} {n:Nat}
end
end PySem
namespace L2
open PySem PySem.Spec PyProof.Rows PySem.W
section
variable {prog:Program} {w:World} {K:Type} [DecidableEq K] {knd:PySem.KeyKind prog w K} {A:Around} {s:Shared} {R:Result→Shared→Prop}
end
section
variable {X:Cx}
end
end L2
end
section
set_option Elab.async false
set_option linter.all false
set_option maxRecDepth 100000
set_option maxHeartbeats 4000000
namespace PySem
theorem noFill_tuple_mul':fillsNumberSlot (.type "tuple") "mul" = pure false :=
 fillsNumberSlot_seq (id:="tuple.__mul__") (r:=some (.builtin "tuple.__rmul__")) F.slot_tuple_mul.lookup (by decide +kernel) F.slot_tuple_rmul.lookup (by decide +kernel)
theorem repeat_tuple':seqRepeat? (.type "tuple") = pure (some (.builtin "tuple.__mul__")):=by
 unfold seqRepeat?
 rw [seqSlot_of (T:="tuple") (name:="__mul__") (id:="tuple.__mul__") F.slot_tuple_mul.lookup (by decide +kernel),seqSlot_of (T:="tuple") (name:="__rmul__") (id:="tuple.__rmul__") F.slot_tuple_rmul.lookup (by decide +kernel)]
 rfl
theorem int_rmul_tuple (a:Int) (t:Tok) (l:Addr) (items:Array Value) (n:Nat) (dd:Option Addr) (sl:Array (Option Value)) :
  Meets (Builtin.«int.__rmul__» ⟨[.int a t,.ref l],[]⟩) (fun _ R s=>s.heap.get? l = some { cls:=.type "tuple",dict:=dd,data:=.seq items n,slots:=sl }∧R (.ok (.ret Value.notImplemented)) s) :=
 .of_wp fun prog w A R s h=>by obtain⟨hp,g,d,tk,os⟩:=s; obtain⟨hl,h⟩:=h; wp_walk; exact⟨_,rfl,h⟩
theorem tuple_mul1 (l:Addr) (items:Array Value) (n:Nat) (t:Tok) (dd:Option Addr) (sl:Array (Option Value)) :
  Meets (Builtin.«tuple.__mul__» ⟨[.ref l,.int 1 t],[]⟩) (fun _ R s=>s.heap.get? l = some { cls:=.type "tuple",dict:=dd,data:=.seq items n,slots:=sl }∧R (.ok (.ret (.ref l))) s) :=
 .of_wp fun prog w A R s h=>by obtain⟨hp,g,d,tk,os⟩:=s; obtain⟨hl,h⟩:=h; wp_walk; exact⟨_,rfl,h⟩
end PySem
namespace L2
open PySem PySem.Spec PyProof.Rows PySem.W HT
section
variable {prog:Program} {w:World} {A:Around} {E:Value→Shared→Prop} {s:Shared}
end
section
variable {X:Cx} {K:PySem.W.Frag}
end
theorem FnOk.noE {P:Program} {w:World} {K:PySem.W.Frag} {mg:Str→Option Value} {base:Heap} {k:Nat} {f:Addr} {fd:FuncData} {ps:List Str} {sp:Sp} (F:FnOk P w K mg base (CXE P w) k f fd ps sp) :
  FnOk P w K mg base CX0 k f fd ps (fun vs H Q _=>sp vs H Q fun _ _ _=>False) :=
 ⟨fun vs H Q _ h=>F.len vs H Q _ h,fun A outer s H args us vs Q E hr he hb hv hs=>codeAny_mono (F.run A outer s H args us vs Q (fun _ _ _=>False) hr he hb hv hs) fun r s' hq=>by
  cases r with
  | ok fl=>cases fl <;> exact hq
  | error e =>
   obtain⟨x,C,B,hr,a0,H',_,_,_,_,_,_,_,_,_,_,z⟩:=hq
   exact z.elim⟩
end L2
end
section
set_option Elab.async false
set_option linter.all false
set_option maxRecDepth 100000
set_option maxHeartbeats 4000000
namespace L2
open PySem PySem.Spec PyProof.Rows PySem.W
section
variable {H H':Hp} {l t:Addr} {ks:Mk2} {r p:Int}
end
def okAll (m:Ma) (s:Nat) (r:List En):Bool:=r.all (entryOk m.length s)
theorem isM_cons {r0:List En} {m':Ma} (h:isM (r0 :: m') = true):(r0 :: m').length≤4∧2≤r0.length∧r0.length≤4∧∀ r∈r0 :: m',r.length = r0.length∧okAll (r0 :: m') r0.length r = true:=by
 have hd:isM (r0 :: m') = (decide ((r0 :: m').length≤4) && decide (2≤r0.length) && decide (r0.length≤4) && (r0 :: m').all (rowOk (r0 :: m').length r0.length)):=rfl
 rw [hd,Bool.and_eq_true,Bool.and_eq_true,Bool.and_eq_true] at h
 obtain⟨⟨⟨h1,h2⟩,h3⟩,h4⟩:=h
 refine⟨of_decide_eq_true h1,of_decide_eq_true h2,of_decide_eq_true h3,fun r hr=>?_⟩
 have:=List.all_eq_true.1 h4 r hr
 unfold rowOk at this
 rw [Bool.and_eq_true] at this
 exact⟨by have:=of_decide_eq_true this.1; omega,this.2⟩
theorem isM_mk {r0:List En} {m':Ma} (h1:(r0 :: m').length≤4) (h2:2≤r0.length) (h3:r0.length≤4) (h4:∀ r∈r0 :: m',r.length = r0.length∧okAll (r0 :: m') r0.length r = true):isM (r0 :: m') = true:=by
 have hd:isM (r0 :: m') = (decide ((r0 :: m').length≤4) && decide (2≤r0.length) && decide (r0.length≤4) && (r0 :: m').all (rowOk (r0 :: m').length r0.length)):=rfl
 rw [hd,decide_eq_true h1,decide_eq_true h2,decide_eq_true h3]
 refine List.all_eq_true.2 fun r hr=>?_
 unfold rowOk
 rw [(h4 r hr).1]
 have:=(h4 r hr).2
 unfold okAll at this
 rw [this]
 simp
def sgn (m:Ma):Nat:=(m.headD []).length
structure OkM (m:Ma):Prop where
 n1:1≤m.length
 n4:m.length≤4
 s2:2≤sgn m
 s4:sgn m≤4
 len:∀ r∈m,r.length = sgn m
 ent:∀ r∈m,∀ e∈r,entryOk m.length (sgn m) e = true
theorem OkM.of {m:Ma} (h:isM m = true):OkM m:=by
 cases m with
 | nil=>cases h
 | cons r0 m' =>
  obtain⟨h1,h2,h3,h4⟩:=isM_cons h
  exact⟨by simp,h1,h2,h3,fun r hr=>(h4 r hr).1,fun r hr e he=>List.all_eq_true.1 (h4 r hr).2 e he⟩
theorem entryOk_three {rows signs:Int} {e:En} (h:entryOk rows signs e = true) (ne:e≠[]):∃ s w r,e = [s,w,r]∧0≤s∧s < signs∧(w = -1∨w = 1)∧0≤r∧r < rows:=by
 match e,h with
 | [],_=>exact (ne rfl).elim
 | [s,w,r],h =>
  have h:((decide (0≤s) && decide (s < signs)) && (decide (w = -1) || decide (w = 1)) && (decide (0≤r) && decide (r < rows))) = true:=h
  simp only [Bool.and_eq_true,Bool.or_eq_true,decide_eq_true_eq] at h
  obtain⟨⟨⟨a,b⟩,c⟩,d,e⟩:=h
  exact⟨s,w,r,rfl,a,b,c,d,e⟩
 | [_],h=>cases h
 | [_,_],h=>cases h
 | _ :: _ :: _ :: _ :: _,h=>cases h
theorem ite_yes {c:Prop} [Decidable c] {p q:Prop} (hc:c) (h:p):if decide c = true then p else q:=by rw [if_pos (decide_eq_true hc)]; exact h
theorem ite_not {c:Prop} [Decidable c] {p q:Prop} (hc:¬ c) (h:q):if decide c = true then p else q:=by rw [if_neg (by simpa using hc)]; exact h
end L2
end
section
set_option Elab.async false
set_option linter.all false
set_option maxRecDepth 100000
set_option maxHeartbeats 4000000
namespace L2
open PySem PySem.Spec PyProof.Rows PySem.W
section
variable {X:Cx} {pos:Pos}
end
end L2
end
section
set_option Elab.async false
set_option linter.all false
set_option maxRecDepth 100000
set_option maxHeartbeats 4000000
namespace L2
open PySem PySem.Spec PyProof.Rows PySem.W
section
variable {X:Cx}
end
end L2
end
section
set_option Elab.async false
set_option linter.all false
set_option maxRecDepth 100000
set_option maxHeartbeats 4000000
namespace L2
open PySem PySem.Spec PyProof.Rows PySem.W
section
variable {X:Cx} {K:PySem.W.Frag}
def cTupO (K:PySem.W.Frag):List V→Hp→VK→Prop:=fun xs H Q=>match xs with | [.ref a]=>∃ ys,SqL K H a ys∧∀ p,H p = none→Q (.ref p) (upd H p (.tup ys)) | _=>False
theorem q_tupO:CallR X (.type "tuple") (cTupO X.K):=call_tuple_of.imp fun xs H Q h=>by
 unfold cTupO at h
 split at h
 ·obtain⟨ys,h1,h2⟩:=h; exact⟨_,ys,rfl,.inl ⟨h1,h2⟩⟩
 ·exact h.elim
theorem q_tupOK (hK:X.K = K):CallR X (.type "tuple") (cTupO K):=hK ▸ q_tupO
end
end L2
end
section
set_option Elab.async false
set_option linter.all false
set_option maxRecDepth 100000
set_option maxHeartbeats 4000000
namespace L2
open PySem PySem.Spec PyProof.Rows PySem.W
section
variable {X:Cx}
def cRng2 (ta:TA):TI:=fun σ H R=>ta σ H fun vs H1=>match vs with | [.int i,.int j]=>(-(2 ^ 62)≤i∧i < 2 ^ 62∧-(2 ^ 62)≤j∧j < 2 ^ 62)∧R (Itr i (j - i).toNat) H1 | _=>False
theorem qi_range2 {tg a b:Expr} {ta:TA} {p pos:Pos} (hg:Gl X "range") (hm:X.mg "range" = none) (ha:PA X [a,b] ta) (hs:starEach [a,b] X.env = [(false,eval a X.env),(false,eval b X.env)]:=by rfl) (hs2:starEach [b] X.env = [(false,eval b X.env)]:=by rfl) :
  PI X tg (.Call (.Name "range" p) [a,b] [] pos) (cRng2 ta):=by
 intro pins s σ H R I h
 have step:∀ (vs:List V) (us:List Value) (H1:Hp) (s1:Shared),Inv X pins σ H1 s1→Vals vs us→(match vs with | [.int i,.int j]=>(-(2 ^ 62)≤i∧i < 2 ^ 62∧-(2 ^ 62)≤j∧j < 2 ^ 62)∧R (Itr i (j - i).toNat) H1 | _=>False)→∃ (i j:Int) (t t':Tok),us = [.int i t,.int j t']∧(-(2 ^ 62)≤i∧i < 2 ^ 62∧-(2 ^ 62)≤j∧j < 2 ^ 62)∧R (Itr i (j - i).toNat) H1:=by
  intro vs us H1 s1 I1 r1 q1
  split at q1
  ·cases r1 with
   | cons r rr=>cases rr with
    | cons r' rr =>
     cases rr
     obtain⟨t,rfl⟩:=r
     obtain⟨t',rfl⟩:=r'
     exact⟨_,_,t,t',rfl,q1⟩
  ·exact q1.elim
 refine Call_ (ld_blt I hg hm boot_range (PyProof.Rows.callWith_type1 (thn (ha pos pins s σ H _ I h) fun us s1 ⟨vs,H1,I1,r1,q1⟩=>?_) (by rw [hs,hs2]) (by rw [hs2]; rfl)))
 obtain⟨i,j,t,t',rfl,⟨q1,q2,q3,q4⟩,q⟩:=step vs us H1 s1 I1 r1 q1
 exact call_range_2 (range_it I1 q1 q2 q3 q4 q)
end
section
variable {X:Cx} {pins:List (Addr × Obj)} {σ:St} {H:Hp} {s:Shared}
open PySem.SeqAt
end
theorem eqDs_ints:∀ e e':List Int,eqDs (e.map DD.int) (e'.map DD.int) = decide (e = e')
 | [],[]=>rfl
 | [],_ :: _=>rfl
 | _ :: _,[]=>rfl
 | i :: e,j :: e'=>by
  show (i == j && eqDs (e.map DD.int) (e'.map DD.int)) = _
  rw [eqDs_ints e e']
  by_cases c:i = j
  ·subst c
   by_cases d:e = e' <;> simp [d]
  ·simp [c]
theorem eqD_ee {e e':En}:eqD (dE e) (dE e') = decide (e = e'):=eqDs_ints e e'
end L2
end
section
set_option Elab.async false
set_option linter.all false
set_option maxRecDepth 100000
set_option maxHeartbeats 4000000
namespace L2
open PySem PySem.Spec PyProof.Rows PySem.W
section
variable {X:Cx}
end
section
variable {X:Cx}
end
section
variable {X:Cx} {K:PySem.W.Frag} {o e:Expr} {es:List Expr} {to:TE} {t:TA} {name:Str} {apos cpos:Pos} {T id:String} {r:V→List V→Hp→VK→Prop}
end
section
variable {X:Cx} {e e1 e2 e3:Expr} {te t1 t2 t3:TE} {pos:Pos}
theorem kv_fst:∀ {ks:List (Key × V)} {vs:List (Key × Value)},KV ks vs→vs.map (·.1) = ks.map (·.1)
 | _,_,.nil=>rfl
 | _,_,.cons h t=>by rw [List.map_cons,List.map_cons,h.1,kv_fst t]
variable {K:PySem.W.Frag} {o i:Expr} {td ty:TE}
end
section
variable {X:Cx}
end
end L2
end
section
set_option Elab.async false
set_option linter.all false
set_option maxRecDepth 100000
set_option maxHeartbeats 4000000
namespace L2
open PySem PySem.Spec PyProof.Rows PySem.W
section
variable {X:Cx}
end
section
variable {X:Cx}
end
theorem vals_at:∀ {xs:List V} {us:List Value},xs.length = us.length→(∀ (i:Nat) (x:V) (u:Value),xs[i]? = some x→us[i]? = some u→RelV x u)→Vals xs us
 | [],[],_,_=>.nil
 | x :: xs,u :: us,h,f=>.cons (f 0 x u rfl rfl) (vals_at (by simpa using h) fun i y v hy hv=>f (i + 1) y v hy hv)
 | [],_ :: _,h,_=>by simp at h
 | _ :: _,[],h,_=>by simp at h
section
variable {X:Cx}
end
section
variable {X:Cx} {a b c d:Expr} {ta tb tc td:TE} {pos:Pos}
end
end L2
end
section
set_option Elab.async false
set_option linter.all false
set_option maxRecDepth 100000
set_option maxHeartbeats 4000000
namespace L2
open PySem PySem.Spec PyProof.Rows PySem.W
section
variable {X:Cx} {pins:List (Addr × Obj)} {σ:St} {H:Hp} {s:Shared}
open PySem.SeqAt
end
end L2
end
section
set_option Elab.async false
set_option linter.all false
set_option maxRecDepth 100000
set_option maxHeartbeats 4000000
namespace L2
open PySem PySem.Spec PyProof.Rows PySem.W
section
variable {X:Cx}
end
end L2
end
section
set_option Elab.async false
set_option linter.all false
set_option maxRecDepth 100000
set_option maxHeartbeats 4000000
namespace L2
open PySem PySem.Spec PyProof.Rows PySem.W
section
variable {X:Cx}
end
section
variable {X:Cx} {K:PySem.W.Frag} {e st:Expr} {te:TE} {ts:TO} {pos p2:Pos}
end
end L2
end
section
set_option Elab.async false
set_option linter.all false
set_option maxRecDepth 100000
set_option maxHeartbeats 4000000
namespace L2
open PySem PySem.Spec PyProof.Rows
def compEnvY (sc:Scope) (cl:List (Str × Addr)) (C:Addr) (env:Env) (y:Str):Env:={ compEnvC sc cl C env with cells:=(y,C + 1) :: cl }
def compCxC (X:Cx) (sc:Scope) (own:List Str) (fr:List Nat) (C:Addr) (s₀:Shared) (H₀:Hp) (ex:List Addr) (y:Str):Cx :=
 { compCx X sc own fr C s₀ H₀ ex with env:=compEnvY sc (closOf sc X.env) C X.env y,fn:=fun x=>decide (x = y) }
theorem fn_y {X:Cx} {sc:Scope} {own:List Str} {fr:List Nat} {C:Addr} {s₀:Shared} {H₀:Hp} {ex:List Addr} {y:Str}:(compCxC X sc own fr C s₀ H₀ ex y).fn y = true:=decide_eq_true rfl
structure CompScopeC (X:Cx) (sc:Scope) (fr:List Nat) (y:Str):Prop where
 kind:sc.kind = .function
 one:sc.names.filter (fun x=>x.2 == .cell) = [(y,.cell)]
 names:∀ y∈sc.names,y.2 = .local→sc.names.lookup y.1 = some .local
 yk:sc.names.lookup y = some .cell
 frees:FreesOk X (freeNames sc)
 fr:FrOk X sc fr
theorem newEnv_one {M:Model} {A:Around} {E:Value→Shared→Prop} {s:Shared} {sc:Scope} {globals:Addr} {cl:List (Str × Addr)} {qual:Str} {env:Env} {y:Str} {Q:Env→Shared→Prop}
  (h1:sc.names.filter (fun x=>x.2 == .cell) = [(y,.cell)])
  (h:Q { scope:=sc,locals:=s.heap.objs.size,globals:=globals,cells:=(y,s.heap.objs.size + 1) :: cl,qual:=qual,func:=none,code:=env.code,frame:=env.frame,builtins:=env.builtins }
   { s with heap:=(s.heap.push { cls:=.type "dict",data:=.dict #[] }).push { cls:=.type "cell",data:=.cell none } }) :
  wpAny M A (newFunctionEnv sc globals cl [] qual none .none (some env)) Q E s:=by
 have key0:∀ (l:List (Str × NameKind)) (cs:List (Str × Addr)),l.filter (fun x=>x.2 == .cell) = [] →
   (forIn l cs fun (x:Str × NameKind) (r:List (Str × Addr))=>(if (x.2 == NameKind.cell) = true then (do let a ← alloc { cls:=.type "cell",data:=.cell none }; pure (ForInStep.yield ((x.1,a) :: r))) else pure (ForInStep.yield r):Sem (ForInStep (List (Str × Addr)))))
    = pure cs:=by
  intro l
  induction l with
  | nil=>intro cs _; rfl
  | cons x r ih =>
   intro cs hx
   rw [List.filter_cons] at hx
   split at hx
   ·cases hx
   ·rename_i e1
    rw [List.forIn_cons,if_neg e1]
    show (forIn r cs _:Sem _) = _
    exact ih cs hx
 have key:∀ (l:List (Str × NameKind)) (cs:List (Str × Addr)),l.filter (fun x=>x.2 == .cell) = [(y,.cell)] →
   (forIn l cs fun (x:Str × NameKind) (r:List (Str × Addr))=>(if (x.2 == NameKind.cell) = true then (do let a ← alloc { cls:=.type "cell",data:=.cell none }; pure (ForInStep.yield ((x.1,a) :: r))) else pure (ForInStep.yield r):Sem (ForInStep (List (Str × Addr)))))
    = (do let a ← alloc { cls:=.type "cell",data:=.cell none }; pure ((y,a) :: cs)):=by
  intro l
  induction l with
  | nil=>intro cs hx; cases hx
  | cons x r ih =>
   intro cs hx
   rw [List.filter_cons] at hx
   split at hx
   ·rename_i e1
    injection hx with hx hr
    subst hx
    rw [List.forIn_cons,if_pos (show ((y,NameKind.cell).2 == NameKind.cell) = true from rfl)]
    show (do let a ← alloc { cls:=.type "cell",data:=.cell none }; forIn r ((y,a) :: cs) _:Sem _) = _
    congr 1
    funext a
    exact key0 r _ hr
   ·rename_i e1
    rw [List.forIn_cons,if_neg e1]
    show (forIn r cs _:Sem _) = _
    exact ih cs hx
 unfold newFunctionEnv
 refine wpAny_bind (wpAny_alloc ?_)
 have k2:=key sc.names cl h1
 refine wpAny_bind ?_
 have e:(forIn sc.names cl fun (x:Str × NameKind) (__s:List (Str × Addr))=>match x with | (name,kind)=>if (kind == NameKind.cell) = true then (do let __do_lift ← alloc { cls:=.type "cell",data:=.cell none }; pure (ForInStep.yield ((name,__do_lift) :: __s))) else pure (ForInStep.yield __s):Sem _) = (do let a ← alloc { cls:=.type "cell",data:=.cell none }; pure ((y,a) :: cl)):=by
  refine Eq.trans (congrArg (fun f=>(forIn sc.names cl f:Sem (List (Str × Addr)))) (funext fun x=>funext fun r=>?_)) k2
  obtain⟨n,k⟩:=x
  rfl
 refine (show ∀ {α:Type} {u v:Sem α} {Q':α→Shared→Prop} {s':Shared},u = v→wpAny M A v Q' E s'→wpAny M A u Q' E s' from fun h q=>h ▸ q) e (wpAny_bind (wpAny_alloc (wpAny_pure ?_)))
 have es:(s.heap.push { cls:=.type "dict",data:=.dict #[] }).objs.size = s.heap.objs.size + 1:=by simp [Heap.push]
 refine wpAny_bind (wpAny_pure (wpAny_pure ?_))
 show Q { scope:=sc,locals:=s.heap.objs.size,globals:=globals,cells:=(y,(s.heap.push { cls:=.type "dict",data:=.dict #[] }).objs.size) :: cl,qual:=qual,func:=none,code:=env.code,frame:=env.frame,builtins:=env.builtins } { s with heap:=(s.heap.push { cls:=.type "dict",data:=.dict #[] }).push { cls:=.type "cell",data:=.cell none } }
 rw [es]
 exact h
theorem relabel_back2 {env:Env} {x:Str}:∀ {names:List (Str × NameKind)},
  ((names.map fun (n,k)=>if (k == NameKind.free && env.scope.kind == .function && env.kindOf n == some .cell) then (n,NameKind.cell) else (n,k)).lookup x = some .cell ∨
  (names.map fun (n,k)=>if (k == NameKind.free && env.scope.kind == .function && env.kindOf n == some .cell) then (n,NameKind.cell) else (n,k)).lookup x = some .free)→(x,NameKind.free)∈names∨(x,NameKind.cell)∈names
 | [],h=>by rcases h with h | h <;> cases h
 | (n,k) :: r,h=>by
  change (List.lookup x ((if (k == NameKind.free && env.scope.kind == .function && env.kindOf n == some .cell) = true then (n,NameKind.cell) else (n,k)) :: _) = _ ∨
   List.lookup x ((if (k == NameKind.free && env.scope.kind == .function && env.kindOf n == some .cell) = true then (n,NameKind.cell) else (n,k)) :: _) = _) at h
  by_cases hx:x = n
  ·subst hx
   cases k with
   | free=>exact .inl (by simp)
   | cell=>exact .inr (by simp)
   | _ =>
    exfalso
    rw [if_neg (by simp)] at h
    simp [List.lookup] at h
  ·have hb:(x == n) = false:=by simpa using hx
   have ih:=relabel_back2 (env:=env) (x:=x) (names:=r)
   have e:∀ k',List.lookup x ((n,k') :: r.map fun (n,k)=>if (k == NameKind.free && env.scope.kind == .function && env.kindOf n == some .cell) = true then (n,NameKind.cell) else (n,k)) = List.lookup x (r.map fun (n,k)=>if (k == NameKind.free && env.scope.kind == .function && env.kindOf n == some .cell) = true then (n,NameKind.cell) else (n,k)):=fun k'=>by
    rw [List.lookup_cons,hb]
   rw [show (if (k == NameKind.free && env.scope.kind == .function && env.kindOf n == some .cell) = true then (n,NameKind.cell) else (n,k)) = (n,if (k == NameKind.free && env.scope.kind == .function && env.kindOf n == some .cell) = true then NameKind.cell else k) by split <;> rfl,e] at h
   rcases ih h with q | q
   ·exact .inl (List.mem_cons_of_mem _ q)
   ·exact .inr (List.mem_cons_of_mem _ q)
section
variable {X:Cx} {sc:Scope} {own:List Str} {fr:List Nat} {pins:List (Addr × Obj)} {σ:St} {H:Hp} {s:Shared} {y:Str}
theorem CompScopeC.cells (S:CompScopeC X sc fr y) (I:Inv X pins σ H s):∀ n∈freeNames sc,∃ c,X.env.cells.lookup n = some c:=fun n hn=>I.ok.has n (S.frees.mem n hn)
theorem CompScopeC.look (S:CompScopeC X sc fr y) (I:Inv X pins σ H s) {x:Str} {c:Addr} (h:(closOf sc X.env).lookup x = some c):X.env.cells.lookup x = some c:=by
 obtain⟨a,b⟩:=lookup_tab h
 obtain⟨d,e⟩:=S.cells I x (List.mem_reverse.mp a)
 rw [e] at b
 rw [e,b]
 rfl
theorem CompScopeC.back (S:CompScopeC X sc fr y) (I:Inv X pins σ H s) {x:Str} (hx:x∈freeNames sc):∃ c,(closOf sc X.env).lookup x = some c∧X.env.cells.lookup x = some c:=by
 obtain⟨c,e⟩:=S.cells I x hx
 refine⟨c,?_,e⟩
 unfold closOf
 rw [tab_lookup (List.mem_reverse.mpr hx),e]
 rfl
theorem CompScopeC.oney (S:CompScopeC X sc fr y) {x:Str} (h:(x,NameKind.cell)∈sc.names):x = y:=by
 have:(x,NameKind.cell)∈sc.names.filter (fun x=>x.2 == .cell):=List.mem_filter.2 ⟨h,rfl⟩
 rw [S.one] at this
 simp at this
 exact this
theorem look_y {cl:List (Str × Addr)} {x:Str} {c d:Addr} (h:((y,d) :: cl).lookup x = some c):(x = y∧c = d)∨cl.lookup x = some c:=by
 rw [List.lookup_cons] at h
 split at h
 ·rename_i e
  exact .inl ⟨by simpa using e,(Option.some.inj h).symm⟩
 ·exact .inr h
theorem inv_compC (S:CompScopeC X sc fr y) {fp:List Addr} (I:Inv X pins σ H s) (hf:∀ b∈fp,FpOk X pins H b) (ho:∀ b∈fp,∃ o,s.heap.get? b = some o) {h₁:Heap} {t:Nat}
  (hns:h₁.Ns s.heap.objs.size (fun _=>none)) (hcn:h₁.IsCell (s.heap.objs.size + 1) none) (hk:∀ b o,s.heap.get? b = some o→h₁.get? b = some o) :
  Inv (compCxC X sc own fr s.heap.objs.size s H fp y) [] (compSt own.length fr σ) H { s with heap:=h₁,toks:=t }:=by
 have ltC:∀ b o,s.heap.get? b = some o→b≠s.heap.objs.size:=fun b o e=>Nat.ne_of_lt (Heap.lt_size e)
 have cellOld:∀ x c,(closOf sc X.env).lookup x = some c→∃ v,s.heap.IsCell c v:=fun x c e=>I.cell x c (S.look I e)
 refine⟨⟨I.ok.mod,S.kind,I.ok.glob,I.ok.blt,Nat.le_refl _,fun x z c h1 h2=>?inj,fun x hx=>?_,fun x c z hl=>?cab,I.ok.hd,I.ok.frames,.inl rfl,fun b hb=>?_,I.bs,Nat.le_trans I.ok.bsz I.sz,fun b o e hb=>?_,fun b hb=>?_,I.stack,I.stkFree⟩,
  rfl,I.bare,Un.kept hk,⟨_,hns,fun i x v e1 e2 e3=>?_⟩,fun x c e=>?_,I.hok.fresh (Nat.le_refl _),fun x c e=>?frc,fun p hp=>absurd (show p∈([]:List (Addr × Obj)) from hp) (by simp),I.hok.kept hk,?_⟩
 case inj =>
  rcases look_y h1 with ⟨a1,b1⟩ | a1
  ·rcases look_y h2 with ⟨a2,b2⟩ | a2
   ·rw [a1,a2]
   ·obtain⟨v,o,ho',_⟩:=cellOld _ _ a2
    exact absurd (Heap.lt_size ho') (by rw [b1]; exact Nat.not_lt.2 (Nat.le_succ _))
  ·rcases look_y h2 with ⟨a2,b2⟩ | a2
   ·obtain⟨v,o,ho',_⟩:=cellOld _ _ a1
    exact absurd (Heap.lt_size ho') (by rw [b2]; exact Nat.not_lt.2 (Nat.le_succ _))
   ·exact I.ok.inj x z c (S.look I a1) (S.look I a2)
 case cab =>
  have z:x = y:=of_decide_eq_true z
  subst z
  have hl:((x,s.heap.objs.size + 1) :: closOf sc X.env).lookup x = some c:=hl
  rw [List.lookup_cons,beq_self_eq_true] at hl
  rw [← Option.some.inj hl]
  exact Nat.le_succ _
 case frc =>
  rcases look_y e with ⟨_,b1⟩ | a1
  ·rw [b1]; exact I.hok.fresh (Nat.le_succ _)
  ·exact I.freeC x c (S.look I a1)
 ·rcases relabel_back2 (env:=X.env) hx with this | this
  ·obtain⟨c,e,_⟩:=S.back I (mem_freeNames this)
   by_cases q:x = y
   ·exact⟨s.heap.objs.size + 1,by show List.lookup x ((y,_) :: _) = _; rw [q,List.lookup_cons,beq_self_eq_true]⟩
   ·exact⟨c,by show List.lookup x ((y,_) :: _) = _; rw [List.lookup_cons,show (x == y) = false by simpa using q]; exact e⟩
  ·have q:=S.oney this
   exact⟨s.heap.objs.size + 1,by show List.lookup x ((y,_) :: _) = _; rw [q,List.lookup_cons,beq_self_eq_true]⟩
 ·obtain⟨o,e⟩:=ho b hb
  obtain⟨_,_,_,_,f4,_⟩:=hf b hb
  refine⟨ltC b o e,fun x c e'=>?_⟩
  rcases look_y e' with ⟨_,b1⟩ | a1
  ·exact fun z=>absurd (Heap.lt_size e) (by rw [← z,b1]; exact Nat.not_lt.2 (Nat.le_succ _))
  ·exact f4 x c (S.look I a1)
 ·obtain⟨_,_,_,f3,_⟩:=hf b hb
  rcases f3 with z | z
  ·exact I.ok.noex b o e z
  ·exact absurd (Nat.lt_of_lt_of_le (Heap.lt_size e) (Nat.le_trans I.ok.bsz z)) (Nat.lt_irrefl _)
 ·obtain⟨_,f1,f2,_⟩:=hf b hb
  intro z
  rcases List.mem_cons.mp (I.stkSub b z) with q | q
  ·exact f1 q
  ·exact f2 q
 ·
  have hi:own.length≤i:=by
   rcases Nat.lt_or_ge i own.length with z | z
   ·exfalso
    change (List.replicate own.length none ++ fr.map fun k=>(σ[k]?).join)[i]? = some (some v) at e2
    rw [List.getElem?_append_left (by simpa using z),List.getElem?_replicate,if_pos z] at e2
    cases e2
   ·exact z
  change (List.replicate own.length none ++ fr.map fun k=>(σ[k]?).join)[i]? = some (some v) at e2
  rw [List.getElem?_append_right (by simpa using hi),List.length_replicate,List.getElem?_map] at e2
  change (own ++ fr.map fun k=>X.N.getD k Str.empty)[i]? = some x at e1
  rw [List.getElem?_append_right hi,List.getElem?_map] at e1
  cases e:fr[i - own.length]? with
  | none=>rw [e] at e1; cases e1
  | some k =>
   rw [e] at e1 e2
   have e1:X.N.getD k Str.empty = x:=Option.some.inj e1
   have e2:(σ[k]?).join = some v:=Option.some.inj e2
   have e2':σ[k]? = some (some v):=by
    cases q:σ[k]? with
    | none=>rw [q] at e2; cases e2
    | some z=>rw [q] at e2; cases z with
     | none=>cases e2
     | some z=>rw [show z = v from Option.some.inj e2]
   have hkl:k < X.N.length:=by
    have:=(List.getElem?_eq_some_iff.mp e2').1
    rw [I.len] at this
    exact this
   have e1':X.N[k]? = some x:=by
    rw [List.getElem?_eq_getElem hkl,← e1]
    simp [List.getD,hkl]
   obtain⟨q1,q2⟩:=S.fr.mem k (List.mem_of_getElem? e)
   rw [e1] at q1 q2
   have hvis:Vis X.env.scope x:=by
    rcases q2 with z | z
    ·exact .inr (.inl z)
    ·exact .inr (.inr z)
   obtain⟨m,hn,hl⟩:=I.loc
   obtain⟨u,r,l⟩:=hl k x v e1' e2' hvis
   refine⟨u,r,.inr ⟨?_,?_⟩⟩
   ·exact lookup_relabel_free (env:=X.env) q1
   ·rcases l with ⟨z,_⟩ | ⟨_,c,hc,z⟩
    ·exfalso
     have z:X.env.scope.names.lookup x = some .local:=z
     rcases q2 with y | y
     ·rw [z] at y; cases y
     ·rw [z] at y; cases y
    ·obtain⟨c',h1,h2⟩:=S.back I (mem_freeNames (PySem.mem_of_lookup q1))
     rw [hc] at h2
     cases h2
     obtain⟨o,ho',hd⟩:=z
     have nxy:(x == y) = false:=by
      rw [beq_eq_false_iff_ne]
      rintro rfl
      rw [S.yk] at q1; cases q1
     exact⟨c,by show List.lookup x ((y,_) :: _) = _; rw [List.lookup_cons,nxy]; exact h1,o,hk c o ho',hd⟩
 ·rcases look_y e with ⟨_,b1⟩ | a1
  ·exact⟨none,by rw [b1]; exact hcn⟩
  ·obtain⟨v,o,ho',hd⟩:=cellOld x c a1
   exact⟨v,o,hk c o ho',hd⟩
 ·show (List.replicate own.length none ++ fr.map fun k=>(σ[k]?).join).length = (own ++ fr.map fun k=>X.N.getD k Str.empty).length
  simp
end
section
variable {X:Cx} {sc:Scope} {own:List Str} {fr:List Nat} {e tg iter:Expr} {ifs:List Expr} {emit:Env→Addr→Sem Unit} {wi:TI} {g:TG} {tc:TT} {tm:TM} {acc:HO} {y:Str}
theorem comp_loopC (F:CompForm e tg iter ifs emit) (hc:X.calm = true) {C:Addr} {s₀:Shared} {H₀:Hp} {fp:List Addr} {it D:Addr} {tn:Nat→Heap→Prop} {J:It} {R:Result→Shared→Prop} {s:Shared}
  (hg:PG (compCxC X sc own fr C s₀ H₀ fp y) tg g) (ht:PTs (compCxC X sc own fr C s₀ H₀ fp y) ifs tc) (hm:PM (compCxC X sc own fr C s₀ H₀ fp y) emit tm)
  (T:Turn X.prog X.w X.K tg J fp it tn) (hfp:∀ b∈fp,b≠C∧b ∉ frs X.stack∧∀ x c,((y,C + 1) :: closOf sc X.env).lookup x = some c→c≠b)
  (W:Nat→Nat→St→Hp→Prop) {Q:Hp→Prop} (turn:∀ i m σ' H',W i m σ' H'→(J.stop i H'∧Q H')∨(J.go i H'∧∃ N:St→Hp→Prop,(∀ σ2 H2,N σ2 H2→∃ m',m' < m∧W (i + 1) m' σ2 H2)∧∀ x H2,J.yld i H' x H2→g x σ' H2 fun σ3 H3=>tc σ3 H3 fun b H4 =>
   if b = true then tm D σ3 H4 (N σ3) else N σ3 H4))
  (hR:∀ σ' H' s',Inv (compCxC X sc own fr C s₀ H₀ fp y) [] σ' H' s'→Q H'→R (.ok .next) s')
  {m0:Nat} {σ0:St} {H0:Hp} (I0:Inv (compCxC X sc own fr C s₀ H₀ fp y) [] σ0 H0 s) (st0:tn 0 s.heap) (fr0:∀ b∈fp,H0 b = none) (w0:W 0 m0 σ0 H0) :
  codeAny (model X.prog X.w) X.A (.compLoop e 0 (.ref it) (.ref D) (compEnvY sc (closOf sc X.env) C X.env y)) R s:=by
 have stat:∀ {H':Hp},(∀ b∈fp,H' b = none)→∀ b∈fp,FpOk (compCxC X sc own fr C s₀ H₀ fp y) [] H' b:=fun hn b hb =>
  ⟨hn b hb,(hfp b hb).1,(hfp b hb).2.1,.inl hb,(hfp b hb).2.2,fun p hp=>absurd (show p∈([]:List (Addr × Obj)) from hp) (by simp)⟩
 refine codeAny_loop rfl (fun n s'=>∃ i σ' H',Inv (compCxC X sc own fr C s₀ H₀ fp y) [] σ' H' s'∧tn i s'.heap∧(∀ b∈fp,H' b = none)∧W i n σ' H') (fun n s hI=>?_) m0 ⟨0,σ0,H0,I0,st0,fr0,w0⟩
 rw [F.under,F.den]
 refine wpAny_noted ?_
 rw [F.turn]
 obtain⟨i,σ3,H3,I3,st3,fr3,w3⟩:=hI
 have lift:∀ {α:Type} {t:Sem α} {Q':α→Shared→Prop} {E:Value→Shared→Prop} {s:Shared},wpAny (model X.prog X.w) X.A t Q' (fun _ _=>False) s→wpAny (model X.prog X.w) X.A t Q' E s:=fun h=>wpAny_mono h (fun _ _ q=>q) fun _ _ z=>z.elim
 refine wpAny_bind (wpAny_standAt (wpAny_bind ?_))
 rcases turn i n σ3 H3 w3 with ⟨stop,qn⟩ | ⟨go,N,hN,step⟩
 ·refine lift (thn (T.done (compCxC X sc own fr C s₀ H₀ fp y) rfl rfl rfl hc i [] s σ3 H3 (fun _ _=>False) I3 (stat fr3) st3 stop) fun r s4 ⟨hr,I4⟩=>?_)
  subst hr
  exact wpAny_pure (hR σ3 H3 s4 I4 qn)
 ·refine lift (thn (T.item (compCxC X sc own fr C s₀ H₀ fp y) rfl rfl rfl hc i [] s σ3 H3 (fun _ _=>False) I3 (stat fr3) st3 go) fun r s4 ⟨u,hr,h4⟩=>?_)
  subst hr
  refine wpAny_bind (lift (thn h4 fun _ s5 ⟨x,H5,I5,r5,y5,st5,fr5⟩=>?_))
  have I5':=I5.pinned (stat fr5) (T.obj _ _ st5)
  refine wpAny_bind (lift (thn (hg _ s5 σ3 H5 x u _ I5' r5 (step x H5 y5)) fun _ s6 ⟨σ6,H6,I6,q6⟩=>?_))
  refine wpAny_bind (lift (thn (ht _ s6 σ6 H6 _ I6 q6) fun ok s7 ⟨H7,I7,q7⟩=>?_))
  have again:∀ {σ8:St} {H8:Hp} {s8:Shared},Inv (compCxC X sc own fr C s₀ H₀ fp y) ([] ++ pinsAt fp s5.heap) σ8 H8 s8→(∃ m',m' < n∧W (i + 1) m' σ8 H8)→∃ m,m < n∧∃ i σ' H',Inv (compCxC X sc own fr C s₀ H₀ fp y) [] σ' H' s8∧tn i s8.heap∧(∀ b∈fp,H' b = none)∧W i m σ' H':=fun {σ8 H8 s8} I8 ⟨m',hm',w8⟩=>by
   refine⟨m',hm',i + 1,σ8,H8,I8.unpinned,T.keep _ _ _ st5 fun b hb o e=>(I8.pin (b,o) (List.mem_append_right _ (List.mem_append_right _ (mem_pinsAt hb e)))).1,fun b hb=>?_,w8⟩
   obtain⟨o,e,d⟩:=T.obj _ _ st5 b hb
   exact (I8.pin (b,o) (List.mem_append_right _ (List.mem_append_right _ (mem_pinsAt hb e)))).2.1
  cases ok with
  | false=>exact wpAny_pure ⟨rfl,again I7 (hN _ _ q7)⟩
  | true =>
   refine wpAny_bind (lift (thn (hm _ s7 σ6 H7 D _ I7 q7) fun _ s8 ⟨H8,I8,q8⟩=>?_))
   exact wpAny_pure ⟨rfl,again I8 (hN _ _ q8)⟩
end
section
variable {X:Cx} {sc:Scope} {own:List Str} {fr:List Nat} {e tg iter:Expr} {ifs:List Expr} {emit:Env→Addr→Sem Unit} {wi:TI} {g:TG} {tc:TT} {tm:TM} {acc:HO} {y:Str} {newAcc:Sem Value} {pos:Pos}
theorem comp_anyC (F:CompForm e tg iter ifs emit) (hc:X.calm = true) (S:CompScopeC X sc fr y) (hi:PI X tg iter wi) (hnew:PNew X newAcc acc)
  (hg:∀ C s₀ H₀ fp,PG (compCxC X sc own fr C s₀ H₀ fp y) tg g) (ht:∀ C s₀ H₀ fp,PTs (compCxC X sc own fr C s₀ H₀ fp y) ifs tc) (hm:∀ C s₀ H₀ fp,PM (compCxC X sc own fr C s₀ H₀ fp y) emit tm)
  (hs:∀ x,foldedSetIterable iter X.env x = pure x) {use:Option (Value→Sem Unit)} {pins:List (Addr × Obj)} {s:Shared} {σ:St} {H:Hp} {Q:Addr→Hp→Prop} {Q':Value→Shared→Prop} (I:Inv X pins σ H s)
  (h:tCompB acc wi own.length fr g tc tm σ H Q)
  (hq:∀ (p C:Addr) (H':Hp) (s':Shared) (m:Str→Option Value),Inv X pins σ H' s'→Q p H'→s'.heap.Ns C m→H' C = none→C≠X.env.locals→X.s₀.heap.objs.size≤C→(∀ x c,X.env.cells.lookup x = some c→c≠C)→(∀ q∈X.pn ++ pins,q.1≠C) →
   compPost (model X.prog X.w) X.A X.xe use Q' (.ref p) C (.ok .next) s') :
  wpAny (model X.prog X.w) X.A (comprehension e sc X.env pos newAcc false (eval iter X.env) use) Q' X.xe s:=by
 obtain⟨gs,hcl⟩:=F.cl
 refine wpAny_comprehension_free hcl hs (closureFor_of (S.cells I)) S.kind S.names (thn (hi pins s σ H _ I h) fun v s1 h1=>thn h1 fun itv s2 h2=>?_)
 obtain⟨it,fp,tn,J,H2,e2,I2,T,st2,f2,q2⟩:=h2
 subst e2
 refine hnew pins s2 σ H2 _ _ I2 fun p s3 np hp k3 os3 I3=>?_
 obtain⟨W,⟨m0,w0⟩,turn⟩:=q2 p np
 refine newEnv_one S.one ?_
 generalize hh₁:(s3.heap.push { cls:=.type "dict",data:=.dict #[] }).push { cls:=.type "cell",data:=.cell none } = h₁
 have hk:∀ b o,s3.heap.get? b = some o→h₁.get? b = some o:=fun b o eb=>by rw [← hh₁]; exact Heap.get?_push_of_some _ (Heap.get?_push_of_some _ eb)
 have hns:h₁.Ns s3.heap.objs.size (fun _=>none):=by
  obtain⟨o,es,ep,q1,q2⟩:=Heap.Ns.new s3.heap (.type "dict")
  rw [← hh₁]
  exact⟨o,es,ep,Heap.get?_push_of_some _ q1,q2⟩
 have hcn:h₁.IsCell (s3.heap.objs.size + 1) none:=by
  rw [← hh₁]
  have es:(s3.heap.push { cls:=.type "dict",data:=.dict #[] }).objs.size = s3.heap.objs.size + 1:=by simp [Heap.push]
  exact⟨_,by rw [← es]; exact Heap.get?_push_size _ rfl,rfl⟩
 have ob2:∀ b∈fp,∃ o,s2.heap.get? b = some o:=fun b hb=>let ⟨o,eo,_⟩:=T.obj _ _ st2 b hb; ⟨o,eo⟩
 have fpn:∀ b∈fp,b≠p:=fun b hb z=>by
  obtain⟨o,eo⟩:=ob2 b hb
  rw [z,hp] at eo
  exact absurd (Heap.lt_size eo) (Nat.lt_irrefl _)
 have f3:∀ b∈fp,FpOk X pins (upd H2 p acc) b:=fun b hb=>by
  obtain⟨a1,a2⟩:=f2 b hb
  exact⟨by rw [upd_ne (fpn b hb)]; exact a1,a2⟩
 have ob3:∀ b∈fp,∃ o,s3.heap.get? b = some o:=fun b hb=>let ⟨o,eo⟩:=ob2 b hb; ⟨o,k3 b o eo⟩
 have I4:=inv_compC (own:=own) (t:=s3.toks) S I3 f3 ob3 (h₁:=h₁) hns hcn hk
 have st4:tn 0 h₁:=T.keep _ _ _ st2 fun b hb o eo=>hk b o (k3 b o eo)
 have hfp:∀ b∈fp,b≠s3.heap.objs.size∧b ∉ frs X.stack∧∀ x c,((y,s3.heap.objs.size + 1) :: closOf sc X.env).lookup x = some c→c≠b:=fun b hb=>by
  obtain⟨_,f1,f2',_,f4,_⟩:=f3 b hb
  obtain⟨o,eo⟩:=ob3 b hb
  refine⟨Nat.ne_of_lt (Heap.lt_size eo),fun z=>?_,fun x c ec=>?lk⟩
  case lk =>
   rcases look_y ec with ⟨_,b1⟩ | a1
   ·exact fun z=>absurd (Heap.lt_size eo) (by rw [← z,b1]; exact Nat.not_lt.2 (Nat.le_succ _))
   ·exact f4 x c (S.look I3 a1)
  rcases List.mem_cons.mp (I3.stkSub b z) with q | q
  ·exact f1 q
  ·exact f2' q
 have loop:codeAny (model X.prog X.w) X.A (.compLoop e 0 (.ref it) (.ref p) (compEnvY sc (closOf sc X.env) s3.heap.objs.size X.env y)) (compPost (model X.prog X.w) X.A X.xe use Q' (.ref p) s3.heap.objs.size) { s3 with heap:=h₁,toks:=s3.toks }:=by
  refine comp_loopC (s₀:=s3) (H₀:=upd H2 p acc) (own:=own) (fr:=fr) (Q:=fun H'=>Q p H') F hc (hg _ _ _ _) (ht _ _ _ _) (hm _ _ _ _) T hfp W turn (fun σ' H' s' J' qq=>?_) I4 st4 (fun b hb=>(f3 b hb).1) w0
  obtain⟨m,hn,_⟩:=J'.loc
  have un:Un (frs X.stack) fp H2 H' s2.heap s'.heap:=(Un.laid (o:=acc) k3 (by rw [hp]; exact Nat.le_refl _) np).trans J'.base
  have IX:Inv X pins σ H' s':=I2.call' (ch:=fp) (J'.os.trans os3) un J'.hok J'.bare fun b hb=>by
   obtain⟨_,f1,_,f3',f4,f5⟩:=f2 b hb
   exact⟨f3',f1,f4,f5⟩
  refine hq p s3.heap.objs.size H' s' m IX qq hn J'.free (Ne.symm (Nat.ne_of_lt I3.lt)) I3.sz (fun x c ec=>?_) fun q hq'=>?_
  ·obtain⟨v,o,eo,_⟩:=I3.cell x c ec
   exact Nat.ne_of_lt (Heap.lt_size eo)
  ·exact Nat.ne_of_lt (Heap.lt_size (I3.pin q hq').1)
 exact F.start _ _ _ _ _ _ _ _ loop (T.self _ _ _ _ _ st4 loop)
end
section
variable {X:Cx} {sc:Scope} {own:List Str} {fr:List Nat} {elt tg iter:Expr} {ifs:List Expr} {wi:TI} {g:TG} {tc:TT} {te:TE} {pos:Pos} {y:Str}
end
end L2
end
section
set_option Elab.async false
set_option linter.all false
set_option maxRecDepth 100000
set_option maxHeartbeats 4000000
namespace L2
open PySem PySem.Spec PyProof.Rows PySem.W
end L2
end
section
set_option Elab.async false
set_option linter.all false
set_option maxRecDepth 100000
set_option maxHeartbeats 4000000
namespace L2
open PySem PySem.Spec PyProof.Rows PySem.W
inductive NK where
 | int (i:Int)
 | tup (l:List NK)
mutual
def NK.dep:NK→Nat
 | .int _=>0
 | .tup l=>1 + NK.depL l
def NK.depL:List NK→Nat
 | []=>0
 | k :: r=>max k.dep (NK.depL r)
end
mutual
def NK.hash:NK→Int
 | .int i=>hashInt i
 | .tup l=>reduceHash (Builtin.Tuple.tupleHashOf (NK.hashL l))
def NK.hashL:List NK→List Int
 | []=>[]
 | k :: r=>k.hash :: NK.hashL r
end
mutual
def NK.dr:NK→Nat
 | .int _=>1
 | .tup l=>NK.drL l + 1
def NK.drL:List NK→Nat
 | []=>0
 | k :: r=>k.dr + NK.drL r
end
mutual
def IsN (h:Heap):NK→Value→Prop
 | .int i,v=>∃ t,v = .int i t
 | .tup l,v=>∃ a its,v = .ref a∧IsTup h a (List.toArray its)∧IsNs h l its
def IsNs (h:Heap):List NK→List Value→Prop
 | [],vs=>vs = []
 | k :: r,vs=>∃ u us,vs = u :: us∧IsN h k u∧IsNs h r us
end
noncomputable instance:DecidableEq NK:=fun a b=>Classical.propDecidable (a = b)
theorem reduced_ok {M:Model} {A:Around} {E:Value→Shared→Prop} {s:Shared} {i:Int} {Q:Int→Shared→Prop} (h:Q (reduceHash i) s):wpAny M A (pyHashByItsType.reduced i) Q E s:=by
 unfold pyHashByItsType.reduced
 unfold reduceHash at h
 split
 ·rename_i c
  rw [if_pos c] at h
  exact wpAny_pure h
 ·rename_i c
  rw [if_neg c] at h
  exact wpAny_bind (wpAny_rule (wpAny_pure h))
section
variable {prog:Program} {w:World} {E:Value→Shared→Prop}
theorem pyHash_n:∀ (n:Nat) (k:NK) (A:Around) (s:Shared) (v:Value) (Q:Int→Shared→Prop),k.dep≤n→A.units + n < cLine→IsN s.heap k v→Q k.hash { s with toks:=s.toks + k.dr }→wpAny (model prog w) A (pyHash v) Q E s:=by
 intro n
 induction n with
 | zero =>
  intro k A s v Q hd hu hi h
  cases k with
  | int i =>
   rw [IsN] at hi
   obtain⟨t,rfl⟩:=hi
   rw [NK.hash,NK.dr] at h
   exact wpAny_pyHash_int h
  | tup l=>rw [NK.dep] at hd; omega
 | succ n ih =>
  intro k A s v Q hd hu hi h
  cases k with
  | int i =>
   rw [IsN] at hi
   obtain⟨t,rfl⟩:=hi
   rw [NK.hash,NK.dr] at h
   exact wpAny_pyHash_int h
  | tup l =>
   rw [NK.dep] at hd
   rw [NK.hash,NK.dr] at h
   rw [IsN] at hi
   obtain⟨a,its,rfl,ht,hi⟩:=hi
   have loop:∀ (l:List NK) (vs:List Value) (b:Array Int) (s:Shared) (Q':Array Int→Shared→Prop),NK.depL l≤n→IsNs s.heap l vs→(∀ b':Array Int,b'.toList = b.toList ++ NK.hashL l→Q' b' { s with toks:=s.toks + NK.drL l }) →
     wpAny (model prog w) A.in1 (forIn vs b fun x (r:Array Int)=>do let h ← pyHash x; pure (ForInStep.yield (r.push h))) Q' E s:=by
    intro l
    induction l with
    | nil =>
     intro vs b s Q' _ hv hq
     rw [IsNs] at hv
     subst hv
     exact wpAny_pure (hq b (by rw [NK.hashL,List.append_nil]))
    | cons k r ihl =>
     intro vs b s Q' hd hv hq
     rw [NK.depL] at hd
     rw [IsNs] at hv
     obtain⟨u,us,rfl,hu',hr⟩:=hv
     rw [List.forIn_cons]
     refine wpAny_bind (wpAny_bind (ih k A.in1 s u _ (by omega) (by show A.units + 1 + n < _; omega) hu' (wpAny_pure ?_)))
     refine ihl us _ _ _ (by omega) hr fun b' hb'=>?_
     have:=hq b' (by rw [hb',NK.hashL]; simp)
     rw [NK.drL,← Nat.add_assoc] at this
     exact this
   show wpAny _ _ (pyHashByItsType (.ref a)) Q E s
   unfold pyHashByItsType
   have hT:=ht.typeIs
   refine wpAny_bind (wpAny_cRoomFor_or (.inr (by omega)) (wpAny_bind (wpAny_specialOf hT F.slot_tuple_hash.lookup ?_)))
   rw [if_neg (by rw [beq_builtin_none]; exact Bool.false_ne_true)]
   refine wpAny_bind (wpAny_specialOf hT F.slot_tuple_hash.lookup ?_)
   refine wpAny_bind (wpAny_callSpecialIfBoundUnlessNone?_slot hT F.slot_tuple_hash (wpAny_call_entry F.slot_tuple_hash hT F.entry_tuple_hash ?_ (F.args_tuple_hash_1 _)))
   show wpAny _ _ (Builtin.Tuple.tupleItemsOf (.ref a) >>= _) _ _ s
   refine wpAny_bind (tupleItemsOf_ ht (wpAny_bind ?_))
   rw [← Array.forIn_toList]
   refine loop l its #[] s _ (by omega) hi fun b' hb'=>?_
   have hb':b'.toList = NK.hashL l:=by rw [hb']; rfl
   show wpAny _ _ (retInt (Builtin.Tuple.tupleHashOf b'.toList)) _ _ _
   rw [hb']
   refine wpAny_bind (wpAny_mkInt (wpAny_pure ⟨_,rfl,?_⟩))
   exact reduced_ok h
theorem IsTup.inj' {h:Heap} {a:Addr} {x y:List Value} (h1:IsTup h a x.toArray) (h2:IsTup h a y.toArray):x = y:=by
 obtain⟨o,e1,_,n,d1⟩:=h1
 obtain⟨o',e2,_,n',d2⟩:=h2
 rw [e1] at e2
 cases e2
 rw [d1] at d2
 injection d2 with d2 _
 have:=congrArg Array.toList d2
 simpa using this
theorem isN_inj {h:Heap}:∀ (n:Nat) (x y:NK) (v:Value),x.dep≤n→IsN h x v→IsN h y v→x = y:=by
 intro n
 induction n with
 | zero =>
  intro x y v hd hx hy
  cases x with
  | int i =>
   rw [IsN] at hx
   obtain⟨t,rfl⟩:=hx
   cases y with
   | int j=>rw [IsN] at hy; obtain⟨t',e⟩:=hy; cases e; rfl
   | tup l=>rw [IsN] at hy; obtain⟨a,its,e,_⟩:=hy; cases e
  | tup l=>rw [NK.dep] at hd; omega
 | succ n ih =>
  intro x y v hd hx hy
  cases x with
  | int i =>
   rw [IsN] at hx
   obtain⟨t,rfl⟩:=hx
   cases y with
   | int j=>rw [IsN] at hy; obtain⟨t',e⟩:=hy; cases e; rfl
   | tup l=>rw [IsN] at hy; obtain⟨a,its,e,_⟩:=hy; cases e
  | tup l =>
   rw [NK.dep] at hd
   rw [IsN] at hx
   obtain⟨a,its,rfl,ht,hi⟩:=hx
   cases y with
   | int j=>rw [IsN] at hy; obtain⟨t',e⟩:=hy; cases e
   | tup l' =>
    rw [IsN] at hy
    obtain⟨a',its',e,ht',hi'⟩:=hy
    cases e
    have e:=IsTup.inj' ht ht'
    subst e
    have key:∀ (l l':List NK) (vs:List Value),NK.depL l≤n→IsNs h l vs→IsNs h l' vs→l = l':=by
     intro l
     induction l with
     | nil =>
      intro l' vs _ h1 h2
      rw [IsNs] at h1
      subst h1
      cases l' with
      | nil=>rfl
      | cons k r=>rw [IsNs] at h2; obtain⟨u,us,e,_⟩:=h2; cases e
     | cons k r ihl =>
      intro l' vs hd h1 h2
      rw [NK.depL] at hd
      rw [IsNs] at h1
      obtain⟨u,us,rfl,hu,hr⟩:=h1
      cases l' with
      | nil=>rw [IsNs] at h2; cases h2
      | cons k' r' =>
       rw [IsNs] at h2
       obtain⟨u',us',e,hu',hr'⟩:=h2
       cases e
       rw [ih k k' u (by omega) hu hu',ihl r' us (by omega) hr hr']
    rw [key l l' its (by omega) hi hi']
theorem isN_keep {h h':Heap} (kp:∀ (a:Addr) (its:List Value),IsTup h a its.toArray→IsTup h' a its.toArray):∀ (n:Nat) (x:NK) (v:Value),x.dep≤n→IsN h x v→IsN h' x v:=by
 intro n
 induction n with
 | zero =>
  intro x v hd hx
  cases x with
  | int i=>rw [IsN] at hx ⊢; exact hx
  | tup l=>rw [NK.dep] at hd; omega
 | succ n ih =>
  intro x v hd hx
  cases x with
  | int i=>rw [IsN] at hx ⊢; exact hx
  | tup l =>
   rw [NK.dep] at hd
   rw [IsN] at hx ⊢
   obtain⟨a,its,rfl,ht,hi⟩:=hx
   refine⟨a,its,rfl,kp _ _ ht,?_⟩
   have key:∀ (l:List NK) (vs:List Value),NK.depL l≤n→IsNs h l vs→IsNs h' l vs:=by
    intro l
    induction l with
    | nil=>intro vs _ h1; rw [IsNs] at h1 ⊢; exact h1
    | cons k r ihl =>
     intro vs hd h1
     rw [NK.depL] at hd
     rw [IsNs] at h1 ⊢
     obtain⟨u,us,rfl,hu,hr⟩:=h1
     exact⟨u,us,rfl,ih k u (by omega) hu,ihl us (by omega) hr⟩
   exact key l its (by omega) hi
theorem isNs_len {h:Heap}:∀ {l:List NK} {vs:List Value},IsNs h l vs→vs.length = l.length
 | [],vs,h1=>by rw [IsNs] at h1; subst h1; rfl
 | k :: r,vs,h1=>by
  rw [IsNs] at h1
  obtain⟨u,us,rfl,_,hr⟩:=h1
  rw [List.length_cons,List.length_cons,isNs_len hr]
theorem isNs_at {h:Heap}:∀ {l:List NK} {vs:List Value} {j:Nat} (hj:j < vs.length),IsNs h l vs→∃ k,l[j]? = some k∧IsN h k vs[j]
 | [],vs,j,hj,h1=>by rw [IsNs] at h1; subst h1; cases hj
 | k :: r,vs,j,hj,h1=>by
  rw [IsNs] at h1
  obtain⟨u,us,rfl,hu,hr⟩:=h1
  cases j with
  | zero=>exact⟨k,rfl,hu⟩
  | succ j=>exact isNs_at (l:=r) (vs:=us) (j:=j) (by simpa using hj) hr
theorem depL_at {n:Nat}:∀ {l:List NK} {j:Nat} {k:NK},NK.depL l≤n→l[j]? = some k→k.dep≤n
 | [],j,k,_,h=>by cases h
 | k' :: r,0,k,hd,h=>by cases h; rw [NK.depL] at hd; omega
 | k' :: r,j + 1,k,hd,h=>by rw [NK.depL] at hd; exact depL_at (l:=r) (j:=j) (by omega) h
theorem dec_intN (i j:Int):decide (NK.int i = NK.int j) = (i == j):=by
 by_cases e:i = j
 ·subst e; simp
 ·rw [decide_eq_false (fun q=>e (by injection q)),show (i == j) = false by simpa using e]
theorem dec_tup (l l':List NK):decide (NK.tup l = NK.tup l') = decide (l = l'):=by
 by_cases e:l = l'
 ·subst e; simp
 ·rw [decide_eq_false e,decide_eq_false (fun q=>e (by injection q))]
theorem list_all_eq {l l':List NK}:((List.range (min l.length l'.length)).all (fun j=>decide (l.getD j (.int 0) = l'.getD j (.int 0))) && l.length == l'.length) = decide (l = l'):=by
 by_cases h:l = l'
 ·subst h
  simp
 ·rw [decide_eq_false h]
  by_cases hl:l.length = l'.length
  ·have:¬ (List.range (min l.length l'.length)).all (fun j=>decide (l.getD j (.int 0) = l'.getD j (.int 0))) = true:=fun q=>h (List.ext_getElem hl fun j h1 h2=>by
    have:=List.all_eq_true.1 q j (List.mem_range.2 (by omega))
    have:=of_decide_eq_true this
    simpa [List.getD,h1,h2] using this)
   cases e:(List.range (min l.length l'.length)).all (fun j=>decide (l.getD j (.int 0) = l'.getD j (.int 0))) with
   | true=>exact (this e).elim
   | false=>rfl
  ·have:(l.length == l'.length) = false:=by simpa using hl
   rw [this,Bool.and_false]
theorem eq_n {s:Shared}:∀ (n:Nat) (x y:NK) (A:Around) (u v:Value),x.dep≤n→A.units + n < cLine→IsN s.heap x u→IsN s.heap y v→SeqAt.EqAt A s u v (decide (x = y)):=by
 have intsN:∀ (i:Int) (y:NK) (A:Around) (u v:Value),A.units < cLine→IsN s.heap (.int i) u→IsN s.heap y v→SeqAt.EqAt A s u v (decide (NK.int i = y)):=by
  intro i y A u v hu hx hy
  rw [IsN] at hx
  obtain⟨t,rfl⟩:=hx
  cases y with
  | int j =>
   rw [IsN] at hy
   obtain⟨t',rfl⟩:=hy
   have:=SeqAt.EqAt.int_int (A:=A) (s:=s) i t j t'
   rw [dec_intN]
   exact this
  | tup l =>
   rw [IsN] at hy
   obtain⟨a,its,rfl,ht,_⟩:=hy
   rw [decide_eq_false (fun q=>by cases q)]
   exact SeqAt.EqAt.int_tuple i t ht hu
 intro n
 induction n with
 | zero =>
  intro x y A u v hd hu hx hy
  cases x with
  | int i=>exact intsN i y A u v (by omega) hx hy
  | tup l=>rw [NK.dep] at hd; omega
 | succ n ih =>
  intro x y A u v hd hu hx hy
  cases x with
  | int i=>exact intsN i y A u v (by omega) hx hy
  | tup l =>
   have hxx:=hx
   have hdd:=hd
   rw [NK.dep] at hd
   rw [IsN] at hx
   obtain⟨a,its,rfl,ht,hi⟩:=hx
   cases y with
   | int j =>
    rw [IsN] at hy
    obtain⟨t',rfl⟩:=hy
    rw [decide_eq_false (fun q=>by cases q)]
    exact SeqAt.EqAt.tuple_int j t' ht (by omega)
   | tup l' =>
    have hyy:=hy
    rw [IsN] at hy
    obtain⟨b,its',rfl,ht',hi'⟩:=hy
    by_cases hab:a = b
    ·subst hab
     rw [isN_inj (n + 1) _ _ _ hdd hxx hyy,decide_eq_true rfl]
     exact SeqAt.EqAt.same _
    ·have l1:=isNs_len hi
     have l2:=isNs_len hi'
     have main:=SeqAt.RcAt.tuples (e:=fun j=>decide (l.getD j (.int 0) = l'.getD j (.int 0))) ht ht' (show A.units < cLine by omega) fun j g1 g2=>by
      obtain⟨k,hk,hkn⟩:=isNs_at (j:=j) (by simpa using g1) hi
      obtain⟨k',hk',hkn'⟩:=isNs_at (j:=j) (by simpa using g2) hi'
      rw [List.getD_eq_getElem?_getD,List.getD_eq_getElem?_getD,hk,hk']
      exact ih k k' A.in1 _ _ (depL_at (by omega) hk) (by show A.units + 1 + n < _; omega) (by simpa using hkn) (by simpa using hkn')
     rw [List.size_toArray,List.size_toArray,l1,l2,list_all_eq] at main
     rw [dec_tup]
     exact SeqAt.EqAt.of_refs hab main
theorem quiet_n {s:Shared}:∀ (n:Nat) (x:NK) (A:Around) (v:Value) (Q:Bool→Shared→Prop),x.dep≤n→IsN s.heap x v→Q true s→wpAny (model prog w) A (eqIsQuiet n v) Q E s:=by
 have intsN:∀ (n:Nat) (i:Int) (A:Around) (v:Value) (Q:Bool→Shared→Prop),IsN s.heap (.int i) v→Q true s→wpAny (model prog w) A (eqIsQuiet n v) Q E s:=by
  intro n i A v Q hx h
  rw [IsN] at hx
  obtain⟨t,rfl⟩:=hx
  rw [eqIsQuiet.eq_3 n _ (fun a q=>by cases q)]
  exact wpAny_pure h
 intro n
 induction n with
 | zero =>
  intro x A v Q hd hx h
  cases x with
  | int i=>exact intsN 0 i A v Q hx h
  | tup l=>rw [NK.dep] at hd; omega
 | succ n ih =>
  intro x A v Q hd hx h
  cases x with
  | int i=>exact intsN (n + 1) i A v Q hx h
  | tup l =>
   rw [NK.dep] at hd
   rw [IsN] at hx
   obtain⟨a,its,rfl,ht,hi⟩:=hx
   have hT:=ht.typeIs
   rw [eqIsQuiet.eq_2]
   refine wpAny_bind (wpAny_specialOf hT F.slot_tuple_eq.lookup ?_)
   refine wpAny_bind (wpAny_isInstance hT isSubtype_tuple_tuple ?_)
   rw [if_neg (by simp)]
   have loop:∀ (l:List NK) (vs:List Value) (Q':Option Bool × Unit→Shared→Prop),NK.depL l≤n→IsNs s.heap l vs→Q' (none,()) s →
     wpAny (model prog w) A (forIn vs ((none,()):Option Bool × Unit) fun y _=>do let q ← eqIsQuiet n y; if (!q) = true then pure (ForInStep.done (some false,())) else pure (ForInStep.yield (none,()))) Q' E s:=by
    intro l
    induction l with
    | nil =>
     intro vs Q' _ hv hq
     rw [IsNs] at hv
     subst hv
     exact wpAny_pure hq
    | cons k r ihl =>
     intro vs Q' hd hv hq
     rw [NK.depL] at hd
     rw [IsNs] at hv
     obtain⟨u,us,rfl,hu',hr⟩:=hv
     rw [List.forIn_cons]
     refine wpAny_bind (wpAny_bind (ih k A u _ (by omega) hu' ?_))
     rw [if_neg (by simp)]
     exact wpAny_pure (ihl us Q' (by omega) hr hq)
   obtain⟨o,ho,hc,m',hdt⟩:=id ht
   refine wpAny_bind (wpAny_seqItems ho hdt (wpAny_bind ?_))
   show wpAny _ _ (forIn its.toArray _ _) _ _ _
   rw [← Array.forIn_toList]
   exact loop l its _ (by omega) hi (wpAny_pure h)
noncomputable def nKind (prog:Program) (w:World):HeapKind prog w NK where
 is:=fun h k a=>k.dep≤7∧IsN h k (.ref a)
 hash:=NK.hash
 draws:=NK.dr
 room:=fun A=>A.units + 8 < cLine
 inj:=fun hx hy=>isN_inj 7 _ _ _ hx.1 hx.2 hy.2
 keeps:=fun {h h' k a d o es ep} hx ho hd hs=>⟨hx.1,isN_keep (fun b its ⟨o',e,c,n,q⟩=>⟨o',by
  rw [hs.2 b (by rintro rfl; rw [ho] at e; cases e; rw [hd] at q; cases q)]; exact e,c,n,q⟩) 7 _ _ hx.1 hx.2⟩
 pyHash:=fun {A E s k a Q} hr hx h=>pyHash_n 7 k A s _ Q hx.1 (by omega) hx.2 h
 eqBool:=fun {A E s x y a b Q} hr hx hy h=>eq_n 7 x y A _ _ hx.1 (by omega) hx.2 hy.2 prog w E Q h
 quiet:=fun {A E s k a Q} hx h=>quiet_n 8 k A _ Q (Nat.le_trans hx.1 (by decide)) hx.2 h
end
mutual
def DenN (H:Hp):NK→V→Prop
 | .int i,v=>v = .int i
 | .tup l,v=>∃ a xs,v = .ref a∧H a = some (.tup xs)∧DenNs H l xs
def DenNs (H:Hp):List NK→List V→Prop
 | [],vs=>vs = []
 | k :: r,vs=>∃ u us,vs = u :: us∧DenN H k u∧DenNs H r us
end
theorem DenN.mono {H H':Hp} (kp:∀ a xs,H a = some (.tup xs)→H' a = some (.tup xs)):∀ (n:Nat) (x:NK) (v:V),x.dep≤n→DenN H x v→DenN H' x v:=by
 intro n
 induction n with
 | zero =>
  intro x v hd hx
  cases x with
  | int i=>rw [DenN] at hx ⊢; exact hx
  | tup l=>rw [NK.dep] at hd; omega
 | succ n ih =>
  intro x v hd hx
  cases x with
  | int i=>rw [DenN] at hx ⊢; exact hx
  | tup l =>
   rw [NK.dep] at hd
   rw [DenN] at hx ⊢
   obtain⟨a,its,rfl,ht,hi⟩:=hx
   refine⟨a,its,rfl,kp _ _ ht,?_⟩
   have key:∀ (l:List NK) (vs:List V),NK.depL l≤n→DenNs H l vs→DenNs H' l vs:=by
    intro l
    induction l with
    | nil=>intro vs _ h1; rw [DenNs] at h1 ⊢; exact h1
    | cons k r ihl =>
     intro vs hd h1
     rw [NK.depL] at hd
     rw [DenNs] at h1 ⊢
     obtain⟨u,us,rfl,hu,hr⟩:=h1
     exact⟨u,us,rfl,ih k u (by omega) hu,ihl us (by omega) hr⟩
   exact key l its (by omega) hi
theorem isN_of {X:Cx} {pins:List (Addr × Obj)} {σ:St} {H:Hp} {s:Shared} (I:Inv X pins σ H s):∀ (n:Nat) (x:NK) (v:V) (u:Value),x.dep≤n→DenN H x v→RelV v u→IsN s.heap x u:=by
 intro n
 induction n with
 | zero =>
  intro x v u hd hx ru
  cases x with
  | int i=>rw [DenN] at hx; subst hx; rw [IsN]; exact ru
  | tup l=>rw [NK.dep] at hd; omega
 | succ n ih =>
  intro x v u hd hx ru
  cases x with
  | int i=>rw [DenN] at hx; subst hx; rw [IsN]; exact ru
  | tup l =>
   rw [NK.dep] at hd
   rw [DenN] at hx
   rw [IsN]
   obtain⟨a,xs,rfl,ht,hi⟩:=hx
   cases ru
   obtain⟨its,r,p,_⟩:=I.tuple (SqT.of ht)
   refine⟨a,its,rfl,p,?_⟩
   have key:∀ (l:List NK) (vs:List V) (us:List Value),NK.depL l≤n→DenNs H l vs→Vals vs us→IsNs s.heap l us:=by
    intro l
    induction l with
    | nil=>intro vs us _ h1 r; rw [DenNs] at h1; subst h1; rw [IsNs]; cases r; rfl
    | cons k q ihl =>
     intro vs us hd h1 r
     rw [NK.depL] at hd
     rw [DenNs] at h1
     rw [IsNs]
     obtain⟨u,ws,rfl,hu,hr⟩:=h1
     cases r with
     | @cons _ b _ bs h t=>exact⟨b,bs,rfl,ih k u b (by omega) hu h,ihl ws bs (by omega) hr t⟩
   exact key l xs its (by omega) hi r
def PhiN (d:Addr) (xs:List (NK × Addr × Value)):Heap→Prop:=fun h=>∃ o es ep,h.get? d = some o∧o.ExactDict∧o.data = .dict es ep∧es.toList = xs.map fun x=>({ hash:=x.1.hash,key:=.ref x.2.1,val:=x.2.2 }:DictEntry)
theorem phi_ok {P:Program} {w:World} {H:Hp} {h:Heap} {d:Addr} {xs:List (NK × Addr × Value)} (p:PhiN d xs h):ObjOk P w H h d (.ext (PhiN d xs)):=by
 refine⟨p,?_,fun h1 h2 q k=>?_⟩
 ·obtain⟨o,_,_,e,_⟩:=p; exact⟨o,e⟩
 ·obtain⟨o,es,ep,e,r⟩:=q; exact⟨o,es,ep,k o e,r⟩
structure DNx (H:Hp) (d:Addr) (kvs:List (NK × Addr × V)):Prop where
 ex:∃ xs,H d = some (.ext (PhiN d xs))∧xs.map (fun x=>(x.1,x.2.1)) = kvs.map (fun q=>(q.1,q.2.1))∧Vals (kvs.map (·.2.2)) (xs.map (·.2.2))
 ks:∀ q∈kvs,q.1.dep≤7∧DenN H q.1 (.ref q.2.1)
 nd:(kvs.map (·.1)).Nodup
 sz:kvs.length≤sizeLine
 sm:(d == sysModules) = false
theorem dn_of {X:Cx} {pins:List (Addr × Obj)} {σ:St} {H:Hp} {s:Shared} {d:Addr} {kvs:List (NK × Addr × V)} (I:Inv X pins σ H s) (D:DNx H d kvs) :
  ∃ xs,H d = some (.ext (PhiN d xs))∧xs.map (fun x=>(x.1,x.2.1)) = kvs.map (fun q=>(q.1,q.2.1))∧Vals (kvs.map (·.2.2)) (xs.map (·.2.2))∧s.heap.DictOfH (nKind X.prog X.w) d xs:=by
 obtain⟨xs,e,hk,hv⟩:=D.ex
 refine⟨xs,e,hk,hv,?_⟩
 obtain⟨⟨o,es,ep,h1,h2,h3,h4⟩,_,_⟩:=(show ObjOk X.prog X.w H s.heap d (.ext (PhiN d xs)) from I.hok d _ e)
 refine⟨o,es,ep,h1,h2,h3,h4,fun x hx=>?_,?_⟩
 ·have:(x.1,x.2.1)∈kvs.map (fun q=>(q.1,q.2.1)):=by rw [← hk]; exact List.mem_map.2 ⟨x,hx,rfl⟩
  obtain⟨q,hq,e'⟩:=List.mem_map.1 this
  obtain⟨k1,k2⟩:=D.ks q hq
  injection e' with e1 e2
  rw [e1] at k1 k2
  rw [e2] at k2
  exact⟨k1,isN_of I 7 x.1 _ _ k1 k2 rfl⟩
 ·have:=congrArg (List.map (fun z:NK × Addr=>z.1)) hk
  rw [List.map_map,List.map_map] at this
  have n:=D.nd
  rw [show kvs.map (·.1) = kvs.map ((fun z:NK × Addr=>z.1) ∘ fun q=>(q.1,q.2.1)) from rfl,← this] at n
  exact n
section
variable {X:Cx} {pos:Pos}
def tDNewN:TE:=fun _ H Q=>∀ p H',H p = none→H' = upd H p (.ext (PhiN p []))→DNx H' p []→Q (.ref p) H'
theorem pe_dnewN:PE X (.Dict [] [] pos) tDNewN:=fun pins s σ H Q I h =>
 wpAny_Dict_empty ⟨.ref s.heap.objs.size,_,I.laid (a:=s.heap.objs.size) (o:=.ext (PhiN s.heap.objs.size [])) (t':=s.toks) (fun _ _ q=>Heap.get?_push_of_some _ q) (Nat.le_refl _) (phi_ok ⟨_,#[],0,Heap.get?_push_size _ rfl,⟨rfl,rfl,rfl⟩,rfl,rfl⟩),rfl,
  h _ _ (I.hok.fresh (Nat.le_refl _)) rfl ⟨⟨[],upd_same,rfl,.nil⟩,(fun q hq=>by cases hq),List.nodup_nil,Nat.zero_le _,beq_eq_false_iff_ne.mpr (Ne.symm (Nat.ne_of_lt I.big))⟩⟩
theorem atKey_some {xs:List (NK × Addr × Value)} {k:NK}:(atKey xs k).isSome = decide (k∈xs.map (·.1)):=by
 unfold atKey
 rw [Option.isSome_map]
 by_cases h:k∈xs.map (·.1)
 ·rw [decide_eq_true h]
  obtain⟨x,hx,rfl⟩:=List.mem_map.1 h
  exact List.find?_isSome.2 ⟨x,hx,decide_eq_true rfl⟩
 ·rw [decide_eq_false h]
  cases e:xs.find? (fun x=>decide (x.1 = k)) with
  | none=>rfl
  | some x =>
   have e2:=List.find?_some e
   exact (h (List.mem_map.2 ⟨x,List.mem_of_find?_eq_some e,of_decide_eq_true e2⟩)).elim
def rInN:R2:=fun x y H Q=>∃ b d k kvs,x = .ref b∧y = .ref d∧k.dep≤7∧DenN H k (.ref b)∧DNx H d kvs∧Q (.bl (decide (k∈kvs.map (·.1)))) H
theorem op_inN {r:Nat} (hr:Room r X.A):OpR X (compareOp .In) rInN:=by
 intro pins s σ H x y v u Q I rx ry h
 obtain⟨b,d,k,kvs,rfl,rfl,hk,hb,D,q⟩:=h
 cases rx
 cases ry
 obtain⟨xs,e,hks,hv,dd⟩:=dn_of I D
 refine wpAny_in_heap (knd:=nKind X.prog X.w) (by show X.A.units + 1 + 8 < cLine; have:=hr.units; omega) ⟨hk,isN_of I 7 k _ _ hk hb rfl⟩ D.sm dd ?_
 have hkk:xs.map (·.1) = kvs.map (·.1):=by
  have:=congrArg (List.map (fun z:NK × Addr=>z.1)) hks
  rw [List.map_map,List.map_map] at this
  exact this
 rw [atKey_some,hkk]
 exact⟨.bl _,H,I.tok _,rfl,q⟩
theorem keys_eq {xs:List (NK × Addr × Value)} {kvs:List (NK × Addr × V)} (h:xs.map (fun x=>(x.1,x.2.1)) = kvs.map (fun q=>(q.1,q.2.1))):xs.map (·.1) = kvs.map (·.1):=by
 have:=congrArg (List.map (fun z:NK × Addr=>z.1)) h
 rw [List.map_map,List.map_map] at this
 exact this
end
theorem DNx.sub {H H':Hp} {d:Addr} {kvs:List (NK × Addr × V)} (S:Sub H H') (h:DNx H d kvs):DNx H' d kvs :=
 ⟨h.ex.imp fun _ z=>⟨S _ _ z.1,z.2⟩,fun q hq=>⟨(h.ks q hq).1,DenN.mono (fun _ _ e=>S _ _ e) 7 _ _ (h.ks q hq).1 (h.ks q hq).2⟩,h.nd,h.sz,h.sm⟩
end L2
end
section
set_option autoImplicit true
open PySem
namespace L2
end L2
end
section
set_option autoImplicit true
open PySem PySem.Spec PyProof.Rows
namespace L2
variable {X:Cx}
def tCut (t u:TS):TS:=fun D σ H=>∃ R:St→Hp→Prop,t { D with nx:=R } σ H∧∀ σ' H',R σ' H'→u D σ' H'
theorem pss_cut {st:Stmt} {rest:List Stmt} {t u:TS} (h1:PS X st t) (h2:PSs X rest u):PSs X (st :: rest) (tCut t u):=by
 intro pins s σ H D I ⟨R,h,hR⟩
 refine wpAny_execs_cons (thn (h1 pins s σ H { D with nx:=R } I h) fun f s1 q=>?_)
 cases f with
 | next =>
  obtain⟨σ',H',I',q⟩:=q
  exact h2 pins s1 σ' H' D I' (hR _ _ q)
 | ret v=>exact q
 | brk=>exact q
 | cont=>exact q
def tECut (t:TE):TE:=fun σ H Q=>∃ R:VK,t σ H R∧∀ v H',R v H'→Q v H'
theorem pe_cut {e:Expr} {t:TE} (h:PE X e t):PE X e (tECut t):=fun pins s σ H _ I ⟨R,h1,h2⟩ =>
 thn (h pins s σ H R I h1) fun _ _ ⟨v,H',I',r,q⟩=>⟨v,H',I',r,h2 _ _ q⟩
end L2
end
section
set_option Elab.async false
set_option linter.all false
set_option maxRecDepth 100000
set_option maxHeartbeats 4000000
namespace L2
open PySem PySem.Spec PyProof.Rows PySem.W
section
variable {prog:Program} {w:World} {A:Around} {E:Value→Shared→Prop} {s:Shared}
end
section
variable {prog:Program} {w:World} {A:Around} {s:Shared} {R:Result→Shared→Prop} {its:Array Value}
end
section
variable {prog:Program} {w:World} {A:Around} {E:Value→Shared→Prop} {s:Shared} {its:Array Value}
end
section
variable {prog:Program} {w:World} {A:Around} {E:Value→Shared→Prop} {s:Shared}
end
section
variable {X:Cx} {K:PySem.W.Frag}
end
end L2
end
section
set_option autoImplicit true
set_option linter.all false
open PySem
namespace L2
def cod:List Int→Nat
 | []=>0
 | s :: r=>s.toNat + 4 * cod r
theorem cod_lt:∀ {l:List Int},(∀ s∈l,0≤s∧s < 4)→cod l < 4 ^ l.length
 | [],_=>by simp [cod]
 | s :: l,h=>by
  have h1:=h s (by simp)
  have h2:=cod_lt (l:=l) fun q hq=>h q (by simp [hq])
  rw [cod,List.length_cons,Nat.pow_succ]
  omega
theorem cod_inj:∀ {l l':List Int},(∀ s∈l,0≤s∧s < 4)→(∀ s∈l',0≤s∧s < 4)→l.length = l'.length→cod l = cod l'→l = l'
 | [],[],_,_,_,_=>rfl
 | [],_ :: _,_,_,h,_=>by simp at h
 | _ :: _,[],_,_,h,_=>by simp at h
 | s :: l,s' :: l',h,h',hl,e=>by
  have h1:=h s (by simp)
  have h2:=h' s' (by simp)
  rw [cod,cod] at e
  have e1:s.toNat = s'.toNat:=by omega
  have e2:cod l = cod l':=by omega
  rw [cod_inj (fun q hq=>h q (by simp [hq])) (fun q hq=>h' q (by simp [hq])) (by simpa using hl) e2,show s = s' by omega]
theorem pig:∀ (n:Nat) (l:List Nat),l.Nodup→(∀ x∈l,x < n)→l.length≤n
 | 0,[],_,_=>Nat.le_refl _
 | 0,x :: _,_,h=>absurd (h x (by simp)) (Nat.not_lt_zero _)
 | n + 1,l,nd,h=>by
  by_cases c:n∈l
  ·have:=pig n (l.erase n) (nd.erase n) fun x hx=>by
    have h1:=h x (List.mem_of_mem_erase hx)
    have h2:x≠n:=fun e=>by
     rw [e] at hx
     exact (List.Nodup.mem_erase_iff nd).1 hx |>.1 rfl
    omega
   rw [List.length_erase_of_mem c] at this
   omega
  ·have:=pig n l nd fun x hx=>by
    have h1:=h x hx
    have h2:x≠n:=fun e=>c (e ▸ hx)
    omega
   omega
theorem depL_ints:∀ A:List Int,NK.depL (A.map NK.int)≤0
 | []=>by rw [List.map_nil,NK.depL]; omega
 | q :: A=>by
  rw [List.map_cons,NK.depL]
  have:=depL_ints A
  simp only [NK.dep]
  omega
theorem denN_ints {H:Hp}:∀ {ns:List Int},DenNs H (ns.map NK.int) (ns.map V.int)
 | []=>by rw [List.map_nil,List.map_nil,DenNs]
 | n :: ns=>by
  rw [List.map_cons,List.map_cons,DenNs]
  exact⟨_,_,rfl,by rw [DenN],denN_ints⟩
theorem DNx.keep {H H':Hp} {d:Addr} {kvs:List (NK × Addr × V)} (hd:∀ u,H d = some u→H' d = some u) (kp:∀ a xs,H a = some (.tup xs)→H' a = some (.tup xs)) (h:DNx H d kvs):DNx H' d kvs :=
 ⟨h.ex.imp fun _ z=>⟨hd _ z.1,z.2⟩,fun q hq=>⟨(h.ks q hq).1,DenN.mono kp 7 _ _ (h.ks q hq).1 (h.ks q hq).2⟩,h.nd,h.sz,h.sm⟩
theorem dep_ints (b:List Int):dep (.tup (b.map DD.int))≤2:=by
 rw [dep]
 have:depL (b.map DD.int)≤0:=depL_leK fun d hd=>by
  obtain⟨n,_,rfl⟩:=List.mem_map.1 hd
  exact Nat.le_refl 0
 omega
end L2
end
section
set_option autoImplicit true
set_option linter.all false
open PySem
namespace L2
end L2
end
section
set_option autoImplicit false
set_option linter.all false
open PySem PySem.Spec PyProof.Rows
namespace L2
section
variable {Y:Cx} {e tg iter:Expr} {d:Nat} {ifs:List Expr} {emit:Env→Addr→Sem Unit} {wi:TI} {g:TG} {tc:TT} {tm:TM}
end
section
variable {X:Cx} {sc:Scope} {own:List Str} {fr:List Nat} {elt tg iter tg2 iter2 tg3 iter3:Expr} {ifs ifs2 ifs3:List Expr} {wi wi2 wi3:TI} {g g2 g3:TG} {tc tc2 tc3:TT} {te:TE} {pos:Pos}
end
end L2
end
section
set_option Elab.async false
set_option linter.all false
set_option maxRecDepth 100000
set_option maxHeartbeats 4000000
namespace L2
open PySem PySem.Spec PyProof.Rows PySem.W
section
variable {X:Cx}
end
section
variable {prog:Program} {w:World} {A:Around} {E:Value→Shared→Prop} {s:Shared}
end
section
variable {X:Cx} {K:PySem.W.Frag}
end
section
variable {K:PySem.W.Frag} {a:Addr} {xs:List V} {g:TG} {tc:TT} {tm:TM} {σ:St} {H:Hp} {p:Addr} {Q:Hp→Prop}
end
end L2
end
section
set_option Elab.async false
set_option linter.all false
set_option maxRecDepth 100000
set_option maxHeartbeats 4000000
namespace L2
open PySem PySem.Spec PyProof.Rows PySem.W
def RawD (h:Heap) (d:Addr) (es:Array DictEntry) (ep:Nat):Prop:=∃ o,h.get? d = some o∧o.ExactDict∧o.data = .dict es ep
theorem RawD.at {h h1:Heap} {d:Addr} {es:Array DictEntry} {ep:Nat} (x:RawD h d es ep) (k:∀ o,h.get? d = some o→h1.get? d = some o):RawD h1 d es ep:=let ⟨o,e,r⟩:=x; ⟨o,k o e,r⟩
section
variable {prog:Program} {w:World} {A:Around} {E:Value→Shared→Prop} {s:Shared} {es:Array DictEntry} {ep:Nat}
theorem RawD.ty {d:Addr} (x:RawD s.heap d es ep):s.TypeIs (.ref d) "dict":=let ⟨o,e,c,_⟩:=x; ⟨o,e,c.1⟩
theorem raw_iter {d:Addr} {Q:Value→Shared→Prop} (hd:(d == sysModules) = false) (hm:RawD s.heap d es ep) (q:Q (.ref s.heap.objs.size) { s with heap:=s.heap.push { cls:=.type "dict_keyiterator",data:=.fields #[.ref d,.int 0 0,.int es.size 0,.int ep 0] } }) :
  wpAny (model prog w) A (pyIter (.ref d)) Q E s:=by
 have hT:=hm.ty
 obtain⟨o,ho,hc,hdat⟩:=id hm
 refine wpAny_pyIter_slot hT F.slot_dict_iter (wpAny_call_entry F.slot_dict_iter hT F.entry_dict_iter ?_ (F.args_dict_iter_1 _))
 unfold Builtin.«dict.__iter__» Builtin.Dict.dictSlotNone
 refine wpAny_bind (wpAny_bind (wpAny_notOrdered_dict hT ?_))
 show wpAny (model prog w) _ (pure (Value.ref d)) _ _ s
 refine wpAny_pure ?_
 show wpAny (model prog w) _ (Builtin.Dict.showsAll d >>= _) _ _ s
 unfold Builtin.Dict.showsAll
 rw [hd]
 refine wpAny_bind (wpAny_pure (wpAny_bind (wpAny_dictEntries ho hdat (wpAny_bind (wpAny_dictEpoch ho hdat ?_)))))
 exact wpAny_bind (wpAny_newObj_type (wpAny_pure ⟨_,rfl,"dict_keyiterator",_,⟨_,Heap.get?_push_size _ rfl,rfl⟩,F.slot_dict_keyiterator_next.lookup,by simpa [rawInt] using q⟩))
theorem raw_item {j d:Addr} {i:Nat} {x:DictEntry} {Q:Option Value→Shared→Prop} (hit:s.heap.IsKeyIter j d i es.size ep) (hm:RawD s.heap d es ep) (hx:es[i]? = some x) (q:∀ h1,h1.IsKeyIter j d (i + 1) es.size ep→Heap.SameBut j s.heap h1→Q (some x.key) { s with heap:=h1 }) :
  wpAny (model prog w) A (pyNext (.ref j)) Q E s:=by
 obtain⟨o,ho,hc,hd⟩:=id hit
 obtain⟨od,hod,hcd,hdd⟩:=id hm
 unfold pyNext
 refine wpAny_bind (wpAny_attempt (wpAny_callSpecial?_slot (name:=Str.ofString "__next__") hit.typeIs F.slot_dict_keyiterator_next (wpAny_call_entry F.slot_dict_keyiterator_next hit.typeIs F.entry_dict_keyiterator_next ?_ (F.args_dict_keyiterator_next_1 _))))
 refine wpAny_bind (wpAny_pure (wpAny_bind (wpAny_bind ?_)))
 first | refine wpAny_bind (wpAny_typeNameOfWhole_keyiter hit.typeIs (wpAny_pure (wpAny_bind (wpAny_fieldsOf ho hd ?_)))) | refine wpAny_bind (wpAny_typeNameOf_keyiter hit.typeIs (wpAny_pure (wpAny_bind (wpAny_fieldsOf ho hd ?_))))
 simp only [show Builtin.Dict_items.ownsTuple "dict_keyiterator" = false from by decide,Bool.false_eq_true,if_false]
 show wpAny _ _ (if (Value.ref d == Value.none) = true then _ else _) _ _ s
 rw [if_neg (by intro z; exact Bool.false_ne_true z)]
 refine wpAny_bind (wpAny_pure (wpAny_bind (wpAny_dictEntries hod hdd ?_)))
 rw [if_neg (by simp)]
 refine wpAny_bind (wpAny_pure (wpAny_bind (wpAny_dictEpoch hod hdd ?_)))
 rw [if_neg (by simp)]
 refine wpAny_pure ?_
 have hlt:i < es.size:=(Array.getElem?_eq_some_iff.1 hx).1
 have hxe:es[i] = x:=(Array.getElem?_eq_some_iff.1 hx).2
 simp only [show ¬ ((i:Int) < 0) from by omega,if_false,Int.toNat_natCast,Array.getElem?_eq_getElem hlt]
 refine wpAny_bind ?_
 first | refine wpAny_bind (wpAny_typeNameOfWhole_keyiter hit.typeIs (wpAny_pure (wpAny_bind (wpAny_isOneOf_keyiter hit.typeIs ?_)))) | refine wpAny_bind (wpAny_typeNameOf_keyiter hit.typeIs (wpAny_pure (wpAny_bind (wpAny_isOneOf_keyiter hit.typeIs ?_))))
 show wpAny _ _ (setField (.ref j) 1 (rawInt ((i:Int) + 1)) >>= _) _ _ s
 refine wpAny_bind (wpAny_setField ho hd (by simp) ?_)
 have hit1:(s.heap.update j (Obj.mapFields (·.setIfInBounds 1 (rawInt ((i:Int) + 1))))).IsKeyIter j d (i + 1) es.size ep :=
  ⟨_,Heap.get?_update_self _ ho (Obj.isFreed_of_fields (Obj.data_mapFields hd _)),(Obj.cls_mapFields ..).trans hc,by rw [Obj.data_mapFields hd]; simp [rawInt]⟩
 refine wpAny_bind (wpAny_holding (wpAny_bind (wpAny_isOneOf_keyiter (s:={ s with heap:=s.heap.update j (Obj.mapFields (·.setIfInBounds 1 (rawInt ((i:Int) + 1)))) }) hit1.typeIs ?_)))
 show wpAny (model prog w) _ (pure es[i].key) _ _ _
 rw [hxe]
 exact wpAny_pure (wpAny_pure ⟨_,rfl,wpAny_pure (q _ hit1 (Heap.SameBut.update ..))⟩)
theorem raw_end {j d:Addr} {i:Nat} {Q:Option Value→Shared→Prop} (hh:A.handled = none) (hit:s.heap.IsKeyIter j d i es.size ep) (hm:RawD s.heap d es ep) (hx:es.size≤i) (q:∀ h1,Heap.ExtBut j s.heap h1→Q none { s with heap:=h1 }) :
  wpAny (model prog w) A (pyNext (.ref j)) Q E s:=by
 obtain⟨o,ho,hc,hd⟩:=id hit
 obtain⟨od,hod,hcd,hdd⟩:=id hm
 unfold pyNext
 refine wpAny_bind (wpAny_attempt (wpAny_callSpecial?_slot (name:=Str.ofString "__next__") hit.typeIs F.slot_dict_keyiterator_next (wpAny_call_entry F.slot_dict_keyiterator_next hit.typeIs F.entry_dict_keyiterator_next ?_ (F.args_dict_keyiterator_next_1 _))))
 refine wpAny_bind (wpAny_pure (wpAny_bind (wpAny_bind ?_)))
 first | refine wpAny_bind (wpAny_typeNameOfWhole_keyiter hit.typeIs (wpAny_pure (wpAny_bind (wpAny_fieldsOf ho hd ?_)))) | refine wpAny_bind (wpAny_typeNameOf_keyiter hit.typeIs (wpAny_pure (wpAny_bind (wpAny_fieldsOf ho hd ?_))))
 simp only [show Builtin.Dict_items.ownsTuple "dict_keyiterator" = false from by decide,Bool.false_eq_true,if_false]
 show wpAny _ _ (if (Value.ref d == Value.none) = true then _ else _) _ _ s
 rw [if_neg (by intro z; exact Bool.false_ne_true z)]
 refine wpAny_bind (wpAny_pure (wpAny_bind (wpAny_dictEntries hod hdd ?_)))
 rw [if_neg (by simp)]
 refine wpAny_bind (wpAny_pure (wpAny_bind (wpAny_dictEpoch hod hdd ?_)))
 rw [if_neg (by simp)]
 refine wpAny_pure ?_
 simp only [show ¬ ((i:Int) < 0) from by omega,if_false,Int.toNat_natCast,Array.getElem?_eq_none hx]
 refine wpAny_bind ?_
 first | refine wpAny_bind (wpAny_typeNameOfWhole_keyiter hit.typeIs (wpAny_pure ?_)) | refine wpAny_bind (wpAny_typeNameOf_keyiter hit.typeIs (wpAny_pure ?_))
 show wpAny _ _ (setField (.ref j) 0 .none >>= _) _ _ s
 refine wpAny_bind (wpAny_setField ho hd (by simp) ?_)
 show wpAny (model prog w) _ (newExc (.type "StopIteration") [] >>= _) _ _ _
 refine wpAny_bind ?_
 simp only [newExc,newTuple]
 refine wpAny_bind (wpAny_newObj_type (?_:_) (by size_fits))
 refine wpAny_bind (m:=firstArgMember _ _) (wpAny_of_eq (a:=Value.none) (by first | rfl | (with_unfolding_all rfl)) ?_)
 refine wpAny_newObj_type (?_:_) (by size_fits)
 simp only [raiseNew]
 refine wpAny_bind (wpAny_handled ?_)
 first | rw [show A.in1.handled = none from hh] | rw [hh]
 refine wpAny_bind (wpAny_pure (wpAny_throw ?_))
 refine wpAny_bind (wpAny_isInstance (b:=true) (T:="StopIteration") ⟨_,Heap.get?_push_size _ rfl,rfl⟩ isSubtype_stop ?_)
 exact wpAny_pure (q _ (((Heap.SameBut.update ..).extBut.push _).push _))
theorem raw_walks (hh:A.handled = none) (I d:Addr) (hne:d≠I):Walks prog w A I [I,d] [I] es.size (fun i v=>∃ x,es[i]? = some x∧x.key = v) (fun i h=>h.IsKeyIter I d i es.size ep∧RawD h d es ep) where
 sub:=fun b hb=>by simp at hb; simp [hb]
 frame:=fun _ _ _ st hk=>⟨let ⟨o,e,r⟩:=st.1; ⟨o,hk I (by simp) o e,r⟩,st.2.at fun o e=>hk d (by simp) o e⟩
 item:=fun i s Q E hi st hQ=>raw_item st.1 st.2 (x:=es[i]) (by simp [hi]) fun h1 hit1 hs1=>hQ _ h1 s.toks ⟨es[i],by simp [hi],rfl⟩ ⟨hit1,st.2.at fun o e=>hs1.extBut d o hne e⟩ fun b o hb e=>hs1.extBut b o (fun z=>hb (by simp [z])) e
 done:=fun s Q E st hQ=>raw_end hh st.1 st.2 (Nat.le_refl _) fun h1 he=>hQ h1 s.toks fun b o hb e=>he b o (fun z=>hb (by simp [z])) e
 self:=fun _ _ _ _ st hQ=>wpAny_pyIter_keyiter st.1 hQ
theorem kdl_raw {d:Addr} (lo:(d == sysModules) = false):KdlSrc prog w "dict" d d es.size (fun i v=>∃ x,es[i]? = some x∧x.key = v) (fun h=>RawD h d es ep) where
 type:=fun _ hm=>hm.ty
 there:=fun h hm=>let ⟨o,e,_⟩:=hm; ⟨Heap.lt_size e,Heap.lt_size e⟩
 keep:=fun _ _ hm hk=>hm.at fun o e=>hk d (.inl rfl) o e
 notList:=by decide
 notTuple:=by decide
 hint:=fun _ _ _ _ hm hq=>kdl_hint_dict hm.ty hq
 iter:=fun _ s hh hm=>⟨_,_,(fun _ _ hq=>raw_iter lo hm hq),raw_walks hh _ d (by obtain⟨o,e,_⟩:=hm; exact Nat.ne_of_lt (Heap.lt_size e)),⟨⟨_,Heap.get?_push_size _ rfl,rfl,rfl⟩,hm.at fun o e=>Heap.get?_push_of_some _ e⟩⟩
end
section
variable {X:Cx} {pos:Pos}
def cListN:List V→Hp→VK→Prop:=fun xs H Q=>match xs with
 | [.ref d]=>∃ kvs:List (NK × Addr × V),DNx H d kvs∧∀ p,H p = none→Q (.ref p) (upd H p (.lst (kvs.map fun q=>V.ref q.2.1)))
 | _=>False
theorem q_listN (hc:X.calm = true):CallR X (.type "list") cListN:=by
 intro pins s σ H xs us Q I r h
 unfold cListN at h
 split at h
 ·rename_i d
  obtain⟨kvs,D,q⟩:=h
  cases r with
  | cons r rr =>
  cases rr
  cases r
  obtain⟨xs,e,hks,hv,dd⟩:=dn_of I D
  obtain⟨o,es,ep,g1,g2,g3,g4,_⟩:=id dd
  have hraw:RawD s.heap d es ep:=⟨o,g1,g2,g3⟩
  have hxl:xs.length = kvs.length:=by have:=congrArg List.length hks; simpa using this
  have hel:es.size = kvs.length:=by rw [← Array.length_toList,g4,List.length_map,hxl]
  refine kdl_call (kdl_raw D.sm) (I.ok.hd hc) hraw (by rw [hel]; exact D.sz) fun h' tk acc c hk hg hi=>?_
  refine⟨.ref s.heap.objs.size,_,I.laid (a:=s.heap.objs.size) (o:=.lst (kvs.map fun q=>V.ref q.2.1)) (t':=tk) hk (Nat.le_refl _) ⟨by rw [List.length_map]; exact D.sz,acc.toList,c,?_,by simpa using hg⟩,rfl,q _ (I.hok.fresh (Nat.le_refl _))⟩
  refine vals_at (by rw [List.length_map,← hel,← hi.1,Array.length_toList]) fun i x u hx hu=>?_
  rw [Array.getElem?_toList] at hu
  obtain⟨y,hy,hyu⟩:=hi.2 i u hu
  rw [← Array.getElem?_toList,g4,List.getElem?_map] at hy
  obtain⟨z,hz,rfl⟩:=Option.map_eq_some_iff.1 hy
  rw [List.getElem?_map] at hx
  obtain⟨qv,hq,rfl⟩:=Option.map_eq_some_iff.1 hx
  have:=congrArg (fun l=>l[i]?) hks
  simp only [List.getElem?_map,hz,hq,Option.map_some] at this
  injection this with this
  injection this with _ this
  subst hyu
  show Value.ref z.2.1 = Value.ref qv.2.1
  rw [this]
 ·exact h.elim
noncomputable def kPut (kvs:List (NK × Addr × V)) (k:NK) (b:Addr) (v:V):List (NK × Addr × V):=if k∈kvs.map (·.1) then kvs.map (fun q=>if q.1 = k then (q.1,q.2.1,v) else q) else kvs ++ [(k,b,v)]
def sPutA (td ty tv:TE):TS:=fun D σ H=>tv σ H fun v H1=>td σ H1 fun x H2=>ty σ H2 fun y H3=>∃ d b k kvs,x = .ref d∧y = .ref b∧k.dep≤7∧DenN H3 k (.ref b)∧DNx H3 d kvs∧kvs.length < sizeLine ∧
 ∀ H4:Hp,(∀ c u,H3 c = some u→c≠d→H4 c = some u)→(∀ c,H3 c = none→H4 c = none)→DNx H4 d (kPut kvs k b v)→D.nx σ H4
theorem ps_dputA {r:Nat} {o i value:Expr} {td ty tv:TE} {pos':Pos} (hr:Room r X.A) (ho:PE X o td) (hi:PE X i ty) (hv:PE X value tv) (hs:swapsWith value (some (.Subscript o i pos')) pos.line X.env = pure false) :
  PS X (.Assign [.Subscript o i pos'] value pos) (sPutA td ty tv):=by
 intro pins s σ H D I h
 refine wpAny_Assign_Subscript (thn (hv pins s σ H _ I h) fun rr s1 ⟨v,H1,I1,rv,q1⟩=>thn (ho pins s1 σ H1 _ I1 q1) fun u s2 ⟨x,H2,I2,rx,q2⟩=>thn (hi pins s2 σ H2 _ I2 q2) fun iv s3 ⟨y,H3,I3,ry,d,b,k,kvs,ex,ey,hk,hb,DD,hl,q3⟩=>?_) hs
 subst ex
 subst ey
 obtain rfl:u = Value.ref d:=rx
 obtain rfl:iv = Value.ref b:=ry
 obtain⟨xs,e,hks,hvv,dd⟩:=dn_of I3 DD
 have hxl:xs.length = kvs.length:=by have:=congrArg List.length hks; simpa using this
 have hkk:=keys_eq hks
 refine wpAny_setItem_heap (knd:=nKind X.prog X.w) (by show X.A.units + 1 + 8 < cLine; have:=hr.units; omega) ⟨hk,isN_of I3 7 k _ _ hk hb rfl⟩ dd (fun h' dd' hsb=>?_) (by omega)
 obtain⟨o',es,ep,g1,g2,g3,g4,g5,g6⟩:=dd'
 have new:ObjOk X.prog X.w (upd H3 d (.ext (PhiN d (storedH xs k b rr)))) h' d (.ext (PhiN d (storedH xs k b rr))):=phi_ok ⟨o',es,ep,g1,g2,g3,g4⟩
 have I4:=d_write (t':=s3.toks + (nKind X.prog X.w).draws k) I3 (by rw [e]; exact True.intro) hsb ⟨o',g1⟩ new
 refine⟨σ,_,I4,q3 _ (fun c u' ec ne=>by rw [upd_ne ne]; exact ec) (fun c ec=>by rw [upd_ne (by rintro rfl; rw [e] at ec; cases ec)]; exact ec) ?_⟩
 have kp:∀ a xs',H3 a = some (.tup xs')→(upd H3 d (.ext (PhiN d (storedH xs k b rr)))) a = some (.tup xs'):=fun a xs' ea=>by rw [upd_ne (by rintro rfl; rw [e] at ea; cases ea)]; exact ea
 unfold kPut
 by_cases hn:k∈kvs.map (·.1)
 ·have hst:storedH xs k b rr = xs.map (putAt k rr):=by
   unfold storedH
   rw [atKey_some,hkk,if_pos (decide_eq_true hn)]
  rw [if_pos hn]
  rw [hst] at kp ⊢
  refine⟨⟨_,upd_same,?_,?_⟩,fun q hq=>?_,?_,by rw [List.length_map]; exact DD.sz,DD.sm⟩
  ·rw [List.map_map,List.map_map]
   have e1:xs.map ((fun x:NK × Addr × Value=>(x.1,x.2.1)) ∘ putAt k rr) = xs.map (fun x=>(x.1,x.2.1)):=List.map_congr_left fun x _=>by
    show ((putAt k rr x).1,(putAt k rr x).2.1) = _
    unfold putAt
    split <;> rfl
   have e2:kvs.map ((fun q:NK × Addr × V=>(q.1,q.2.1)) ∘ fun q=>if q.1 = k then (q.1,q.2.1,v) else q) = kvs.map (fun q=>(q.1,q.2.1)):=List.map_congr_left fun x _=>by
    show ((if x.1 = k then (x.1,x.2.1,v) else x).1,(if x.1 = k then (x.1,x.2.1,v) else x).2.1) = _
    split <;> rfl
   rw [e1,e2,hks]
  ·have key:∀ (xs:List (NK × Addr × Value)) (kvs:List (NK × Addr × V)),xs.map (fun x=>(x.1,x.2.1)) = kvs.map (fun q=>(q.1,q.2.1))→Vals (kvs.map (·.2.2)) (xs.map (·.2.2)) → Vals ((kvs.map fun q=>if q.1 = k then (q.1,q.2.1,v) else q).map (·.2.2)) ((xs.map (putAt k rr)).map (·.2.2)):=by
    intro xs
    induction xs with
    | nil=>intro kvs h1 h2; cases kvs with
     | nil=>exact .nil
     | cons q kvs=>cases h1
    | cons x xs ih=>intro kvs h1 h2; cases kvs with
     | nil=>cases h1
     | cons q kvs =>
      rw [List.map_cons,List.map_cons] at h1
      injection h1 with h3 h4
      injection h3 with h3 _
      rw [List.map_cons,List.map_cons] at h2
      cases h2 with
      | cons r1 r2 =>
      rw [List.map_cons,List.map_cons,List.map_cons,List.map_cons]
      refine .cons ?_ (ih kvs h4 r2)
      unfold putAt
      by_cases c:x.1 = k
      ·rw [if_pos c,if_pos (h3.symm.trans c)]; exact rv
      ·rw [if_neg c,if_neg (fun z=>c (h3.trans z))]; exact r1
   exact key xs kvs hks hvv
  ·obtain⟨q0,hq0,rfl⟩:=List.mem_map.1 hq
   have:=DD.ks q0 hq0
   have e1:(if q0.1 = k then (q0.1,q0.2.1,v) else q0).1 = q0.1:=by split <;> rfl
   have e2:(if q0.1 = k then (q0.1,q0.2.1,v) else q0).2.1 = q0.2.1:=by split <;> rfl
   rw [e1,e2]
   exact⟨this.1,DenN.mono kp 7 _ _ this.1 this.2⟩
  ·rw [List.map_map]
   have e2:kvs.map ((fun q:NK × Addr × V=>q.1) ∘ fun q=>if q.1 = k then (q.1,q.2.1,v) else q) = kvs.map (·.1):=List.map_congr_left fun x _=>by
    show (if x.1 = k then (x.1,x.2.1,v) else x).1 = _
    split <;> rfl
   rw [show (fun q:NK × Addr × V=>q.1) = (·.1) from rfl] at e2
   rw [e2]
   exact DD.nd
 ·have hst:storedH xs k b rr = xs ++ [(k,b,rr)]:=by
   unfold storedH
   rw [atKey_some,hkk,decide_eq_false hn,if_neg Bool.false_ne_true]
  rw [if_neg hn]
  rw [hst] at kp ⊢
  refine⟨⟨_,upd_same,by rw [List.map_append,List.map_append,hks]; rfl,?_⟩,fun q hq=>?_,?_,by rw [List.length_append]; show kvs.length + 1≤_; omega,DD.sm⟩
  ·rw [List.map_append,List.map_append]
   exact hvv.append (.cons rv .nil)
  ·rcases List.mem_append.1 hq with hq | hq
   ·exact⟨(DD.ks q hq).1,DenN.mono kp 7 _ _ (DD.ks q hq).1 (DD.ks q hq).2⟩
   ·simp at hq
    subst hq
    exact⟨hk,DenN.mono kp 7 _ _ hk hb⟩
  ·rw [List.map_append]
   exact List.nodup_append.2 ⟨DD.nd,by simp,fun a ha c hc=>by simp at hc; subst hc; rintro rfl; exact hn ha⟩
def rInNL (neg:Bool):R2:=fun x y H Q=>∃ b p k nks xs,x = .ref b∧y = .ref p∧k.dep≤7∧DenN H k (.ref b)∧H p = some (.lst xs)∧DenNs H nks xs∧NK.depL nks≤7∧Q (.bl (if neg then !decide (k∈nks) else decide (k∈nks))) H
theorem denNs_len {H:Hp}:∀ {l:List NK} {vs:List V},DenNs H l vs→vs.length = l.length
 | [],vs,h=>by rw [DenNs] at h; rw [h]; rfl
 | _ :: l,vs,h=>by rw [DenNs] at h; obtain⟨u,us,rfl,_,h2⟩:=h; rw [List.length_cons,List.length_cons,denNs_len h2]
theorem denNs_at {H:Hp}:∀ {l:List NK} {vs:List V} {i:Nat} {v:V},DenNs H l vs→vs[i]? = some v→∃ k,l[i]? = some k∧DenN H k v
 | [],vs,i,v,h,hv=>by rw [DenNs] at h; rw [h] at hv; simp at hv
 | k :: l,vs,0,v,h,hv=>by rw [DenNs] at h; obtain⟨u,us,rfl,h1,h2⟩:=h; cases hv; exact⟨k,rfl,h1⟩
 | k :: l,vs,i + 1,v,h,hv=>by rw [DenNs] at h; obtain⟨u,us,rfl,h1,h2⟩:=h; exact denNs_at (l:=l) (i:=i) h2 (by simpa using hv)
theorem inNL_ok {r:Nat} (hr:Room r X.A) {pins:List (Addr × Obj)} {σ:St} {H:Hp} {s:Shared} {b p:Addr} {k:NK} {nks:List NK} {xs:List V} (I:Inv X pins σ H s) (hk:k.dep≤7) (hb:DenN H k (.ref b)) (hp:H p = some (.lst xs)) (hA:DenNs H nks xs) (hd:NK.depL nks≤7) :
  ∃ (its:List Value) (f:Value→Bool),s.heap.IsList p its.toArray∧(∀ y,y∈its.toArray→SeqAt.EqAt X.A.in1 s y (.ref b) (f y))∧its.toArray.any f = decide (k∈nks):=by
 obtain⟨its,rv,pl,hz⟩:=I.list (.inl (.inl hp))
 have kb:IsN s.heap k (.ref b):=isN_of I 7 k _ _ hk hb rfl
 have at_:∀ (i:Nat) (u:Value),its[i]? = some u→∃ n,nks[i]? = some n∧n.dep≤7∧IsN s.heap n u:=fun i u hu=>by
  have hil:i < xs.length:=by rw [rv.length]; exact (List.getElem?_eq_some_iff.1 hu).1
  obtain⟨u',hu',ru⟩:=rv.get (List.getElem?_eq_getElem hil)
  rw [hu] at hu'
  cases hu'
  obtain⟨n,hn,hdn⟩:=denNs_at hA (List.getElem?_eq_getElem hil)
  have hn7:=depL_at hd hn
  exact⟨n,hn,hn7,isN_of I 7 n _ _ hn7 hdn ru⟩
 refine⟨its,fun u=>@decide (IsN s.heap k u) (Classical.propDecidable _),pl.isList,fun y hy=>?_,?_⟩
 ·obtain⟨i,hi⟩:=List.getElem?_of_mem (show y∈its by simpa using hy)
  obtain⟨n,hn,hn7,hny⟩:=at_ i y hi
  have:=eq_n (s:=s) 8 n k X.A.in1 y (.ref b) (Nat.le_trans hn7 (by decide)) (by show X.A.units + 1 + 8 < cLine; have:=hr.units; omega) hny kb
  have he:decide (n = k) = @decide (IsN s.heap k y) (Classical.propDecidable _):=by
   by_cases c:n = k
   ·subst c
    rw [decide_eq_true rfl]
    exact (@decide_eq_true _ (Classical.propDecidable _) hny).symm
   ·rw [decide_eq_false c]
    exact (@decide_eq_false _ (Classical.propDecidable _) fun z=>c (isN_inj 7 n k y hn7 hny z)).symm
  show SeqAt.EqAt _ _ _ _ (@decide (IsN s.heap k y) (Classical.propDecidable _))
  rw [← he]
  exact this
 ·rw [List.any_toArray]
  by_cases c:k∈nks
  ·rw [decide_eq_true c,List.any_eq_true]
   obtain⟨i,hi⟩:=List.getElem?_of_mem c
   have hil:i < its.length:=by rw [← rv.length,denNs_len hA]; exact (List.getElem?_eq_some_iff.1 hi).1
   obtain⟨n,hn,_,hny⟩:=at_ i _ (List.getElem?_eq_getElem hil)
   rw [hi] at hn
   cases hn
   exact⟨_,List.getElem_mem hil,@decide_eq_true _ (Classical.propDecidable _) hny⟩
  ·rw [decide_eq_false c,List.any_eq_false]
   intro u hu hz'
   have hz':=@of_decide_eq_true _ (Classical.propDecidable _) hz'
   obtain⟨i,hi⟩:=List.getElem?_of_mem hu
   obtain⟨n,hn,hn7,hny⟩:=at_ i u hi
   have:=isN_inj 7 n k u hn7 hny hz'
   subst this
   exact c (List.mem_of_getElem? hn)
theorem op_inNL {r:Nat} (hr:Room r X.A):OpR X (compareOp .In) (rInNL false):=by
 intro pins s σ H x y v u Q I rx ry h
 obtain⟨b,p,k,nks,xs,rfl,rfl,hk,hb,hp,hA,hd,q⟩:=h
 cases rx
 cases ry
 obtain⟨its,f,h1,h2,h3⟩:=inNL_ok hr I hk hb hp hA hd
 refine SeqAt.in_listAt f h1 h2 ⟨.bl _,H,I,rfl,?_⟩
 rw [h3]
 exact q
theorem op_notInNL {r:Nat} (hr:Room r X.A):OpR X (compareOp .NotIn) (rInNL true):=by
 intro pins s σ H x y v u Q I rx ry h
 obtain⟨b,p,k,nks,xs,rfl,rfl,hk,hb,hp,hA,hd,q⟩:=h
 cases rx
 cases ry
 obtain⟨its,f,h1,h2,h3⟩:=inNL_ok hr I hk hb hp hA hd
 refine SeqAt.notIn_listAt f h1 h2 ⟨.bl _,H,I,rfl,?_⟩
 rw [h3]
 exact q
end
end L2
end
section
set_option Elab.async false
set_option linter.all false
set_option maxRecDepth 100000
set_option maxHeartbeats 4000000
namespace L2
open PySem PySem.Spec PyProof.Rows PySem.W
mutual
noncomputable def ltN:NK→NK→Bool
 | .int i,.int j=>decide (i < j)
 | .int _,.tup _=>true
 | .tup _,.int _=>false
 | .tup l,.tup l'=>ltNs l l'
noncomputable def ltNs:List NK→List NK→Bool
 | [],[]=>false
 | [],_ :: _=>true
 | _ :: _,[]=>false
 | x :: xs,y :: ys=>if x = y then ltNs xs ys else ltN x y
end
mutual
def CmpN:NK→NK→Prop
 | .int _,.int _=>True
 | .int _,.tup _=>False
 | .tup _,.int _=>False
 | .tup l,.tup l'=>CmpNs l l'
def CmpNs:List NK→List NK→Prop
 | [],_=>True
 | _ :: _,[]=>True
 | x :: xs,y :: ys=>CmpN x y∧CmpNs xs ys
end
theorem ltNs_cons (x y:NK) (xs ys:List NK):ltNs (x :: xs) (y :: ys) = if x = y then ltNs xs ys else ltN x y:=by rw [ltNs]
theorem ltN_irr:∀ (n:Nat) (x:NK),x.dep≤n→ltN x x = false:=by
 have lst:∀ (l:List NK),ltNs l l = false:=by
  intro l
  induction l with
  | nil=>rw [ltNs]
  | cons x l ih=>rw [ltNs,if_pos rfl]; exact ih
 intro n x _
 cases x with
 | int i=>rw [ltN]; exact decide_eq_false (Int.lt_irrefl i)
 | tup l=>rw [ltN]; exact lst l
theorem ltN_tri:∀ (n:Nat) (x y:NK),x.dep≤n→x≠y→ltN x y = false→ltN y x = true:=by
 intro n
 induction n with
 | zero =>
  intro x y hd ne h
  cases x with
  | int i =>
   cases y with
   | int j =>
    rw [ltN] at h ⊢
    have:=of_decide_eq_false h
    exact decide_eq_true (by have:i≠j:=(fun e=>ne (by rw [e])); omega)
   | tup l=>rw [ltN] at h; cases h
  | tup l=>rw [NK.dep] at hd; omega
 | succ n ih =>
  intro x y hd ne h
  cases x with
  | int i =>
   cases y with
   | int j =>
    rw [ltN] at h ⊢
    have:=of_decide_eq_false h
    exact decide_eq_true (by have:i≠j:=(fun e=>ne (by rw [e])); omega)
   | tup l=>rw [ltN] at h; cases h
  | tup l =>
   cases y with
   | int j=>rw [ltN]
   | tup l' =>
    rw [NK.dep] at hd
    rw [ltN] at h ⊢
    have key:∀ (l l':List NK),NK.depL l≤n→l≠l'→ltNs l l' = false→ltNs l' l = true:=by
     intro l
     induction l with
     | nil =>
      intro l' _ ne h
      cases l' with
      | nil=>exact (ne rfl).elim
      | cons y ys=>rw [ltNs] at h; cases h
     | cons x xs ihl =>
      intro l' hd ne h
      rw [NK.depL] at hd
      cases l' with
      | nil=>rw [ltNs]
      | cons y ys =>
       rw [ltNs] at h ⊢
       by_cases e:x = y
       ·subst e
        rw [if_pos rfl] at h ⊢
        exact ihl ys (by omega) (fun z=>ne (by rw [z])) h
       ·rw [if_neg e] at h
        rw [if_neg (Ne.symm e)]
        exact ih x y (by omega) e h
    exact key l l' (by omega) (fun z=>ne (by rw [z])) h
theorem ltN_trans:∀ (n:Nat) (x y z:NK),x.dep≤n→ltN x y = true→ltN y z = true→ltN x z = true:=by
 intro n
 induction n with
 | zero =>
  intro x y z hd h1 h2
  cases x with
  | int i =>
   cases z with
   | int k =>
    cases y with
    | int j =>
     rw [ltN] at h1 h2 ⊢
     have:=of_decide_eq_true h1
     have:=of_decide_eq_true h2
     exact decide_eq_true (by omega)
    | tup l=>rw [ltN] at h2; cases h2
   | tup l=>rw [ltN]
  | tup l=>rw [NK.dep] at hd; omega
 | succ n ih =>
  intro x y z hd h1 h2
  cases x with
  | int i =>
   cases z with
   | int k =>
    cases y with
    | int j =>
     rw [ltN] at h1 h2 ⊢
     have:=of_decide_eq_true h1
     have:=of_decide_eq_true h2
     exact decide_eq_true (by omega)
    | tup l=>rw [ltN] at h2; cases h2
   | tup l=>rw [ltN]
  | tup l =>
   cases y with
   | int j=>rw [ltN] at h1; cases h1
   | tup l' =>
    cases z with
    | int k=>rw [ltN] at h2; cases h2
    | tup l'' =>
     rw [NK.dep] at hd
     rw [ltN] at h1 h2 ⊢
     have key:∀ (l l' l'':List NK),NK.depL l≤n→ltNs l l' = true→ltNs l' l'' = true→ltNs l l'' = true:=by
      intro l
      induction l with
      | nil =>
       intro l' l'' _ h1 h2
       cases l'' with
       | nil=>cases l' <;> (rw [ltNs] at h2; cases h2)
       | cons z zs=>rw [ltNs]
      | cons x xs ihl =>
       intro l' l'' hd h1 h2
       rw [NK.depL] at hd
       cases l' with
       | nil=>rw [ltNs] at h1; cases h1
       | cons y ys =>
        cases l'' with
        | nil=>rw [ltNs] at h2; cases h2
        | cons z zs =>
         rw [ltNs] at h1 h2 ⊢
         by_cases e1:x = y
         ·subst e1
          rw [if_pos rfl] at h1
          by_cases e2:x = z
          ·subst e2
           rw [if_pos rfl] at h2 ⊢
           exact ihl ys zs (by omega) h1 h2
          ·rw [if_neg e2] at h2 ⊢
           exact h2
         ·rw [if_neg e1] at h1
          by_cases e2:y = z
          ·subst e2
           rw [if_neg e1]
           exact h1
          ·rw [if_neg e2] at h2
           have h3:=ih x y z (by omega) h1 h2
           rw [if_neg (fun e=>by subst e; rw [ltN_irr n x (by omega)] at h3; cases h3)]
           exact h3
     exact key l l' l'' (by omega) h1 h2
theorem ltN_ne {x y:NK} (h:ltN x y = true):x≠y:=fun e=>by subst e; rw [ltN_irr _ x (Nat.le_refl _)] at h; cases h
theorem ltN_asym {x y:NK} (h:ltN x y = true):ltN y x = false:=by
 cases e:ltN y x with
 | false=>rfl
 | true=>have:=ltN_trans _ x y x (Nat.le_refl _) h e; rw [ltN_irr _ x (Nat.le_refl _)] at this; cases this
theorem srtN_one:∀ {l l':List NK},l.Pairwise (fun a b=>ltN a b = true)→l'.Pairwise (fun a b=>ltN a b = true)→(∀ x,x∈l ↔ x∈l')→l = l'
 | [],[],_,_,_=>rfl
 | [],y :: ys,_,_,h=>by have:=(h y).2 (List.mem_cons_self ..); cases this
 | x :: xs,[],_,_,h=>by have:=(h x).1 (List.mem_cons_self ..); cases this
 | x :: xs,y :: ys,p,q,h=>by
  have p1:=List.pairwise_cons.1 p
  have q1:=List.pairwise_cons.1 q
  have exy:x = y:=by
   rcases List.mem_cons.1 ((h x).1 (List.mem_cons_self ..)) with e | e
   ·exact e
   ·rcases List.mem_cons.1 ((h y).2 (List.mem_cons_self ..)) with e' | e'
    ·exact e'.symm
    ·have a:=ltN_asym (q1.1 x e)
     rw [p1.1 y e'] at a
     cases a
  subst exy
  rw [srtN_one p1.2 q1.2 fun z=>⟨fun hz=>?_,fun hz=>?_⟩]
  ·rcases List.mem_cons.1 ((h z).1 (List.mem_cons_of_mem _ hz)) with e | e
   ·subst e; exact (ltN_ne (p1.1 z hz) rfl).elim
   ·exact e
  ·rcases List.mem_cons.1 ((h z).2 (List.mem_cons_of_mem _ hz)) with e | e
   ·subst e; exact (ltN_ne (q1.1 z hz) rfl).elim
   ·exact e
noncomputable def rank (l:List NK) (x:NK):Nat:=l.countP fun y=>ltN y x
theorem rank_lt {l:List NK} {x y:NK} (hx:x∈l) (h:ltN x y = true):rank l x < rank l y:=by
 unfold rank
 have mono:∀ l:List NK,l.countP (fun z=>ltN z x)≤l.countP fun z=>ltN z y:=fun l=>List.countP_mono_left fun z _ hz=>ltN_trans _ z x y (Nat.le_refl _) hz h
 induction l with
 | nil=>cases hx
 | cons z l ih =>
  rw [List.countP_cons,List.countP_cons]
  rcases List.mem_cons.1 hx with e | hx
  ·subst e
   rw [ltN_irr _ x (Nat.le_refl _),h]
   have:=mono l
   simp
   omega
  ·have:=ih hx
   have:(if ltN z x = true then 1 else 0)≤(if ltN z y = true then 1 else 0):=by
    by_cases c:ltN z x = true
    ·rw [if_pos c,if_pos (ltN_trans _ z x y (Nat.le_refl _) c h)]; exact Nat.le_refl _
    ·rw [if_neg c]; exact Nat.zero_le _
   omega
theorem rank_iff {l:List NK} {x y:NK} (hx:x∈l) (hy:y∈l) (ne:x≠y):ltN x y = decide ((rank l x:Int) < rank l y):=by
 cases e:ltN x y with
 | true=>exact (decide_eq_true (by have:=rank_lt hx e; omega)).symm
 | false =>
  have:=rank_lt hy (ltN_tri _ x y (Nat.le_refl _) ne e)
  exact (decide_eq_false (by omega)).symm
theorem rank_ne {l:List NK} {x y:NK} (hx:x∈l) (hy:y∈l) (ne:x≠y):(rank l x:Int)≠rank l y:=fun z=>by
 cases e:ltN x y with
 | true=>have:=rank_lt hx e; omega
 | false=>have:=rank_lt hy (ltN_tri _ x y (Nat.le_refl _) ne e); omega
def LtAt (A:Around) (s:Shared) (y x:Value) (b:Bool):Prop:=∀ (prog:Program) (w:World) (E:Value→Shared→Prop) (Q:Value→Shared→Prop),Q (.bool b) s→wpAny (model prog w) A (richCompare .Lt y x) Q E s
section
open PySem.SeqAt
open PySem.AutoSeq1 (wpAny_loadPart')
open PySem.MeetsSeq PySem.MeetsSeq2 PySem.MeetsSeq3
theorem tuple_lt_n (l b:Addr) (items items2:List Value) (n n2:Nat) (dd dd2:Option Addr) (sl sl2:Array (Option Value)) (ns ms:List NK) (h1:items.length = ns.length) (h2:items2.length = ms.length) :
  Meets (Builtin.«tuple.__lt__» ⟨[.ref l,.ref b],[]⟩)
   (fun A R s=>s.heap.get? l = some { cls:=.type "tuple",dict:=dd,data:=.seq items.toArray n,slots:=sl }∧s.heap.get? b = some { cls:=.type "tuple",dict:=dd2,data:=.seq items2.toArray n2,slots:=sl2 } ∧
    (∀ (i:Nat) (k j:NK) (p q:Value),ns[i]? = some k→ms[i]? = some j→items[i]? = some p→items2[i]? = some q→EqAt A.in1 s p q (decide (k = j))∧LtAt A.in1 s p q (ltN k j)) ∧
    R (.ok (.ret (.bool (ltNs ns ms)))) s) :=
 .of_wp fun prog w A R s h=>by
  obtain⟨hp,g,d,tk,os⟩:=s; obtain⟨hl,hb,hel,h⟩:=h
  have f2:=AutoSeq1.sub_tuple_tuple
  wp_walk using wpAny_loadPart' hl,wpAny_loadPart' hb,wpAny_forIn_list _ (fun rest b s'=>b.1 = none∧s' = ⟨hp,g,d,tk,os⟩∧∃ i:Nat,(i≤items.length∧i≤items2.length)∧rest = (items.drop i).zip (items2.drop i)∧R (.ok (.ret (.bool (ltNs (ns.drop i) (ms.drop i))))) ⟨hp,g,d,tk,os⟩) _
  case turn =>
   rintro ⟨y,x⟩ rest b s' ⟨hb',rfl,i,hil,hz,hR⟩
   have c1:i < items.length:=by
    refine Classical.byContradiction fun c=>?_
    rw [List.drop_eq_nil_of_le (by omega),List.zip_nil_left] at hz
    cases hz
   have c2:i < items2.length:=by
    refine Classical.byContradiction fun c=>?_
    rw [List.drop_eq_nil_of_le (as:=items2) (by omega),List.zip_nil_right] at hz
    cases hz
   have d1:i < ns.length:=by omega
   have d2:i < ms.length:=by omega
   rw [List.drop_eq_getElem_cons c1,List.drop_eq_getElem_cons c2,List.zip_cons_cons] at hz
   injection hz with hyx hrest
   injection hyx with hy hx
   subst hy hx
   rw [List.drop_eq_getElem_cons d1,List.drop_eq_getElem_cons d2,ltNs_cons] at hR
   obtain⟨he,hlt⟩:=hel i ns[i] ms[i] items[i] items2[i] (List.getElem?_eq_getElem d1) (List.getElem?_eq_getElem d2) (List.getElem?_eq_getElem c1) (List.getElem?_eq_getElem c2)
   refine wpAny_bind (he prog w _ _ ?_)
   by_cases e:ns[i] = ms[i]
   ·rw [if_pos e] at hR
    rw [decide_eq_true e]
    wp_walk
    exact⟨rfl,rfl,i + 1,⟨c1,c2⟩,hrest,hR⟩
   ·rw [if_neg e] at hR
    rw [decide_eq_false e]
    have hri:=hlt prog w
    wp_walk using hri
    exact⟨_,rfl,by simpa using hR⟩
  case fin =>
   rintro ⟨b1,b2⟩ s' ⟨hb',rfl,i,hil,hz,hR⟩
   simp only at hb'
   subst hb'
   have hv:ltNs (ns.drop i) (ms.drop i) = decide (items.toArray.size < items2.toArray.size):=by
    rw [List.size_toArray,List.size_toArray,h1,h2]
    by_cases c1:i < items.length
    ·by_cases c2:i < items2.length
     ·rw [List.drop_eq_getElem_cons c1,List.drop_eq_getElem_cons c2,List.zip_cons_cons] at hz
      cases hz
     ·rw [List.drop_eq_nil_of_le (as:=ms) (by omega),List.drop_eq_getElem_cons (show i < ns.length by omega),ltNs]
      exact (decide_eq_false (by omega)).symm
    ·by_cases c2:i < items2.length
     ·rw [List.drop_eq_nil_of_le (as:=ns) (by omega),List.drop_eq_getElem_cons (show i < ms.length by omega),ltNs]
      exact (decide_eq_true (by omega)).symm
     ·rw [List.drop_eq_nil_of_le (as:=ns) (by omega),List.drop_eq_nil_of_le (as:=ms) (by omega),ltNs]
      exact (decide_eq_false (by omega)).symm
   rw [hv] at hR
   wp_walk
   exact⟨_,rfl,by simpa [Builtin.Tuple.tupleCompareSizes] using hR⟩
  case h =>
   exact⟨rfl,rfl,0,⟨Nat.zero_le _,Nat.zero_le _⟩,by simp,h⟩
end
theorem cmpNs_at:∀ {l l':List NK} {i:Nat} {k j:NK},CmpNs l l'→l[i]? = some k→l'[i]? = some j→CmpN k j
 | [],_,i,k,j,_,h,_=>by cases h
 | x :: xs,[],i,k,j,_,_,h=>by cases h
 | x :: xs,y :: ys,0,k,j,c,h,h'=>by cases h; cases h'; rw [CmpNs] at c; exact c.1
 | x :: xs,y :: ys,i + 1,k,j,c,h,h'=>by rw [CmpNs] at c; exact cmpNs_at (i:=i) c.2 h h'
theorem isNs_at' {h:Heap} {l:List NK} {vs:List Value} {j:Nat} {k:NK} {v:Value} (h1:IsNs h l vs) (hk:l[j]? = some k) (hv:vs[j]? = some v):IsN h k v:=by
 obtain⟨hj,e⟩:=List.getElem?_eq_some_iff.1 hv
 obtain⟨k',e1,e2⟩:=isNs_at hj h1
 rw [hk] at e1
 cases e1
 rw [← e]
 exact e2
theorem lt_n {s:Shared}:∀ (n:Nat) (x y:NK) (A:Around) (u v:Value),x.dep≤n→A.units + n < cLine→IsN s.heap x u→IsN s.heap y v→CmpN x y→LtAt A s u v (ltN x y):=by
 have intsL:∀ (i:Int) (y:NK) (A:Around) (u v:Value),IsN s.heap (.int i) u→IsN s.heap y v→CmpN (.int i) y→LtAt A s u v (ltN (.int i) y):=by
  intro i y A u v hx hy hc
  cases y with
  | int j =>
   rw [IsN] at hx hy
   obtain⟨t,rfl⟩:=hx
   obtain⟨t',rfl⟩:=hy
   intro prog w E Q q
   rw [ltN] at q
   exact HT.rcLt_int A s i t j t' prog w E Q q
  | tup l=>rw [CmpN] at hc; exact hc.elim
 intro n
 induction n with
 | zero =>
  intro x y A u v hd hu hx hy hc
  cases x with
  | int i=>exact intsL i y A u v hx hy hc
  | tup l=>rw [NK.dep] at hd; omega
 | succ n ih =>
  intro x y A u v hd hu hx hy hc
  cases x with
  | int i=>exact intsL i y A u v hx hy hc
  | tup l =>
   cases y with
   | int j=>rw [CmpN] at hc; exact hc.elim
   | tup l' =>
    rw [NK.dep] at hd
    rw [CmpN] at hc
    rw [IsN] at hx hy
    obtain⟨a,its,rfl,ht,hi⟩:=hx
    obtain⟨b,its',rfl,ht',hi'⟩:=hy
    obtain⟨⟨cls,dd,data,sl⟩,ho,hcl,n1,hd1⟩:=id ht
    obtain⟨⟨cls2,dd2,data2,sl2⟩,ho2,hcl2,n2,hd2⟩:=id ht'
    simp only at hcl hd1 hcl2 hd2
    subst hcl hd1 hcl2 hd2
    intro prog w E Q q
    rw [ltN] at q
    refine richCompare_meets_room (op:=.Lt) ⟨_,ho,rfl⟩ ⟨_,ho2,rfl⟩ PySem.F.slot_tuple_lt PySem.F.entry_tuple_lt (PySem.F.args_tuple_lt_2 _ _) (tuple_lt_n a b its its' n1 n2 dd dd2 sl sl2 l l' (isNs_len hi) (isNs_len hi'))
     ⟨ho,ho2,fun i k j p r hk hj hp hr=>?_,show Value.bool (ltNs l l')≠Value.notImplemented∧Q (.bool (ltNs l l')) s from ⟨(fun x=>nomatch x),q⟩⟩ (by omega)
    have k1:=isNs_at' hi hk hp
    have k2:=isNs_at' hi' hj hr
    have kd:=depL_at (n:=n) (by omega) hk
    exact⟨eq_n n k j A.in1 p r kd (by show A.units + 1 + n < _; omega) k1 k2,ih k j A.in1 p r kd (by show A.units + 1 + n < _; omega) k1 k2 (cmpNs_at hc hk hj)⟩
section
variable {prog:Program} {w:World} {A:Around} {E:Value→Shared→Prop} {s:Shared}
def FirstK (b:Bool) (k:NK):Prop:=match b with
 | true=>∃ i r,k = .tup (.int i :: r)
 | false=>∃ m r,k = .tup (.tup m :: r)
theorem kat_n {b:Bool} {X Y:Nat} {Q:Bool→Shared→Prop} (hu:A.units + 8 < cLine):∀ (ns ms:List NK) (vs ws:List Value) (i:Nat),NK.depL ns≤6→IsNs s.heap ns vs→IsNs s.heap ms ws→CmpNs ns ms→ns.length + Y = ms.length + X→(b = true→i = 0→∃ k r,ns = .int k :: r)→Q (ltNs ns ms) s→KatLex prog w A b (decide (X < Y)) Q (vs.zip ws) i s
 | [],ms,vs,ws,i,_,h1,h2,_,hl,hb,q=>by
  rw [IsNs] at h1
  subst h1
  rw [List.zip_nil_left]
  refine kat_nil ?_
  cases ms with
  | nil=>rw [ltNs] at q; rw [decide_eq_false (by simp at hl; omega)]; exact q
  | cons y ys=>rw [ltNs] at q; rw [decide_eq_true (by simp at hl; omega)]; exact q
 | x :: xs,[],vs,ws,i,_,h1,h2,_,hl,hb,q=>by
  rw [IsNs] at h2
  subst h2
  rw [List.zip_nil_right]
  refine kat_nil ?_
  rw [ltNs] at q
  rw [decide_eq_false (by simp at hl; omega)]
  exact q
 | x :: xs,y :: ys,vs,ws,i,hd,h1,h2,hc,hl,hb,q=>by
  rw [NK.depL] at hd
  rw [IsNs] at h1 h2
  rw [CmpNs] at hc
  obtain⟨u,us,rfl,hu1,hr1⟩:=h1
  obtain⟨v,vs',rfl,hv1,hr2⟩:=h2
  rw [ltNs] at q
  rw [List.zip_cons_cons]
  refine kat_cons (eq_n 6 x y A u v (by omega) (by omega) hu1 hv1 _ _ _ _ ?_)
  by_cases e:x = y
  ·rw [decide_eq_true e]
   rw [if_pos e] at q
   exact kat_yes (kat_n hu xs ys us vs' (i + 1) (by omega) hr1 hr2 hc.2 (by simp only [List.length_cons] at hl; omega) (fun _ z=>by omega) q)
  ·rw [decide_eq_false e]
   rw [if_neg e] at q
   refine kat_no ?_
   cases hbi:(b && i == 0) with
   | false=>exact kat_one _ _ (lt_n 6 x y A u v (by omega) (by omega) hu1 hv1 hc.1 _ _ _ _ q)
   | true =>
    have hb':b = true:=by revert hbi; cases b <;> simp
    have hi':i = 0:=by subst hb'; simpa using hbi
    obtain⟨k,r,er⟩:=hb hb' hi'
    injection er with er _
    subst er
    cases y with
    | tup l=>have:=hc.1; rw [CmpN] at this; exact this.elim
    | int j =>
     rw [IsN] at hu1 hv1
     obtain⟨t,rfl⟩:=hu1
     obtain⟨t',rfl⟩:=hv1
     rw [ltN] at q
     exact oneLt_int q
structure SrtOk (b:Bool) (l:List NK):Prop where
 nd:l.Nodup
 dp:∀ k∈l,k.dep≤7
 fk:∀ k∈l,FirstK b k
 cm:∀ k∈l,∀ j∈l,CmpN k j
open Classical in
noncomputable def rankV (l:List NK) (h:Heap) (x:Keyed):Int:=if c:∃ k,k∈l∧IsN h k x.1 then rank l c.choose else 0
theorem rankV_eq {l:List NK} {h:Heap} {x:Keyed} {k:NK} (hd:k.dep≤7) (hk:k∈l) (hx:IsN h k x.1):rankV l h x = rank l k:=by
 have c:∃ k,k∈l∧IsN h k x.1:=⟨k,hk,hx⟩
 unfold rankV
 rw [dif_pos c]
 rw [isN_inj 7 k c.choose x.1 hd hx c.choose_spec.2]
theorem n_cmp {b:Bool} {l:List NK} (S:SrtOk b l) (hu:A.units + 8 < cLine):Cmp (model prog w) A E s (rankV l s.heap) (fun x=>∃ k,k∈l∧IsN s.heap k x.1) (tuples' b):=fun x y st Q hx hy ne hk hQ=>by
 obtain⟨k,k1,k2⟩:=hx
 obtain⟨j,j1,j2⟩:=hy
 rw [rankV_eq (S.dp k k1) k1 k2,rankV_eq (S.dp j j1) j1 j2] at hQ ne
 have nkj:k≠j:=fun e=>ne (by rw [e])
 rw [← rank_iff k1 j1 nkj] at hQ
 have hc:=S.cm k k1 j j1
 have dk:=S.dp k k1
 have fk:=S.fk k k1
 rw [lt'_eq]
 refine wpS_bind (wpS_get (wpS_bind (wpS_lift (wpAny_attempt ?_))))
 cases k with
 | int i=>cases b <;> (obtain⟨_,_,e⟩:=fk; cases e)
 | tup ns =>
  cases j with
  | int i=>rw [CmpN] at hc; exact hc.elim
  | tup ms =>
   rw [NK.dep] at dk
   rw [CmpN] at hc
   rw [IsN] at k2 j2
   obtain⟨c,its,e1,⟨o,g1,g2,n1,g3⟩,hi⟩:=k2
   obtain⟨c',its',e1',⟨o',g1',g2',n1',g3'⟩,hi'⟩:=j2
   rw [hk,e1,e1']
   refine kat_lt g1 g3 g1' g3' ?_
   refine kat_n hu ns ms its its' 0 (by omega) hi hi' hc (by rw [List.size_toArray,List.size_toArray,isNs_len hi,isNs_len hi']; omega) (fun hb _=>?_) ?_
   ·subst hb
    obtain⟨i,r,e⟩:=fk
    injection e with e
    exact⟨i,r,e⟩
   ·rw [ltN] at hQ
    exact⟨rfl,wpS_pure hQ⟩
theorem firsts_of {h:Heap} {b:Bool}:∀ {vs:List Value} {l:List NK},IsNs h l vs→(∀ k∈l,FirstK b k)→∃ fs,KatTups h vs fs∧fs.length = vs.length∧∀ v∈fs,Looks (model prog w) h (typeOf v) (if b = true then .type "int" else .type "tuple")
 | vs,[],h1,_=>by
  rw [IsNs] at h1
  subst h1
  exact⟨[],.nil,rfl,fun v hv=>by cases hv⟩
 | vs,k :: l,h1,hf=>by
  rw [IsNs] at h1
  obtain⟨u,us,rfl,hu,hr⟩:=h1
  obtain⟨fs,f1,f2,f3⟩:=firsts_of hr fun k' hk'=>hf k' (List.mem_cons_of_mem _ hk')
  have fk:=hf k (List.mem_cons_self ..)
  cases k with
  | int i=>cases b <;> (obtain⟨_,_,e⟩:=fk; cases e)
  | tup ns =>
   rw [IsN] at hu
   obtain⟨a,its,rfl,⟨o,g1,g2,n1,g3⟩,hi⟩:=hu
   have:∃ f,its[0]? = some f∧Looks (model prog w) h (typeOf f) (if b = true then .type "int" else .type "tuple"):=by
    cases b with
    | true =>
     obtain⟨i,r,e⟩:=fk
     injection e with e
     subst e
     rw [IsNs] at hi
     obtain⟨u,us',rfl,hu,_⟩:=hi
     rw [IsN] at hu
     obtain⟨t,rfl⟩:=hu
     exact⟨_,rfl,.now⟩
    | false =>
     obtain⟨m,r,e⟩:=fk
     injection e with e
     subst e
     rw [IsNs] at hi
     obtain⟨u,us',rfl,hu,_⟩:=hi
     rw [IsN] at hu
     obtain⟨a',its',rfl,⟨o',q1,q2,_⟩,_⟩:=hu
     refine⟨_,rfl,?_⟩
     have:Looks (model prog w) h (typeOf (.ref a')) o'.cls:=(Looks.ld q1).andThen .now
     rw [q2] at this
     exact this
   obtain⟨f,e1,e2⟩:=this
   refine⟨f :: fs,.cons g1 g2 g3 (by rw [← e1]; simp) f1,by rw [List.length_cons,List.length_cons,f2],fun v hv=>?_⟩
   rcases List.mem_cons.1 hv with e | hv
   ·subst e; exact e2
   ·exact f3 v hv
theorem isNs_keep {h h':Heap} (kp:∀ (a:Addr) (its:List Value),IsTup h a its.toArray→IsTup h' a its.toArray):∀ {l:List NK} {vs:List Value},(∀ k∈l,k.dep≤7)→IsNs h l vs→IsNs h' l vs
 | [],vs,_,h1=>by rw [IsNs] at h1 ⊢; exact h1
 | k :: r,vs,hd,h1=>by
  rw [IsNs] at h1 ⊢
  obtain⟨u,us,rfl,hu,hr⟩:=h1
  exact⟨u,us,rfl,isN_keep kp 7 k u (hd k (List.mem_cons_self ..)) hu,isNs_keep kp (fun k' hk'=>hd k' (List.mem_cons_of_mem _ hk')) hr⟩
theorem nsort {a:Addr} {vs:List Value} {n:Nat} {b:Bool} {l:List NK} {P:PySem.Fin→Shared→Prop} (ho:s.heap.get? a = some (seqObj "list" vs.toArray n)) (h64:vs.length < 65536) (hl:IsNs s.heap l vs) (S:SrtOk b l) (hu:A.units + 8 < cLine)
  (h:∀ (p:List Nat) (h':Heap) (c:Nat),p.Perm (List.range vs.length)→(p.map fun i=>l.getD i (.int 0)).Pairwise (fun x y=>ltN x y = true)→(∀ b o,b≠a→s.heap.get? b = some o→h'.get? b = some o) →
   h'.get? a = some (seqObj "list" (p.map fun i=>vs.getD i Value.none).toArray c)→P (.done (.ret .none)) { s with heap:=h' }) :
  wpAny (model prog w) A (Builtin.«list.sort» ⟨[.ref a],[]⟩) P E s:=by
 have hvl:=isNs_len hl
 have up:∀ h6:Heap,(∀ b o,b≠a→s.heap.get? b = some o→h6.get? b = some o)→IsNs h6 l vs:=fun h6 keep=>isNs_keep (fun c its ⟨o,e1,e2,r⟩=>⟨o,keep c o (fun z=>by rw [z,ho] at e1; cases e1; injection e2 with e2; exact absurd e2 (by decide)) e1,e2,r⟩) S.dp hl
 have mem:∀ i,i < vs.length→l.getD i (.int 0)∈l:=fun i hi=>by
  rw [List.getD_eq_getElem?_getD,List.getElem?_eq_getElem (show i < l.length by omega)]
  exact List.getElem_mem _
 have inj:∀ i j,i < vs.length→j < vs.length→i≠j→l.getD i (.int 0)≠l.getD j (.int 0):=fun i j hi hj ne e=>by
  rw [List.getD_eq_getElem?_getD,List.getD_eq_getElem?_getD,List.getElem?_eq_getElem (show i < l.length by omega),List.getElem?_eq_getElem (show j < l.length by omega)] at e
  exact ne ((List.getElem_inj S.nd).1 e)
 refine gsort (κ:=tuples' b) (kf:=fun h6=>rankV l h6) (G:=fun h6 x=>∃ k,k∈l∧IsN h6 k x.1) (ky:=fun i=>rank l (l.getD i (.int 0))) ho h64 (fun h6 keep h2 Q q=>?_) (fun h6 keep=>n_cmp (s:={ s with heap:=h6 }) S hu) (fun h6 keep i v hv=>?_) (fun i j hi hj ne=>rank_ne (mem i hi) (mem j hj) (inj i j hi hj ne)) (fun p h' c hp hs hk hg=>h p h' c hp ?_ hk hg)
 ·obtain⟨fs,kt,fl,fi⟩:=firsts_of (prog:=prog) (w:=w) (up h6 keep) S.fk
  refine kat_kind (s:={ s with heap:=h6 }) (T:=if b = true then .type "int" else .type "tuple") kt (by omega) fi (by cases b <;> rfl) ?_
  cases b
  ·exact q
  ·exact q
 ·obtain⟨hi,e⟩:=List.getElem?_eq_some_iff.1 hv
  have hk:l[i]? = some (l.getD i (.int 0)):=by rw [List.getD_eq_getElem?_getD,List.getElem?_eq_getElem (show i < l.length by omega)]; rfl
  have hx:=isNs_at' (up h6 keep) hk hv
  exact⟨⟨_,mem i hi,hx⟩,rankV_eq (S.dp _ (mem i hi)) (mem i hi) hx⟩
 ·have hpl:p.length = vs.length:=by have:=hp.length_eq; rw [List.length_range] at this; exact this
  refine List.pairwise_iff_getElem.2 fun i j hi hj hij=>?_
  rw [List.length_map] at hi hj
  have:=hs i j hij (by omega)
  have plt:∀ i (hi:i < p.length),p[i] < vs.length:=fun i hi=>List.mem_range.1 (hp.mem_iff.1 (List.getElem_mem hi))
  simp only [List.getElem_map]
  rw [show p.getD i 0 = p[i] by rw [List.getD_eq_getElem?_getD,List.getElem?_eq_getElem hi]; rfl,show p.getD j 0 = p[j] by rw [List.getD_eq_getElem?_getD,List.getElem?_eq_getElem hj]; rfl] at this
  have ne:p[i]≠p[j]:=fun e=>by rw [e] at this; omega
  have:=rank_iff (mem _ (plt i hi)) (mem _ (plt j hj)) (inj _ _ (plt i hi) (plt j hj) ne)
  rw [this]
  exact decide_eq_true (by assumption)
end
end L2
end
section
set_option Elab.async false
set_option linter.all false
set_option maxRecDepth 100000
set_option maxHeartbeats 4000000
namespace L2
open PySem PySem.Spec PyProof.Rows PySem.W
theorem isNs_of {X:Cx} {pins:List (Addr × Obj)} {σ:St} {H:Hp} {s:Shared} (I:Inv X pins σ H s):∀ {l:List NK} {vs:List V} {us:List Value},(∀ k∈l,k.dep≤7)→DenNs H l vs→Vals vs us→IsNs s.heap l us
 | [],vs,us,_,h1,r=>by rw [DenNs] at h1; subst h1; rw [IsNs]; cases r; rfl
 | k :: q,vs,us,hd,h1,r=>by
  rw [DenNs] at h1
  rw [IsNs]
  obtain⟨u,ws,rfl,hu,hr⟩:=h1
  cases r with
  | @cons _ b _ bs h t=>exact⟨b,bs,rfl,isN_of I 7 k u b (hd k (List.mem_cons_self ..)) hu h,isNs_of I (fun k' hk'=>hd k' (List.mem_cons_of_mem _ hk')) hr t⟩
theorem denNs_mk {H:Hp}:∀ {l:List NK} {vs:List V},l.length = vs.length→(∀ (i:Nat) (k:NK) (v:V),l[i]? = some k→vs[i]? = some v→DenN H k v)→DenNs H l vs
 | [],[],_,_=>by rw [DenNs]
 | [],v :: vs,h,_=>by cases h
 | k :: l,[],h,_=>by cases h
 | k :: l,v :: vs,h,f=>by
  rw [DenNs]
  exact⟨v,vs,rfl,f 0 k v rfl rfl,denNs_mk (by simpa using h) fun i k' v' a b=>f (i + 1) k' v' a b⟩
theorem denNs_pick {H:Hp} {ks:List NK} {as:List Addr} {p:List Nat} (hp:p.Perm (List.range ks.length)) (hA:DenNs H ks (as.map V.ref)):DenNs H (p.map fun i=>ks.getD i (.int 0)) ((p.map fun i=>as.getD i 0).map V.ref):=by
 have hal:as.length = ks.length:=by have:=denNs_len hA; rw [List.length_map] at this; exact this
 refine denNs_mk (by rw [List.length_map,List.length_map,List.length_map]) fun i k v hk hv=>?_
 rw [List.getElem?_map] at hk
 rw [List.getElem?_map,List.getElem?_map] at hv
 obtain⟨j,hj,rfl⟩:=Option.map_eq_some_iff.1 hk
 rw [hj] at hv
 cases hv
 have hlt:j < ks.length:=List.mem_range.1 (hp.mem_iff.1 (List.mem_of_getElem? hj))
 have e:(as.map V.ref)[j]? = some (V.ref (as.getD j 0)):=by rw [List.getElem?_map,List.getD_eq_getElem?_getD,List.getElem?_eq_getElem (show j < as.length by omega)]; rfl
 obtain⟨k',e1,e2⟩:=denNs_at hA e
 rw [List.getD_eq_getElem?_getD,e1]
 exact e2
theorem perm_getN {ks:List NK} {p:List Nat} (hp:p.Perm (List.range ks.length)):(p.map fun i=>ks.getD i (.int 0)).Perm ks:=by
 have:=hp.map fun i=>ks.getD i (.int 0)
 rwa [range_getD] at this
theorem vs_pick {as:List Addr} {p:List Nat} (hp:p.Perm (List.range as.length)):(p.map fun i=>(as.map Value.ref).getD i Value.none) = (p.map fun i=>as.getD i 0).map Value.ref:=by
 rw [List.map_map]
 refine List.map_congr_left fun i hi=>?_
 have hlt:i < as.length:=List.mem_range.1 (hp.mem_iff.1 hi)
 show (as.map Value.ref).getD i Value.none = Value.ref (as.getD i 0)
 rw [List.getD_eq_getElem?_getD,List.getD_eq_getElem?_getD,List.getElem?_map,List.getElem?_eq_getElem hlt]
 rfl
section
variable {X:Cx}
def cSrtDN:List V→Hp→VK→Prop:=fun xs H Q=>match xs with
 | [.ref d]=>∃ (b:Bool) (kvs:List (NK × Addr × V)),DNx H d kvs∧SrtOk b (kvs.map (·.1))∧kvs.length < 65536∧∀ (js:List NK) (bs:List Addr) (l:Addr),js.Perm (kvs.map (·.1))→js.Pairwise (fun x y=>ltN x y = true)→DenNs H js (bs.map V.ref)→H l = none→Q (.ref l) (upd H l (.lst (bs.map V.ref)))
 | _=>False
theorem denNs_keys {H:Hp} {d:Addr} {kvs:List (NK × Addr × V)} (D:DNx H d kvs):DenNs H (kvs.map (·.1)) ((kvs.map (·.2.1)).map V.ref):=by
 refine denNs_mk (by rw [List.length_map,List.length_map,List.length_map]) fun i k v hk hv=>?_
 rw [List.getElem?_map] at hk
 rw [List.getElem?_map,List.getElem?_map] at hv
 obtain⟨q,hq,rfl⟩:=Option.map_eq_some_iff.1 hk
 rw [hq] at hv
 cases hv
 exact (D.ks q (List.mem_of_getElem? hq)).2
theorem q_srtDN {r:Nat} (hr:Room r X.A) (hc:X.calm = true):CallR X (.builtin "sorted") cSrtDN:=by
 intro pins s σ H xs us Q I r h
 unfold cSrtDN at h
 split at h
 ·rename_i d
  obtain⟨b,kvs,D,S,h64,q⟩:=h
  cases r with
  | cons r rr =>
  cases rr
  cases r
  obtain⟨xs,e,hks,hv,dd⟩:=dn_of I D
  obtain⟨o,es,ep,g1,g2,g3,g4,_⟩:=id dd
  have hraw:RawD s.heap d es ep:=⟨o,g1,g2,g3⟩
  have hxl:xs.length = kvs.length:=by have:=congrArg List.length hks; simpa using this
  have hel:es.size = kvs.length:=by rw [← Array.length_toList,g4,List.length_map,hxl]
  have hA:=denNs_keys D
  refine Calls.call_function_entry kind_sorted plain_sorted entry_sorted (args_sorted1 _) ?_
  unfold Builtin.«sorted»
  refine wpAny_bind (m:=checkCount "sorted" 1 1 _) (wpAny_pure ?_)
  refine wpAny_bind (kdu_collect (A:=X.A.in1) (kdl_raw D.sm) (I.ok.hd hc) hraw (by rw [hel,sizeLine_eq]; omega) fun h' tk vs hk hi=>?_)
  have hvs:vs.toList = (kvs.map (·.2.1)).map Value.ref:=by
   refine List.ext_getElem? fun i=>?_
   rw [Array.getElem?_toList,List.getElem?_map,List.getElem?_map]
   cases hu:vs[i]? with
   | none =>
    have h1:=Array.getElem?_eq_none_iff.1 hu
    have h2:=hi.1
    rw [List.getElem?_eq_none (by omega)]
    rfl
   | some u =>
    obtain⟨y,hy,hyu⟩:=hi.2 i u hu
    rw [← Array.getElem?_toList,g4,List.getElem?_map] at hy
    obtain⟨z,hz,rfl⟩:=Option.map_eq_some_iff.1 hy
    have:=congrArg (fun l=>l[i]?) hks
    simp only [List.getElem?_map,hz,Option.map_some] at this
    cases hq:kvs[i]? with
    | none=>rw [hq] at this; cases this
    | some qv =>
     rw [hq] at this
     injection this with this
     injection this with _ this
     subst hyu
     show some (Value.ref z.2.1) = some (Value.ref qv.2.1)
     rw [this]
  generalize has:kvs.map (·.2.1) = as at hvs hA
  generalize hkk:kvs.map (·.1) = ks at hA S q
  have hkl:ks.length = kvs.length:=by rw [← hkk,List.length_map]
  have hal:as.length = kvs.length:=by rw [← has,List.length_map]
  have hvl:vs.toList.length = ks.length:=by rw [hvs,List.length_map,hkl,hal]
  refine wpAny_bind (wpAny_newList ?_ (by rw [hvl,hkl,sizeLine_eq]; omega))
  have hB:(h'.push { cls:=.type "list",data:=.seq vs.toList.toArray }).get? h'.objs.size = some (seqObj "list" vs.toList.toArray 0):=Heap.get?_push_size _ rfl
  have hN:IsNs s.heap ks vs.toList:=by rw [hvs]; exact isNs_of I S.dp hA (vals_ref as)
  have hN':IsNs (h'.push { cls:=.type "list",data:=.seq vs.toList.toArray }) ks vs.toList:=isNs_keep (fun c its ⟨o,e1,e2⟩=>⟨o,Heap.get?_push_of_some _ (hk c o e1),e2⟩) S.dp hN
  refine wpAny_bind (wpAny_holding (wpAny_call_entry slot_list_sort ⟨_,hB,rfl⟩ entry_list_sort (nsort (s:={ s with heap:=h'.push { cls:=.type "list",data:=.seq vs.toList.toArray },toks:=tk }) hB (by rw [hvl,hkl]; exact h64) hN' S (by have:=hr.units; show X.A.units + 1 + 1 + 8 < cLine; omega)
   fun p h2 c hp hs hkeep hB2=>⟨_,rfl,?_⟩) (args_list_sort _)))
  rw [hvl] at hp
  refine wpAny_pure ⟨_,rfl,?_⟩
  have noneB:s.heap.get? h'.objs.size = none:=by
   cases e:s.heap.get? h'.objs.size with
   | none=>rfl
   | some o=>exact absurd (Heap.lt_size (hk _ _ e)) (Nat.lt_irrefl _)
  have keep2:∀ b o,s.heap.get? b = some o→h2.get? b = some o:=fun b o e=>hkeep b o (fun z=>by rw [z,noneB] at e; cases e) (Heap.get?_push_of_some _ (hk b o e))
  have hpl:p.length = ks.length:=by have:=hp.length_eq; rw [List.length_range] at this; exact this
  have fr:=I.noneAt noneB
  rw [hvs,vs_pick (by rw [hal,← hkl]; exact hp)] at hB2
  refine⟨.ref h'.objs.size,_,I.more (t':=tk) (H':=upd H h'.objs.size (.lst ((p.map fun i=>as.getD i 0).map V.ref))) keep2 (Sub.new fr) (fun b o ho hn=>?_),rfl,q _ _ _ (perm_getN hp) hs (denNs_pick hp hA) fr⟩
  have hb:b = h'.objs.size:=by
   refine Classical.byContradiction fun c=>?_
   rw [upd_ne c,hn] at ho
   cases ho
  subst hb
  rw [upd_same] at ho
  cases ho
  exact⟨noneB,by rw [List.length_map,List.length_map,hpl,hkl,sizeLine_eq]; omega,_,c,vals_ref _,hB2⟩
 ·exact h.elim
end
end L2
end
section
set_option Elab.async false
set_option linter.all false
set_option maxRecDepth 100000
set_option maxHeartbeats 4000000
namespace PySem
theorem tuple_mul2 (l:Addr) (x:Value) (n:Nat) (t:Tok) (dd:Option Addr) (sl:Array (Option Value)) :
  Meets (Builtin.«tuple.__mul__» ⟨[.ref l,.int 2 t],[]⟩) (fun _ R s=>s.heap.get? l = some { cls:=.type "tuple",dict:=dd,data:=.seq #[x] n,slots:=sl } ∧
   R (.ok (.ret (.ref s.heap.objs.size))) { s with heap:=s.heap.push { cls:=.type "tuple",data:=.seq #[x,x] } }) :=
 .of_wp fun prog w A R s h=>by obtain⟨hp,g,d,tk,os⟩:=s; obtain⟨hl,h⟩:=h; wp_walk; exact⟨_,rfl,h⟩
theorem tuple_mul3 (l:Addr) (x:Value) (n:Nat) (t:Tok) (dd:Option Addr) (sl:Array (Option Value)) :
  Meets (Builtin.«tuple.__mul__» ⟨[.ref l,.int 3 t],[]⟩) (fun _ R s=>s.heap.get? l = some { cls:=.type "tuple",dict:=dd,data:=.seq #[x] n,slots:=sl } ∧
   R (.ok (.ret (.ref s.heap.objs.size))) { s with heap:=s.heap.push { cls:=.type "tuple",data:=.seq #[x,x,x] } }) :=
 .of_wp fun prog w A R s h=>by obtain⟨hp,g,d,tk,os⟩:=s; obtain⟨hl,h⟩:=h; wp_walk; exact⟨_,rfl,h⟩
theorem tuple_mul4 (l:Addr) (x:Value) (n:Nat) (t:Tok) (dd:Option Addr) (sl:Array (Option Value)) :
  Meets (Builtin.«tuple.__mul__» ⟨[.ref l,.int 4 t],[]⟩) (fun _ R s=>s.heap.get? l = some { cls:=.type "tuple",dict:=dd,data:=.seq #[x] n,slots:=sl } ∧
   R (.ok (.ret (.ref s.heap.objs.size))) { s with heap:=s.heap.push { cls:=.type "tuple",data:=.seq #[x,x,x,x] } }) :=
 .of_wp fun prog w A R s h=>by obtain⟨hp,g,d,tk,os⟩:=s; obtain⟨hl,h⟩:=h; wp_walk; exact⟨_,rfl,h⟩
end PySem
namespace L2
open PySem PySem.Spec PyProof.Rows PySem.W HT
section
variable {X:Cx} {K:PySem.W.Frag}
def cRep1 (K:PySem.W.Frag):R2:=fun x y H Q=>match x,y with
 | .ref a,.int k=>∃ x,SqT K H a [x]∧1≤k∧k≤4∧(k = 1→Q (.ref a) H)∧(2≤k→∀ p,H p = none→Q (.ref p) (upd H p (.tup (List.replicate k.toNat x))))
 | _,_=>False
theorem q_rep1:OpR X (binaryOp .Mult) (cRep1 X.K):=by
 intro pins s σ H x y v u Q I rx ry h
 unfold cRep1 at h
 split at h
 ·rename_i a k
  obtain⟨x,hx,k1,k4,q1,q2⟩:=h
  cases rx
  obtain⟨t,rfl⟩:=ry
  obtain⟨its,r,ht,hz⟩:=I.tuple hx
  obtain⟨⟨cls,dd,data,sl⟩,ho,hc,n,hd⟩:=id ht
  simp only at hc hd
  subst hc hd
  cases r with
  | cons r rr =>
  cases rr
  rename_i i0
  rcases (show k = 1∨k = 2∨k = 3∨k = 4 by omega) with rfl | rfl | rfl | rfl
  ·refine wpAny_binaryOp_repeat_ref (T:="tuple") (U:="int") (by decide) ⟨_,ho,rfl⟩ (fun s'=>typeIs_int s' 1 t) noFill_tuple_mul' F.fills_int_mul F.slot_int_rmul repeat_tuple' F.slot_int_index.lookup
    (call_meets F.slot_int_rmul (typeIs_int s 1 t) F.entry_int_rmul (F.args_int_rmul_2 _ _) (int_rmul_tuple 1 t a _ n dd sl) ⟨ho,rfl,⟨_,ho,rfl⟩,call_meets F.slot_tuple_mul ⟨_,ho,rfl⟩ F.entry_tuple_mul (F.args_tuple_mul_2 _ _) (tuple_mul1 a _ n t dd sl) ⟨ho,?_⟩⟩)
   exact⟨.ref a,H,I,rfl,q1 rfl⟩
  ·refine wpAny_binaryOp_repeat_ref (T:="tuple") (U:="int") (by decide) ⟨_,ho,rfl⟩ (fun s'=>typeIs_int s' 2 t) noFill_tuple_mul' F.fills_int_mul F.slot_int_rmul repeat_tuple' F.slot_int_index.lookup
    (call_meets F.slot_int_rmul (typeIs_int s 2 t) F.entry_int_rmul (F.args_int_rmul_2 _ _) (int_rmul_tuple 2 t a _ n dd sl) ⟨ho,rfl,⟨_,ho,rfl⟩,call_meets F.slot_tuple_mul ⟨_,ho,rfl⟩ F.entry_tuple_mul (F.args_tuple_mul_2 _ _) (tuple_mul2 a i0 n t dd sl) ⟨ho,?_⟩⟩)
   exact⟨.ref s.heap.objs.size,_,I.laid (t':=s.toks) (o:=.tup [x,x]) (fun b ob q=>Heap.get?_push_of_some _ q) (Nat.le_refl _) ⟨by show 2≤sizeLine; decide,[i0,i0],.cons r (.cons r .nil),.of (Heap.get?_push_size _ rfl)⟩,rfl,q2 (by decide) _ (I.hok.fresh (Nat.le_refl _))⟩
  ·refine wpAny_binaryOp_repeat_ref (T:="tuple") (U:="int") (by decide) ⟨_,ho,rfl⟩ (fun s'=>typeIs_int s' 3 t) noFill_tuple_mul' F.fills_int_mul F.slot_int_rmul repeat_tuple' F.slot_int_index.lookup
    (call_meets F.slot_int_rmul (typeIs_int s 3 t) F.entry_int_rmul (F.args_int_rmul_2 _ _) (int_rmul_tuple 3 t a _ n dd sl) ⟨ho,rfl,⟨_,ho,rfl⟩,call_meets F.slot_tuple_mul ⟨_,ho,rfl⟩ F.entry_tuple_mul (F.args_tuple_mul_2 _ _) (tuple_mul3 a i0 n t dd sl) ⟨ho,?_⟩⟩)
   exact⟨.ref s.heap.objs.size,_,I.laid (t':=s.toks) (o:=.tup [x,x,x]) (fun b ob q=>Heap.get?_push_of_some _ q) (Nat.le_refl _) ⟨by show 3≤sizeLine; decide,[i0,i0,i0],.cons r (.cons r (.cons r .nil)),.of (Heap.get?_push_size _ rfl)⟩,rfl,q2 (by decide) _ (I.hok.fresh (Nat.le_refl _))⟩
  ·refine wpAny_binaryOp_repeat_ref (T:="tuple") (U:="int") (by decide) ⟨_,ho,rfl⟩ (fun s'=>typeIs_int s' 4 t) noFill_tuple_mul' F.fills_int_mul F.slot_int_rmul repeat_tuple' F.slot_int_index.lookup
    (call_meets F.slot_int_rmul (typeIs_int s 4 t) F.entry_int_rmul (F.args_int_rmul_2 _ _) (int_rmul_tuple 4 t a _ n dd sl) ⟨ho,rfl,⟨_,ho,rfl⟩,call_meets F.slot_tuple_mul ⟨_,ho,rfl⟩ F.entry_tuple_mul (F.args_tuple_mul_2 _ _) (tuple_mul4 a i0 n t dd sl) ⟨ho,?_⟩⟩)
   exact⟨.ref s.heap.objs.size,_,I.laid (t':=s.toks) (o:=.tup [x,x,x,x]) (fun b ob q=>Heap.get?_push_of_some _ q) (Nat.le_refl _) ⟨by show 4≤sizeLine; decide,[i0,i0,i0,i0],.cons r (.cons r (.cons r (.cons r .nil))),.of (Heap.get?_push_size _ rfl)⟩,rfl,q2 (by decide) _ (I.hok.fresh (Nat.le_refl _))⟩
 ·exact h.elim
end
end L2
end
section
set_option autoImplicit true
set_option linter.all false
open PySem PySem.Spec PyProof.Rows
namespace L2
section
variable {X:Cx} {pos:Pos}
def cRepS:R2:=fun x y H Q=>match x,y with
 | .ref a,.int k=>∃ x,H a = some (.tup [x])∧1≤k∧k≤4∧∀ p H',Sub H H'→H' p = some (.tup (List.replicate k.toNat x))→Q (.ref p) H'
 | _,_=>False
theorem q_repSK {K:PySem.W.Frag} (hK:X.K = K):OpR X (binaryOp .Mult) cRepS:=(q_rep1 (X:=X)).imp fun x y H Q h=>by
 unfold cRepS at h
 split at h
 ·rename_i a k
  obtain⟨x,hx,k1,k4,q⟩:=h
  exact⟨x,SqT.of hx,k1,k4,fun z=>q a H (fun _ _ e=>e) (by rw [hx,z]; rfl),fun _ p np=>q p _ (Sub.new np) upd_same⟩
 ·exact h.elim
end
end L2
end
section
set_option autoImplicit true
set_option linter.all false
open PySem
namespace L2
end L2
end
section
set_option Elab.async false
set_option linter.all false
set_option maxRecDepth 100000
set_option maxHeartbeats 4000000
namespace L2
open PySem PySem.Spec PyProof.Rows PySem.W
end L2
end
section
set_option Elab.async false
set_option linter.all false
set_option maxRecDepth 100000
set_option maxHeartbeats 4000000
namespace L2
open PySem PySem.Spec PyProof.Rows PySem.W
end L2
end
section
set_option Elab.async false
set_option linter.all false
set_option maxRecDepth 100000
set_option maxHeartbeats 4000000
namespace L2
open PySem PySem.Spec PyProof.Rows PySem.W
section
variable {X:Cx}
def rIsB:R2:=fun x y H Q=>match x,y with | .bl a,.bl b=>Q (.bl (decide (a = b))) H | _,_=>False
def rNotB:R2:=fun x y H Q=>match x,y with | .bl a,.bl b=>Q (.bl (!decide (a = b))) H | _,_=>False
theorem op_isB:OpR X (compareOp .Is) rIsB:=by
 intro pins s σ H x y v u Q I rx ry h
 unfold rIsB at h
 split at h
 ·rename_i a b
  cases rx
  cases ry
  refine wpAny_is_plain (by cases a <;> cases b <;> rfl) ?_
  refine⟨_,H,I,?_,h⟩
  cases a <;> cases b <;> rfl
 ·exact h.elim
theorem op_notB:OpR X (compareOp .IsNot) rNotB:=by
 intro pins s σ H x y v u Q I rx ry h
 unfold rNotB at h
 split at h
 ·rename_i a b
  cases rx
  cases ry
  refine wpAny_isNot_plain (by cases a <;> cases b <;> rfl) ?_
  refine⟨_,H,I,?_,h⟩
  cases a <;> cases b <;> rfl
 ·exact h.elim
end
end L2
end
section
set_option Elab.async false
set_option linter.all false
set_option maxRecDepth 100000
set_option maxHeartbeats 4000000
namespace L2
open PySem PySem.Spec PyProof.Rows PySem.W
def DNe (H:Hp) (d:Addr) (kvs:List (NK × Addr × V)):Prop:=(kvs = []∧H d = some (.dK []))∨DNx H d kvs
def mPutN (tk tv:TE):TM:=fun p σ H Q=>tk σ H fun y H1=>tv σ H1 fun v H2=>∃ b k kvs,y = .ref b∧k.dep≤7∧DenN H2 k (.ref b)∧DNe H2 p kvs∧kvs.length < sizeLine ∧
 ∀ H4:Hp,(∀ c u,H2 c = some u→c≠p→H4 c = some u)→(∀ c,H2 c = none→H4 c = none)→DNx H4 p (kPut kvs k b v)→Q H4
theorem kput_new {H3:Hp} {d:Addr} {kvs:List (NK × Addr × V)} {xs:List (NK × Addr × Value)} {k:NK} {b:Addr} {v:V} {rr:Value} {o:HO} (e:H3 d = some o) (hnt:∀ xs,o≠.tup xs) (hks:xs.map (fun x=>(x.1,x.2.1)) = kvs.map (fun q=>(q.1,q.2.1))) (hvv:Vals (kvs.map (·.2.2)) (xs.map (·.2.2))) (dks:∀ q∈kvs,q.1.dep≤7∧DenN H3 q.1 (.ref q.2.1)) (dnd:(kvs.map (·.1)).Nodup) (hl:kvs.length < sizeLine) (sm:(d == sysModules) = false) (hk:k.dep≤7) (hb:DenN H3 k (.ref b)) (rv:RelV v rr) :
  DNx (upd H3 d (.ext (PhiN d (storedH xs k b rr)))) d (kPut kvs k b v):=by
 have hkk:=keys_eq hks
 have kp:∀ a xs',H3 a = some (.tup xs')→(upd H3 d (.ext (PhiN d (storedH xs k b rr)))) a = some (.tup xs'):=fun a xs' ea=>by rw [upd_ne (by rintro rfl; rw [e] at ea; exact hnt _ (Option.some.inj ea))]; exact ea
 unfold kPut
 by_cases hn:k∈kvs.map (·.1)
 ·have hst:storedH xs k b rr = xs.map (putAt k rr):=by
   unfold storedH
   rw [atKey_some,hkk,if_pos (decide_eq_true hn)]
  rw [if_pos hn]
  rw [hst] at kp ⊢
  refine⟨⟨_,upd_same,?_,?_⟩,fun q hq=>?_,?_,by rw [List.length_map]; exact Nat.le_of_lt hl,sm⟩
  ·rw [List.map_map,List.map_map]
   have e1:xs.map ((fun x:NK × Addr × Value=>(x.1,x.2.1)) ∘ putAt k rr) = xs.map (fun x=>(x.1,x.2.1)):=List.map_congr_left fun x _=>by
    show ((putAt k rr x).1,(putAt k rr x).2.1) = _
    unfold putAt
    split <;> rfl
   have e2:kvs.map ((fun q:NK × Addr × V=>(q.1,q.2.1)) ∘ fun q=>if q.1 = k then (q.1,q.2.1,v) else q) = kvs.map (fun q=>(q.1,q.2.1)):=List.map_congr_left fun x _=>by
    show ((if x.1 = k then (x.1,x.2.1,v) else x).1,(if x.1 = k then (x.1,x.2.1,v) else x).2.1) = _
    split <;> rfl
   rw [e1,e2,hks]
  ·have key:∀ (xs:List (NK × Addr × Value)) (kvs:List (NK × Addr × V)),xs.map (fun x=>(x.1,x.2.1)) = kvs.map (fun q=>(q.1,q.2.1))→Vals (kvs.map (·.2.2)) (xs.map (·.2.2)) → Vals ((kvs.map fun q=>if q.1 = k then (q.1,q.2.1,v) else q).map (·.2.2)) ((xs.map (putAt k rr)).map (·.2.2)):=by
    intro xs
    induction xs with
    | nil=>intro kvs h1 h2; cases kvs with
     | nil=>exact .nil
     | cons q kvs=>cases h1
    | cons x xs ih=>intro kvs h1 h2; cases kvs with
     | nil=>cases h1
     | cons q kvs =>
      rw [List.map_cons,List.map_cons] at h1
      injection h1 with h3 h4
      injection h3 with h3 _
      rw [List.map_cons,List.map_cons] at h2
      cases h2 with
      | cons r1 r2 =>
      rw [List.map_cons,List.map_cons,List.map_cons,List.map_cons]
      refine .cons ?_ (ih kvs h4 r2)
      unfold putAt
      by_cases c:x.1 = k
      ·rw [if_pos c,if_pos (h3.symm.trans c)]; exact rv
      ·rw [if_neg c,if_neg (fun z=>c (h3.trans z))]; exact r1
   exact key xs kvs hks hvv
  ·obtain⟨q0,hq0,rfl⟩:=List.mem_map.1 hq
   have:=dks q0 hq0
   have e1:(if q0.1 = k then (q0.1,q0.2.1,v) else q0).1 = q0.1:=by split <;> rfl
   have e2:(if q0.1 = k then (q0.1,q0.2.1,v) else q0).2.1 = q0.2.1:=by split <;> rfl
   rw [e1,e2]
   exact⟨this.1,DenN.mono kp 7 _ _ this.1 this.2⟩
  ·rw [List.map_map]
   have e2:kvs.map ((fun q:NK × Addr × V=>q.1) ∘ fun q=>if q.1 = k then (q.1,q.2.1,v) else q) = kvs.map (·.1):=List.map_congr_left fun x _=>by
    show (if x.1 = k then (x.1,x.2.1,v) else x).1 = _
    split <;> rfl
   rw [show (fun q:NK × Addr × V=>q.1) = (·.1) from rfl] at e2
   rw [e2]
   exact dnd
 ·have hst:storedH xs k b rr = xs ++ [(k,b,rr)]:=by
   unfold storedH
   rw [atKey_some,hkk,decide_eq_false hn,if_neg Bool.false_ne_true]
  rw [if_neg hn]
  rw [hst] at kp ⊢
  refine⟨⟨_,upd_same,by rw [List.map_append,List.map_append,hks]; rfl,?_⟩,fun q hq=>?_,?_,by rw [List.length_append]; show kvs.length + 1≤_; omega,sm⟩
  ·rw [List.map_append,List.map_append]
   exact hvv.append (.cons rv .nil)
  ·rcases List.mem_append.1 hq with hq | hq
   ·exact⟨(dks q hq).1,DenN.mono kp 7 _ _ (dks q hq).1 (dks q hq).2⟩
   ·simp at hq
    subst hq
    exact⟨hk,DenN.mono kp 7 _ _ hk hb⟩
  ·rw [List.map_append]
   exact List.nodup_append.2 ⟨dnd,by simp,fun a ha c hc=>by simp at hc; subst hc; rintro rfl; exact hn ha⟩
theorem pm_dictN {X:Cx} {r:Nat} {kx vx:Expr} {tk tv:TE} (hr:Room r X.A) (hk:PE X kx tk) (hv:PE X vx tv):PM X (emitD kx vx) (mPutN tk tv):=by
 intro pins s σ H D Q I hw
 unfold emitD
 refine wpAny_bind (thn (hk pins s σ H _ I hw) fun u s1 ⟨y,H1,I1,r1,q1⟩=>wpAny_bind (wpAny_holding (thn (hv pins s1 σ H1 _ I1 q1) fun w s2 ⟨v,H2,I2,r2,b,k,kvs,ey,hk,hb,hD,hl,q2⟩=>?_)))
 refine wpAny_bind (wpAny_standAt (wpAny_holding ?_))
 subst ey
 obtain rfl:u = Value.ref b:=r1
 obtain⟨ho,xs,e,hnt,hmu,hks,hvv,dks,dnd,sm,dd⟩:∃ (ho:HO) (xs:List (NK × Addr × Value)),H2 D = some ho∧(∀ xs,ho≠.tup xs)∧Mut (some ho)∧xs.map (fun x=>(x.1,x.2.1)) = kvs.map (fun q=>(q.1,q.2.1))∧Vals (kvs.map (·.2.2)) (xs.map (·.2.2))∧(∀ q∈kvs,q.1.dep≤7∧DenN H2 q.1 (.ref q.2.1))∧(kvs.map (·.1)).Nodup∧(D == sysModules) = false∧s2.heap.DictOfH (nKind X.prog X.w) D xs:=by
  rcases hD with ⟨rfl,e⟩ | DD
  ·obtain⟨z,hd,vs,rel,o,es,ep,g1,g2,g3,g4,g5,g6⟩:=dk_of I2.hok e
   cases rel
   refine⟨_,[],e,fun xs z=>(by cases z),True.intro,rfl,.nil,fun q hq=>(by cases hq),List.nodup_nil,hd,o,es,ep,g1,g2,g3,?_,fun x hx=>(by cases hx),List.nodup_nil⟩
   generalize es.toList = l at g5
   cases g5
   rfl
  ·obtain⟨xs,e,hks,hvv,dd⟩:=dn_of I2 DD
   exact⟨_,xs,e,fun xs z=>(by cases z),True.intro,hks,hvv,DD.ks,DD.nd,DD.sm,dd⟩
 have hxl:xs.length = kvs.length:=by have:=congrArg List.length hks; simpa using this
 refine wpAny_dictSet_heap (knd:=nKind X.prog X.w) (by show X.A.units + 8 < cLine; have:=hr.units; omega) ⟨hk,isN_of I2 7 k _ _ hk hb rfl⟩ dd (fun h' dd' hsb=>?_) (by omega)
 obtain⟨o',es,ep,g1,g2,g3,g4,g5,g6⟩:=dd'
 have new:ObjOk X.prog X.w (upd H2 D (.ext (PhiN D (storedH xs k b w)))) h' D (.ext (PhiN D (storedH xs k b w))):=phi_ok ⟨o',es,ep,g1,g2,g3,g4⟩
 have I4:=d_write (t':=s2.toks + (nKind X.prog X.w).draws k) I2 (by rw [e]; exact hmu) hsb ⟨o',g1⟩ new
 exact⟨_,I4,q2 _ (fun c u' ec ne=>by rw [upd_ne ne]; exact ec) (fun c ec=>by rw [upd_ne (by rintro rfl; rw [e] at ec; cases ec)]; exact ec) (kput_new e hnt hks hvv dks dnd hl sm hk hb r2)⟩
def tDCN (wi:TI) (n:Nat) (fr:List Nat) (g:TG) (tc:TT) (tk tv:TE):TE:=fun σ H Q=>tCompB (.dK []) wi n fr g tc (mPutN tk tv) σ H fun p H'=>Q (.ref p) H'
section
variable {X:Cx} {sc:Scope} {own:List Str} {fr:List Nat} {kx vx tg iter:Expr} {ifs:List Expr} {wi:TI} {g:TG} {tc:TT} {tk tv:TE} {pos:Pos}
theorem pe_dcN {r:Nat} (hr:∀ C s₀ H₀ fp,Room r (compCx X sc own fr C s₀ H₀ fp).A) (hc:X.calm = true) (S:CompScope X sc fr) (hi:PI X tg iter wi)
  (hg:∀ C s₀ H₀ fp,PG (compCx X sc own fr C s₀ H₀ fp) tg g) (ht:∀ C s₀ H₀ fp,PTs (compCx X sc own fr C s₀ H₀ fp) ifs tc) (hk:∀ C s₀ H₀ fp,PE (compCx X sc own fr C s₀ H₀ fp) kx tk) (hv:∀ C s₀ H₀ fp,PE (compCx X sc own fr C s₀ H₀ fp) vx tv)
  (hs:∀ x,foldedSetIterable iter X.env x = pure x:=by intro _; rfl):PE X (.DictComp kx vx [⟨tg,iter,ifs,0⟩] sc pos) (tDCN wi own.length fr g tc tk tv):=by
 intro pins s σ H Q I h
 show wpAny _ _ (comprehension (.DictComp kx vx [⟨tg,iter,ifs,0⟩] sc pos) sc X.env _ newDict false (eval iter X.env)) _ _ s
 exact comp_value form_dict hc S hi pnew_dict hg ht (fun _ _ _ _=>pm_dictN (hr _ _ _ _) (hk _ _ _ _) (hv _ _ _ _)) hs I h
end
structure DNf (H:Hp) (d:Addr) (o:Obj) (kvs:List (NK × Addr × V)):Prop where
 ex:∃ xs,H d = some (.frz o (.ext (PhiN d xs)))∧xs.map (fun x=>(x.1,x.2.1)) = kvs.map (fun q=>(q.1,q.2.1))
 ks:∀ q∈kvs,q.1.dep≤7∧DenN H q.1 (.ref q.2.1)
 nd:(kvs.map (·.1)).Nodup
 sz:kvs.length≤sizeLine
 sm:(d == sysModules) = false
theorem DNf.sub {H H':Hp} {d:Addr} {o:Obj} {kvs:List (NK × Addr × V)} (S:Sub H H') (h:DNf H d o kvs):DNf H' d o kvs :=
 ⟨h.ex.imp fun _ z=>⟨S _ _ z.1,z.2⟩,fun q hq=>⟨(h.ks q hq).1,DenN.mono (fun _ _ e=>S _ _ e) 7 _ _ (h.ks q hq).1 (h.ks q hq).2⟩,h.nd,h.sz,h.sm⟩
theorem dnf_of {P:Program} {w:World} {X:Cx} {pins:List (Addr × Obj)} {σ:St} {H:Hp} {s:Shared} {d:Addr} {o:Obj} {kvs:List (NK × Addr × V)} (I:Inv X pins σ H s) (D:DNf H d o kvs) :
  ∃ xs,xs.map (fun x=>(x.1,x.2.1)) = kvs.map (fun q=>(q.1,q.2.1))∧s.heap.get? d = some o∧(∃ es ep,o.ExactDict∧o.data = .dict es ep∧es.toList = xs.map fun x=>({ hash:=x.1.hash,key:=.ref x.2.1,val:=x.2.2 }:DictEntry))∧s.heap.DictOfH (nKind X.prog X.w) d xs:=by
 obtain⟨xs,e,hk⟩:=D.ex
 obtain⟨e0,⟨o',es,ep,h1,h2,h3,h4⟩,_,_⟩:=(show ObjOk X.prog X.w H s.heap d (.frz o (.ext (PhiN d xs))) from I.hok d _ e)
 rw [e0] at h1
 cases h1
 refine⟨xs,hk,e0,⟨es,ep,h2,h3,h4⟩,o,es,ep,e0,h2,h3,h4,fun x hx=>?_,?_⟩
 ·have:(x.1,x.2.1)∈kvs.map (fun q=>(q.1,q.2.1)):=by rw [← hk]; exact List.mem_map.2 ⟨x,hx,rfl⟩
  obtain⟨q,hq,e'⟩:=List.mem_map.1 this
  obtain⟨k1,k2⟩:=D.ks q hq
  injection e' with e1 e2
  rw [e1] at k1 k2
  rw [e2] at k2
  exact⟨k1,isN_of I 7 x.1 _ _ k1 k2 rfl⟩
 ·have n:=D.nd
  rw [← keys_eq hk] at n
  exact n
def DNw (H:Hp) (d:Addr) (kvs:List (NK × Addr × V)):Prop:=DNx H d kvs∨∃ o,DNf H d o kvs
theorem DNw.sub {H H':Hp} {d:Addr} {kvs:List (NK × Addr × V)} (S:Sub H H'):DNw H d kvs→DNw H' d kvs
 | .inl h=>.inl (h.sub S)
 | .inr ⟨o,h⟩=>.inr ⟨o,h.sub S⟩
section
variable {X:Cx} {pos:Pos}
def rInW:R2:=fun x y H Q=>∃ b d k kvs,x = .ref b∧y = .ref d∧k.dep≤7∧DenN H k (.ref b)∧DNw H d kvs∧Q (.bl (decide (k∈kvs.map (·.1)))) H
theorem op_inW {r:Nat} (hr:Room r X.A):OpR X (compareOp .In) rInW:=by
 intro pins s σ H x y v u Q I rx ry h
 obtain⟨b,d,k,kvs,rfl,rfl,hk,hb,D,q⟩:=h
 rcases D with D | ⟨o,D⟩
 ·exact op_inN hr pins s σ H _ _ v u Q I rx ry ⟨b,d,k,kvs,rfl,rfl,hk,hb,D,q⟩
 cases rx
 cases ry
 obtain⟨xs,hks,_,_,dd⟩:=dnf_of (P:=X.prog) (w:=X.w) I D
 refine wpAny_in_heap (knd:=nKind X.prog X.w) (by show X.A.units + 1 + 8 < cLine; have:=hr.units; omega) ⟨hk,isN_of I 7 k _ _ hk hb rfl⟩ D.sm dd ?_
 rw [atKey_some,keys_eq hks]
 exact⟨.bl _,H,I.tok _,rfl,q⟩
theorem Inv.freezeN {pins:List (Addr × Obj)} {σ:St} {H:Hp} {s:Shared} {d:Addr} {o:Obj} {φ:Heap→Prop} (I:Inv X pins σ H s) (hd:H d = some (.ext φ)) (ho:s.heap.get? d = some o):Inv X pins σ (upd H d (.frz o (.ext φ))) s:=by
 have nt:∀ b xs,H b = some (.tup xs)→b≠d:=fun b xs e z=>by rw [z,hd] at e; cases e
 have no:∀ b y,H b = some (.own y)→b≠d:=fun b y e z=>by rw [z,hd] at e; cases e
 have:=I.un (t':=s.toks) (h':=s.heap) (H':=upd H d (.frz o (.ext φ))) ⟨fun b o e _ _ _=>e,fun b o e _ _ _=>⟨o.slots,e⟩,fun b u e n _=>?_,fun b o e _=>⟨o,e⟩,fun b xs e=>?_,fun b u v e=>?_,fun b ps e=>?_⟩ fun a u e=>?_
 ·exact this
 ·rw [upd_ne (fun z=>by rw [z,hd] at n; cases n)]; exact n
 ·rw [upd_ne (nt b xs e)]; exact e
 ·rw [upd_ne (fun z=>by rw [z,hd] at e; cases e)]; exact e
 ·exact⟨#[],by rw [upd_ne (fun z=>by rw [z,hd] at e; cases e),e]; simp⟩
 ·have st:∀ a u,ObjOk X.prog X.w H s.heap a u→ObjOk X.prog X.w (upd H d (.frz o (.ext φ))) s.heap a u:=fun a u x =>
   x.stay (fun b v _ z=>z) (fun b z=>by rw [upd_ne (no b _ z)]; exact z) fun b xs z=>by rw [upd_ne (nt b xs z)]; exact z
  by_cases q:a = d
  ·subst q
   rw [upd_same] at e
   cases e
   exact⟨ho,st _ _ (I.hok _ _ hd)⟩
  ·rw [upd_ne q] at e
   exact st _ _ (I.hok a u e)
end
def Itn (d:Addr) (o:Obj) (kvs:List (NK × Addr × V)):It where
 go:=fun i H=>DNf H d o kvs∧i < kvs.length
 yld:=fun i H v H'=>H' = H∧∃ q,v = .ref q.2.1∧kvs[i]? = some q
 stop:=fun i H=>DNf H d o kvs∧kvs.length≤i
theorem turn_keysN {P:Program} {w:World} {K:PySem.W.Frag} {tg:Expr} {d it:Addr} {o:Obj} {kvs:List (NK × Addr × V)} {es:Array DictEntry} {ep:Nat} (ho:o.data = .dict es ep) :
  Turn P w K tg (Itn d o kvs) [it] it (fun i h=>h.IsKeyIter it d i kvs.length ep) where
 mem:=by simp
 obj:=fun i h st b hb=>by
  have z:b = it:=by simpa using hb
  subst z
  obtain⟨ob,e,c,dd⟩:=st
  exact⟨ob,e,fun v z=>by rw [dd] at z; cases z⟩
 keep:=fun i h h' st k=>st.at fun o e=>k it (by simp) o e
 item:=by
  intro X hP hw hK hc i pins s σ H E I hf st hg
  subst hP hw hK
  obtain⟨D,hlt⟩:=hg
  obtain⟨xs,hks,hg,⟨es',ep',x1,x2,x3⟩,dd⟩:=dnf_of (P:=X.prog) (w:=X.w) I D
  rw [ho] at x2
  cases x2
  have hxl:xs.length = kvs.length:=by have:=congrArg List.length hks; simpa using this
  have hel:es.size = kvs.length:=by rw [← Array.length_toList,x3,List.length_map]; exact hxl
  obtain⟨q,hq⟩:∃ q,kvs[i]? = some q:=⟨_,List.getElem?_eq_getElem hlt⟩
  obtain⟨x,hx⟩:∃ x,xs[i]? = some x:=⟨_,List.getElem?_eq_getElem (by omega)⟩
  have hxq:x.2.1 = q.2.1:=by
   have:=congrArg (fun l=>l[i]?) hks
   simp only [List.getElem?_map,hx,hq,Option.map_some] at this
   injection this with this
   injection this with _ this
  have hex:es[i]? = some ({ hash:=x.1.hash,key:=.ref x.2.1,val:=x.2.2 }:DictEntry):=by
   rw [← Array.getElem?_toList,x3,List.getElem?_map,hx]; rfl
  obtain⟨f0,f1,f2,f3,f4,f5⟩:=hf it (by simp)
  refine raw_item (by rw [hel]; exact st) ⟨o,hg,x1,ho⟩ hex fun h' st' sb=>?_
  have I1:Inv X pins σ H { s with heap:=h' }:=I.turned (t':=s.toks) (fun b o hb e=>(sb.2 b hb).trans e) f0 f1 f3 f4 f5
  obtain⟨ob,e,c,dd⟩:=id st'
  exact⟨_,rfl,go_of (s:={ s with heap:=h' }) e c dd (by decide) ⟨.ref q.2.1,H,I1,by show Value.ref x.2.1 = Value.ref q.2.1; rw [hxq],⟨rfl,q,rfl,hq⟩,by rw [← hel]; exact st',fun b hb=>(hf b hb).1⟩⟩
 done:=by
  intro X hP hw hK hc i pins s σ H E I hf st hg
  subst hP hw hK
  obtain⟨D,hle⟩:=hg
  obtain⟨xs,hks,hg,⟨es',ep',x1,x2,x3⟩,dd⟩:=dnf_of (P:=X.prog) (w:=X.w) I D
  rw [ho] at x2
  cases x2
  have hxl:xs.length = kvs.length:=by have:=congrArg List.length hks; simpa using this
  have hel:es.size = kvs.length:=by rw [← Array.length_toList,x3,List.length_map]; exact hxl
  obtain⟨f0,f1,f2,f3,f4,f5⟩:=hf it (by simp)
  exact raw_end (I.ok.hd hc) (by rw [hel]; exact st) ⟨o,hg,x1,ho⟩ (by omega) fun h' eb=>⟨rfl,I.turned (t':=s.toks) (fun b o hb e=>eb b o hb e) f0 f1 f3 f4 f5⟩
 self:=fun A i s Q E st h=>wpAny_pyIter_keyiter st h
section
variable {X:Cx}
def cKeysN (te:TE):TI:=fun σ H R=>te σ H fun x H1=>match x with
 | .ref d=>∃ kvs,DNx H1 d kvs∧∀ (o:Obj) (H2:Hp),(∀ c u,H1 c = some u→c≠d→H2 c = some u)→(∀ c,H1 c = none→H2 c = none)→DNf H2 d o kvs→R (Itn d o kvs) H2
 | _=>False
theorem qi_keysN {tg e:Expr} {te:TE} (he:PE X e te):PI X tg e (cKeysN te):=by
 intro pins s σ H R I h
 refine thn (he pins s σ H _ I h) fun u s1 ⟨x,H1,I1,r1,q1⟩=>?_
 obtain⟨d,rfl,kvs,D,q⟩:∃ d,x = .ref d∧∃ kvs,DNx H1 d kvs∧∀ (o:Obj) (H2:Hp),(∀ c u,H1 c = some u→c≠d→H2 c = some u)→(∀ c,H1 c = none→H2 c = none)→DNf H2 d o kvs→R (Itn d o kvs) H2:=by
  dsimp only at q1
  split at q1
  ·exact⟨_,rfl,q1⟩
  ·exact q1.elim
 cases r1
 obtain⟨xs,hd,hks,hvv,dd⟩:=dn_of I1 D
 obtain⟨⟨o,es,ep,h1,h2,h3,h4⟩,_,_⟩:=(show ObjOk X.prog X.w H1 s1.heap d (.ext (PhiN d xs)) from I1.hok d _ hd)
 have hxl:xs.length = kvs.length:=by have:=congrArg List.length hks; simpa using this
 have hel:es.size = kvs.length:=by rw [← Array.length_toList,h4,List.length_map]; exact hxl
 refine raw_iter D.sm ⟨o,h1,h2,h3⟩ ?_
 have I2:=(I1.freezeN hd h1).kept (t':=s1.toks) (h':=s1.heap.push { cls:=.type "dict_keyiterator",data:=.fields #[.ref d,.int 0 0,.int es.size 0,.int ep 0] }) fun b o e=>Heap.get?_push_of_some _ e
 have nd:s1.heap.objs.size≠d:=Nat.ne_of_gt (Heap.lt_size h1)
 have kp:∀ a xs',H1 a = some (.tup xs')→(upd H1 d (.frz o (.ext (PhiN d xs)))) a = some (.tup xs'):=fun a xs' ea=>by rw [upd_ne (by rintro rfl; rw [hd] at ea; cases ea)]; exact ea
 refine⟨s1.heap.objs.size,[s1.heap.objs.size],_,_,_,rfl,I2,turn_keysN h3,⟨_,Heap.get?_push_size _ rfl,rfl,by rw [hel]; rfl⟩,fun b hb=>?_,q o _ (fun c u ec ne=>by rw [upd_ne ne]; exact ec) (fun c ec=>by rw [upd_ne (by rintro rfl; rw [hd] at ec; cases ec)]; exact ec) ⟨⟨xs,upd_same,hks⟩,fun q hq=>⟨(D.ks q hq).1,DenN.mono kp 7 _ _ (D.ks q hq).1 (D.ks q hq).2⟩,D.nd,D.sz,D.sm⟩⟩
 have e:b = s1.heap.objs.size:=by simpa using hb
 subst e
 exact (I1.freezeN hd h1).fpOk (Nat.le_refl _) (by rw [upd_ne nd]; exact I1.hok.fresh (Nat.le_refl _))
end
theorem comp_keysN {d:Addr} {o:Obj} {kvs:List (NK × Addr × V)} {g:TG} {tc:TT} {tm:TM} {σ:St} {H:Hp} {p:Addr} {Q:Hp→Prop} (Pv:Nat→St→Hp→Prop) (h0:Pv 0 σ H)
  (hl:∀ i σ H,i≤kvs.length→Pv i σ H→DNf H d o kvs)
  (hs:∀ i q σ H,kvs[i]? = some q→Pv i σ H→g (.ref q.2.1) σ H fun σ3 H3=>tc σ3 H3 fun b H4=>if b = true then tm p σ3 H4 (Pv (i + 1) σ3) else Pv (i + 1) σ3 H4) (hd:∀ σ H,Pv kvs.length σ H→Q H) :
  ∃ W:Nat→Nat→St→Hp→Prop,(∃ m,W 0 m σ H) ∧
  ∀ i m σ' H',W i m σ' H'→((Itn d o kvs).stop i H'∧Q H')∨((Itn d o kvs).go i H'∧∃ N:St→Hp→Prop,(∀ σ2 H2,N σ2 H2→∃ m',m' < m∧W (i + 1) m' σ2 H2)∧∀ x H2,(Itn d o kvs).yld i H' x H2→g x σ' H2 fun σ3 H3=>tc σ3 H3 fun b H4 =>
   if b = true then tm p σ3 H4 (N σ3) else N σ3 H4):=by
 refine⟨fun i m σ H=>m = kvs.length - i∧i≤kvs.length∧Pv i σ H,⟨kvs.length,by simp,Nat.zero_le _,h0⟩,?_⟩
 rintro i m σ H ⟨rfl,hi,pv⟩
 have q:=hl i σ H hi pv
 by_cases hlt:i < kvs.length
 ·refine .inr ⟨⟨q,hlt⟩,Pv (i + 1),fun σ' H' p'=>⟨kvs.length - (i + 1),by omega,rfl,hlt,p'⟩,fun x H' y=>?_⟩
  obtain⟨rfl,qv,rfl,hq⟩:=y
  exact hs i qv σ _ hq pv
 ·have e:i = kvs.length:=by omega
  subst e
  exact .inl ⟨⟨q,Nat.le_refl _⟩,hd σ H pv⟩
def StI (K:PySem.W.Frag) (a:Addr) (ps:List (Int × Int)):Prop:=∃ (o:Obj) (es:Array DictEntry) (ep:Nat),K.lookup a = some o∧o.ExactDict∧o.data = .dict es ep ∧
 Paired (fun (p:Int × Int) (e:DictEntry)=>(∃ t,e.key = .int p.1 t)∧(∀ w,e.hash = keyH w (.inl p.1))∧∃ t,e.val = .int p.2 t) ps es.toList∧(ps.map (·.1)).Nodup
theorem sti_pairs {P:Program} {w:World}:∀ {ps:List (Int × Int)} {es:List DictEntry},Paired (fun (p:Int × Int) (e:DictEntry)=>(∃ t,e.key = .int p.1 t)∧(∀ w,e.hash = keyH w (.inl p.1))∧∃ t,e.val = .int p.2 t) ps es →
  ∃ vs:List (Key × Value),Pairs (mixKind P w) es vs∧KV (ps.map fun p=>((Sum.inl p.1:Key),V.int p.2)) vs∧∀ e∈es,∃ k,keyIs k e.key = true∧e.hash = keyH w k
 | _,_,.nil=>⟨[],.nil,.nil,by simp⟩
 | p :: ps,e :: es,.cons h t=>by
  obtain⟨vs,h1,h2,h3⟩:=sti_pairs t
  obtain⟨⟨t1,k1⟩,k2,t2,k3⟩:=h
  refine⟨(.inl p.1,e.val) :: vs,.cons (by rw [mixKind_is,k1]; exact keyIs_int _ _) rfl h1,.cons ⟨rfl,by rw [k3]; exact⟨_,rfl⟩⟩ h2,fun x hx=>?_⟩
  rcases List.mem_cons.1 hx with rfl | hx
  ·exact⟨.inl p.1,by rw [k1]; exact keyIs_int _ _,k2 _⟩
  ·exact h3 x hx
theorem StI.of {P:Program} {w:World} {K:PySem.W.Frag} {h:Heap} {a:Addr} {ps:List (Int × Int)} (hK:K.In h) (x:StI K a ps):∃ vs,KV (ps.map fun p=>((Sum.inl p.1:Key),V.int p.2)) vs∧h.DictOf (mixKind P w) a vs:=by
 obtain⟨o,es,ep,h1,h2,h3,h4,h5⟩:=x
 obtain⟨vs,g1,g2,g3⟩:=sti_pairs (P:=P) (w:=w) h4
 refine⟨vs,g2,o,es,ep,hK _ _ h1,h2,h3,fun e he=>g3 e (Array.mem_toList_iff.2 he),g1,?_⟩
 have:vs.map (·.1) = (ps.map fun p=>((Sum.inl p.1:Key),V.int p.2)).map (·.1):=kv_fst g2
 rw [this,List.map_map]
 have e:((fun x=>x.1) ∘ fun (p:Int × Int)=>((Sum.inl p.1:Key),V.int p.2)) = Sum.inl ∘ (fun p:Int × Int=>p.1):=rfl
 rw [e,← List.map_map]
 exact h5.map _ fun x y n e=>n (Sum.inl.inj e)
def valII (ps:List (Int × Int)) (k:Int):Option V:=valV (ps.map fun p=>((Sum.inl p.1:Key),V.int p.2)) (.inl k)
section
variable {X:Cx} {pos:Pos} {K:PySem.W.Frag} {o i:Expr} {td ty:TE}
def tDGetI (K:PySem.W.Frag) (td ty:TE):TE:=fun σ H Q=>td σ H fun x H1=>ty σ H1 fun y H2=>match x,y with
 | .ref a,.int k=>∃ ps z,StI K a ps∧valII ps k = some (.int z)∧Q (.int z) H2
 | _,_=>False
theorem pe_dgetI (hK:X.K = K) (ho:PE X o td) (hi:PE X i ty) (hs:NoSl i):PE X (.Subscript o i pos) (tDGetI K td ty):=by
 subst hK
 intro pins s σ H Q I h
 refine subD_of PySem.F.slot_dict_getitem.lookup hs (thn (ho pins s σ H _ I h) fun u s1 ⟨x,H1,I1,rx,q1⟩=>thn (hi pins s1 σ H1 _ I1 q1) fun iv s2 ⟨y,H2,I2,ry,q2⟩=>?_)
 obtain⟨a,k,rfl,rfl,ps,z,hd,hv,q⟩:∃ a k,x = .ref a∧y = .int k∧∃ ps z,StI X.K a ps∧valII ps k = some (.int z)∧Q (.int z) H2:=by
  dsimp only at q2
  split at q2
  ·exact⟨_,_,rfl,rfl,q2⟩
  ·exact q2.elim
 cases rx
 obtain⟨t,rfl⟩:=ry
 obtain⟨vs,rel,dd⟩:=hd.of (P:=X.prog) (w:=X.w) I2.kIn
 refine⟨dd.typeIs,?_⟩
 obtain⟨w',hw,t2,rfl⟩:=RelO.some_of (v:=V.int z) (o:=valueAt vs (Sum.inl k)) (by rw [← hv]; exact rel.val (.inl k))
 exact wpAny_getItem_of (knd:=mixKind X.prog X.w) (k:=.inl k) (by rw [mixKind_is]; exact keyIs_int k t) dd.mapOf hw ⟨.int z,H2,I2.tok _,⟨_,rfl⟩,q⟩
end
end L2
end
section
set_option Elab.async false
set_option linter.all false
set_option maxRecDepth 100000
set_option maxHeartbeats 4000000
namespace L2
open PySem PySem.Spec PyProof.Rows PySem.W
section
variable {prog:Program} {w:World} {K:Type} [DecidableEq K] {knd:HeapKind prog w K} {A:Around} {E:Value→Shared→Prop} {s:Shared} {d a:Addr} {xs:List (K × Addr × Value)} {k:K} {v:Value} {Q:Unit→Shared→Prop}
theorem nd_at {l:List K} (nd:l.Nodup) {i j:Nat} {x:K} (hi:l[i]? = some x) (hj:l[j]? = some x):i = j:=(List.getElem?_inj (List.getElem?_eq_some_iff.1 hi).1 nd).1 (hi.trans hj.symm)
theorem setHashed_heap (hr:knd.room A) (hk:knd.is s.heap k a) (dd:s.heap.DictOfH knd d xs) (q:∀ h',h'.DictOfH knd d (storedH xs k a v)→Heap.SameBut d s.heap h'→Q () { s with heap:=h' }) (hs:xs.length≤sizeLine) :
  wpAny (model prog w) A (dictSetHashed d (.ref a) (knd.hash k) v) Q E s:=by
 obtain⟨o,es,ep,h1,h2,h3,h4,h5,h6⟩:=id dd
 unfold dictSetHashed
 refine wpAny_holding (wpAny_bind (wpAny_dictFind_heap hr hk h1 h3 h4 h5 h6 (fun hn=>?_) (fun j p hj=>?_)))
 ·refine wpAny_bind (wpAny_rule ?_)
  have hna:atKey xs k = none:=by
   unfold atKey
   rw [Option.map_eq_none_iff,List.find?_eq_none]
   intro x hx e
   obtain⟨i,hi⟩:=List.mem_iff_getElem?.1 hx
   have e:x.1 = k:=of_decide_eq_true e
   exact hn i x.2 (by rw [hi,← e])
  have sb:Heap.SameBut d s.heap (s.heap.update d (Obj.mapDictKeys fun x=>x.push { hash:=knd.hash k,key:=.ref a,val:=v })):=⟨Heap.size_update ..,fun b hb=>Heap.get?_update_other _ _ (Ne.symm hb)⟩
  have hsz:es.size = xs.length:=by rw [← Array.length_toList,h4,List.length_map]
  obtain⟨c,dd',dat,sl⟩:=o
  obtain⟨rfl,rfl,rfl⟩:c = .type "dict"∧dd' = none∧sl = #[]:=h2
  obtain rfl:dat = .dict es ep:=h3
  refine wpAny_updateDictKeys h1 rfl (q _ ?_ sb) (by omega) (by rw [Array.size_push]; exact Nat.le_refl _)
  refine⟨_,_,_,Heap.get?_update_self _ h1 rfl,⟨rfl,rfl,rfl⟩,rfl,?_,fun x hx=>?_,?_⟩
  ·rw [storedH_new hna,List.map_append,← h4,Array.toList_push]; rfl
  ·rw [storedH_new hna] at hx
   rcases List.mem_append.1 hx with hx | hx
   ·exact knd.keeps (h5 x hx) h1 rfl sb
   ·rw [List.mem_singleton.1 hx]; exact knd.keeps hk h1 rfl sb
  ·rw [storedH_new hna,List.map_append]
   refine List.nodup_append.2 ⟨h6,by simp,fun b hb c hc e=>?_⟩
   obtain⟨x,hx,rfl⟩:=List.mem_map.1 hb
   obtain⟨i,hi⟩:=List.mem_iff_getElem?.1 hx
   have:c = k:=by simpa using hc
   exact hn i x.2 (by rw [hi,← this,← e])
 ·refine wpAny_bind (wpAny_rule (wpAny_bind ?_))
  have hjk:atKey xs k = some p:=by
   have hx:(k,p)∈xs:=List.mem_of_getElem? hj
   unfold atKey
   cases e:xs.find? (fun x=>decide (x.1 = k)) with
   | none=>have:=List.find?_eq_none.1 e _ hx; simp at this
   | some x =>
    have e0:=List.find?_some e
    have e1:x.1 = k:=of_decide_eq_true e0
    have e2:=List.mem_of_find?_eq_some e
    have:x = (k,p):=by
     obtain⟨i,hi⟩:=List.mem_iff_getElem?.1 e2
     have hil:=(List.getElem?_eq_some_iff.1 hi).1
     have hjl:=(List.getElem?_eq_some_iff.1 hj).1
     have c:i = j:=nd_at h6 (x:=k) (by rw [List.getElem?_map,hi,← e1]; rfl) (by rw [List.getElem?_map,hj]; rfl)
     subst c; rw [hi] at hj; exact Option.some.inj hj
    rw [this]; rfl
  have sb:Heap.SameBut d s.heap (s.heap.update d (Obj.mapDict fun x=>x.modify j fun e=>{ hash:=e.hash,key:=e.key,val:=v })):=⟨Heap.size_update ..,fun b hb=>Heap.get?_update_other _ _ (Ne.symm hb)⟩
  obtain⟨c,dd',dat,sl⟩:=o
  obtain⟨rfl,rfl,rfl⟩:c = .type "dict"∧dd' = none∧sl = #[]:=h2
  obtain rfl:dat = .dict es ep:=h3
  refine wpAny_updateDict h1 rfl (wpAny_point (q _ ?_ sb)) (by rw [Array.size_modify]; exact Nat.le_refl _)
  have hkeys:(xs.map (putAt k v)).map (fun x=>x.1) = xs.map (fun x=>x.1):=by
   rw [List.map_map]
   exact List.map_congr_left fun x _=>by show (putAt k v x).1 = x.1; unfold putAt; split <;> rfl
  refine⟨_,_,_,Heap.get?_update_self _ h1 rfl,⟨rfl,rfl,rfl⟩,rfl,?_,fun x hx=>?_,?_⟩
  ·rw [storedH_old hjk]
   show (es.modify j fun e=>{ hash:=e.hash,key:=e.key,val:=v }).toList = _
   rw [Array.toList_modify,h4]
   refine List.ext_getElem? fun i=>?_
   rw [List.getElem?_modify,List.getElem?_map,List.getElem?_map,List.getElem?_map]
   cases e:xs[i]? with
   | none=>rfl
   | some x =>
    show some (if j = i then _ else _) = some _
    congr 1
    by_cases c:j = i
    ·rw [if_pos c]
     subst c
     rw [hj] at e
     cases e
     show _ = entryOfKey knd (putAt k v (k,p))
     unfold putAt
     rw [if_pos rfl]
     rfl
    ·rw [if_neg c]
     have hx:x.1≠k:=fun z=>c (nd_at h6 (x:=k) (by rw [List.getElem?_map,hj]; rfl) (by rw [List.getElem?_map,e,← z]; rfl))
     show _ = entryOfKey knd (putAt k v x)
     unfold putAt
     rw [if_neg hx]
  ·rw [storedH_old hjk] at hx
   obtain⟨y,hy,rfl⟩:=List.mem_map.1 hx
   have e1:(putAt k v y).1 = y.1:=by unfold putAt; split <;> rfl
   have e2:(putAt k v y).2.1 = y.2.1:=by unfold putAt; split <;> rfl
   rw [e1,e2]
   exact knd.keeps (h5 y hy) h1 rfl sb
  ·rw [storedH_old hjk,hkeys]; exact h6
def foldH (xs ys:List (K × Addr × Value)):List (K × Addr × Value):=ys.foldl (fun acc y=>storedH acc y.1 y.2.1 y.2.2) xs
theorem merge_heap {nm:String} {o:Addr} {ys:List (K × Addr × Value)} {es:Array DictEntry} {ep:Nat} (hdo:d≠o) (ho:(o == sysModules) = false) (hr:knd.room A) (dd:s.heap.DictOfH knd d xs) (hx:xs≠[]) (hraw:RawD s.heap o es ep) (hes:es.toList = ys.map (entryOfKey knd)) (hys:∀ y∈ys,knd.is s.heap y.1 y.2.1)
  (q:∀ h',h'.DictOfH knd d (foldH xs ys)→Heap.SameBut d s.heap h'→Q () { s with heap:=h' }) (hs:xs.length + ys.length≤sizeLine) :
  wpAny (model prog w) A (Builtin.Dict.mergeDict nm d o) Q E s:=by
 obtain⟨oo,g1,g2,g3⟩:=id hraw
 obtain⟨od,ed,epd,f1,f2,f3,f4,f5,f6⟩:=id dd
 unfold Builtin.Dict.mergeDict
 rw [if_neg (by simpa using hdo)]
 unfold Builtin.Dict.showsAll
 rw [if_neg (by rw [ho]; exact Bool.false_ne_true)]
 refine wpAny_bind (wpAny_pure (wpAny_bind (wpAny_dictEntries g1 g3 ?_)))
 have loop:∀ Q':Unit→Shared→Prop,(∀ h',h'.DictOfH knd d (foldH xs ys)→Heap.SameBut d s.heap h'→Q' () { s with heap:=h' })→wpAny (model prog w) A (do
   let epoch ← dictEpoch o
   let __do_lift ← dictEntries o
   forIn [:__do_lift.size] PUnit.unit fun i __s=>do
     let __do_lift ← dictEntries o
     match __do_lift[i]? with
      | some e=>do
       holding [e.key,e.val] (dictSetHashed d e.key e.hash e.val)
       let __do_lift ← dictEpoch o
       if (__do_lift != epoch) = true then do
         unsupported (toString nm ++ toString ":source-changed-during-callback")
         pure (ForInStep.yield PUnit.unit)
        else pure (ForInStep.yield PUnit.unit)
      | x=>do
       unsupported "internal:dict-merge"
       pure (ForInStep.yield PUnit.unit)
   pure ()) Q' E s:=by
  intro Q' q'
  refine wpAny_bind (wpAny_dictEpoch g1 g3 (wpAny_bind (wpAny_dictEntries g1 g3 (wpAny_bind ?_))))
  have hsz:es.size = ys.length:=by rw [← Array.length_toList,hes,List.length_map]
  rw [Std.Legacy.Range.forIn_eq_forIn_range',show [:es.size].size = es.size by simp [Std.Legacy.Range.size]]
  refine wpAny_forIn_list _ (fun l _ s'=>∃ i,i≤es.size∧l = List.range' i (es.size - i) 1∧∃ h',s' = { s with heap:=h' }∧h'.DictOfH knd d (foldH xs (ys.take i))∧Heap.SameBut d s.heap h'∧(foldH xs (ys.take i)).length≤xs.length + i) _ ?_ ?_ _ _ ⟨0,Nat.zero_le _,rfl,s.heap,rfl,dd,⟨rfl,fun _ _=>rfl⟩,Nat.le_refl _⟩
  ·rintro x rest b s' ⟨i,hi,hl,h',rfl,D',sb,hlen⟩
   obtain⟨hxi,hrest,hlt⟩:x = i∧rest = List.range' (i + 1) (es.size - (i + 1)) 1∧i < es.size:=by
    cases e:es.size - i with
    | zero=>rw [e] at hl; cases hl
    | succ n =>
     rw [e,List.range'_succ] at hl
     injection hl with h1 h2
     exact⟨h1,by rw [h2,show es.size - (i + 1) = n by omega],by omega⟩
   subst hxi
   obtain⟨y,hy⟩:∃ y,ys[x]? = some y:=⟨_,List.getElem?_eq_getElem (by omega)⟩
   have hey:es[x]? = some (entryOfKey knd y):=by rw [← Array.getElem?_toList,hes,List.getElem?_map,hy]; rfl
   have g1':h'.get? o = some oo:=(sb.2 o (Ne.symm hdo)).trans g1
   refine wpAny_bind (wpAny_dictEntries (s:={ s with heap:=h' }) g1' g3 ?_)
   rw [hey]
   have hyk:knd.is h' y.1 y.2.1:=knd.keeps (hys y (List.mem_of_getElem? hy)) f1 f3 sb
   refine wpAny_bind (wpAny_holding (setHashed_heap (s:={ s with heap:=h' }) hr hyk D' (fun h2 D2 sb2=>?_) (by omega)))
   have sb3:Heap.SameBut d s.heap h2:=⟨sb2.1.trans sb.1,fun b hb=>(sb2.2 b hb).trans (sb.2 b hb)⟩
   refine wpAny_bind (wpAny_dictEpoch (s:={ s with heap:=h2 }) ((sb3.2 o (Ne.symm hdo)).trans g1) g3 ?_)
   rw [if_neg (by simp)]
   have htk:foldH xs (ys.take (x + 1)) = storedH (foldH xs (ys.take x)) y.1 y.2.1 y.2.2:=by
    unfold foldH
    rw [List.take_add_one,hy,List.foldl_append]; rfl
   refine wpAny_pure ⟨x + 1,hlt,hrest,h2,rfl,by rw [htk]; exact D2,sb3,?_⟩
   rw [htk]
   unfold storedH
   split
   ·rw [List.length_map]; omega
   ·rw [List.length_append]; show _ + 1≤_; omega
  ·rintro b s' ⟨i,hi,hl,h',rfl,D',sb,_⟩
   have:i = ys.length:=by
    cases e:es.size - i with
    | zero=>omega
    | succ n=>rw [e,List.range'_succ] at hl; cases hl
   rw [this,List.take_length] at D'
   exact wpAny_pure (q' h' D' sb)
 dsimp only
 have hde:ed.isEmpty = false:=by
  rw [Array.isEmpty_eq_false_iff]
  intro z
  rw [z] at f4
  have:=congrArg List.length f4
  rw [List.length_map] at this
  exact hx (List.length_eq_zero_iff.1 this.symm)
 split
 ·refine wpAny_bind (wpAny_dictEntries f1 f3 ?_)
  rw [hde,if_neg Bool.false_ne_true]
  exact loop Q q
 ·exact loop Q q
theorem meets_update_heap (d o:Addr):MeetsIn prog w (Builtin.«dict.update» { pos:=[.ref d,.ref o] }) fun A R s=>knd.room A.in1∧d≠o∧(o == sysModules) = false∧∃ (xs ys:List (K × Addr × Value)) (es:Array DictEntry) (ep:Nat),s.heap.DictOfH knd d xs∧xs≠[]∧RawD s.heap o es ep∧es.toList = ys.map (entryOfKey knd)∧(∀ y∈ys,knd.is s.heap y.1 y.2.1)∧xs.length + ys.length≤sizeLine ∧ ∀ h',h'.DictOfH knd d (foldH xs ys)→Heap.SameBut d s.heap h'→R (.ok (.ret .none)) { s with heap:=h' }:=by
 intro A R s ⟨hr,hdo,ho,xs,ys,es,ep,dd,hx,hraw,hes,hys,hs,q⟩
 have hT:=dd.typeIs
 have hTo:s.TypeIs (.ref o) "dict":=hraw.ty
 unfold Builtin.«dict.update» Builtin.Dict.selfAndRest Builtin.Dict.notOrdered
 rw [if_pos (by decide +kernel)]
 refine wpAny_bind (wpAny_bind (wpAny_bind (wpAny_typeOf hT ?_)))
 rw [if_neg (by decide +kernel)]
 refine wpAny_pure (wpAny_bind ?_)
 unfold Builtin.Dict.addrOf
 refine wpAny_pure (wpAny_pure ?_)
 dsimp only
 unfold Builtin.Dict.updateCommon Builtin.Dict.updateFrom
 dsimp only
 refine wpAny_bind (wpAny_typeOf hTo ?_)
 rw [if_neg (by decide +kernel)]
 refine wpAny_bind ?_
 unfold Builtin.Dict.merge Builtin.Dict.readDirectly
 refine wpAny_bind (wpAny_bind (wpAny_isInstance hTo isSubtype_dict_dict ?_))
 rw [if_neg (by decide)]
 refine wpAny_bind (wpAny_specialOf hTo F.slot_dict_iter.lookup (wpAny_pure ?_))
 rw [if_pos (by decide +kernel)]
 unfold Builtin.Dict.addrOf
 refine wpAny_bind (wpAny_pure (merge_heap hdo ho hr dd hx hraw hes hys (fun h' D' sb=>?_) hs))
 unfold Builtin.Dict.addKeywords
 refine wpAny_bind (wpAny_bind ?_)
 rw [List.forIn_nil]
 exact wpAny_pure (wpAny_pure (wpAny_pure (q h' D' sb)))
end
theorem kput_facts {kvs:List (NK × Addr × V)} {xs:List (NK × Addr × Value)} {k:NK} {b:Addr} {v:V} {rr:Value} (hks:xs.map (fun x=>(x.1,x.2.1)) = kvs.map (fun q=>(q.1,q.2.1))) (hvv:Vals (kvs.map (·.2.2)) (xs.map (·.2.2))) (dnd:(kvs.map (·.1)).Nodup) (rv:RelV v rr) :
  (storedH xs k b rr).map (fun x=>(x.1,x.2.1)) = (kPut kvs k b v).map (fun q=>(q.1,q.2.1))∧Vals ((kPut kvs k b v).map (·.2.2)) ((storedH xs k b rr).map (·.2.2))∧((kPut kvs k b v).map (·.1)).Nodup∧(kPut kvs k b v).length≤kvs.length + 1∧∀ q∈kPut kvs k b v,(∃ q0∈kvs,q.1 = q0.1∧q.2.1 = q0.2.1)∨(q.1 = k∧q.2.1 = b):=by
 have hkk:=keys_eq hks
 unfold kPut
 by_cases hn:k∈kvs.map (·.1)
 ·have hst:storedH xs k b rr = xs.map (putAt k rr):=by
   unfold storedH
   rw [atKey_some,hkk,if_pos (decide_eq_true hn)]
  rw [if_pos hn,hst]
  refine⟨?_,?_,?_,by rw [List.length_map]; omega,fun q hq=>?_⟩
  ·rw [List.map_map,List.map_map]
   have e1:xs.map ((fun x:NK × Addr × Value=>(x.1,x.2.1)) ∘ putAt k rr) = xs.map (fun x=>(x.1,x.2.1)):=List.map_congr_left fun x _=>by
    show ((putAt k rr x).1,(putAt k rr x).2.1) = _
    unfold putAt
    split <;> rfl
   have e2:kvs.map ((fun q:NK × Addr × V=>(q.1,q.2.1)) ∘ fun q=>if q.1 = k then (q.1,q.2.1,v) else q) = kvs.map (fun q=>(q.1,q.2.1)):=List.map_congr_left fun x _=>by
    show ((if x.1 = k then (x.1,x.2.1,v) else x).1,(if x.1 = k then (x.1,x.2.1,v) else x).2.1) = _
    split <;> rfl
   rw [e1,e2,hks]
  ·have key:∀ (xs:List (NK × Addr × Value)) (kvs:List (NK × Addr × V)),xs.map (fun x=>(x.1,x.2.1)) = kvs.map (fun q=>(q.1,q.2.1))→Vals (kvs.map (·.2.2)) (xs.map (·.2.2)) → Vals ((kvs.map fun q=>if q.1 = k then (q.1,q.2.1,v) else q).map (·.2.2)) ((xs.map (putAt k rr)).map (·.2.2)):=by
    intro xs
    induction xs with
    | nil=>intro kvs h1 h2; cases kvs with
     | nil=>exact .nil
     | cons q kvs=>cases h1
    | cons x xs ih=>intro kvs h1 h2; cases kvs with
     | nil=>cases h1
     | cons q kvs =>
      rw [List.map_cons,List.map_cons] at h1
      injection h1 with h3 h4
      injection h3 with h3 _
      rw [List.map_cons,List.map_cons] at h2
      cases h2 with
      | cons r1 r2 =>
      rw [List.map_cons,List.map_cons,List.map_cons,List.map_cons]
      refine .cons ?_ (ih kvs h4 r2)
      unfold putAt
      by_cases c:x.1 = k
      ·rw [if_pos c,if_pos (h3.symm.trans c)]; exact rv
      ·rw [if_neg c,if_neg (fun z=>c (h3.trans z))]; exact r1
   exact key xs kvs hks hvv
  ·rw [List.map_map]
   have e2:kvs.map ((fun q:NK × Addr × V=>q.1) ∘ fun q=>if q.1 = k then (q.1,q.2.1,v) else q) = kvs.map (·.1):=List.map_congr_left fun x _=>by
    show (if x.1 = k then (x.1,x.2.1,v) else x).1 = _
    split <;> rfl
   rw [show (fun q:NK × Addr × V=>q.1) = (·.1) from rfl] at e2
   rw [e2]
   exact dnd
  ·obtain⟨q0,hq0,rfl⟩:=List.mem_map.1 hq
   refine .inl ⟨q0,hq0,?_,?_⟩ <;> (split <;> rfl)
 ·have hst:storedH xs k b rr = xs ++ [(k,b,rr)]:=by
   unfold storedH
   rw [atKey_some,hkk,decide_eq_false hn,if_neg Bool.false_ne_true]
  rw [if_neg hn,hst]
  refine⟨by rw [List.map_append,List.map_append,hks]; rfl,?_,?_,by rw [List.length_append]; exact Nat.le_refl _,fun q hq=>?_⟩
  ·rw [List.map_append,List.map_append]
   exact hvv.append (.cons rv .nil)
  ·rw [List.map_append]
   exact List.nodup_append.2 ⟨dnd,by simp,fun a ha c hc=>by simp at hc; subst hc; rintro rfl; exact hn ha⟩
  ·rcases List.mem_append.1 hq with hq | hq
   ·exact .inl ⟨q,hq,rfl,rfl⟩
   ·rw [List.mem_singleton.1 hq]; exact .inr ⟨rfl,rfl⟩
noncomputable def kFold (kvs more:List (NK × Addr × V)):List (NK × Addr × V):=more.foldl (fun acc q=>kPut acc q.1 q.2.1 q.2.2) kvs
theorem kfold_facts:∀ {more:List (NK × Addr × V)} {ys:List (NK × Addr × Value)} {kvs:List (NK × Addr × V)} {xs:List (NK × Addr × Value)},ys.map (fun x=>(x.1,x.2.1)) = more.map (fun q=>(q.1,q.2.1))→Vals (more.map (·.2.2)) (ys.map (·.2.2))→xs.map (fun x=>(x.1,x.2.1)) = kvs.map (fun q=>(q.1,q.2.1))→Vals (kvs.map (·.2.2)) (xs.map (·.2.2))→(kvs.map (·.1)).Nodup →
  (foldH xs ys).map (fun x=>(x.1,x.2.1)) = (kFold kvs more).map (fun q=>(q.1,q.2.1))∧Vals ((kFold kvs more).map (·.2.2)) ((foldH xs ys).map (·.2.2))∧((kFold kvs more).map (·.1)).Nodup∧(kFold kvs more).length≤kvs.length + more.length∧∀ q∈kFold kvs more,∃ q0∈kvs ++ more,q.1 = q0.1∧q.2.1 = q0.2.1
 | [],[],kvs,xs,_,_,h1,h2,h3=>⟨h1,h2,h3,Nat.le_refl _,fun q hq=>⟨q,by have hq:q∈kvs:=hq; simpa using hq,rfl,rfl⟩⟩
 | [],_ :: _,_,_,h,_,_,_,_=>by cases h
 | _ :: _,[],_,_,h,_,_,_,_=>by cases h
 | m :: more,y :: ys,kvs,xs,g1,g2,h1,h2,h3=>by
  rw [List.map_cons,List.map_cons] at g1 g2
  injection g1 with e1 e2
  injection e1 with e3 e4
  cases g2 with
  | cons r rr =>
  obtain⟨p1,p2,p3,p4,p5⟩:=kput_facts (k:=m.1) (b:=m.2.1) h1 h2 h3 r
  obtain⟨q1,q2,q3,q4,q5⟩:=kfold_facts (kvs:=kPut kvs m.1 m.2.1 m.2.2) (xs:=storedH xs m.1 m.2.1 y.2.2) e2 rr p1 p2 p3
  have hf:foldH xs (y :: ys) = foldH (storedH xs m.1 m.2.1 y.2.2) ys:=by unfold foldH; rw [List.foldl_cons,e3,e4]
  have hk:kFold kvs (m :: more) = kFold (kPut kvs m.1 m.2.1 m.2.2) more:=rfl
  rw [hf,hk]
  refine⟨q1,q2,q3,by rw [List.length_cons]; omega,fun q hq=>?_⟩
  obtain⟨q0,hq0,z1,z2⟩:=q5 q hq
  rcases List.mem_append.1 hq0 with hq0 | hq0
  ·rcases p5 q0 hq0 with ⟨q9,hq9,z3,z4⟩ | ⟨z3,z4⟩
   ·exact⟨q9,List.mem_append_left _ hq9,z1.trans z3,z2.trans z4⟩
   ·exact⟨m,List.mem_append_right _ (List.mem_cons_self ..),z1.trans z3,z2.trans z4⟩
  ·exact⟨q0,List.mem_append_right _ (List.mem_cons_of_mem _ hq0),z1,z2⟩
section
variable {X:Cx} {pos:Pos}
def cUpdN:V→List V→Hp→VK→Prop:=fun x vs H Q=>match x,vs with
 | .ref d,[.ref o]=>∃ kvs more,DNx H d kvs∧kvs≠[]∧DNe H o more∧d≠o∧kvs.length + more.length≤sizeLine ∧
   ∀ H':Hp,(∀ c u,H c = some u→c≠d→H' c = some u)→(∀ c,H c = none→H' c = none)→DNx H' d (kFold kvs more)→Q .non H'
 | _,_=>False
theorem q_updN {r:Nat} (hr:Room r X.A):MtR X "dict.update" cUpdN:=by
 intro pins s σ H x vs v us Q I rx rv h
 unfold cUpdN at h
 split at h
 ·rename_i d o
  obtain⟨kvs,more,D,hne,De,hdo,hsz,q⟩:=h
  cases rx
  obtain⟨u,rfl,ru⟩:=rv.one
  cases ru
  obtain⟨xs,e,hks,hvv,dd⟩:=dn_of I D
  obtain⟨ys,es,ep,sm,hraw,hes,hyk,hyv,hys,dks⟩:∃ (ys:List (NK × Addr × Value)) (es:Array DictEntry) (ep:Nat),(o == sysModules) = false∧RawD s.heap o es ep∧es.toList = ys.map (entryOfKey (nKind X.prog X.w))∧ys.map (fun x=>(x.1,x.2.1)) = more.map (fun q=>(q.1,q.2.1))∧Vals (more.map (·.2.2)) (ys.map (·.2.2))∧(∀ y∈ys,(nKind X.prog X.w).is s.heap y.1 y.2.1)∧(∀ q∈more,q.1.dep≤7∧DenN H q.1 (.ref q.2.1)):=by
   rcases De with ⟨rfl,e⟩ | DD
   ·obtain⟨z,hd,vs,rel,o',es,ep,g1,g2,g3,g4,g5,g6⟩:=dk_of I.hok e
    cases rel
    refine⟨[],es,ep,hd,⟨o',g1,g2,g3⟩,?_,rfl,.nil,fun x hx=>(by cases hx),fun x hx=>(by cases hx)⟩
    generalize es.toList = l at g5
    cases g5
    rfl
   ·obtain⟨ys,e',hks',hvv',o',es,ep,g1,g2,g3,g4,g5,g6⟩:=dn_of I DD
    exact⟨ys,es,ep,DD.sm,⟨o',g1,g2,g3⟩,g4,hks',hvv',g5,DD.ks⟩
  have hxl:xs.length = kvs.length:=by have:=congrArg List.length hks; simpa using this
  have hyl:ys.length = more.length:=by have:=congrArg List.length hyk; simpa using this
  obtain⟨f1,f2,f3,f4,f5⟩:=kfold_facts hyk hyv hks hvv D.nd
  refine call_meetsIn F.slot_dict_update dd.typeIs F.entry_dict_update (F.args_dict_update_2 _ _) (meets_update_heap (knd:=nKind X.prog X.w) d o) ⟨by show X.A.units + 1 + 8 < cLine; have:=hr.units; omega,hdo,sm,xs,ys,es,ep,dd,fun z=>hne (by rw [z] at hxl; exact List.length_eq_zero_iff.1 hxl.symm),hraw,hes,hys,by omega,fun h' D' sb=>?_⟩
  obtain⟨o',es',ep',g1,g2,g3,g4,g5,g6⟩:=D'
  have new:ObjOk X.prog X.w (upd H d (.ext (PhiN d (foldH xs ys)))) h' d (.ext (PhiN d (foldH xs ys))):=phi_ok ⟨o',es',ep',g1,g2,g3,g4⟩
  have I4:=d_write (t':=s.toks) I (by rw [e]; exact True.intro) sb ⟨o',g1⟩ new
  have kp:∀ a xs',H a = some (.tup xs')→(upd H d (.ext (PhiN d (foldH xs ys)))) a = some (.tup xs'):=fun a xs' ea=>by rw [upd_ne (by rintro rfl; rw [e] at ea; cases ea)]; exact ea
  refine⟨.non,_,I4,rfl,q _ (fun c u' ec ne=>by rw [upd_ne ne]; exact ec) (fun c ec=>by rw [upd_ne (by rintro rfl; rw [e] at ec; cases ec)]; exact ec) ⟨⟨_,upd_same,f1,f2⟩,fun q hq=>?_,f3,by omega,D.sm⟩⟩
  obtain⟨q0,hq0,z1,z2⟩:=f5 q hq
  rw [z1,z2]
  have hk0:q0.1.dep≤7∧DenN H q0.1 (.ref q0.2.1):=by
   rcases List.mem_append.1 hq0 with hq0 | hq0
   ·exact D.ks q0 hq0
   ·exact dks q0 hq0
  exact⟨hk0.1,DenN.mono kp 7 _ _ hk0.1 hk0.2⟩
 ·exact h.elim
end
theorem meets_len_raw {prog:Program} {w:World} (d:Addr):MeetsIn prog w (Builtin.«dict.__len__» { pos:=[.ref d] }) fun A R s=>(d == sysModules) = false∧∃ (es:Array DictEntry) (ep:Nat),RawD s.heap d es ep∧R (.ok (.ret (.int es.size s.toks))) { s with toks:=s.toks + 1 }:=by
 intro A R s ⟨hd,es,ep,⟨o,g1,g2,g3⟩,q⟩
 unfold Builtin.«dict.__len__» Builtin.Dict.dictSlotNone Builtin.Dict.notOrdered
 rw [if_neg (by decide +kernel)]
 refine wpAny_bind (wpAny_bind (wpAny_pure (wpAny_bind ?_)))
 unfold slotArgs
 dsimp only
 rw [if_neg (by decide +kernel),if_neg (by decide +kernel)]
 refine wpAny_pure (wpAny_pure (wpAny_bind ?_))
 unfold Builtin.Dict.addrOf
 refine wpAny_pure (wpAny_bind ?_)
 unfold dictSize
 refine wpAny_bind (wpAny_dictEntries g1 g3 (wpAny_pure (wpAny_bind ?_)))
 unfold Builtin.Dict.pendingCount
 rw [if_neg (by rw [hd]; exact Bool.false_ne_true)]
 refine wpAny_pure ?_
 unfold retInt
 rw [show ((es.size:Int) + ((0:Nat):Int)) = (es.size:Int) by omega]
 exact wpAny_bind (wpAny_mkInt (wpAny_pure q))
section
variable {X:Cx}
def cLenN:List V→Hp→VK→Prop:=fun xs H Q=>match xs with
 | [.ref d]=>∃ kvs,DNx H d kvs∧Q (.int kvs.length) H
 | _=>False
theorem q_lenN:CallR X (.builtin "len") cLenN:=by
 intro pins s σ H xs us Q I r h
 unfold cLenN at h
 split at h
 ·rename_i d
  obtain⟨kvs,D,q⟩:=h
  obtain⟨u,rfl,ru⟩:=vals1 r
  cases ru
  obtain⟨ys,e',hks',hvv',o',es,ep,g1,g2,g3,g4,g5,g6⟩:=dn_of I D
  have hes:es.size = kvs.length:=by
   rw [← Array.length_toList,g4,List.length_map]
   have:=congrArg List.length hks'; simpa using this
  have hsz:=D.sz
  rw [sizeLine_eq] at hsz
  refine call_len_slot (T:="dict") (n:=(kvs.length:Int)) ⟨o',g1,g2.1⟩ F.slot_dict_len (fun Q' q'=>?_) (by omega) (by omega) ⟨.int kvs.length,H,I.tok _,⟨_,rfl⟩,q⟩
  refine call_meetsIn F.slot_dict_len ⟨o',g1,g2.1⟩ F.entry_dict_len (F.args_dict_len_1 _) (meets_len_raw d) ⟨D.sm,es,ep,⟨o',g1,g2,g3⟩,?_⟩
  rw [hes]
  exact q'
 ·exact h.elim
end
def tDispN (trs:List (TE × TE)):TE:=fun σ H Q=>∀ p,H p = none→tPairs trs σ (upd H p (.dK [])) fun ps H2=>H2 p = some (.dK [])∧∃ (b:Addr) (k:NK) (v:V),ps = [(.ref b,v)]∧k.dep≤7∧DenN H2 k (.ref b) ∧
 ∀ H4:Hp,(∀ c u,H2 c = some u→c≠p→H4 c = some u)→(∀ c,H2 c = none→H4 c = none)→DNx H4 p [(k,b,v)]→Q (.ref p) H4
theorem pe_dispN {X:Cx} {r:Nat} {pos:Pos} {keys:List (Option Expr)} {values:List Expr} {trs:List (TE × TE)} (hr:Room r X.A) (h:PPs X pos keys values trs) (hall:keys.all (·.isSome) = true) (hl:keys.length = values.length) (h0:keys≠[])
  (h15:keys.length≤15):PE X (.Dict keys values pos) (tDispN trs):=by
 intro pins s σ H Q I q
 have hn:=I.hok.fresh (Nat.le_refl s.heap.objs.size)
 have I1:=I.laid (a:=s.heap.objs.size) (o:=.dK []) (h':=s.heap.push { cls:=.type "dict",data:=.dict #[] }) (t':=s.toks) (fun _ _ q=>Heap.get?_push_of_some _ q) (Nat.le_refl _) (dk_empty s.heap I.big)
 refine wpAny_Dict_any hall hl h0 h15 (thn (h pins _ σ _ _ I1 (q _ hn)) fun ws s2 ⟨ps,H2,I2,rel,e,b,k,v,ep,hk,hb,q2⟩=>?_)
 subst ep
 cases rel with
 | @cons _ w _ _ rw1 rest =>
 cases rest
 obtain⟨wk,wv⟩:=w
 obtain⟨r1,r2⟩:=rw1
 obtain rfl:wk = Value.ref b:=r1
 obtain⟨z,hd,vs,rel,o,es,ep,g1,g2,g3,g4,g5,g6⟩:=dk_of I2.hok e
 cases rel
 have dd:s2.heap.DictOfH (nKind X.prog X.w) s.heap.objs.size []:=by
  refine⟨o,es,ep,g1,g2,g3,?_,fun x hx=>(by cases hx),List.nodup_nil⟩
  generalize es.toList = l at g5
  cases g5
  rfl
 unfold storeAll
 rw [List.forIn_cons]
 refine wpAny_bind (wpAny_bind (wpAny_dictSet_heap (knd:=nKind X.prog X.w) (by show X.A.units + 8 < cLine; have:=hr.units; omega) ⟨hk,isN_of I2 7 k _ _ hk hb rfl⟩ dd (fun h' dd' hsb=>?_) (by simp)))
 refine wpAny_pure ?_
 dsimp only
 rw [List.forIn_nil]
 refine wpAny_pure ?_
 obtain⟨o',es',ep',k1,k2,k3,k4,k5,k6⟩:=dd'
 have new:ObjOk X.prog X.w (upd H2 s.heap.objs.size (.ext (PhiN s.heap.objs.size (storedH [] k b wv)))) h' s.heap.objs.size (.ext (PhiN s.heap.objs.size (storedH [] k b wv))):=phi_ok ⟨o',es',ep',k1,k2,k3,k4⟩
 have I4:=d_write (t':=s2.toks + (nKind X.prog X.w).draws k) I2 (by rw [e]; exact True.intro) hsb ⟨o',k1⟩ new
 have hkp:=kput_new (H3:=H2) (kvs:=[]) (xs:=[]) (k:=k) (b:=b) (v:=v) (rr:=wv) e (fun xs z=>by cases z) rfl .nil (fun q hq=>by cases hq) List.nodup_nil (by rw [sizeLine_eq]; decide) hd hk hb r2
 rw [show kPut [] k b v = [(k,b,v)] by unfold kPut; rw [if_neg (by simp)]; rfl] at hkp
 exact⟨.ref s.heap.objs.size,_,I4,rfl,q2 _ (fun c u' ec ne=>by rw [upd_ne ne]; exact ec) (fun c ec=>by rw [upd_ne (by rintro rfl; rw [e] at ec; cases ec)]; exact ec) hkp⟩
def tUpdN (to:TE) (t:TA):TE:=fun σ H Q=>to σ H fun x H1=>(∃ a kvs,x = .ref a∧DNx H1 a kvs)∧t σ H1 fun xs H2=>cUpdN x xs H2 Q
theorem pe_updN {X:Cx} {r:Nat} {o e:Expr} {es:List Expr} {apos cpos:Pos} {to:TE} {t:TA} (hr:Room r X.A) (ho:PE X o to) (ha:PA X (e :: es) t)
  (hbase:attributeBase o "update" X.env (eval o X.env) = eval o X.env:=by rfl)
  (hfew:((backTo cpos (starEach (e :: es) X.env)).all (fun x=>!x.1) && (backToKw cpos (keywordEach [] X.env)).all (fun x=>x.1.isSome)
   && decide ((e :: es).length + ([]:List Keyword).length + (if ([]:List Keyword).isEmpty then 0 else 1) < 30)) = true:=by rfl)
  (hline:(apos.endLine == cpos.line) = true:=by rfl) (hs:starEach (e :: es) X.env = (false,eval e X.env) :: starEach es X.env:=by rfl) (hplain:(backTo cpos (starEach es X.env)).any (·.1) = false:=by rfl) :
  PE X (.Call (.Attribute o "update" apos) (e :: es) [] cpos) (tUpdN to t):=by
 intro pins s σ H Q I h
 refine wpAny_Call_method_late hbase hfew hline rfl (thn (ho pins s σ H _ I h) fun v s1 ⟨x,H1,I1,r1,⟨a,kvs,ex,D⟩,q1⟩=>?_)
 subst ex
 obtain rfl:v = Value.ref a:=r1
 obtain⟨xs,e',hks,hvv,ob,es',ep,g1,g2,g3,g4⟩:=dn_of I1 D
 refine⟨"dict","dict.update",F.plainAttrs_dict,F.slot_dict_update,F.type_dict_update,⟨ob,g1,g2.1⟩,fun c hc=>?_,?_⟩
 ·cases hc; exact⟨ob,g1,g2.2.1⟩
 have hA:=ha cpos pins s1 σ H1 _ I1 q1
 rw [hs] at hA ⊢
 refine Calls.callWith_builtin (by show (false || (backTo cpos (starEach es X.env)).any (·.1)) = false; rw [hplain] <;> rfl) (Calls.evalArgs_plain ?_)
 exact thn hA fun us s2 ⟨vs,H2,I2,r2,q2⟩=>q_updN hr pins s2 σ H2 (.ref a) vs (.ref a) us Q I2 rfl r2 q2
theorem kFold_keys:∀ (more kvs:List (NK × Addr × V)),∃ ext:List NK,(kFold kvs more).map (·.1) = kvs.map (·.1) ++ ext∧(∀ x∈ext,x∈more.map (·.1))∧∀ x∈more.map (·.1),x∈kvs.map (·.1) ++ ext
 | [],kvs=>⟨[],by rw [List.append_nil]; rfl,fun x hx=>(by cases hx),fun x hx=>(by cases hx)⟩
 | m :: more,kvs=>by
  obtain⟨ext,h1,h2,h3⟩:=kFold_keys more (kPut kvs m.1 m.2.1 m.2.2)
  have hk:kFold kvs (m :: more) = kFold (kPut kvs m.1 m.2.1 m.2.2) more:=rfl
  have hp:(kPut kvs m.1 m.2.1 m.2.2).map (·.1) = if m.1∈kvs.map (·.1) then kvs.map (·.1) else kvs.map (·.1) ++ [m.1]:=by
   unfold kPut
   by_cases c:m.1∈kvs.map (·.1)
   ·rw [if_pos c,if_pos c,List.map_map]
    refine List.map_congr_left fun x _=>?_
    show (if x.1 = m.1 then (x.1,x.2.1,m.2.2) else x).1 = _
    split <;> rfl
   ·rw [if_neg c,if_neg c,List.map_append]; rfl
  rw [hk]
  by_cases c:m.1∈kvs.map (·.1)
  ·rw [if_pos c] at hp
   rw [hp] at h1 h3
   refine⟨ext,h1,fun x hx=>List.mem_cons_of_mem _ (h2 x hx),fun x hx=>?_⟩
   rw [List.map_cons] at hx
   rcases List.mem_cons.1 hx with rfl | hx
   ·exact List.mem_append_left _ c
   ·exact h3 x hx
  ·rw [if_neg c] at hp
   rw [hp] at h1 h3
   refine⟨m.1 :: ext,by rw [h1,List.append_assoc]; rfl,fun x hx=>?_,fun x hx=>?_⟩
   ·rcases List.mem_cons.1 hx with rfl | hx
    ·exact List.mem_cons_self ..
    ·exact List.mem_cons_of_mem _ (h2 x hx)
   ·rw [List.map_cons] at hx
    rcases List.mem_cons.1 hx with rfl | hx
    ·exact List.mem_append_right _ (List.mem_cons_self ..)
    ·have:=h3 x hx
     rw [List.append_assoc] at this
     exact this
end L2
end
section
set_option Elab.async false
set_option linter.all false
set_option maxRecDepth 100000
set_option maxHeartbeats 4000000
namespace L2
open PySem PySem.Spec PyProof.Rows PySem.W
end L2
end
section
set_option autoImplicit true
set_option linter.all false
open PySem PySem.Spec PyProof.Rows
namespace L2
section
variable {X:Cx} {pos:Pos}
end
end L2
end
section
set_option autoImplicit true
set_option linter.all false
open PySem PySem.Spec PyProof.Rows
namespace L2
section
variable {X:Cx} {sc:Scope} {own:List Str} {fr:List Nat} {elt tg iter:Expr} {ifs:List Expr} {wi:TI} {g:TG} {tc:TT} {te:TE} {pos:Pos} {y:Str}
theorem comp_storeC {e:Expr} {emit:Env→Addr→Sem Unit} {tm:TM} {acc:HO} {newAcc:Sem Value} (F:CompForm e tg iter ifs emit) (hc:X.calm = true) (S:CompScopeC X sc fr y) (hi:PI X tg iter wi) (hnew:PNew X newAcc acc)
  (hg:∀ C s₀ H₀ fp,PG (compCxC X sc own fr C s₀ H₀ fp y) tg g) (ht:∀ C s₀ H₀ fp,PTs (compCxC X sc own fr C s₀ H₀ fp y) ifs tc) (hm:∀ C s₀ H₀ fp,PM (compCxC X sc own fr C s₀ H₀ fp y) emit tm)
  (hs:∀ x,foldedSetIterable iter X.env x = pure x) {pins:List (Addr × Obj)} {s:Shared} {σ:St} {H:Hp} {D:Ends} {j:Nat} {v:Str} {py:Pos} (hN:X.N.Nodup) (hj:X.N[j]? = some v) (hy:Loc X.env.scope v)
  (hf:X.fn v = true∨X.env.scope.names.lookup v = some .local) (I:Inv X pins σ H s)
  (h:tCompB acc wi own.length fr g tc tm σ H fun p H'=>D.nx (σ.set j (some (.ref p))) H') :
  wpAny (model X.prog X.w) X.A (comprehension e sc X.env pos newAcc false (eval iter X.env) (some (assign (.Name v py) X.env))) (fun _ s'=>SP X pins D .next s') X.xe s:=by
 refine comp_anyC F hc S hi hnew hg ht hm hs I h fun p C H' s' m I' q hn h1 h2 h3 h4 h5=>?_
 show wpAny _ _ (assign (.Name v py) X.env (.ref p)) _ _ s'
 refine wpAny_assign_Name (store_ok2 I' hN hj hy (show RelV (V.ref p) (Value.ref p) from rfl) (fun s2 I2 ⟨a,sb,ha⟩=>?_) hf)
 have hCa:C≠a:=by
  rcases ha with z | z
  ·rw [z]; exact h2
  ·exact fun w=>h4 v a z w.symm
 refine⟨m,hn.sameBut sb hCa,fun h' hb=>?_⟩
 exact⟨_,H',I2.turned (t':=s2.toks) (fun b o hne eo=>hb.extBut b o hne eo) h1 h2 (.inr h3) h4 h5,q⟩
theorem ps_lcC {j:Nat} {v:Str} {py spos:Pos} (hc:X.calm = true) (hN:X.N.Nodup) (hj:X.N[j]? = some v) (hy:Loc X.env.scope v) (S:CompScopeC X sc fr y) (hi:PI X tg iter wi)
  (hg:∀ C s₀ H₀ fp,PG (compCxC X sc own fr C s₀ H₀ fp y) tg g) (ht:∀ C s₀ H₀ fp,PTs (compCxC X sc own fr C s₀ H₀ fp y) ifs tc) (he:∀ C s₀ H₀ fp,PE (compCxC X sc own fr C s₀ H₀ fp y) elt te)
  (hsw:swapsWith (.ListComp elt [⟨tg,iter,ifs,0⟩] sc pos) (some (.Name v py)) spos.line X.env = pure true:=by rfl)
  (hf:X.fn v = true∨X.env.scope.names.lookup v = some .local:=by first | exact .inl rfl | exact .inr rfl | assumption)
  (hs:∀ x,foldedSetIterable iter X.env x = pure x:=by intro _; rfl):PS X (.Assign [.Name v py] (.ListComp elt [⟨tg,iter,ifs,0⟩] sc pos) spos) (tAsg (tLC wi own.length fr g tc te) (gName j)):=by
 intro pins s σ H D I h
 rw [exec_Assign_Name_used _ _ _ _ hsw]
 refine wpAny_bind (wpAny_standAt (wpAny_bind ?_))
 show wpAny _ _ (do let _ ← comprehension (.ListComp elt [⟨tg,iter,ifs,0⟩] sc pos) sc X.env _ (newList []) false (eval iter X.env) (some (assign (.Name v py) X.env))) _ _ s
 refine wpAny_bind (thn (comp_storeC form_list hc S hi pnew_list hg ht (fun _ _ _ _=>pm_list (he _ _ _ _)) hs hN hj hy hf I h) fun _ s' q=>wpAny_pure (wpAny_pure q))
end
end L2
end
section
set_option autoImplicit true
set_option linter.all false
open PySem PySem.Spec PyProof.Rows
namespace L2
section
variable {X:Cx} {pos:Pos}
def cgTupL (K:PySem.W.Frag) (n:Nat) (t:TGs):TG:=fun v σ H Q=>match v with | .ref a=>∃ xs,SqL K H a xs∧xs.length = n∧t xs σ H Q | _=>False
theorem qg_tupL {es:List Expr} {k:Nat} {t:TGs} {n:Nat} {pos:Pos} (hc:X.calm = true) (h:PGs X es t)
  (hn:(assignEach es X.env).length = n:=by rfl) (hst:(assignEach es X.env).findIdx? (·.1) = none:=by rfl):PG X (.Tuple es k pos) (cgTupL X.K n t):=by
 intro pins s σ H v u Q I r hw
 obtain⟨a,rfl,xs,hq,hl,hw⟩:∃ a,v = .ref a∧∃ xs,SqL X.K H a xs∧xs.length = n∧t xs σ H Q:=by
  unfold cgTupL at hw
  split at hw
  ·exact⟨_,rfl,hw⟩
  ·exact hw.elim
 cases r
 obtain⟨its,rv,p,hz⟩:=I.list hq
 rw [assign_Tuple]
 refine wpAny_bind (wpAny_standAt ?_)
 unfold unpack
 rw [show (assignEach es X.env).length = its.toArray.size by simp [hn,← hl,rv.length],hst]
 refine wpAny_bind (wpAny_holding (PySem.W.kun_itemsOf (I.ok.hd hc) p.isList fun h' hx=>?_))
 have I1:Inv X pins σ H { s with heap:=h' }:=I.kept (t':=s.toks) fun b o e=>hx b o (Nat.ne_of_lt (Heap.lt_size e)) e
 exact h pins _ σ H xs _ Q I1 (by simpa using rv) hw
theorem qg_tupLK {K:PySem.W.Frag} {es:List Expr} {k:Nat} {t:TGs} {n:Nat} {pos:Pos} (hK:X.K = K) (hc:X.calm = true) (h:PGs X es t)
  (hn:(assignEach es X.env).length = n:=by rfl) (hst:(assignEach es X.env).findIdx? (·.1) = none:=by rfl):PG X (.Tuple es k pos) (cgTupL K n t):=hK ▸ qg_tupL hc h hn hst
end
end L2
end
namespace Law
open PySem PySem.Spec PyProof.Rows L2
local macro_rules | `(tactic| walk_at "o") => `(tactic| first | exact Or.inl rfl | exact Or.inr rfl)
local macro_rules | `(tactic| walk_at "w") => `(tactic| conv => whnf)
local macro_rules | `(tactic| walk_at "hp") => `(tactic| (repeat (first | assumption | exact upd_same | refine keepN ?_ (by assumption))))
local macro_rules | `(tactic| walk_at "frees") => `(tactic| (repeat ((conv => whnf); first | exact True.intro | refine ⟨Or.inl rfl, ?_⟩ | refine ⟨Or.inr rfl, ?_⟩ | refine ⟨⟨rfl, Or.inl rfl⟩, ?_⟩ | refine ⟨⟨rfl, Or.inr rfl⟩, ?_⟩)))
local macro_rules | `(tactic| walk_at "comp_ok") => `(tactic| exact ⟨rfl, by decide +kernel, by decide +kernel, by walk_at "frees", by walk_at "frees"⟩)
def top (i:Nat):Stmt:=PySem.Challenge.pw_endnever_k65_whole_shut_sets_within.main.body.getD i (.Pass ⟨0,0,0,0⟩)
abbrev s_l_mixed:Stmt:=top 23
abbrev s_l_draw:Stmt:=top 25
abbrev s_l_purse:Stmt:=top 24
abbrev s_is_entry:Stmt:=top 8
abbrev s_is_row:Stmt:=top 9
abbrev s_is_machine:Stmt:=top 10
abbrev s_must_machine:Stmt:=top 11
abbrev s_is_width:Stmt:=top 14
abbrev s_is_word:Stmt:=top 15
abbrev s_is_middle:Stmt:=top 16
abbrev s_ends_at:Stmt:=top 17
abbrev s_asked:Stmt:=top 18
abbrev s_is_kept:Stmt:=top 19
abbrev s_shows_shut:Stmt:=top 20
abbrev s_least_shut:Stmt:=top 21
abbrev s_l_machine:Stmt:=top 26
abbrev s_l_asked_by:Stmt:=top 27
abbrev s_l_in:Stmt:=top 31
abbrev s_l_within:Stmt:=top 33
abbrev s_l_shared:Stmt:=top 32
abbrev s_l_word:Stmt:=top 28
abbrev s_l_begun:Stmt:=top 29
abbrev s_l_closed:Stmt:=top 30
abbrev s_l_other:Stmt:=top 34
abbrev s_law:Stmt:=top 35
theorem us1 {P:List Value→Prop} (h:∀ v0,P [v0]):∀ us:List Value,us.length = 1→P us
 | [v0],_=>h v0
theorem us2 {P:List Value→Prop} (h:∀ v0 v1,P [v0,v1]):∀ us:List Value,us.length = 2→P us
 | [v0,v1],_=>h v0 v1
theorem us3 {P:List Value→Prop} (h:∀ v0 v1 v2,P [v0,v1,v2]):∀ us:List Value,us.length = 3→P us
 | [v0,v1,v2],_=>h v0 v1 v2
theorem us4 {P:List Value→Prop} (h:∀ v0 v1 v2 v3,P [v0,v1,v2,v3]):∀ us:List Value,us.length = 4→P us
 | [v0,v1,v2,v3],_=>h v0 v1 v2 v3
theorem us5 {P:List Value→Prop} (h:∀ v0 v1 v2 v3 v4,P [v0,v1,v2,v3,v4]):∀ us:List Value,us.length = 5→P us
 | [v0,v1,v2,v3,v4],_=>h v0 v1 v2 v3 v4
set_option genInjectivity false in
set_option genSizeOf false in
structure Ad where
 l_mixed:Addr
 l_mixed_d:FuncData
 l_draw:Addr
 l_draw_d:FuncData
 l_purse:Addr
 l_purse_d:FuncData
 is_entry:Addr
 is_entry_d:FuncData
 is_row:Addr
 is_row_d:FuncData
 is_machine:Addr
 is_machine_d:FuncData
 must_machine:Addr
 must_machine_d:FuncData
 is_width:Addr
 is_width_d:FuncData
 is_word:Addr
 is_word_d:FuncData
 is_middle:Addr
 is_middle_d:FuncData
 ends_at:Addr
 ends_at_d:FuncData
 asked:Addr
 asked_d:FuncData
 is_kept:Addr
 is_kept_d:FuncData
 shows_shut:Addr
 shows_shut_d:FuncData
 least_shut:Addr
 least_shut_d:FuncData
 l_machine:Addr
 l_machine_d:FuncData
 l_asked_by:Addr
 l_asked_by_d:FuncData
 l_in:Addr
 l_in_d:FuncData
 l_within:Addr
 l_within_d:FuncData
 l_shared:Addr
 l_shared_d:FuncData
 l_word:Addr
 l_word_d:FuncData
 l_begun:Addr
 l_begun_d:FuncData
 l_closed:Addr
 l_closed_d:FuncData
 l_other:Addr
 l_other_d:FuncData
 law:Addr
 law_d:FuncData
 MillError:Addr
 NoMachine:Addr
 NoWidth:Addr
 MOST_WIDTHS:Addr
structure Tx (K:PySem.W.Frag) (mg:Str→Option Value) (a:Ad):Prop where
 f_l_mixed:Fun K "_law_mixed" "_law_mixed" s_l_mixed a.l_mixed a.l_mixed_d
 b_l_mixed:Binds K a.l_mixed_d ["_law_cell","_law_k"] []
 g_l_mixed:mg "_law_mixed" = some (.ref a.l_mixed)
 f_l_draw:Fun K "_law_draw" "_law_draw" s_l_draw a.l_draw a.l_draw_d
 b_l_draw:Binds K a.l_draw_d ["_law_purse_here","_law_out_of"] []
 g_l_draw:mg "_law_draw" = some (.ref a.l_draw)
 f_l_purse:Fun K "_law_purse" "_law_purse" s_l_purse a.l_purse a.l_purse_d
 b_l_purse:Binds K a.l_purse_d ["_law_script"] []
 g_l_purse:mg "_law_purse" = some (.ref a.l_purse)
 f_is_entry:Fun K "is_entry" "is_entry" s_is_entry a.is_entry a.is_entry_d
 b_is_entry:Binds K a.is_entry_d ["entry","rows","signs"] []
 g_is_entry:mg "is_entry" = some (.ref a.is_entry)
 f_is_row:Fun K "is_row" "is_row" s_is_row a.is_row a.is_row_d
 b_is_row:Binds K a.is_row_d ["row","rows","signs"] []
 g_is_row:mg "is_row" = some (.ref a.is_row)
 f_is_machine:Fun K "is_machine" "is_machine" s_is_machine a.is_machine a.is_machine_d
 b_is_machine:Binds K a.is_machine_d ["machine"] []
 g_is_machine:mg "is_machine" = some (.ref a.is_machine)
 f_must_machine:Fun K "must_machine" "must_machine" s_must_machine a.must_machine a.must_machine_d
 b_must_machine:Binds K a.must_machine_d ["machine"] []
 g_must_machine:mg "must_machine" = some (.ref a.must_machine)
 f_is_width:Fun K "is_width" "is_width" s_is_width a.is_width a.is_width_d
 b_is_width:Binds K a.is_width_d ["machine","width"] []
 g_is_width:mg "is_width" = some (.ref a.is_width)
 f_is_word:Fun K "is_word" "is_word" s_is_word a.is_word a.is_word_d
 b_is_word:Binds K a.is_word_d ["machine","width","word"] []
 g_is_word:mg "is_word" = some (.ref a.is_word)
 f_is_middle:Fun K "is_middle" "is_middle" s_is_middle a.is_middle a.is_middle_d
 b_is_middle:Binds K a.is_middle_d ["machine","width","middle"] []
 g_is_middle:mg "is_middle" = some (.ref a.is_middle)
 f_ends_at:Fun K "ends_at" "ends_at" s_ends_at a.ends_at a.ends_at_d
 b_ends_at:Binds K a.ends_at_d ["machine","middle"] []
 g_ends_at:mg "ends_at" = some (.ref a.ends_at)
 f_asked:Fun K "asked" "asked" s_asked a.asked a.asked_d
 b_asked:Binds K a.asked_d ["machine","middle","lefts","rights"] []
 g_asked:mg "asked" = some (.ref a.asked)
 f_is_kept:Fun K "is_kept" "is_kept" s_is_kept a.is_kept a.is_kept_d
 b_is_kept:Binds K a.is_kept_d ["machine","middle","lefts","rights","middles"] []
 g_is_kept:mg "is_kept" = some (.ref a.is_kept)
 f_shows_shut:Fun K "shows_shut" "shows_shut" s_shows_shut a.shows_shut a.shows_shut_d
 b_shows_shut:Binds K a.shows_shut_d ["machine","paper"] []
 g_shows_shut:mg "shows_shut" = some (.ref a.shows_shut)
 f_least_shut:Fun K "least_shut" "least_shut" s_least_shut a.least_shut a.least_shut_d
 b_least_shut:Binds K a.least_shut_d ["machine","width"] []
 g_least_shut:mg "least_shut" = some (.ref a.least_shut)
 f_l_machine:Fun K "_law_machine" "_law_machine" s_l_machine a.l_machine a.l_machine_d
 b_l_machine:Binds K a.l_machine_d ["_law_purse_here","_law_rows","_law_signs"] []
 g_l_machine:mg "_law_machine" = some (.ref a.l_machine)
 f_l_asked_by:Fun K "_law_asked_by" "_law_asked_by" s_l_asked_by a.l_asked_by a.l_asked_by_d
 b_l_asked_by:Binds K a.l_asked_by_d ["_law_machine_here","_law_middle","_law_lefts","_law_rights"] []
 g_l_asked_by:mg "_law_asked_by" = some (.ref a.l_asked_by)
 f_l_in:Fun K "_law_in" "_law_in" s_l_in a.l_in a.l_in_d
 b_l_in:Binds K a.l_in_d ["_law_some","_law_others"] []
 g_l_in:mg "_law_in" = some (.ref a.l_in)
 f_l_within:Fun K "_law_within" "_law_within" s_l_within a.l_within a.l_within_d
 b_l_within:Binds K a.l_within_d ["_law_wide","_law_narrow"] []
 g_l_within:mg "_law_within" = some (.ref a.l_within)
 f_l_shared:Fun K "_law_shared" "_law_shared" s_l_shared a.l_shared a.l_shared_d
 b_l_shared:Binds K a.l_shared_d ["_law_one","_law_other_here"] []
 g_l_shared:mg "_law_shared" = some (.ref a.l_shared)
 f_l_word:Fun K "_law_word" "_law_word" s_l_word a.l_word a.l_word_d
 b_l_word:Binds K a.l_word_d ["_law_purse_here","_law_signs","_law_width"] []
 g_l_word:mg "_law_word" = some (.ref a.l_word)
 f_l_begun:Fun K "_law_begun" "_law_begun" s_l_begun a.l_begun a.l_begun_d
 b_l_begun:Binds K a.l_begun_d ["_law_purse_here","_law_machine_here","_law_width"] []
 g_l_begun:mg "_law_begun" = some (.ref a.l_begun)
 f_l_closed:Fun K "_law_closed" "_law_closed" s_l_closed a.l_closed a.l_closed_d
 b_l_closed:Binds K a.l_closed_d ["_law_machine_here","_law_width","_law_begun_here"] []
 g_l_closed:mg "_law_closed" = some (.ref a.l_closed)
 f_l_other:Fun K "_law_other" "_law_other" s_l_other a.l_other a.l_other_d
 b_l_other:Binds K a.l_other_d ["_law_purse_here","_law_machine_here","_law_met"] []
 g_l_other:mg "_law_other" = some (.ref a.l_other)
 f_law:Fun K "law" "law" s_law a.law a.law_d
 b_law:Binds K a.law_d ["_law_script"] []
 g_law:mg "law" = some (.ref a.law)
 e_MillError:ExK K a.MillError
 t_MillError:ExC K a.MillError
 g_MillError:mg "MillError" = some (.ref a.MillError)
 m_MillError:ExM K a.MillError ([.ref a.MillError])
 e_NoMachine:ExK K a.NoMachine
 t_NoMachine:ExC K a.NoMachine
 g_NoMachine:mg "NoMachine" = some (.ref a.NoMachine)
 m_NoMachine:ExM K a.NoMachine ([.ref a.NoMachine,.ref a.MillError])
 e_NoWidth:ExK K a.NoWidth
 t_NoWidth:ExC K a.NoWidth
 g_NoWidth:mg "NoWidth" = some (.ref a.NoWidth)
 m_NoWidth:ExM K a.NoWidth ([.ref a.NoWidth,.ref a.MillError])
 c_MOST_ROWS:CV mg "MOST_ROWS" (.int 4)
 c_LEAST_SIGNS:CV mg "LEAST_SIGNS" (.int 2)
 c_MOST_SIGNS:CV mg "MOST_SIGNS" (.int 4)
 g_MOST_WIDTHS:mg "MOST_WIDTHS" = some (.ref a.MOST_WIDTHS)
 d_MOST_WIDTHS:StI K a.MOST_WIDTHS [(2,4),(3,2),(4,2)]
 z_ValueError:mg "ValueError" = none
 z_abs:mg "abs" = none
 z_all:mg "all" = none
 z_bool:mg "bool" = none
 z_dict:mg "dict" = none
 z_enumerate:mg "enumerate" = none
 z_int:mg "int" = none
 z_isinstance:mg "isinstance" = none
 z_len:mg "len" = none
 z_list:mg "list" = none
 z_max:mg "max" = none
 z_min:mg "min" = none
 z_range:mg "range" = none
 z_sorted:mg "sorted" = none
 z_str:mg "str" = none
 z_tuple:mg "tuple" = none
 z_zip:mg "zip" = none
 ex_nd:[a.MillError,a.NoMachine,a.NoWidth].Nodup
section
variable {P:Program} {w:World} {K:PySem.W.Frag} {mg:Str→Option Value} {base:Heap} {a:Ad}
theorem sc_l_mixed:FnScope ["_law_cell","_law_k","_law_rest","_law_number"] ["_law_cell","_law_k"] (defScope s_l_mixed):=⟨rfl,rfl,rfl,by decide +kernel,rfl,by decide +kernel,by decide +kernel⟩
def sp_mixed:Sp:=fun vs H Q _=>match vs with
 | [.int _,.int k]=>(0≤k∧k≤1000)∧∀ (n:Int),0≤n→n < 2147483587→Q (.int n) H
 | _=>False
theorem ok_l_mixed (T:Tx K mg a):FnOk P w K mg base CX0 1 a.l_mixed a.l_mixed_d ["_law_cell","_law_k"] (sp_mixed):=by
 refine T.f_l_mixed.ok sc_l_mixed (fun vs H Q E h=>?_) (fun cdv A outer s H vs Q E hr h=>?_)
 ·unfold sp_mixed at h
  split at h
  ·rfl
  ·exact h.elim
 ·unfold sp_mixed at h
  split at h
  ·have nd:=sc_l_mixed.nd
   have hu:=hu_of hr
   rename_i c k
   refine⟨_,(pss_cons (ps_set (i:=2) nd rfl (by walk_at "o") (pe_op q_mod (qv 0) (pe_op q_pow pe_int pe_int)))
  (pss_cons (ps_set (i:=3) nd rfl (by walk_at "o") (pe_op q_mod (pe_op q_mul (pe_op q_add (pe_op q_add (pe_op q_add (pe_op q_mul (qv 2) (qv 2)) (pe_op q_mul pe_int (qv 2))) (pe_op q_mul pe_int (qv 1))) pe_int) pe_int) pe_int))
  (pss_cons (ps_set (i:=3) nd rfl (by walk_at "o") (pe_op q_mod (pe_op q_add (pe_op q_mul (qv 3) (qv 3)) pe_int) pe_int))
  (pss_one (ps_ret (pe_op q_mod (pe_op q_mul (qv 3) (pe_op q_add (qv 3) pe_int)) pe_int)))))),?_⟩
   refine⟨cpow (by decide),fun p hp _=>?_⟩
   have hp:p = 1000000000000000:=by rw [hp]; decide
   refine⟨by show (0:Int) < _; omega,fun r _ ⟨r0,r1⟩=>?_⟩
   refine⟨.inl ⟨by omega,by omega⟩,fun m1 _ _=>?_⟩
   refine⟨.inl ⟨by omega,by omega⟩,fun m2 _ _=>?_⟩
   refine⟨.inl ⟨by omega,by omega⟩,fun m3 _ _=>?_⟩
   refine⟨.inr ⟨by omega,by omega⟩,fun m4 _ _=>?_⟩
   refine⟨by show (0:Int) < _; decide,fun m5 _ ⟨a0,a1⟩=>?_⟩
   refine⟨.inl ⟨by omega,by omega⟩,fun m6 _ _=>?_⟩
   refine⟨by show (0:Int) < _; decide,fun m7 _ ⟨b0,b1⟩=>?_⟩
   refine⟨.inl ⟨by omega,by omega⟩,fun m8 _ _=>?_⟩
   refine⟨by show (0:Int) < _; decide,fun m9 _ ⟨c0,c1⟩=>?_⟩
   exact h.2 _ c0 (by omega)
  ·exact h.elim
theorem sc_l_draw:FnScope ["_law_purse_here","_law_out_of","_law_drawn"] ["_law_purse_here","_law_out_of"] (defScope s_l_draw):=⟨rfl,rfl,rfl,by decide +kernel,rfl,by decide +kernel,by decide +kernel⟩
def sp_draw:Sp:=fun vs H Q _=>match vs with
 | [.ref b,.int k]=>(0 < k∧k.natAbs.log2 < 9000)∧∃ n m,H b = some (.lst [.int n,.int m])∧∀ d n':Int,0≤d→d < k→Q (.int d) (upd H b (.lst [.int n',.int m]))
 | _=>False
theorem ok_l_draw (T:Tx K mg a):FnOk P w K mg base CX0 1 a.l_draw a.l_draw_d ["_law_purse_here","_law_out_of"] (sp_draw):=by
 refine T.f_l_draw.ok sc_l_draw (fun vs H Q E h=>?_) (fun cdv A outer s H vs Q E hr h=>?_)
 ·unfold sp_draw at h
  split at h
  ·rfl
  ·exact h.elim
 ·unfold sp_draw at h
  split at h
  ·have nd:=sc_l_draw.nd
   have hu:=hu_of hr
   rename_i b k
   obtain⟨hk,n,m,hb,h⟩:=h
   refine⟨_,(pss_cons (ps_c (pt_c q_eq (pe_ix (q_ixLK (K:=K) rfl) (qv 0) pe_int (fun _ _=>rfl)) pe_int) (pss_one (ps_asg (pe_ix (q_ixLK (K:=K) rfl) (qv 0) pe_int (fun _ _=>rfl)) (pg_sub (qv 0) pe_int q_setL))) pss_nil)
  (pss_cons (ps_set (i:=2) nd rfl (by walk_at "o") (pe_op q_mod (pe_ix (q_ixLK (K:=K) rfl) (qv 0) pe_int (fun _ _=>rfl)) (qv 1)))
  (pss_cons (ps_asg (pe_op q_fdiv (pe_ix (q_ixLK (K:=K) rfl) (qv 0) pe_int (fun _ _=>rfl)) (qv 1)) (pg_sub (qv 0) pe_int q_setL))
  (pss_one (ps_ret (qv 2)))))),?_⟩
   refine⟨_,_,SqL.of hb,rfl,?_⟩
   walk_at "w"
   have fin:∀ (n1:Int) (H1:Hp),H1 b = some (.lst [.int n1,.int m])→(∀ n',upd H1 b (.lst [.int n',.int m]) = upd H b (.lst [.int n',.int m])) →
     ∃ xs v,SqL K H1 b xs∧atI xs 0 = some v∧(cL CMod (fun i j=>i % j) fun _ j m=>0≤m∧m < j) v (.int k) H1 fun x H2 =>
      ∃ xs v,SqL K H2 b xs∧atI xs 0 = some v∧(cL CFdiv (fun i j=>i / j) fun _ _ _=>True) v (.int k) H2 fun y H3=>cSetL (.ref b) (.int 0) y H3 fun H4=>Q x H4:=by
    intro n1 H1 h1 he
    refine⟨_,_,SqL.of h1,rfl,hk.1,fun d _ ⟨d0,d1⟩=>⟨_,_,SqL.of h1,rfl,hk,fun q _ _=>⟨_,0,h1,rfl,?_⟩⟩⟩
    show Q (.int d) (upd H1 b (.lst [.int q,.int m]))
    rw [he]
    exact h d q d0 d1
   refine ifB.mk (fun _=>?_) (fun _=>?_)
   ·walk_at "w"
    refine⟨_,_,SqL.of hb,rfl,?_⟩
    refine⟨_,0,hb,rfl,?_⟩
    exact fin m _ upd_same fun n'=>upd_upd
   ·exact fin n H hb fun n'=>rfl
  ·exact h.elim
theorem sc_l_purse:FnScope ["_law_script","_law_cells","_law_number","_law_k"] ["_law_script"] (defScope s_l_purse):=⟨rfl,rfl,rfl,by decide +kernel,rfl,by decide +kernel,by decide +kernel⟩
def sp_purse (K:PySem.W.Frag):Sp:=fun vs H Q _=>match vs with
 | [.ref b]=>∃ ns:List Int,SqL K H b (ns.map V.int)∧ns.length≤63∧∀ (p:Addr) (H':Hp) (n m:Int),Sub H H'→H p = none→H' p = some (.lst [.int n,.int m])→Q (.ref p) H'
 | _=>False
theorem cut63 (ns:List Int):∃ ms:List Int,cutV (ns.map V.int) none (some 63) = ms.map V.int∧ms.length≤63:=by
 unfold cutV
 rw [List.length_map]
 refine⟨(ns.drop (HT.sIx ns.length 0 none)).take (HT.sIx ns.length ns.length (some 63) - HT.sIx ns.length 0 none),?_,?_⟩
 ·rw [List.map_take,List.map_drop]
 ·rw [List.length_take]
  have:HT.sIx ns.length ns.length (some ((63:Nat):Int)) = min 63 ns.length:=HT.sIx_nat _ _ _
  have e:((63:Nat):Int) = (63:Int):=rfl
  rw [e] at this
  rw [this]
  omega
theorem atI_mod {vs:List V} {ns:List Int} (e:vs = ns.map V.int) {i:Int} (h0:0≤i) (h1:i < vs.length):∃ n:Int,atI vs i = some (.int n):=by
 subst e
 unfold atI ixN
 rw [if_pos h0,if_pos h1,Option.bind_some]
 have hl:i.toNat < ns.length:=by rw [List.length_map] at h1; omega
 exact⟨ns[i.toNat],by rw [List.getElem?_map,List.getElem?_eq_getElem hl]; rfl⟩
theorem ok_l_purse (T:Tx K mg a):FnOk P w K mg base CX0 2 a.l_purse a.l_purse_d ["_law_script"] (sp_purse K):=by
 have G_l_mixed:=ok_l_mixed (P:=P) (w:=w) (base:=base) T
 refine T.f_l_purse.ok sc_l_purse (fun vs H Q E h=>?_) (fun cdv A outer s H vs Q E hr h=>?_)
 ·unfold sp_purse at h
  split at h
  ·rfl
  ·exact h.elim
 ·unfold sp_purse at h
  split at h
  ·have nd:=sc_l_purse.nd
   have hu:=hu_of hr
   rename_i b
   obtain⟨ns,hS,hlen,h⟩:=h
   obtain⟨ms,hms,hml⟩:=cut63 ns
   refine⟨_,(pss_cons (ps_set (i:=1) nd rfl (by walk_at "o") (pe_op q_cat (pe_slice (q_slLK (K:=K) rfl) (qv 0) po_none (qo_some pe_int)) (pe_lst (pa_cons pe_int pa_nil))))
  (pss_cons (ps_set (i:=2) nd rfl (by walk_at "o") pe_int)
  (pss_cons (ps_for PassesOwn.never rfl (qi_range1 rfl T.z_range (pa_cons pe_int pa_nil)) (pg_name (i:=3) nd rfl (by walk_at "o")) (pss_one (ps_set (i:=2) nd rfl (by walk_at "o") (pe_op q_add (pe_op q_mul (qv 2) pe_int) (pe_call G_l_mixed (hr.mono (by decide)) rfl T.g_l_mixed T.f_l_mixed.kp T.b_l_mixed .nil pass0 (pa_cons (pe_ix (q_ixLK (K:=K) rfl) (qv 1) (pe_op q_mod (qv 3) (pe_callB (q_lenK (K:=K) rfl) rfl T.z_len bt_len (pa_cons (qv 1) pa_nil))) (fun _ _=>rfl)) (pa_cons (qv 3) pa_nil)))))))
  (pss_cons (ps_c (pt_c q_ge (pe_ix (q_ixLK (K:=K) rfl) (qv 1) pe_int (fun _ _=>rfl)) (pe_op q_pow pe_int pe_int)) (pss_one (ps_ret (pe_lst (pa_cons (pe_op q_fdiv (pe_ix (q_ixLK (K:=K) rfl) (qv 1) pe_int (fun _ _=>rfl)) (pe_op q_pow pe_int pe_int)) (pa_cons (qv 2) pa_nil))))) pss_nil)
  (pss_one (ps_ret (pe_lst (pa_cons (qv 2) (pa_cons (qv 2) pa_nil))))))))),?_⟩
   refine⟨_,hS,fun p1 n1=>?_⟩
   rw [hms]
   refine⟨by show 1≤sizeLine; decide,fun p2 n2=>?_⟩
   refine⟨_,_,keepN upd_same n2,upd_same,by rw [List.length_map]; show ms.length + 1≤sizeLine; exact Nat.le_trans (Nat.add_le_add_right hml 1) (by decide),fun p3 n3=>?_⟩
   have e3:ms.map V.int ++ [.int 0] = (ms ++ [0]).map V.int:=by rw [List.map_append]; rfl
   have el:((ms ++ [0]).map V.int).length = ms.length + 1:=by simp
   rw [e3]
   have sub3:Sub H (upd (upd (upd H p1 (.lst (ms.map V.int))) p2 (.lst [.int 0])) p3 (.lst ((ms ++ [0]).map V.int))) :=
    ((Sub.new n1).trans (Sub.new n2)).trans (Sub.new n3)
   have h3:(upd (upd (upd H p1 (.lst (ms.map V.int))) p2 (.lst [.int 0])) p3 (.lst ((ms ++ [0]).map V.int))) p3 = some (.lst ((ms ++ [0]).map V.int)):=upd_same
   generalize (upd (upd (upd H p1 (.lst (ms.map V.int))) p2 (.lst [.int 0])) p3 (.lst ((ms ++ [0]).map V.int))) = H3 at sub3 h3 ⊢
   refine⟨⟨by decide,by decide⟩,?_⟩
   refine for_range (lo:=0) (n:=(150:Int).toNat) (fun _ σ H4=>∃ (n:Int) (v:Option V),σ = [some (.ref b),some (.ref p3),some (.int n),v]∧H4 = H3) ⟨1,none,rfl,rfl⟩ ?_ ?_
   ·rintro i σ H4 hi ⟨n,v,rfl,rfl⟩
    have hi:i < 150:=hi
    refine⟨.inr ⟨by decide,by decide⟩,fun m1 _ _=>?_⟩
    refine⟨_,.inl (SqL.of h3),?_⟩
    walk_at "w"
    rw [el]
    refine⟨by show (0:Int) < _; omega,fun r _ ⟨r0,r1⟩=>?_⟩
    obtain⟨c,hc⟩:=atI_mod (i:=r) (rfl:(ms ++ [0]).map V.int = _) r0 (by rw [el]; omega)
    refine⟨_,_,SqL.of h3,hc,?_⟩
    refine⟨⟨by omega,by omega⟩,fun k _ _=>?_⟩
    exact⟨_,_,rfl,rfl⟩
   ·rintro σ H4 ⟨n,v,rfl,rfl⟩
    obtain⟨c,hc⟩:=atI_mod (i:=0) (rfl:(ms ++ [0]).map V.int = _) (by decide) (by rw [el]; omega)
    refine⟨_,_,SqL.of h3,hc,?_⟩
    refine⟨cpow (by decide),fun m2 _ _=>?_⟩
    walk_at "w"
    refine ifB.mk (fun _=>?_) (fun _=>?_)
    ·walk_at "w"
     refine⟨_,_,SqL.of h3,hc,?_⟩
     refine⟨cpow (by decide),fun m3 hm3 _=>?_⟩
     have hm3:m3 = 10 ^ 18:=hm3
     refine⟨⟨by rw [hm3]; decide,by rw [hm3]; exact Nat.lt_trans ((Nat.log2_lt (by decide)).2 (show (10 ^ 18:Int).natAbs < 2 ^ 60 by decide)) (by decide)⟩,fun m4 _ _=>?_⟩
     refine⟨by show 2≤sizeLine; decide,fun p4 n4=>?_⟩
     exact h p4 _ _ _ (sub3.trans (Sub.new n4)) (sub3.free n4) upd_same
    ·walk_at "w"
     refine⟨by show 2≤sizeLine; decide,fun p4 n4=>?_⟩
     exact h p4 _ _ _ (sub3.trans (Sub.new n4)) (sub3.free n4) upd_same
  ·exact h.elim
theorem sc_is_entry:FnScope ["entry","rows","signs","sign","way","row"] ["entry","rows","signs"] (defScope s_is_entry):=⟨rfl,rfl,rfl,by decide +kernel,rfl,by decide +kernel,by decide +kernel⟩
def sp_is_entry:Sp:=fun vs H Q _=>match vs with
 | [.ref b,.int rows,.int signs]=>∃ e:En,Ent H b e∧∀ H',Sub H H'→Q (.bl (entryOk rows signs e)) H'
 | _=>False
theorem ent_at {K:PySem.W.Frag} {H:Hp} {b:Addr} {e:En} (h:Ent H b e):SqT K H b (e.map V.int):=SqT.of h
theorem in_two {y:Int}:(decide (y = -1) || decide (y = 1)) = inV (.int y) [.int (-1),.int 1]:=by
 unfold inV
 simp only [List.any_cons,List.any_nil,eqV,Bool.or_false]
 by_cases h1:y = -1
 ·subst h1; rfl
 ·by_cases h2:y = 1
  ·subst h2; rfl
  ·have h3:¬ (-1 = y):=fun e=>h1 e.symm
   have h4:¬ (1 = y):=fun e=>h2 e.symm
   simp [h1,h2,h3,h4]
theorem ok_is_entry (T:Tx K mg a):FnOk P w K mg base CX0 1 a.is_entry a.is_entry_d ["entry","rows","signs"] (sp_is_entry):=by
 refine T.f_is_entry.ok sc_is_entry (fun vs H Q E h=>?_) (fun cdv A outer s H vs Q E hr h=>?_)
 ·unfold sp_is_entry at h
  split at h
  ·rfl
  ·exact h.elim
 ·unfold sp_is_entry at h
  split at h
  ·have nd:=sc_is_entry.nd
   have hu:=hu_of hr
   rename_i b rows signs
   obtain⟨e,hb,h⟩:=h
   refine⟨_,(pss_cons (ps_c (pt_c q_eq (pe_callB (q_lenK (K:=K) rfl) rfl T.z_len bt_len (pa_cons (qv 0) pa_nil)) pe_int) (pss_one (ps_ret pe_bl)) pss_nil)
  (pss_cons (ps_c (pt_c q_ne (pe_callB (q_lenK (K:=K) rfl) rfl T.z_len bt_len (pa_cons (qv 0) pa_nil)) pe_int) (pss_one (ps_ret pe_bl)) pss_nil)
  (pss_cons (ps_asg (qv 0) (qg_tupK (K:=K) (n:=3) rfl rfl (qgs_cons (pg_name (i:=3) nd rfl (by walk_at "o")) (qgs_cons (pg_name (i:=4) nd rfl (by walk_at "o")) (qgs_cons (pg_name (i:=5) nd rfl (by walk_at "o")) qgs_nil)))))
  (pss_one (ps_ret (pe_andC (pe_ch q_le q_lt pe_int (qv 3) (qv 2)) (pe_andC (pe_cmpR (q_inK (K:=K) rfl) (qv 4) (pe_tup (pa_cons (pe_un q_neg pe_int) (pa_cons pe_int pa_nil))) (by first | exact nomark _ | rfl)) (pe_one (pe_ch q_le q_lt pe_int (qv 5) (qv 1)))))))))),?_⟩
   refine⟨_,.inr (ent_at hb),?_⟩
   walk_at "w"
   refine ifB.dec (fun h0=>?_) (fun h0=>?_)
   ·have e0:e = []:=by cases e with
     | nil=>rfl
     | cons x r=>simp at h0; omega
    subst e0
    exact h H Sub.refl
   ·walk_at "w"
    refine⟨_,.inr (ent_at hb),?_⟩
    walk_at "w"
    refine ifB.mk (fun h3=>?_) (fun h3=>?_)
    ·have:entryOk rows signs e = false:=by
      match e,h0,h3 with
      | [],h0,_=>simp at h0
      | [_],_,_=>rfl
      | [_,_],_,_=>rfl
      | [_,_,_],_,h3=>simp at h3
      | _ :: _ :: _ :: _ :: _,_,_=>rfl
     have h:=h H Sub.refl
     rw [this] at h
     exact h
    ·obtain⟨x,y,z,rfl⟩:∃ x y z,e = [x,y,z]:=by
      match e,h3 with
      | [],h3=>simp at h3
      | [_],h3=>simp at h3
      | [_,_],h3=>simp at h3
      | [x,y,z],_=>exact⟨x,y,z,rfl⟩
      | _ :: _ :: _ :: _ :: _,h3=>simp at h3; omega
     refine⟨_,ent_at hb,rfl,?_⟩
     walk_at "w"
     have fin:∀ (c:Bool) (H':Hp),Sub H H'→entryOk rows signs [x,y,z] = c→Q (.bl c) H':=fun c H' S e=>e ▸ h H' S
     have hd:entryOk rows signs [x,y,z] = ((decide (0≤x) && decide (x < signs)) && (decide (y = -1) || decide (y = 1)) && (decide (0≤z) && decide (z < rows))):=rfl
     refine ifB.dec (fun h1=>?_) (fun h1=>?_)
     ·walk_at "w"
      refine ifB.dec (fun h2=>?_) (fun h2=>?_)
      ·walk_at "w"
       refine⟨by show 2≤sizeLine; decide,?_⟩
       intro p1 n1
       generalize hU1:upd _ p1 _ = H1
       have S1:=(upd_sub n1 hU1).1
       have e1:=(upd_sub n1 hU1).2
       clear hU1
       refine⟨_,.inr (SqT.of e1),rfl,rfl,?_⟩
       walk_at "w"
       refine ifB.mk (fun h3=>?_) (fun h3=>?_)
       ·have h3:(decide (y = -1) || decide (y = 1)) = true:=by rw [← h3]; exact in_two
        walk_at "w"
        refine ifB.dec (fun h4=>?_) (fun h4=>?_)
        ·exact fin _ _ S1 (by rw [hd,h3]; simp [h1,h2,h4])
        ·exact fin _ _ S1 (by rw [hd,h3]; simp [h1,h2,h4])
       ·have h3:(decide (y = -1) || decide (y = 1)) = false:=by rw [← h3]; exact in_two
        exact fin _ _ S1 (by rw [hd,h3]; simp)
      ·exact fin _ _ Sub.refl (by rw [hd]; simp [h2])
     ·walk_at "w"
      refine ifB.no rfl ?_
      exact fin false _ Sub.refl (by rw [hd]; simp [h1])
  ·exact h.elim
theorem sc_is_row:FnScope ["row","rows","signs"] ["row","rows","signs"] (defScope s_is_row):=⟨rfl,rfl,rfl,by decide +kernel,rfl,by decide +kernel,by decide +kernel⟩
def sp_is_row:Sp:=fun vs H Q _=>match vs with
 | [.ref b,.int rows,.int signs]=>∃ es:List En,Row H b es∧es.length≤100∧∀ H',Sub H H'→Q (.bl (rowOk rows signs es)) H'
 | _=>False
theorem all_id (f:α→Bool) (l:List α):(l.map f).all id = l.all f:=by rw [List.all_map]; rfl
theorem ok_is_row (T:Tx K mg a):FnOk P w K mg base CX0 2 a.is_row a.is_row_d ["row","rows","signs"] (sp_is_row):=by
 have G_is_entry:=ok_is_entry (P:=P) (w:=w) (base:=base) T
 refine T.f_is_row.ok sc_is_row (fun vs H Q E h=>?_) (fun cdv A outer s H vs Q E hr h=>?_)
 ·unfold sp_is_row at h
  split at h
  ·rfl
  ·exact h.elim
 ·unfold sp_is_row at h
  split at h
  ·have nd:=sc_is_row.nd
   have hu:=hu_of hr
   rename_i b rows signs
   obtain⟨es,⟨as,hb,ha⟩,hlen,h⟩:=h
   refine⟨_,(pss_one (ps_ret (pe_andC (pe_cmpR q_eq (pe_callB (q_lenK (K:=K) rfl) rfl T.z_len bt_len (pa_cons (qv 0) pa_nil)) (qv 2) (by first | exact nomark _ | rfl)) (pe_one (pe_callB (q_allK (K:=K) rfl rfl) rfl T.z_all bt_all (pa_cons (pe_lc (own:=["entry"]) (fr:=[1,2]) rfl (by walk_at "comp_ok") (qi_listK (K:=K) rfl (qv 0)) (fun _ _ _ _=>(pg_name (i:=0) (show List.Nodup (α:=Str) ["entry","rows","signs"] from by decide +kernel) rfl (by walk_at "o"))) (fun _ _ _ _=>pts_nil) (fun _ _ _ _=>(pe_call G_is_entry (hr.mono (by decide)) rfl T.g_is_entry T.f_is_entry.kp T.b_is_entry .nil pass0 (pa_cons (qv 0) (pa_cons (qv 1) (pa_cons (qv 2) pa_nil)))))) pa_nil)))))),?_⟩
   refine⟨_,.inl (SqL.of hb),?_⟩
   walk_at "w"
   have el:((as.map V.ref).length:Int) = es.length:=by rw [List.length_map,ha.1]
   rw [el]
   refine ifB.dec (fun h1=>?_) (fun h1=>?_)
   ·walk_at "w"
    refine⟨⟨_,SqL.of hb⟩,?_⟩
    intro p1 n1
    refine comp_list (K:=K) (a:=b) (xs:=as.map V.ref) (fun i σ H4=>∃ v:Option V,σ = [v,some (.int rows),some (.int signs)]∧Sub H H4∧H4 p1 = some (.lst (((es.take i).map (entryOk rows signs)).map V.bl))) ?_ ?_ ?_ ?_
    ·exact⟨none,rfl,Sub.new n1,by rw [upd_same]; rfl⟩
    ·rintro i σ H4 _ ⟨v,rfl,S4,_⟩
     exact SqL.of (S4 _ _ hb)
    ·rintro i x σ H4 hi ⟨v,rfl,S4,g4⟩
     rw [List.getElem?_map] at hi
     obtain⟨c,hc,rfl⟩:=Option.map_eq_some_iff.1 hi
     obtain⟨e,he,hE⟩:=ha.at hc
     refine⟨e,S4 _ _ hE,fun H5 S5=>?_⟩
     refine⟨_,S5 _ _ g4,?_,_,rfl,(S4.trans S5).upd n1,?_⟩
     ·rw [List.length_map,List.length_map,List.length_take]; exact Nat.lt_of_le_of_lt (Nat.min_le_right _ _) (Nat.lt_of_le_of_lt hlen (by decide))
     ·rw [upd_same,List.take_add_one,he,List.map_append,List.map_append]; rfl
    ·rintro σ H4 ⟨v,rfl,S4,g4⟩
     rw [List.length_map,ha.1,List.take_length] at g4
     refine⟨_,SqL.of g4,?_⟩
     rw [all_id]
     have h:=h H4 S4
     unfold rowOk at h
     rw [decide_eq_true h1,Bool.true_and] at h
     exact h
   ·have h:=h H Sub.refl
    unfold rowOk at h
    rw [decide_eq_false h1,Bool.false_and] at h
    exact h
  ·exact h.elim
theorem sc_is_machine:FnScope ["machine","rows","signs"] ["machine"] (defScope s_is_machine):=⟨rfl,rfl,rfl,by decide +kernel,rfl,by decide +kernel,by decide +kernel⟩
def Bd (k:Nat) (m:Ma):Prop:=m.length≤k∧∀ r∈m,r.length≤k
def sp_is_machine:Sp:=fun vs H Q _=>match vs with
 | [.ref b]=>∃ m:Ma,Mach H b m∧Bd 100 m∧∀ H',Sub H H'→Q (.bl (isM m)) H'
 | _=>False
theorem isM_long {m:Ma} (h:¬ m.length≤4):isM m = false:=by
 unfold isM
 cases m with
 | nil=>rfl
 | cons r m=>simp only; rw [decide_eq_false h]; rfl
theorem ok_is_machine (T:Tx K mg a):FnOk P w K mg base CX0 3 a.is_machine a.is_machine_d ["machine"] (sp_is_machine):=by
 have G_is_row:=ok_is_row (P:=P) (w:=w) (base:=base) T
 refine T.f_is_machine.ok sc_is_machine (fun vs H Q E h=>?_) (fun cdv A outer s H vs Q E hr h=>?_)
 ·unfold sp_is_machine at h
  split at h
  ·rfl
  ·exact h.elim
 ·unfold sp_is_machine at h
  split at h
  ·have nd:=sc_is_machine.nd
   have hu:=hu_of hr
   rename_i b
   obtain⟨m,⟨rs,hb,hnd,hrw⟩,⟨hl1,hl2⟩,h⟩:=h
   refine⟨_,(pss_cons (ps_set (i:=1) nd rfl (by walk_at "o") (pe_callB (q_lenK (K:=K) rfl) rfl T.z_len bt_len (pa_cons (qv 0) pa_nil)))
  (pss_cons (ps_c (pt_not (pt_ch q_le q_le pe_int (qv 1) (pe_cv rfl T.c_MOST_ROWS))) (pss_one (ps_ret pe_bl)) pss_nil)
  (pss_cons (ps_set (i:=2) nd rfl (by walk_at "o") (pe_callB (q_lenK (K:=K) rfl) rfl T.z_len bt_len (pa_cons (pe_ix (q_ixLK (K:=K) rfl) (qv 0) pe_int (fun _ _=>rfl)) pa_nil)))
  (pss_cons (ps_c (pt_not (pt_ch q_le q_le (pe_cv rfl T.c_LEAST_SIGNS) (qv 2) (pe_cv rfl T.c_MOST_SIGNS))) (pss_one (ps_ret pe_bl)) pss_nil)
  (pss_one (ps_ret (pe_callB (q_allK (K:=K) rfl rfl) rfl T.z_all bt_all (pa_cons (pe_lc (own:=["row"]) (fr:=[1,2]) rfl (by walk_at "comp_ok") (qi_listK (K:=K) rfl (qv 0)) (fun _ _ _ _=>(pg_name (i:=0) (show List.Nodup (α:=Str) ["row","rows","signs"] from by decide +kernel) rfl (by walk_at "o"))) (fun _ _ _ _=>pts_nil) (fun _ _ _ _=>(pe_call G_is_row (hr.mono (by decide)) rfl T.g_is_row T.f_is_row.kp T.b_is_row .nil pass0 (pa_cons (qv 0) (pa_cons (qv 1) (pa_cons (qv 2) pa_nil)))))) pa_nil)))))))),?_⟩
   refine⟨_,.inl (SqL.of hb),?_⟩
   walk_at "w"
   have el:((rs.map V.ref).length:Int) = m.length:=by rw [List.length_map,hrw.1]
   rw [el]
   have fin:∀ (c:Bool) (H':Hp),Sub H H'→isM m = c→Q (.bl c) H':=fun c H' S e=>e ▸ h H' S
   refine ifB.dec (fun h1=>?_) (fun h1=>?_)
   ·walk_at "w"
    refine ifB.ndec (fun h2=>?_) (fun h2=>?_)
    ·obtain⟨r0,m',rfl⟩:∃ r0 m',m = r0 :: m':=by
      cases m with
      | nil=>simp at h1
      | cons r m=>exact⟨r,m,rfl⟩
     obtain⟨q0,rs',rfl⟩:∃ q0 rs',rs = q0 :: rs':=by
      cases rs with
      | nil=>have:=hrw.1; simp at this
      | cons r rs=>exact⟨r,rs,rfl⟩
     obtain⟨as0,hq0,ha0⟩:=hrw.2 0 q0 r0 rfl rfl
     refine⟨_,_,SqL.of hb,atI_nat (j:=0) rfl,?_⟩
     refine⟨_,.inl (SqL.of hq0),?_⟩
     walk_at "w"
     have el0:((as0.map V.ref).length:Int) = r0.length:=by rw [List.length_map,ha0.1]
     rw [el0]
     have hd:isM (r0 :: m') = (decide ((r0 :: m').length≤4) && decide (2≤r0.length) && decide (r0.length≤4) && (r0 :: m').all (rowOk (r0 :: m').length r0.length)):=rfl
     refine ifB.dec (fun h3=>?_) (fun h3=>?_)
     ·walk_at "w"
      refine ifB.ndec (fun h4=>?_) (fun h4=>?_)
      ·walk_at "w"
       refine⟨⟨_,SqL.of hb⟩,?_⟩
       intro p1 n1
       refine comp_list (K:=K) (a:=b) (xs:=(q0 :: rs').map V.ref) (fun i σ H4=>∃ v:Option V,σ = [v,some (.int (r0 :: m').length),some (.int r0.length)]∧Sub H H4∧H4 p1 = some (.lst ((((r0 :: m').take i).map (rowOk (r0 :: m').length r0.length)).map V.bl))) ?_ ?_ ?_ ?_
       ·exact⟨none,rfl,Sub.new n1,by rw [upd_same]; rfl⟩
       ·rintro i σ H4 _ ⟨v,rfl,S4,_⟩
        exact SqL.of (S4 _ _ hb)
       ·rintro i x σ H4 hi ⟨v,rfl,S4,g4⟩
        rw [List.getElem?_map] at hi
        obtain⟨c,hc,rfl⟩:=Option.map_eq_some_iff.1 hi
        obtain⟨e,he,hE⟩:=hrw.at hc
        refine⟨e,hE.stay (.sub S4),hl2 e (List.mem_of_getElem? he),fun H5 S5=>?_⟩
        refine⟨_,S5 _ _ g4,?_,_,rfl,(S4.trans S5).upd n1,?_⟩
        ·rw [List.length_map,List.length_map,List.length_take]; exact Nat.lt_of_le_of_lt (Nat.min_le_right _ _) (Nat.lt_of_le_of_lt hl1 (by decide))
        ·rw [upd_same,List.take_add_one,he,List.map_append,List.map_append]; rfl
       ·rintro σ H4 ⟨v,rfl,S4,g4⟩
        rw [List.length_map,hrw.1,List.take_length] at g4
        refine⟨_,SqL.of g4,?_⟩
        rw [all_id]
        refine fin _ _ S4 ?_
        rw [hd,decide_eq_true (show (r0 :: m').length≤4 by omega),decide_eq_true (show 2≤r0.length by omega),decide_eq_true (show r0.length≤4 by omega)]
        rfl
      ·exact fin false _ Sub.refl (by rw [hd,decide_eq_false (show ¬ r0.length≤4 by omega)]; simp)
     ·walk_at "w"
      refine ifB.yes rfl ?_
      exact fin false _ Sub.refl (by rw [hd,decide_eq_false (show ¬ 2≤r0.length by omega)]; simp)
    ·exact fin false _ Sub.refl (isM_long (by omega))
   ·walk_at "w"
    refine ifB.yes rfl ?_
    exact fin false _ Sub.refl (by cases m with
     | nil=>rfl
     | cons r m=>simp at h1; omega)
  ·exact h.elim
theorem sc_must_machine:FnScope ["machine"] ["machine"] (defScope s_must_machine):=⟨rfl,rfl,rfl,by decide +kernel,rfl,by decide +kernel,by decide +kernel⟩
def sp_must_machine (a:Ad):Sp:=fun vs H Q E=>match vs with
 | [.ref b]=>∃ m:Ma,Mach H b m∧Bd 100 m∧(isM m = true→∀ H',Sub H H'→Q .non H')∧(isM m = false→∀ H',Sub H H'→E (.ref a.NoMachine) none H')
 | _=>False
theorem ok_must_machine (T:Tx K mg a):FnOk P w K mg base (CXE P w) 4 a.must_machine a.must_machine_d ["machine"] (sp_must_machine a):=by
 have G_is_machine:=ok_is_machine (P:=P) (w:=w) (base:=base) T
 refine T.f_must_machine.okE sc_must_machine (fun vs H Q E h=>?_) (fun cdv A outer s H vs Q E hr h=>?_)
 ·unfold sp_must_machine at h
  split at h
  ·rfl
  ·exact h.elim
 ·unfold sp_must_machine at h
  split at h
  ·have nd:=sc_must_machine.nd
   have hu:=hu_of hr
   rename_i b
   obtain⟨m,hm,hb,h1,h2⟩:=h
   refine⟨_,(pss_one (ps_c (pt_not (pt_e (pe_call G_is_machine (hr.mono (by decide)) rfl T.g_is_machine T.f_is_machine.kp T.b_is_machine .nil pass0 (pa_cons (qv 0) pa_nil)))) (pss_one (ps_raise rfl T.e_NoMachine rfl T.g_NoMachine wants_fn (pa_cons pe_str pa_nil))) pss_nil)),?_⟩
   refine⟨m,hm,hb,fun H1 S1=>?_⟩
   walk_at "w"
   refine ifB.mk (fun e=>?_) (fun e=>?_)
   ·have e:isM m = false:=by simpa using e
    walk_at "w"
    exact⟨by show 1≤sizeLine; decide,h2 e H1 S1⟩
   ·have e:isM m = true:=by simpa using e
    exact h1 e H1 S1
  ·exact h.elim
theorem sc_is_width:FnScope ["machine","width"] ["machine","width"] (defScope s_is_width):=⟨rfl,rfl,rfl,by decide +kernel,rfl,by decide +kernel,by decide +kernel⟩
abbrev Wd:=List Int
abbrev Md:=Wd × Int × Int × Wd
def wK (w:Wd):NK:=.tup (w.map NK.int)
def mK (d:Md):NK:=.tup [wK d.1,.int d.2.1,.int d.2.2.1,wK d.2.2.2]
def WdA (H:Hp) (a:Addr) (w:Wd):Prop:=H a = some (.tup (w.map V.int))
def MdA (H:Hp) (a:Addr) (d:Md):Prop:=∃ l r,H a = some (.tup [.ref l,.int d.2.1,.int d.2.2.1,.ref r])∧WdA H l d.1∧WdA H r d.2.2.2
def WL (H:Hp) (p:Addr) (ws:List Wd):Prop:=∃ as,H p = some (.lst (as.map V.ref))∧All2 (WdA H) as ws
def ML (H:Hp) (p:Addr) (ds:List Md):Prop:=∃ as,H p = some (.lst (as.map V.ref))∧All2 (MdA H) as ds
theorem WdA.tup {H H':Hp} (k:∀ a us,H a = some (.tup us)→H' a = some (.tup us)) {a:Addr} {w:Wd} (h:WdA H a w):WdA H' a w:=k _ _ h
theorem MdA.tup {H H':Hp} (k:∀ a us,H a = some (.tup us)→H' a = some (.tup us)) {a:Addr} {d:Md}:MdA H a d→MdA H' a d:=fun ⟨l,r,h1,h2,h3⟩=>⟨l,r,k _ _ h1,k _ _ h2,k _ _ h3⟩
theorem WdA.sub {H H':Hp} (S:Sub H H') {a:Addr} {w:Wd} (h:WdA H a w):WdA H' a w:=S _ _ h
theorem MdA.sub {H H':Hp} (S:Sub H H') {a:Addr} {d:Md} (h:MdA H a d):MdA H' a d:=h.tup fun _ _ e=>S _ _ e
theorem WL.sub {H H':Hp} (S:Sub H H') {a:Addr} {w:List Wd}:WL H a w→WL H' a w:=fun ⟨as,h1,h2⟩=>⟨as,S _ _ h1,h2.mono fun _ _ _ z=>z.sub S⟩
theorem ML.sub {H H':Hp} (S:Sub H H') {a:Addr} {w:List Md}:ML H a w→ML H' a w:=fun ⟨as,h1,h2⟩=>⟨as,S _ _ h1,h2.mono fun _ _ _ z=>z.sub S⟩
theorem WL.stay {H H':Hp} (S:Stay H H') {a:Addr} {w:List Wd}:WL H a w→WL H' a w:=fun ⟨as,h1,h2⟩=>⟨as,S.refs _ _ h1,h2.mono fun _ _ _ z=>z.tup S.tup⟩
theorem ML.stay {H H':Hp} (S:Stay H H') {a:Addr} {w:List Md}:ML H a w→ML H' a w:=fun ⟨as,h1,h2⟩=>⟨as,S.refs _ _ h1,h2.mono fun _ _ _ z=>z.tup S.tup⟩
theorem nints_inj:∀ {a b:List Int},a.map NK.int = b.map NK.int→a = b
 | [],[],_=>rfl
 | [],_ :: _,h=>by cases h
 | _ :: _,[],h=>by cases h
 | x :: a,y :: b,h=>by
  rw [List.map_cons,List.map_cons] at h
  injection h with h1 h2
  injection h1 with h1
  rw [h1,nints_inj h2]
theorem wK_inj {a b:Wd} (h:wK a = wK b):a = b:=by unfold wK at h; injection h with h; exact nints_inj h
theorem mK_inj {a b:Md} (h:mK a = mK b):a = b:=by
 unfold mK at h
 injection h with h
 injection h with h1 h
 injection h with h2 h
 injection h with h3 h
 injection h with h4 _
 injection h2 with h2
 injection h3 with h3
 exact Prod.ext (wK_inj h1) (Prod.ext h2 (Prod.ext h3 (wK_inj h4)))
theorem wK_dep (w:Wd):(wK w).dep≤1:=by
 have:=depL_ints w
 unfold wK
 simp only [NK.dep]
 omega
theorem mK_dep (d:Md):(mK d).dep≤7:=by
 have h1:=wK_dep d.1
 have h2:=wK_dep d.2.2.2
 unfold mK
 simp only [NK.dep,NK.depL]
 omega
theorem wK_dep7 (w:Wd):(wK w).dep≤7:=Nat.le_trans (wK_dep w) (by decide)
theorem wKs_dep:∀ ws:List Wd,NK.depL (ws.map wK)≤7
 | []=>by rw [List.map_nil,NK.depL]; omega
 | w :: ws=>by
  have:=wKs_dep ws
  have:=wK_dep w
  rw [List.map_cons,NK.depL]
  omega
theorem mKs_dep:∀ ws:List Md,NK.depL (ws.map mK)≤7
 | []=>by rw [List.map_nil,NK.depL]; omega
 | w :: ws=>by
  have:=mKs_dep ws
  have:=mK_dep w
  rw [List.map_cons,NK.depL]
  omega
theorem WdA.den {H:Hp} {a:Addr} {w:Wd} (h:WdA H a w):DenN H (wK w) (.ref a):=by
 unfold wK
 rw [DenN]
 exact⟨_,_,rfl,h,denN_ints⟩
theorem MdA.den {H:Hp} {a:Addr} {d:Md}:MdA H a d→DenN H (mK d) (.ref a):=fun ⟨l,r,h,hl,hr⟩=>by
 unfold mK
 rw [DenN]
 refine⟨_,_,rfl,h,?_⟩
 rw [DenNs]
 refine⟨_,_,rfl,hl.den,?_⟩
 rw [DenNs]
 refine⟨_,_,rfl,by rw [DenN],?_⟩
 rw [DenNs]
 refine⟨_,_,rfl,by rw [DenN],?_⟩
 rw [DenNs]
 exact⟨_,_,rfl,hr.den,by rw [DenNs]⟩
theorem dens_all {α:Type} {H:Hp} {R:Addr→α→Prop} {f:α→NK} (hR:∀ a x,R a x→DenN H (f x) (.ref a)):∀ {as:List Addr} {xs:List α},All2 R as xs→DenNs H (xs.map f) (as.map V.ref)
 | [],[],_=>by rw [List.map_nil,List.map_nil,DenNs]
 | _ :: _,[],h=>by have:=h.1; simp at this
 | [],_ :: _,h=>by have:=h.1; simp at this
 | a :: as,x :: xs,h=>by
  rw [List.map_cons,List.map_cons,DenNs]
  exact⟨_,_,rfl,hR _ _ (h.2 0 a x rfl rfl),dens_all hR ⟨by have:=h.1; simpa using this,fun k b y hb hy=>h.2 (k + 1) b y hb hy⟩⟩
theorem mem_wK {w:Wd} {ws:List Wd}:wK w∈ws.map wK ↔ w∈ws:=⟨fun h=>by obtain⟨x,hx,e⟩:=List.mem_map.1 h; rw [← wK_inj e]; exact hx,fun h=>List.mem_map.2 ⟨w,h,rfl⟩⟩
theorem mem_mK {w:Md} {ws:List Md}:mK w∈ws.map mK ↔ w∈ws:=⟨fun h=>by obtain⟨x,hx,e⟩:=List.mem_map.1 h; rw [← mK_inj e]; exact hx,fun h=>List.mem_map.2 ⟨w,h,rfl⟩⟩
theorem mach_len {H:Hp} {t:Addr} {m:Ma} (h:Mach H t m):∃ vs:List V,H t = some (.lst vs)∧vs.length = m.length:=by
 obtain⟨rs,h1,_,h2⟩:=h
 exact⟨_,h1,by rw [List.length_map,h2.1]⟩
theorem mach_row {H:Hp} {t:Addr} {m:Ma} (h:Mach H t m) {r:Int} (r0:0≤r) (r1:r < m.length):∃ (vs:List V) (p:Addr) (as:List Addr) (es:List En),H t = some (.lst vs)∧atI vs r = some (.ref p)∧H p = some (.lst (as.map V.ref))∧All2 (Ent H) as es∧m[r.toNat]? = some es:=by
 obtain⟨rs,h1,_,h2⟩:=h
 have hl:r.toNat < rs.length:=by rw [h2.1]; omega
 obtain⟨p,hp⟩:∃ p,rs[r.toNat]? = some p:=⟨_,List.getElem?_eq_getElem hl⟩
 obtain⟨es,he,as,h3,h4⟩:=h2.at hp
 refine⟨_,p,as,es,h1,?_,h3,h4,he⟩
 have:=atI_nat (xs:=rs.map V.ref) (j:=r.toNat) (v:=.ref p) (by rw [List.getElem?_map,hp]; rfl)
 rwa [show ((r.toNat:Nat):Int) = r by omega] at this
theorem mach_sgn {H:Hp} {t:Addr} {m:Ma} (h:Mach H t m) (M:OkM m):∃ (vs us:List V) (p:Addr),H t = some (.lst vs)∧atI vs 0 = some (.ref p)∧H p = some (.lst us)∧us.length = sgn m:=by
 obtain⟨vs,p,as,es,h1,h2,h3,h4,h5⟩:=mach_row h (Int.le_refl 0) (by have:=M.n1; omega)
 exact⟨vs,_,p,h1,h2,h3,by rw [List.length_map,h4.1]; exact M.len es (List.mem_of_getElem? h5)⟩
theorem all2_atI {H:Hp} {as:List Addr} {es:List En} (h:All2 (Ent H) as es) {s:Int} (s0:0≤s) (s1:s < es.length):∃ (c:Addr) (e:En),atI (as.map V.ref) s = some (.ref c)∧es[s.toNat]? = some e∧Ent H c e:=by
 have hl:s.toNat < as.length:=by rw [h.1]; omega
 obtain⟨p,hp⟩:∃ p,as[s.toNat]? = some p:=⟨_,List.getElem?_eq_getElem hl⟩
 obtain⟨e,he,hE⟩:=h.at hp
 refine⟨p,e,?_,he,hE⟩
 have:=atI_nat (xs:=as.map V.ref) (j:=s.toNat) (v:=.ref p) (by rw [List.getElem?_map,hp]; rfl)
 rwa [show ((s.toNat:Nat):Int) = s by omega] at this
def enA (m:Ma) (r s:Int):En:=((m[r.toNat]?).bind fun es=>es[s.toNat]?).getD []
def isWid (sg:Nat) (n:Int):Bool:=decide (1≤n) && decide (n≤(if sg = 2 then 4 else 2))
def sp_is_width:Sp:=fun vs H Q _=>match vs with
 | [.ref t,.int n]=>∃ m:Ma,Mach H t m∧isM m = true∧Q (.bl (isWid (sgn m) n)) H
 | _=>False
theorem ok_is_width (T:Tx K mg a):FnOk P w K mg base CX0 1 a.is_width a.is_width_d ["machine","width"] (sp_is_width):=by
 refine T.f_is_width.ok sc_is_width (fun vs H Q E h=>?_) (fun cdv A outer s H vs Q E hr h=>?_)
 ·unfold sp_is_width at h
  split at h
  ·rfl
  ·exact h.elim
 ·unfold sp_is_width at h
  split at h
  ·have nd:=sc_is_width.nd
   have hu:=hu_of hr
   rename_i t n
   obtain⟨m,hm,hM,h⟩:=h
   have M:=OkM.of hM
   obtain⟨vs,us,p,h1,h2,h3,h4⟩:=mach_sgn hm M
   refine⟨_,(pss_one (ps_ret (pe_ch q_le q_le pe_int (qv 1) (pe_dgetI (K:=K) rfl (pe_glob (v:=V.ref a.MOST_WIDTHS) rfl T.g_MOST_WIDTHS rfl) (pe_callB (q_lenK (K:=K) rfl) rfl T.z_len bt_len (pa_cons (pe_ix (q_ixLK (K:=K) rfl) (qv 0) pe_int (fun _ _=>rfl)) pa_nil)) (fun _ _=>rfl))))),?_⟩
   unfold isWid at h
   walk_at "w"
   refine ifB.dec (fun c=>?_) (fun c=>?_)
   ·walk_at "w"
    refine⟨_,_,SqL.of h1,h2,?_⟩
    refine⟨_,.inl (SqL.of h3),?_⟩
    rw [h4]
    walk_at "w"
    have hs2:=M.s2
    have hs4:=M.s4
    rw [decide_eq_true c,Bool.true_and] at h
    refine⟨_,(if sgn m = 2 then 4 else 2),T.d_MOST_WIDTHS,?_,h⟩
    have:sgn m = 2∨sgn m = 3∨sgn m = 4:=by omega
    rcases this with e | e | e <;> rw [e] <;> rfl
   ·rw [decide_eq_false c,Bool.false_and] at h
    exact h
  ·exact h.elim
theorem sc_is_word:FnScope ["machine","width","word"] ["machine","width","word"] (defScope s_is_word):=⟨rfl,rfl,rfl,by decide +kernel,rfl,by decide +kernel,by decide +kernel⟩
def okW (sg:Nat) (n:Int) (w:Wd):Bool:=decide ((w.length:Int) = n) && w.all fun s=>decide (0≤s) && decide (s < sg)
def sp_is_word:Sp:=fun vs H Q _=>match vs with
 | [.ref t,.int n,.ref a]=>∃ (m:Ma) (w:Wd),Mach H t m∧isM m = true∧WdA H a w∧w.length≤100∧∀ H',Sub H H'→Q (.bl (okW (sgn m) n w)) H'
 | _=>False
theorem ok_is_word (T:Tx K mg a):FnOk P w K mg base CX0 1 a.is_word a.is_word_d ["machine","width","word"] (sp_is_word):=by
 refine T.f_is_word.ok sc_is_word (fun vs H Q E h=>?_) (fun cdv A outer s H vs Q E hr h=>?_)
 ·unfold sp_is_word at h
  split at h
  ·rfl
  ·exact h.elim
 ·unfold sp_is_word at h
  split at h
  ·have nd:=sc_is_word.nd
   have hu:=hu_of hr
   rename_i t n a'
   obtain⟨m,w',hm,hM,hw,hwl,h⟩:=h
   have M:=OkM.of hM
   refine⟨_,(pss_one (ps_ret (pe_andC (pe_cmpR q_eq (pe_callB (q_lenK (K:=K) rfl) rfl T.z_len bt_len (pa_cons (qv 2) pa_nil)) (qv 1) (by first | exact nomark _ | rfl)) (pe_one (pe_callB (q_allK (K:=K) rfl rfl) rfl T.z_all bt_all (pa_cons (pe_lc (own:=["sign"]) (fr:=[0]) rfl (by walk_at "comp_ok") (qi_tupK (K:=K) rfl (qv 2)) (fun _ _ _ _=>(pg_name (i:=0) (show List.Nodup (α:=Str) ["sign","machine"] from by decide +kernel) rfl (by walk_at "o"))) (fun _ _ _ _=>pts_nil) (fun _ _ _ _=>(pe_ch q_le q_lt pe_int (qv 0) (pe_callB (q_lenK (K:=K) rfl) rfl T.z_len bt_len (pa_cons (pe_ix (q_ixLK (K:=K) rfl) (qv 1) pe_int (fun _ _=>rfl)) pa_nil))))) pa_nil)))))),?_⟩
   refine⟨_,.inr (SqT.of hw),?_⟩
   rw [List.length_map]
   walk_at "w"
   refine ifB.dec (fun c=>?_) (fun c=>?_)
   ·walk_at "w"
    refine⟨⟨_,SqT.of hw⟩,?_⟩
    intro p1 n1
    refine comp_tup (K:=K) (a:=a') (xs:=w'.map V.int) (fun i σ H4=>∃ v:Option V,σ = [v,some (.ref t)]∧Sub H H4∧H4 p1 = some (.lst (((w'.take i).map fun s=>decide (0≤s) && decide (s < (sgn m:Int))).map V.bl))) ?_ ?_ ?_ ?_
    ·exact⟨none,rfl,Sub.new n1,by rw [upd_same]; rfl⟩
    ·rintro i σ H4 _ ⟨v,rfl,S4,_⟩
     exact SqT.of (S4 _ _ hw)
    ·rintro i x σ H4 hi ⟨v,rfl,S4,g4⟩
     rw [List.getElem?_map] at hi
     obtain⟨s,hs,rfl⟩:=Option.map_eq_some_iff.1 hi
     obtain⟨vs,us,p,h1,h2,h3,h4⟩:=mach_sgn (hm.stay (.sub S4)) M
     have hll:(((w'.take i).map fun s=>decide (0≤s) && decide (s < (sgn m:Int))).map V.bl).length < sizeLine:=by
      rw [List.length_map,List.length_map,List.length_take]; exact Nat.lt_of_le_of_lt (Nat.min_le_right _ _) (Nat.lt_of_le_of_lt hwl (by decide))
     have htk:(((w'.take (i + 1)).map fun s=>decide (0≤s) && decide (s < (sgn m:Int))).map V.bl) = (((w'.take i).map fun s=>decide (0≤s) && decide (s < (sgn m:Int))).map V.bl) ++ [V.bl (decide (0≤s) && decide (s < (sgn m:Int)))]:=by
      rw [List.take_add_one,hs,List.map_append,List.map_append]; rfl
     walk_at "w"
     refine ifB.dec (fun c=>?_) (fun c=>?_)
     ·walk_at "w"
      refine⟨_,_,SqL.of h1,h2,?_⟩
      refine⟨_,.inl (SqL.of h3),?_⟩
      rw [h4]
      walk_at "w"
      rw [decide_eq_true c,Bool.true_and] at htk
      exact⟨_,g4,hll,_,rfl,S4.upd n1,by rw [upd_same,htk]⟩
     ·walk_at "w"
      rw [decide_eq_false c,Bool.false_and] at htk
      exact⟨_,g4,hll,_,rfl,S4.upd n1,by rw [upd_same,htk]⟩
    ·rintro σ H4 ⟨v,rfl,S4,g4⟩
     rw [List.length_map,List.take_length] at g4
     refine⟨_,SqL.of g4,?_⟩
     rw [all_id]
     have h:=h H4 S4
     unfold okW at h
     rw [decide_eq_true c,Bool.true_and] at h
     exact h
   ·have h:=h H Sub.refl
    unfold okW at h
    rw [decide_eq_false c,Bool.false_and] at h
    exact h
  ·exact h.elim
theorem sc_is_middle:FnScope ["machine","width","middle","left","row","sign","right"] ["machine","width","middle"] (defScope s_is_middle):=⟨rfl,rfl,rfl,by decide +kernel,rfl,by decide +kernel,by decide +kernel⟩
def okM (m:Ma) (n:Int) (d:Md):Bool:=okW (sgn m) n d.1 && (okW (sgn m) n d.2.2.2 && ((decide (0≤d.2.1) && decide (d.2.1 < m.length)) && (decide (0≤d.2.2.1) && decide (d.2.2.1 < sgn m))))
def sp_is_middle:Sp:=fun vs H Q _=>match vs with
 | [.ref t,.int n,.ref a]=>∃ (m:Ma) (d:Md),Mach H t m∧isM m = true∧MdA H a d∧d.1.length≤100∧d.2.2.2.length≤100∧∀ H',Sub H H'→Q (.bl (okM m n d)) H'
 | _=>False
theorem ok_is_middle (T:Tx K mg a):FnOk P w K mg base CX0 2 a.is_middle a.is_middle_d ["machine","width","middle"] (sp_is_middle):=by
 have G_is_word:=ok_is_word (P:=P) (w:=w) (base:=base) T
 refine T.f_is_middle.ok sc_is_middle (fun vs H Q E h=>?_) (fun cdv A outer s H vs Q E hr h=>?_)
 ·unfold sp_is_middle at h
  split at h
  ·rfl
  ·exact h.elim
 ·unfold sp_is_middle at h
  split at h
  ·have nd:=sc_is_middle.nd
   have hu:=hu_of hr
   rename_i t n a'
   obtain⟨m,d,hm,hM,⟨al,ar,hd,hl,hr'⟩,hl1,hl2,h⟩:=h
   have M:=OkM.of hM
   refine⟨_,(pss_cons (ps_asg (qv 2) (qg_tupK (K:=K) (n:=4) rfl rfl (qgs_cons (pg_name (i:=3) nd rfl (by walk_at "o")) (qgs_cons (pg_name (i:=4) nd rfl (by walk_at "o")) (qgs_cons (pg_name (i:=5) nd rfl (by walk_at "o")) (qgs_cons (pg_name (i:=6) nd rfl (by walk_at "o")) qgs_nil))))))
  (pss_cons (ps_c (PW.pt (pw_orR (pt_not (pt_e (pe_call G_is_word (hr.mono (by decide)) rfl T.g_is_word T.f_is_word.kp T.b_is_word .nil pass0 (pa_cons (qv 0) (pa_cons (qv 1) (pa_cons (qv 3) pa_nil)))))) (qw_or1 (pt_not (pt_e (pe_call G_is_word (hr.mono (by decide)) rfl T.g_is_word T.f_is_word.kp T.b_is_word .nil pass0 (pa_cons (qv 0) (pa_cons (qv 1) (pa_cons (qv 6) pa_nil))))))))) (pss_one (ps_ret pe_bl)) pss_nil)
  (pss_one (ps_ret (pe_andC (pe_ch q_le q_lt pe_int (qv 4) (pe_callB (q_lenK (K:=K) rfl) rfl T.z_len bt_len (pa_cons (qv 0) pa_nil))) (pe_one (pe_ch q_le q_lt pe_int (qv 5) (pe_callB (q_lenK (K:=K) rfl) rfl T.z_len bt_len (pa_cons (pe_ix (q_ixLK (K:=K) rfl) (qv 0) pe_int (fun _ _=>rfl)) pa_nil))))))))),?_⟩
   refine⟨_,SqT.of hd,rfl,?_⟩
   refine⟨m,d.1,hm,hM,hl,hl1,fun H1 S1=>?_⟩
   walk_at "w"
   unfold okM at h
   by_cases c1:okW (sgn m) n d.1 = true
   ·refine ifB.no (by rw [c1]; rfl) ?_
    rw [c1,Bool.true_and] at h
    refine⟨m,d.2.2.2,hm.stay (.sub S1),hM,hr'.sub S1,hl2,fun H2 S2=>?_⟩
    have T:=S1.trans S2
    walk_at "w"
    by_cases c2:okW (sgn m) n d.2.2.2 = true
    ·refine ifB.no (by rw [c2]; rfl) ?_
     rw [c2,Bool.true_and] at h
     obtain⟨vs,hv,hvl⟩:=mach_len (hm.stay (.sub T))
     obtain⟨vs',us,p,g1,g2,g3,g4⟩:=mach_sgn (hm.stay (.sub T)) M
     have h:=h H2 T
     walk_at "w"
     refine ifB.dec (fun c=>?_) (fun c=>?_)
     ·rw [decide_eq_true c,Bool.true_and] at h
      refine⟨_,.inl (SqL.of hv),?_⟩
      rw [hvl]
      walk_at "w"
      refine ifB.dec (fun c=>?_) (fun c=>?_)
      ·rw [decide_eq_true c,Bool.true_and] at h
       walk_at "w"
       refine ifB.dec (fun c=>?_) (fun c=>?_)
       ·rw [decide_eq_true c,Bool.true_and] at h
        refine⟨_,_,SqL.of g1,g2,?_⟩
        refine⟨_,.inl (SqL.of g3),?_⟩
        rw [g4]
        exact h
       ·rw [decide_eq_false c,Bool.false_and] at h
        exact h
      ·rw [decide_eq_false c,Bool.false_and] at h
       exact h
     ·rw [decide_eq_false c,Bool.false_and,Bool.false_and] at h
      walk_at "w"
      refine ifB.no rfl ?_
      exact h
    ·refine ifB.yes (by rw [Bool.eq_false_iff.2 c2]; rfl) ?_
     rw [Bool.eq_false_iff.2 c2,Bool.false_and] at h
     exact h _ T
   ·refine ifB.yes (by rw [Bool.eq_false_iff.2 c1]; rfl) ?_
    walk_at "w"
    refine ifB.yes rfl ?_
    rw [Bool.eq_false_iff.2 c1,Bool.false_and] at h
    exact h _ S1
  ·exact h.elim
theorem sc_ends_at:FnScope ["machine","middle","left","row","sign","right"] ["machine","middle"] (defScope s_ends_at):=⟨rfl,rfl,rfl,by decide +kernel,rfl,by decide +kernel,by decide +kernel⟩
def sp_ends_at:Sp:=fun vs H Q _=>match vs with
 | [.ref t,.ref a]=>∃ (m:Ma) (d:Md),Mach H t m∧isM m = true∧MdA H a d∧(0≤d.2.1∧d.2.1 < m.length)∧(0≤d.2.2.1∧d.2.2.1 < sgn m)∧∀ H',Sub H H'→Q (.bl (decide (enA m d.2.1 d.2.2.1 = []))) H'
 | _=>False
theorem dE_nil (e:En):eqD (dE e) (.tup []) = decide (e = []):=by
 cases e with
 | nil=>rfl
 | cons x e=>rfl
theorem dE_dep (e:En):dep (dE e)≤60:=Nat.le_trans (dep_ints e) (by decide)
theorem ok_ends_at (T:Tx K mg a):FnOk P w K mg base CX0 1 a.ends_at a.ends_at_d ["machine","middle"] (sp_ends_at):=by
 refine T.f_ends_at.ok sc_ends_at (fun vs H Q E h=>?_) (fun cdv A outer s H vs Q E hr h=>?_)
 ·unfold sp_ends_at at h
  split at h
  ·rfl
  ·exact h.elim
 ·unfold sp_ends_at at h
  split at h
  ·have nd:=sc_ends_at.nd
   have hu:=hu_of hr
   rename_i t a'
   obtain⟨m,d,hm,hM,⟨al,ar,hd,hl,hr'⟩,⟨r0,r1⟩,⟨s0,s1⟩,h⟩:=h
   have M:=OkM.of hM
   obtain⟨vs,p,as,es,h1,h2,h3,h4,h5⟩:=mach_row hm r0 r1
   obtain⟨c,e,h6,h7,h8⟩:=all2_atI h4 s0 (by rw [M.len es (List.mem_of_getElem? h5)]; exact s1)
   have hen:enA m d.2.1 d.2.2.1 = e:=by unfold enA; rw [h5,Option.bind_some,h7]; rfl
   refine⟨_,(pss_cons (ps_asg (qv 1) (qg_tupK (K:=K) (n:=4) rfl rfl (qgs_cons (pg_name (i:=2) nd rfl (by walk_at "o")) (qgs_cons (pg_name (i:=3) nd rfl (by walk_at "o")) (qgs_cons (pg_name (i:=4) nd rfl (by walk_at "o")) (qgs_cons (pg_name (i:=5) nd rfl (by walk_at "o")) qgs_nil))))))
  (pss_one (ps_ret (pe_cmpR (op_eqD hr) (pe_ix (q_ixLK (K:=K) rfl) (pe_ix (q_ixLK (K:=K) rfl) (qv 0) (qv 3) (fun _ _=>rfl)) (qv 4) (fun _ _=>rfl)) (pe_tup pa_nil) (by first | exact nomark _ | rfl))))),?_⟩
   refine⟨_,SqT.of hd,rfl,?_⟩
   refine⟨_,_,SqL.of h1,h2,?_⟩
   refine⟨_,_,SqL.of h3,h6,?_⟩
   refine⟨by show 0≤sizeLine; decide,?_⟩
   intro p1 n1
   generalize hU1:upd _ p1 _ = H1
   have S1:=(upd_sub n1 hU1).1
   have e1:=(upd_sub n1 hU1).2
   clear hU1
   refine⟨_,_,Ent.den (show Ent H1 c e from S1 _ _ h8),(by rw [Den]; exact⟨_,_,rfl,e1,rfl⟩:Den H1 (.ref p1) (.tup [])),dE_dep e,?_⟩
   rw [dE_nil,← hen]
   exact h _ S1
  ·exact h.elim
theorem sc_asked:FnScope ["machine","middle","lefts","rights","left","row","sign","right","put","way","after","signs","new_left","words","new_right"] ["machine","middle","lefts","rights"] (defScope s_asked):=⟨rfl,rfl,rfl,by decide +kernel,rfl,by decide +kernel,by decide +kernel⟩
def nlW (d:Md) (put:Int):Wd:=d.1.drop 1 ++ [put]
def nrW (d:Md) (put:Int):Wd:=put :: d.2.2.2.dropLast
def rWs (sg:Nat) (R:List Wd) (d:Md):List Wd:=((List.range sg).map fun f:Nat=>d.2.2.2.drop 1 ++ [(f:Int)]).filter fun w=>decide (w∈R)
def lWs (sg:Nat) (L:List Wd) (d:Md):List Wd:=((List.range sg).map fun f:Nat=>(f:Int) :: d.1.dropLast).filter fun w=>decide (w∈L)
def askM (sg:Nat) (L R:List Wd) (d:Md):En→List Wd × List Wd × List Md
 | [put,way,after]=>if way = 1 then ([nlW d put],[],(rWs sg R d).map fun w=>(nlW d put,after,d.2.2.2.headD 0,w)) else ([],[nrW d put],(lWs sg L d).map fun w=>(w,after,d.1.getLastD 0,nrW d put))
 | _=>([],[],[])
theorem cut_tail {w:Wd} (h:w≠[]):cutV (w.map V.int) (some 1) none = (w.drop 1).map V.int∧¬ (HT.sIx (w.map V.int).length 0 (some 1) = 0∧HT.sIx (w.map V.int).length (w.map V.int).length none = (w.map V.int).length):=by
 cases w with
 | nil=>exact (h rfl).elim
 | cons x w =>
  have e:HT.sIx ((x :: w).map V.int).length 0 (some 1) = 1:=by show min (1:Int).toNat (w.map V.int).length.succ = 1; show min 1 _ = 1; omega
  refine⟨?_,fun z=>by rw [e] at z; omega⟩
  unfold cutV
  rw [e]
  show ((w.map V.int)).take _ = w.map V.int
  exact List.take_of_length_le (by show _≤(w.map V.int).length.succ - 1; omega)
theorem cut_init {w:Wd} (h:w≠[]):cutV (w.map V.int) none (some (-1)) = w.dropLast.map V.int∧¬ (HT.sIx (w.map V.int).length 0 none = 0∧HT.sIx (w.map V.int).length (w.map V.int).length (some (-1)) = (w.map V.int).length):=by
 have hl:1≤w.length:=by cases w with
  | nil=>exact (h rfl).elim
  | cons x w=>simp
 have e:HT.sIx (w.map V.int).length (w.map V.int).length (some (-1)) = w.length - 1:=by
  show (if (-1:Int) < 0 then (-1 + ((w.map V.int).length:Int)).toNat else min (-1:Int).toNat (w.map V.int).length) = _
  rw [if_pos (by decide),List.length_map]; omega
 refine⟨?_,fun z=>by rw [e,List.length_map] at z; omega⟩
 unfold cutV
 rw [e]
 show ((w.map V.int)).take (w.length - 1 - 0) = _
 rw [Nat.sub_zero,List.dropLast_eq_take,List.map_take]
theorem atI_first {w:Wd} (h:w≠[]):atI (w.map V.int) 0 = some (.int (w.headD 0)):=by
 cases w with
 | nil=>exact (h rfl).elim
 | cons x w=>exact atI_nat (j:=0) rfl
theorem atI_last {w:Wd} (h:w≠[]):atI (w.map V.int) (-1) = some (.int (w.getLastD 0)):=by
 have hl:1≤w.length:=by cases w with
  | nil=>exact (h rfl).elim
  | cons x w=>simp
 unfold atI
 have e:ixN (w.map V.int).length (-1) = some (w.length - 1):=by
  unfold ixN
  rw [List.length_map]
  rw [if_neg (by decide),if_pos (by omega)]
  congr 1
  omega
 rw [e,Option.bind_some,List.getElem?_map,List.getLastD_eq_getLast?,List.getLast?_eq_getElem?]
 obtain⟨x,hx⟩:∃ x,w[w.length - 1]? = some x:=⟨_,List.getElem?_eq_getElem (Nat.sub_lt hl Nat.one_pos)⟩
 rw [hx]
 rfl
def sp_asked:Sp:=fun vs H Q _=>match vs with
 | [.ref t,.ref a,.ref dl,.ref dr]=>∃ (m:Ma) (d:Md) (L R:List Wd) (kl kr:List (NK × Addr × V)),Mach H t m∧isM m = true∧MdA H a d∧(0≤d.2.1∧d.2.1 < m.length)∧(0≤d.2.2.1∧d.2.2.1 < sgn m)∧d.1≠[]∧d.2.2.2≠[]∧d.1.length≤100∧d.2.2.2.length≤100∧enA m d.2.1 d.2.2.1≠[] ∧
   DNw H dl kl∧kl.map (·.1) = L.map wK∧DNw H dr kr∧kr.map (·.1) = R.map wK ∧
   ∀ (q l1 l2 l3:Addr) (H':Hp),Sub H H'→H' q = some (.tup [.ref l1,.ref l2,.ref l3])→WL H' l1 (askM (sgn m) L R d (enA m d.2.1 d.2.2.1)).1→WL H' l2 (askM (sgn m) L R d (enA m d.2.1 d.2.2.1)).2.1→ML H' l3 (askM (sgn m) L R d (enA m d.2.1 d.2.2.1)).2.2→Q (.ref q) H'
 | _=>False
theorem ok_asked (T:Tx K mg a):FnOk P w K mg base CX0 1 a.asked a.asked_d ["machine","middle","lefts","rights"] (sp_asked):=by
 refine T.f_asked.ok sc_asked (fun vs H Q E h=>?_) (fun cdv A outer s H vs Q E hr h=>?_)
 ·unfold sp_asked at h
  split at h
  ·rfl
  ·exact h.elim
 ·unfold sp_asked at h
  split at h
  ·have nd:=sc_asked.nd
   have hu:=hu_of hr
   rename_i t a' dl dr
   obtain⟨m,d,L,R,kl,kr,hm,hM,⟨al,ar,hd,hl,hr'⟩,⟨r0,r1⟩,⟨s0,s1⟩,hn1,hn2,hb1,hb2,hne,hDl,hkl,hDr,hkr,h⟩:=h
   have M:=OkM.of hM
   obtain⟨vs,p,as,es,h1,h2,h3,h4,h5⟩:=mach_row hm r0 r1
   have hel:=M.len es (List.mem_of_getElem? h5)
   obtain⟨c,e,h6,h7,h8⟩:=all2_atI h4 s0 (by rw [hel]; exact s1)
   have hen:enA m d.2.1 d.2.2.1 = e:=by unfold enA; rw [h5,Option.bind_some,h7]; rfl
   rw [hen] at h hne
   obtain⟨put,way,after,he3,a0,a1,a2,a3,a4⟩:=entryOk_three (M.ent es (List.mem_of_getElem? h5) e (List.mem_of_getElem? h7)) hne
   subst he3
   obtain⟨vs',us,p',g1,g2,g3,g4⟩:=mach_sgn hm M
   have hs4:=M.s4
   refine⟨_,(pss_cons (ps_asg (qv 1) (qg_tupK (K:=K) (n:=4) rfl rfl (qgs_cons (pg_name (i:=4) nd rfl (by walk_at "o")) (qgs_cons (pg_name (i:=5) nd rfl (by walk_at "o")) (qgs_cons (pg_name (i:=6) nd rfl (by walk_at "o")) (qgs_cons (pg_name (i:=7) nd rfl (by walk_at "o")) qgs_nil))))))
  (pss_cons (ps_asg (pe_ix (q_ixLK (K:=K) rfl) (pe_ix (q_ixLK (K:=K) rfl) (qv 0) (qv 5) (fun _ _=>rfl)) (qv 6) (fun _ _=>rfl)) (qg_tupK (K:=K) (n:=3) rfl rfl (qgs_cons (pg_name (i:=8) nd rfl (by walk_at "o")) (qgs_cons (pg_name (i:=9) nd rfl (by walk_at "o")) (qgs_cons (pg_name (i:=10) nd rfl (by walk_at "o")) qgs_nil)))))
  (pss_cons (ps_set (i:=11) nd rfl (by walk_at "o") (pe_callB (q_lenK (K:=K) rfl) rfl T.z_len bt_len (pa_cons (pe_ix (q_ixLK (K:=K) rfl) (qv 0) pe_int (fun _ _=>rfl)) pa_nil)))
  (pss_cons (ps_c (pt_c q_eq (qv 9) pe_int) (pss_cons (ps_set (i:=12) nd rfl (by walk_at "o") (pe_cut (pe_op (q_catUK (K:=K) rfl) (pe_slice (q_slTK (K:=K) rfl) (qv 4) (qo_some pe_int) po_none) (pe_tup (pa_cons (qv 8) pa_nil)))))
    (pss_cons (ps_lc (j:=13) rfl nd rfl (by walk_at "o") (own:=["far"]) (fr:=[7]) (by walk_at "comp_ok") (qi_range1 rfl T.z_range (pa_cons (qv 11) pa_nil)) (fun _ _ _ _=>(pg_name (i:=0) (show List.Nodup (α:=Str) ["far","right"] from by decide +kernel) rfl (by walk_at "o"))) (fun _ _ _ _=>pts_nil) (fun _ _ _ _=>(pe_cut (pe_op (q_catUK (K:=K) rfl) (pe_slice (q_slTK (K:=K) rfl) (qv 1) (qo_some pe_int) po_none) (pe_tup (pa_cons (qv 0) pa_nil))))))
    (pss_one (ps_ret (pe_tup (pa_cons (pe_lst (pa_cons (qv 12) pa_nil)) (pa_cons (pe_lst pa_nil) (pa_cons (pe_lc (own:=["word"]) (fr:=[12,10,7,3]) rfl (by walk_at "comp_ok") (qi_listK (K:=K) rfl (qv 13)) (fun _ _ _ _=>(pg_name (i:=0) (show List.Nodup (α:=Str) ["word","new_left","after","right","rights"] from by decide +kernel) rfl (by walk_at "o"))) (fun _ _ _ _=>(pts_one (pt_c (op_inW hr) (qv 0) (qv 4)))) (fun _ _ _ _=>(pe_tup (pa_cons (qv 1) (pa_cons (qv 2) (pa_cons (pe_ix (q_ixTK (K:=K) rfl) (qv 3) pe_int (fun _ _=>rfl)) (pa_cons (qv 0) pa_nil))))))) pa_nil)))))))) pss_nil)
  (pss_cons (ps_set (i:=14) nd rfl (by walk_at "o") (pe_cut (pe_op (q_catUK (K:=K) rfl) (pe_tup (pa_cons (qv 8) pa_nil)) (pe_slice (q_slTK (K:=K) rfl) (qv 7) po_none (qo_some (pe_un q_neg pe_int))))))
  (pss_cons (ps_lc (j:=13) rfl nd rfl (by walk_at "o") (own:=["far"]) (fr:=[4]) (by walk_at "comp_ok") (qi_range1 rfl T.z_range (pa_cons (qv 11) pa_nil)) (fun _ _ _ _=>(pg_name (i:=0) (show List.Nodup (α:=Str) ["far","left"] from by decide +kernel) rfl (by walk_at "o"))) (fun _ _ _ _=>pts_nil) (fun _ _ _ _=>(pe_cut (pe_op (q_catUK (K:=K) rfl) (pe_tup (pa_cons (qv 0) pa_nil)) (pe_slice (q_slTK (K:=K) rfl) (qv 1) po_none (qo_some (pe_un q_neg pe_int)))))))
  (pss_one (ps_ret (pe_tup (pa_cons (pe_lst pa_nil) (pa_cons (pe_lst (pa_cons (qv 14) pa_nil)) (pa_cons (pe_lc (own:=["word"]) (fr:=[10,4,14,2]) rfl (by walk_at "comp_ok") (qi_listK (K:=K) rfl (qv 13)) (fun _ _ _ _=>(pg_name (i:=0) (show List.Nodup (α:=Str) ["word","after","left","new_right","lefts"] from by decide +kernel) rfl (by walk_at "o"))) (fun _ _ _ _=>(pts_one (pt_c (op_inW hr) (qv 0) (qv 4)))) (fun _ _ _ _=>(pe_tup (pa_cons (qv 0) (pa_cons (qv 1) (pa_cons (pe_ix (q_ixTK (K:=K) rfl) (qv 2) (pe_un q_neg pe_int) (fun _ _=>rfl)) (pa_cons (qv 3) pa_nil))))))) pa_nil)))))))))))),?_⟩
   refine⟨_,SqT.of hd,rfl,?_⟩
   refine⟨_,_,SqL.of h1,h2,?_⟩
   refine⟨_,_,SqL.of h3,h6,?_⟩
   refine⟨_,SqT.of h8,rfl,?_⟩
   refine⟨_,_,SqL.of g1,g2,?_⟩
   refine⟨_,.inl (SqL.of g3),?_⟩
   rw [g4]
   walk_at "w"
   refine ifB.dec (fun c=>?_) (fun c=>?_)
   ·have hask:askM (sgn m) L R d [put,way,after] = ([nlW d put],[],(rWs (sgn m) R d).map fun w=>(nlW d put,after,d.2.2.2.headD 0,w)):=by show (if way = 1 then _ else _) = _; rw [if_pos c]
    rw [hask] at h
    refine⟨fun v H'=>∃ q,v = .ref q∧Sub H H'∧WdA H' q (nlW d put),?_,?_⟩
    ·walk_at "w"
     refine⟨_,SqT.of hl,(cut_tail hn1).2,?_⟩
     rw [(cut_tail hn1).1]
     intro p1 n1
     generalize hU1:upd _ p1 _ = H1
     have S1:=(upd_sub n1 hU1).1
     have e1:=(upd_sub n1 hU1).2
     clear hU1
     refine⟨by show 1≤sizeLine; decide,?_⟩
     intro p2 n2
     generalize hU2:upd _ p2 _ = H2
     have S2:=(upd_sub n2 hU2).1
     have e2:=(upd_sub n2 hU2).2
     clear hU2
     have S12:=S1.trans S2
     refine⟨_,_,SqT.of (S2 _ _ e1),SqT.of e2,?_,fun z=>?_,fun _ z=>(by cases z),fun z _=>?_⟩
     ·rw [List.length_map,List.length_drop]; exact Nat.le_trans (show d.1.length - 1 + 1≤200 by omega) (by decide)
     ·refine⟨p2,rfl,S12,?_⟩
      unfold WdA nlW
      rw [List.map_append,z]
      exact e2
     ·skip
      intro p3 n3
      generalize hU3:upd _ p3 _ = H3
      have S3:=(upd_sub n3 hU3).1
      have e3:=(upd_sub n3 hU3).2
      clear hU3
      refine⟨p3,rfl,S12.trans S3,?_⟩
      unfold WdA nlW
      rw [List.map_append]
      exact e3
    rintro v H1 ⟨nl,rfl,S1,hnl⟩
    refine⟨⟨by omega,by omega⟩,?_⟩
    intro p3 n3
    refine comp_range (lo:=0) (n:=sgn m) (fun i σ H4=>∃ (v:Option V) (as2:List Addr),σ = [v,some (.ref ar)]∧Sub H1 H4∧H4 p3 = some (.lst (as2.map V.ref))∧All2 (WdA H4) as2 ((List.range i).map fun f:Nat=>d.2.2.2.drop 1 ++ [(f:Int)])) ?_ ?_ ?_
    ·exact⟨none,[],rfl,Sub.new n3,upd_same,.nil⟩
    ·rintro i σ H4 hi ⟨v,as2,rfl,S4,g4,A4⟩
     refine⟨fun v H'=>∃ q,v = .ref q∧Sub H4 H'∧H' p3 = some (.lst (as2.map V.ref))∧WdA H' q (d.2.2.2.drop 1 ++ [(i:Int)]),?_,?_⟩
     ·skip
      have S4k:=S4
      have S4:Sub H4 H4:=Sub.refl
      have S1:=S1.trans S4k
      ·skip
       refine⟨_,SqT.of ((S1.trans S4) _ _ hr'),(cut_tail hn2).2,?_⟩
       rw [(cut_tail hn2).1]
       intro p5 n5
       generalize hU5:upd _ p5 _ = H5
       have S5:=(upd_sub n5 hU5).1
       have e5:=(upd_sub n5 hU5).2
       clear hU5
       refine⟨by show 1≤sizeLine; decide,?_⟩
       intro p6 n6
       generalize hU6:upd _ p6 _ = H6
       have S6:=(upd_sub n6 hU6).1
       have e6:=(upd_sub n6 hU6).2
       clear hU6
       have S46:=(S4.trans S5).trans S6
       refine⟨_,_,SqT.of (S6 _ _ e5),SqT.of e6,?_,fun z=>?_,fun _ z=>(by cases z),fun z _=>?_⟩
       ·rw [List.length_map,List.length_drop]; exact Nat.le_trans (show d.2.2.2.length - 1 + 1≤200 by omega) (by decide)
       ·refine⟨p6,rfl,S46,S6 _ _ (S5 _ _ g4),?_⟩
        unfold WdA
        rw [List.map_append,z]
        rw [Int.zero_add] at e6
        exact e6
       ·skip
        intro p7 n7
        generalize hU7:upd _ p7 _ = H7
        have S7:=(upd_sub n7 hU7).1
        have e7:=(upd_sub n7 hU7).2
        clear hU7
        refine⟨p7,rfl,S46.trans S7,S7 _ _ (S6 _ _ (S5 _ _ g4)),?_⟩
        unfold WdA
        rw [List.map_append]
        rw [Int.zero_add] at e7
        exact e7
     rintro v' H5 ⟨q,rfl,S5,g5,hq⟩
     have kt:∀ a us,H5 a = some (.tup us)→(upd H5 p3 (.lst (as2.map V.ref ++ [V.ref q]))) a = some (.tup us):=fun a us e=>by
      rw [upd_ne (by rintro rfl; rw [g5] at e; cases e)]; exact e
     refine⟨_,g5,?_,_,as2 ++ [q],rfl,(S4.trans S5).upd n3,by rw [upd_same,List.map_append]; rfl,?_⟩
     ·rw [List.length_map,A4.1,List.length_map,List.length_range]
      exact Nat.lt_of_lt_of_le hi (Nat.le_trans hs4 (by decide))
     ·rw [List.range_succ,List.map_append]
      exact (A4.mono fun _ _ _ z=>(z.sub S5).tup kt).app (hq.tup kt)
    rintro σ H4 ⟨v,as2,rfl,S4,g4,A4⟩
    have S14:=S1.trans S4
    refine⟨by show 1≤sizeLine; decide,?_⟩
    intro p5 n5
    generalize hU5:upd _ p5 _ = H5
    have S5:=(upd_sub n5 hU5).1
    have e5:=(upd_sub n5 hU5).2
    clear hU5
    refine⟨by show 0≤sizeLine; decide,?_⟩
    intro p6 n6
    generalize hU6:upd _ p6 _ = H6
    have S6:=(upd_sub n6 hU6).1
    have e6:=(upd_sub n6 hU6).2
    clear hU6
    walk_at "w"
    have S46:=S5.trans S6
    refine⟨⟨_,SqL.of (S46 _ _ g4)⟩,?_⟩
    intro p7 n7
    refine comp_list (K:=K) (a:=p3) (xs:=as2.map V.ref) (fun i σ H7=>∃ (v:Option V) (as3:List Addr),σ = [v,some (.ref nl),some (.int after),some (.ref ar),some (.ref dr)]∧Sub H6 H7∧H7 p7 = some (.lst (as3.map V.ref))∧as3.length≤i∧All2 (MdA H7) as3 (((((List.range (sgn m)).map fun f:Nat=>d.2.2.2.drop 1 ++ [(f:Int)]).take i).filter fun w=>decide (w∈R)).map fun w=>(nlW d put,after,d.2.2.2.headD 0,w))) ?_ ?_ ?_ ?_
    ·exact⟨none,[],rfl,Sub.new n7,upd_same,Nat.le_refl _,.nil⟩
    ·rintro i σ H7 _ ⟨v,as3,rfl,S7,_⟩
     exact SqL.of (S7 _ _ (S46 _ _ g4))
    ·rintro i x σ H7 hi ⟨v,as3,rfl,S7,g7,l7,A7⟩
     have hil:i < as2.length:=by have:=(List.getElem?_eq_some_iff.1 hi).1; rwa [List.length_map] at this
     have hal:as2.length = sgn m:=by rw [A4.1,List.length_map,List.length_range]
     rw [List.getElem?_map] at hi
     obtain⟨c,hc,rfl⟩:=Option.map_eq_some_iff.1 hi
     obtain⟨w',hw',hcw⟩:=A4.at hc
     have hcw:=hcw.sub (S46.trans S7)
     have T17:=(S4.trans S46).trans S7
     have T7:=(S14.trans S46).trans S7
     have htk:(((List.range (sgn m)).map fun f:Nat=>d.2.2.2.drop 1 ++ [(f:Int)]).take (i + 1)).filter (fun w=>decide (w∈R)) = (((List.range (sgn m)).map fun f:Nat=>d.2.2.2.drop 1 ++ [(f:Int)]).take i).filter (fun w=>decide (w∈R)) ++ [w'].filter (fun w=>decide (w∈R)):=by
      rw [List.take_add_one,hw',List.filter_append]; rfl
     refine⟨c,dr,wK w',kr,rfl,rfl,wK_dep7 w',hcw.den,hDr.sub T7,?_⟩
     have hdec:decide (wK w'∈kr.map (·.1)) = decide (w'∈R):=by
      rw [hkr]
      exact decide_eq_decide.2 mem_wK
     rw [hdec]
     by_cases cz:w'∈R
     ·refine ite_yes cz ?_
      rw [List.filter_cons_of_pos (by simpa using cz)] at htk
      refine⟨_,_,SqT.of (T7 _ _ hr'),atI_first hn2,?_⟩
      refine⟨by show 4≤sizeLine; decide,?_⟩
      intro p8 n8
      generalize hU8:upd _ p8 _ = H8
      have S8:=(upd_sub n8 hU8).1
      have e8:=(upd_sub n8 hU8).2
      clear hU8
      have g8:=S8 _ _ g7
      have kt:∀ a us,H8 a = some (.tup us)→(upd H8 p7 (.lst (as3.map V.ref ++ [V.ref p8]))) a = some (.tup us):=fun a us e=>by
       rw [upd_ne (by rintro rfl; rw [g8] at e; cases e)]; exact e
      refine⟨_,g8,by rw [List.length_map]; exact Nat.lt_of_le_of_lt (show as3.length≤10 by omega) (by decide),_,as3 ++ [p8],rfl,(S7.trans S8).upd n7,by rw [upd_same,List.map_append]; rfl,by rw [List.length_append]; exact Nat.succ_le_succ l7,?_⟩
      rw [htk,List.map_append]
      exact (A7.mono fun _ _ _ z=>(z.sub S8).tup kt).app (show MdA _ p8 (nlW d put,after,d.2.2.2.headD 0,w') from ⟨nl,c,kt _ _ e8,kt _ _ (S8 _ _ (T17 _ _ hnl)),kt _ _ (S8 _ _ hcw)⟩)
     ·refine ite_not cz ?_
      rw [List.filter_cons_of_neg (by simpa using cz),List.filter_nil,List.append_nil] at htk
      refine⟨_,as3,rfl,S7,g7,by omega,?_⟩
      rw [htk]
      exact A7
    ·rintro σ H7 ⟨v,as3,rfl,S7,g7,l7,A7⟩
     rw [List.length_map,A4.1,List.length_map,List.length_range,List.take_of_length_le (by rw [List.length_map,List.length_range]; exact Nat.le_refl _)] at A7
     refine⟨by show 3≤sizeLine; decide,?_⟩
     intro p8 n8
     generalize hU8:upd _ p8 _ = H8
     have S8:=(upd_sub n8 hU8).1
     have e8:=(upd_sub n8 hU8).2
     clear hU8
     have T18:=((S4.trans S46).trans S7).trans S8
     exact h p8 _ _ _ H8 (S1.trans T18) e8 ⟨[nl],S8 _ _ (S7 _ _ (S6 _ _ e5)),All2.nil.app (T18 _ _ hnl)⟩ ⟨[],S8 _ _ (S7 _ _ e6),.nil⟩ ⟨as3,S8 _ _ g7,A7.mono fun _ _ _ z=>z.sub S8⟩
   ·have hask:askM (sgn m) L R d [put,way,after] = ([],[nrW d put],(lWs (sgn m) L d).map fun w=>(w,after,d.1.getLastD 0,nrW d put)):=by show (if way = 1 then _ else _) = _; rw [if_neg c]
    rw [hask] at h
    refine⟨fun v H'=>∃ q,v = .ref q∧Sub H H'∧WdA H' q (nrW d put),?_,?_⟩
    ·walk_at "w"
     refine⟨by show 1≤sizeLine; decide,?_⟩
     intro p1 n1
     generalize hU1:upd _ p1 _ = H1
     have S1:=(upd_sub n1 hU1).1
     have e1:=(upd_sub n1 hU1).2
     clear hU1
     refine⟨_,SqT.of (S1 _ _ hr'),(cut_init hn2).2,?_⟩
     rw [(cut_init hn2).1]
     intro p2 n2
     generalize hU2:upd _ p2 _ = H2
     have S2:=(upd_sub n2 hU2).1
     have e2:=(upd_sub n2 hU2).2
     clear hU2
     have S12:=S1.trans S2
     refine⟨_,_,SqT.of (S2 _ _ e1),SqT.of e2,?_,fun z=>(by cases z),fun _ z=>?_,fun _ z=>?_⟩
     ·rw [List.length_map,List.length_dropLast]; exact Nat.le_trans (show 1 + (d.2.2.2.length - 1)≤200 by omega) (by decide)
     ·refine⟨p1,rfl,S12,?_⟩
      unfold WdA nrW
      rw [List.map_cons,z]
      exact S2 _ _ e1
     ·skip
      intro p3 n3
      generalize hU3:upd _ p3 _ = H3
      have S3:=(upd_sub n3 hU3).1
      have e3:=(upd_sub n3 hU3).2
      clear hU3
      exact⟨p3,rfl,S12.trans S3,e3⟩
    rintro v H1 ⟨nr,rfl,S1,hnr⟩
    refine⟨⟨by omega,by omega⟩,?_⟩
    intro p3 n3
    refine comp_range (lo:=0) (n:=sgn m) (fun i σ H4=>∃ (v:Option V) (as2:List Addr),σ = [v,some (.ref al)]∧Sub H1 H4∧H4 p3 = some (.lst (as2.map V.ref))∧All2 (WdA H4) as2 ((List.range i).map fun f:Nat=>(f:Int) :: d.1.dropLast)) ?_ ?_ ?_
    ·exact⟨none,[],rfl,Sub.new n3,upd_same,.nil⟩
    ·rintro i σ H4 hi ⟨v,as2,rfl,S4,g4,A4⟩
     refine⟨fun v H'=>∃ q,v = .ref q∧Sub H4 H'∧H' p3 = some (.lst (as2.map V.ref))∧WdA H' q ((i:Int) :: d.1.dropLast),?_,?_⟩
     ·skip
      have S4k:=S4
      have S4:Sub H4 H4:=Sub.refl
      have S1:=S1.trans S4k
      ·skip
       refine⟨by show 1≤sizeLine; decide,?_⟩
       intro p5 n5
       generalize hU5:upd _ p5 _ = H5
       have S5:=(upd_sub n5 hU5).1
       have e5:=(upd_sub n5 hU5).2
       clear hU5
       refine⟨_,SqT.of (S5 _ _ ((S1.trans S4) _ _ hl)),(cut_init hn1).2,?_⟩
       rw [(cut_init hn1).1]
       intro p6 n6
       generalize hU6:upd _ p6 _ = H6
       have S6:=(upd_sub n6 hU6).1
       have e6:=(upd_sub n6 hU6).2
       clear hU6
       have S46:=(S4.trans S5).trans S6
       refine⟨_,_,SqT.of (S6 _ _ e5),SqT.of e6,?_,fun z=>(by cases z),fun _ z=>?_,fun _ z=>?_⟩
       ·rw [List.length_map,List.length_dropLast]; exact Nat.le_trans (show 1 + (d.1.length - 1)≤200 by omega) (by decide)
       ·refine⟨p5,rfl,S46,S6 _ _ (S5 _ _ g4),?_⟩
        unfold WdA
        rw [List.map_cons,z]
        rw [Int.zero_add] at e5
        exact S6 _ _ e5
       ·skip
        intro p7 n7
        generalize hU7:upd _ p7 _ = H7
        have S7:=(upd_sub n7 hU7).1
        have e7:=(upd_sub n7 hU7).2
        clear hU7
        refine⟨p7,rfl,S46.trans S7,S7 _ _ (S6 _ _ (S5 _ _ g4)),?_⟩
        unfold WdA
        rw [Int.zero_add] at e7
        exact e7
     rintro v' H5 ⟨q,rfl,S5,g5,hq⟩
     have kt:∀ a us,H5 a = some (.tup us)→(upd H5 p3 (.lst (as2.map V.ref ++ [V.ref q]))) a = some (.tup us):=fun a us e=>by
      rw [upd_ne (by rintro rfl; rw [g5] at e; cases e)]; exact e
     refine⟨_,g5,?_,_,as2 ++ [q],rfl,(S4.trans S5).upd n3,by rw [upd_same,List.map_append]; rfl,?_⟩
     ·rw [List.length_map,A4.1,List.length_map,List.length_range]
      exact Nat.lt_of_lt_of_le hi (Nat.le_trans hs4 (by decide))
     ·rw [List.range_succ,List.map_append]
      exact (A4.mono fun _ _ _ z=>(z.sub S5).tup kt).app (hq.tup kt)
    rintro σ H4 ⟨v,as2,rfl,S4,g4,A4⟩
    have S14:=S1.trans S4
    refine⟨by show 0≤sizeLine; decide,?_⟩
    intro p5 n5
    generalize hU5:upd _ p5 _ = H5
    have S5:=(upd_sub n5 hU5).1
    have e5:=(upd_sub n5 hU5).2
    clear hU5
    refine⟨by show 1≤sizeLine; decide,?_⟩
    intro p6 n6
    generalize hU6:upd _ p6 _ = H6
    have S6:=(upd_sub n6 hU6).1
    have e6:=(upd_sub n6 hU6).2
    clear hU6
    walk_at "w"
    have S46:=S5.trans S6
    refine⟨⟨_,SqL.of (S46 _ _ g4)⟩,?_⟩
    intro p7 n7
    refine comp_list (K:=K) (a:=p3) (xs:=as2.map V.ref) (fun i σ H7=>∃ (v:Option V) (as3:List Addr),σ = [v,some (.int after),some (.ref al),some (.ref nr),some (.ref dl)]∧Sub H6 H7∧H7 p7 = some (.lst (as3.map V.ref))∧as3.length≤i∧All2 (MdA H7) as3 (((((List.range (sgn m)).map fun f:Nat=>(f:Int) :: d.1.dropLast).take i).filter fun w=>decide (w∈L)).map fun w=>(w,after,d.1.getLastD 0,nrW d put))) ?_ ?_ ?_ ?_
    ·exact⟨none,[],rfl,Sub.new n7,upd_same,Nat.le_refl _,.nil⟩
    ·rintro i σ H7 _ ⟨v,as3,rfl,S7,_⟩
     exact SqL.of (S7 _ _ (S46 _ _ g4))
    ·rintro i x σ H7 hi ⟨v,as3,rfl,S7,g7,l7,A7⟩
     have hil:i < as2.length:=by have:=(List.getElem?_eq_some_iff.1 hi).1; rwa [List.length_map] at this
     have hal:as2.length = sgn m:=by rw [A4.1,List.length_map,List.length_range]
     rw [List.getElem?_map] at hi
     obtain⟨c,hc,rfl⟩:=Option.map_eq_some_iff.1 hi
     obtain⟨w',hw',hcw⟩:=A4.at hc
     have hcw:=hcw.sub (S46.trans S7)
     have T17:=(S4.trans S46).trans S7
     have T7:=(S14.trans S46).trans S7
     have htk:(((List.range (sgn m)).map fun f:Nat=>(f:Int) :: d.1.dropLast).take (i + 1)).filter (fun w=>decide (w∈L)) = (((List.range (sgn m)).map fun f:Nat=>(f:Int) :: d.1.dropLast).take i).filter (fun w=>decide (w∈L)) ++ [w'].filter (fun w=>decide (w∈L)):=by
      rw [List.take_add_one,hw',List.filter_append]; rfl
     refine⟨c,dl,wK w',kl,rfl,rfl,wK_dep7 w',hcw.den,hDl.sub T7,?_⟩
     have hdec:decide (wK w'∈kl.map (·.1)) = decide (w'∈L):=by
      rw [hkl]
      exact decide_eq_decide.2 mem_wK
     rw [hdec]
     by_cases cz:w'∈L
     ·refine ite_yes cz ?_
      rw [List.filter_cons_of_pos (by simpa using cz)] at htk
      refine⟨_,_,SqT.of (T7 _ _ hl),atI_last hn1,?_⟩
      refine⟨by show 4≤sizeLine; decide,?_⟩
      intro p8 n8
      generalize hU8:upd _ p8 _ = H8
      have S8:=(upd_sub n8 hU8).1
      have e8:=(upd_sub n8 hU8).2
      clear hU8
      have g8:=S8 _ _ g7
      have kt:∀ a us,H8 a = some (.tup us)→(upd H8 p7 (.lst (as3.map V.ref ++ [V.ref p8]))) a = some (.tup us):=fun a us e=>by
       rw [upd_ne (by rintro rfl; rw [g8] at e; cases e)]; exact e
      refine⟨_,g8,by rw [List.length_map]; exact Nat.lt_of_le_of_lt (show as3.length≤10 by omega) (by decide),_,as3 ++ [p8],rfl,(S7.trans S8).upd n7,by rw [upd_same,List.map_append]; rfl,by rw [List.length_append]; exact Nat.succ_le_succ l7,?_⟩
      rw [htk,List.map_append]
      exact (A7.mono fun _ _ _ z=>(z.sub S8).tup kt).app (show MdA _ p8 (w',after,d.1.getLastD 0,nrW d put) from ⟨c,nr,kt _ _ e8,kt _ _ (S8 _ _ hcw),kt _ _ (S8 _ _ (T17 _ _ hnr))⟩)
     ·refine ite_not cz ?_
      rw [List.filter_cons_of_neg (by simpa using cz),List.filter_nil,List.append_nil] at htk
      refine⟨_,as3,rfl,S7,g7,by omega,?_⟩
      rw [htk]
      exact A7
    ·rintro σ H7 ⟨v,as3,rfl,S7,g7,l7,A7⟩
     rw [List.length_map,A4.1,List.length_map,List.length_range,List.take_of_length_le (by rw [List.length_map,List.length_range]; exact Nat.le_refl _)] at A7
     refine⟨by show 3≤sizeLine; decide,?_⟩
     intro p8 n8
     generalize hU8:upd _ p8 _ = H8
     have S8:=(upd_sub n8 hU8).1
     have e8:=(upd_sub n8 hU8).2
     clear hU8
     have T18:=((S4.trans S46).trans S7).trans S8
     exact h p8 _ _ _ H8 (S1.trans T18) e8 ⟨[],S8 _ _ (S7 _ _ (S6 _ _ e5)),.nil⟩ ⟨[nr],S8 _ _ (S7 _ _ e6),All2.nil.app (T18 _ _ hnr)⟩ ⟨as3,S8 _ _ g7,A7.mono fun _ _ _ z=>z.sub S8⟩
  ·exact h.elim
theorem sc_is_kept:FnScope ["machine","middle","lefts","rights","middles","left_words","right_words","others","there"] ["machine","middle","lefts","rights","middles"] (defScope s_is_kept):=⟨rfl,rfl,rfl,by decide +kernel,rfl,by decide +kernel,by decide +kernel⟩
def keptB (m:Ma) (L R:List Wd) (Ms:List Md) (d:Md):Bool :=
 !decide (enA m d.2.1 d.2.2.1 = []) && ((((askM (sgn m) L R d (enA m d.2.1 d.2.2.1)).1.all fun w=>decide (w∈L)) && ((askM (sgn m) L R d (enA m d.2.1 d.2.2.1)).2.1.all fun w=>decide (w∈R))) && ((askM (sgn m) L R d (enA m d.2.1 d.2.2.1)).2.2.all fun w=>decide (w∈Ms)))
theorem askM_len {sg:Nat} {L R:List Wd} {d:Md} {e:En} (h:sg≤4):(askM sg L R d e).1.length≤10∧(askM sg L R d e).2.1.length≤10∧(askM sg L R d e).2.2.length≤10:=by
 have h1:(rWs sg R d).length≤4:=by
  unfold rWs
  refine Nat.le_trans (List.length_filter_le _ _) ?_
  rw [List.length_map,List.length_range]; exact h
 have h2:(lWs sg L d).length≤4:=by
  unfold lWs
  refine Nat.le_trans (List.length_filter_le _ _) ?_
  rw [List.length_map,List.length_range]; exact h
 unfold askM
 split
 ·split
  ·refine⟨by show 1≤10; decide,by show 0≤10; decide,?_⟩
   show ((rWs sg R d).map _).length≤10
   rw [List.length_map]; omega
  ·refine⟨by show 0≤10; decide,by show 1≤10; decide,?_⟩
   show ((lWs sg L d).map _).length≤10
   rw [List.length_map]; omega
 ·exact⟨by show 0≤10; decide,by show 0≤10; decide,by show 0≤10; decide⟩
def sp_is_kept:Sp:=fun vs H Q _=>match vs with
 | [.ref t,.ref a,.ref dl,.ref dr,.ref dm]=>∃ (m:Ma) (d:Md) (L R:List Wd) (Ms:List Md) (kl kr km:List (NK × Addr × V)),Mach H t m∧isM m = true∧MdA H a d∧(0≤d.2.1∧d.2.1 < m.length)∧(0≤d.2.2.1∧d.2.2.1 < sgn m)∧d.1≠[]∧d.2.2.2≠[]∧d.1.length≤100∧d.2.2.2.length≤100 ∧
   DNw H dl kl∧kl.map (·.1) = L.map wK∧DNw H dr kr∧kr.map (·.1) = R.map wK∧DNw H dm km∧km.map (·.1) = Ms.map mK ∧
   ∀ (H':Hp),Sub H H'→Q (.bl (keptB m L R Ms d)) H'
 | _=>False
theorem ok_is_kept (T:Tx K mg a):FnOk P w K mg base CX0 2 a.is_kept a.is_kept_d ["machine","middle","lefts","rights","middles"] (sp_is_kept):=by
 have G_ends_at:=ok_ends_at (P:=P) (w:=w) (base:=base) T
 have G_asked:=ok_asked (P:=P) (w:=w) (base:=base) T
 refine T.f_is_kept.ok sc_is_kept (fun vs H Q E h=>?_) (fun cdv A outer s H vs Q E hr h=>?_)
 ·unfold sp_is_kept at h
  split at h
  ·rfl
  ·exact h.elim
 ·unfold sp_is_kept at h
  split at h
  ·have nd:=sc_is_kept.nd
   have hu:=hu_of hr
   rename_i t a' dl dr dm
   obtain⟨m,d,L,R,Ms,kl,kr,km,hm,hM,hd,hr0,hs0,hn1,hn2,hb1,hb2,hDl,hkl,hDr,hkr,hDm,hkm,h⟩:=h
   have M:=OkM.of hM
   unfold keptB at h
   refine⟨_,(pss_cons (ps_c (pt_e (pe_call G_ends_at (hr.mono (by decide)) rfl T.g_ends_at T.f_ends_at.kp T.b_ends_at .nil pass0 (pa_cons (qv 0) (pa_cons (qv 1) pa_nil)))) (pss_one (ps_ret pe_bl)) pss_nil)
  (pss_cons (ps_asg (pe_call G_asked (hr.mono (by decide)) rfl T.g_asked T.f_asked.kp T.b_asked .nil pass0 (pa_cons (qv 0) (pa_cons (qv 1) (pa_cons (qv 2) (pa_cons (qv 3) pa_nil))))) (qg_tupK (K:=K) (n:=3) rfl rfl (qgs_cons (pg_name (i:=5) nd rfl (by walk_at "o")) (qgs_cons (pg_name (i:=6) nd rfl (by walk_at "o")) (qgs_cons (pg_name (i:=7) nd rfl (by walk_at "o")) qgs_nil)))))
  (pss_cons (ps_set (i:=8) nd rfl (by walk_at "o") (pe_op q_cat (pe_lc (own:=["word"]) (fr:=[2]) rfl (by walk_at "comp_ok") (qi_listK (K:=K) rfl (qv 5)) (fun _ _ _ _=>(pg_name (i:=0) (show List.Nodup (α:=Str) ["word","lefts"] from by decide +kernel) rfl (by walk_at "o"))) (fun _ _ _ _=>pts_nil) (fun _ _ _ _=>(pe_cmpR (op_inW hr) (qv 0) (qv 1) (by first | exact nomark _ | rfl)))) (pe_lc (own:=["word"]) (fr:=[3]) rfl (by walk_at "comp_ok") (qi_listK (K:=K) rfl (qv 6)) (fun _ _ _ _=>(pg_name (i:=0) (show List.Nodup (α:=Str) ["word","rights"] from by decide +kernel) rfl (by walk_at "o"))) (fun _ _ _ _=>pts_nil) (fun _ _ _ _=>(pe_cmpR (op_inW hr) (qv 0) (qv 1) (by first | exact nomark _ | rfl))))))
  (pss_one (ps_ret (pe_andC (pe_callB (q_allK (K:=K) rfl rfl) rfl T.z_all bt_all (pa_cons (qv 8) pa_nil)) (pe_one (pe_callB (q_allK (K:=K) rfl rfl) rfl T.z_all bt_all (pa_cons (pe_lc (own:=["other"]) (fr:=[4]) rfl (by walk_at "comp_ok") (qi_listK (K:=K) rfl (qv 7)) (fun _ _ _ _=>(pg_name (i:=0) (show List.Nodup (α:=Str) ["other","middles"] from by decide +kernel) rfl (by walk_at "o"))) (fun _ _ _ _=>pts_nil) (fun _ _ _ _=>(pe_cmpR (op_inW hr) (qv 0) (qv 1) (by first | exact nomark _ | rfl)))) pa_nil))))))))),?_⟩
   refine⟨m,d,hm,hM,hd,hr0,hs0,fun H1 S1=>?_⟩
   walk_at "w"
   refine ifB.dec (fun c=>?_) (fun c=>?_)
   ·rw [decide_eq_true c] at h
    exact h _ S1
   rw [decide_eq_false c,Bool.not_false,Bool.true_and] at h
   refine⟨m,d,L,R,kl,kr,hm.stay (.sub S1),hM,hd.sub S1,hr0,hs0,hn1,hn2,hb1,hb2,c,hDl.sub S1,hkl,hDr.sub S1,hkr,fun q l1 l2 l3 H2 S2 hq W1 W2 W3=>?_⟩
   obtain⟨b1,b2,b3⟩:=askM_len (L:=L) (R:=R) (d:=d) (e:=enA m d.2.1 d.2.2.1) M.s4
   generalize askM (sgn m) L R d (enA m d.2.1 d.2.2.1) = A at h W1 W2 W3 b1 b2 b3
   obtain⟨A1,A2,A3⟩:=A
   obtain⟨as1,W1,B1⟩:=W1
   obtain⟨as2,W2,B2⟩:=W2
   obtain⟨as3,W3,B3⟩:=W3
   have S12:=S1.trans S2
   have hDl:=hDl.sub S12
   have hDr:=hDr.sub S12
   have hDm:=hDm.sub S12
   refine⟨_,SqT.of hq,rfl,?_⟩
   refine⟨⟨_,SqL.of W1⟩,?_⟩
   intro p3 n3
   refine comp_list (K:=K) (a:=l1) (xs:=as1.map V.ref) (fun i σ H4=>∃ (v:Option V),σ = [v,some (.ref dl)]∧Sub H2 H4∧H4 p3 = some (.lst (((A1.take i).map fun w=>decide (w∈L)).map V.bl))) ?_ ?_ ?_ ?_
   ·exact⟨none,rfl,Sub.new n3,upd_same⟩
   ·rintro i σ H4 _ ⟨v,rfl,S4,_⟩
    exact SqL.of (S4 _ _ W1)
   ·rintro i x σ H4 hi ⟨v,rfl,S4,g4⟩
    rw [List.getElem?_map] at hi
    obtain⟨c,hc,rfl⟩:=Option.map_eq_some_iff.1 hi
    obtain⟨w',hw',hcw⟩:=B1.at hc
    refine⟨c,dl,wK w',kl,rfl,rfl,wK_dep7 w',(hcw.sub S4).den,hDl.sub S4,?_⟩
    have hdec:decide (wK w'∈kl.map (·.1)) = decide (w'∈L):=by
     rw [hkl]
     exact decide_eq_decide.2 mem_wK
    rw [hdec]
    refine⟨_,g4,?_,_,rfl,S4.upd n3,?_⟩
    ·rw [List.length_map,List.length_map,List.length_take]; exact Nat.lt_of_le_of_lt (Nat.min_le_right _ _) (Nat.lt_of_le_of_lt b1 (by decide))
    ·rw [upd_same,List.take_add_one,hw',List.map_append,List.map_append]; rfl
   rintro σ H4 ⟨v,rfl,S4,g4⟩
   rw [List.length_map,B1.1,List.take_length] at g4
   refine⟨⟨_,SqL.of (S4 _ _ W2)⟩,?_⟩
   intro p5 n5
   refine comp_list (K:=K) (a:=l2) (xs:=as2.map V.ref) (fun i σ H6=>∃ (v:Option V),σ = [v,some (.ref dr)]∧Sub H4 H6∧H6 p5 = some (.lst (((A2.take i).map fun w=>decide (w∈R)).map V.bl))) ?_ ?_ ?_ ?_
   ·exact⟨none,rfl,Sub.new n5,upd_same⟩
   ·rintro i σ H6 _ ⟨v,rfl,S6,_⟩
    exact SqL.of (S6 _ _ (S4 _ _ W2))
   ·rintro i x σ H6 hi ⟨v,rfl,S6,g6⟩
    rw [List.getElem?_map] at hi
    obtain⟨c,hc,rfl⟩:=Option.map_eq_some_iff.1 hi
    obtain⟨w',hw',hcw⟩:=B2.at hc
    refine⟨c,dr,wK w',kr,rfl,rfl,wK_dep7 w',(hcw.sub (S4.trans S6)).den,hDr.sub (S4.trans S6),?_⟩
    have hdec:decide (wK w'∈kr.map (·.1)) = decide (w'∈R):=by
     rw [hkr]
     exact decide_eq_decide.2 mem_wK
    rw [hdec]
    refine⟨_,g6,?_,_,rfl,S6.upd n5,?_⟩
    ·rw [List.length_map,List.length_map,List.length_take]; exact Nat.lt_of_le_of_lt (Nat.min_le_right _ _) (Nat.lt_of_le_of_lt b2 (by decide))
    ·rw [upd_same,List.take_add_one,hw',List.map_append,List.map_append]; rfl
   rintro σ H6 ⟨v',rfl,S6,g6⟩
   rw [List.length_map,B2.1,List.take_length] at g6
   have S46:=S4.trans S6
   refine⟨_,_,S6 _ _ g4,g6,?_,?_⟩
   ·rw [List.length_map,List.length_map,List.length_map,List.length_map]
    have b1:A1.length≤10:=b1
    have b2:A2.length≤10:=b2
    exact Nat.le_trans (show A1.length + A2.length≤20 by omega) (by decide)
   intro p7 n7
   generalize hU7:upd _ p7 _ = H7
   have S7:=(upd_sub n7 hU7).1
   have e7:=(upd_sub n7 hU7).2
   clear hU7
   rw [← List.map_append] at e7
   have S27:=S46.trans S7
   refine⟨_,SqL.of e7,?_⟩
   have hall:((A1.map fun w=>decide (w∈L)) ++ A2.map fun w=>decide (w∈R)).all id = ((A1.all fun w=>decide (w∈L)) && A2.all fun w=>decide (w∈R)):=by rw [List.all_append,all_id,all_id]
   rw [hall]
   refine ifB.mk (fun c=>?_) (fun c=>?_)
   ·have h:∀ H',Sub H H'→Q (.bl (((A1.all fun w=>decide (w∈L)) && A2.all fun w=>decide (w∈R)) && A3.all fun w=>decide (w∈Ms))) H':=h
    rw [c,Bool.true_and] at h
    refine⟨⟨_,SqL.of (S27 _ _ W3)⟩,?_⟩
    intro p8 n8
    refine comp_list (K:=K) (a:=l3) (xs:=as3.map V.ref) (fun i σ H9=>∃ (v:Option V),σ = [v,some (.ref dm)]∧Sub H7 H9∧H9 p8 = some (.lst (((A3.take i).map fun w=>decide (w∈Ms)).map V.bl))) ?_ ?_ ?_ ?_
    ·exact⟨none,rfl,Sub.new n8,upd_same⟩
    ·rintro i σ H9 _ ⟨v,rfl,S9,_⟩
     exact SqL.of (S9 _ _ (S27 _ _ W3))
    ·rintro i x σ H9 hi ⟨v,rfl,S9,g9⟩
     rw [List.getElem?_map] at hi
     obtain⟨c,hc,rfl⟩:=Option.map_eq_some_iff.1 hi
     obtain⟨w',hw',hcw⟩:=B3.at hc
     refine⟨c,dm,mK w',km,rfl,rfl,mK_dep w',(hcw.sub (S27.trans S9)).den,hDm.sub (S27.trans S9),?_⟩
     have hdec:decide (mK w'∈km.map (·.1)) = decide (w'∈Ms):=by
      rw [hkm]
      exact decide_eq_decide.2 mem_mK
     rw [hdec]
     refine⟨_,g9,?_,_,rfl,S9.upd n8,?_⟩
     ·rw [List.length_map,List.length_map,List.length_take]; exact Nat.lt_of_le_of_lt (Nat.min_le_right _ _) (Nat.lt_of_le_of_lt b3 (by decide))
     ·rw [upd_same,List.take_add_one,hw',List.map_append,List.map_append]; rfl
    rintro σ H9 ⟨v,rfl,S9,g9⟩
    rw [List.length_map,B3.1,List.take_length] at g9
    refine⟨_,SqL.of g9,?_⟩
    rw [all_id]
    exact h _ ((S12.trans S27).trans S9)
   ·have h:∀ H',Sub H H'→Q (.bl (((A1.all fun w=>decide (w∈L)) && A2.all fun w=>decide (w∈R)) && A3.all fun w=>decide (w∈Ms))) H':=h
    rw [c,Bool.false_and] at h
    exact h _ (S12.trans S27)
  ·exact h.elim
theorem sc_shows_shut:FnScope ["machine","paper","kind","width","lefts","rights","middles","noughts","left_words","right_words","all_middles"] ["machine","paper"] (defScope s_shows_shut):=⟨rfl,rfl,rfl,by decide +kernel,rfl,by decide +kernel,by decide +kernel⟩
theorem bd_of {m:Ma} (h:isM m = true):Bd 100 m:=by
 have M:=OkM.of h
 exact⟨Nat.le_trans M.n4 (by decide),fun r hr=>by have:=M.len r hr; have:=M.s4; omega⟩
def noW (n:Int):Wd:=List.replicate n.toNat 0
def shutB (m:Ma) (n:Int) (L R:List Wd) (Ms:List Md):Bool :=
 isWid (sgn m) n && ((L ++ R).all (okW (sgn m) n) && (Ms.all (okM m n) && ((decide (noW n∈L) && (decide (noW n∈R) && decide ((noW n,0,0,noW n)∈Ms))) && Ms.all (keptB m L R Ms))))
theorem kPut_keys (kvs:List (NK × Addr × V)) (k:NK) (b:Addr) (v:V):(kPut kvs k b v).map (·.1) = if k∈kvs.map (·.1) then kvs.map (·.1) else kvs.map (·.1) ++ [k]:=by
 unfold kPut
 by_cases c:k∈kvs.map (·.1)
 ·rw [if_pos c,if_pos c,List.map_map]
  refine List.map_congr_left fun x _=>?_
  show (if x.1 = k then (x.1,x.2.1,v) else x).1 = _
  split <;> rfl
 ·rw [if_neg c,if_neg c,List.map_append]; rfl
def KeysOf {α:Type} (f:α→NK) (kvs:List (NK × Addr × V)) (xs:List α):Prop:=∃ ys:List α,kvs.map (·.1) = ys.map f∧(∀ y,y∈ys ↔ y∈xs)∧kvs.length≤xs.length
theorem KeysOf.put {α:Type} {f:α→NK} (fi:∀ a b,f a = f b→a = b) {kvs:List (NK × Addr × V)} {xs:List α} (h:KeysOf f kvs xs) (x:α) (b:Addr) (v:V):KeysOf f (kPut kvs (f x) b v) (xs ++ [x]):=by
 obtain⟨ys,h1,h2,h3⟩:=h
 have hm:f x∈ys.map f ↔ x∈ys:=⟨fun h=>by obtain⟨z,hz,e⟩:=List.mem_map.1 h; rw [← fi _ _ e]; exact hz,fun h=>List.mem_map.2 ⟨x,h,rfl⟩⟩
 have hk:=kPut_keys kvs (f x) b v
 have hl:=congrArg List.length hk
 rw [List.length_map] at hl
 by_cases c:f x∈kvs.map (·.1)
 ·rw [if_pos c] at hk hl
  rw [h1] at c
  refine⟨ys,hk.trans h1,fun y=>?_,?_⟩
  ·rw [List.mem_append,h2,List.mem_singleton]
   exact⟨.inl,fun z=>z.elim id fun e=>by rw [e]; exact (h2 x).1 (hm.1 c)⟩
  ·rw [hl,List.length_map,List.length_append]; omega
 ·rw [if_neg c] at hk hl
  refine⟨ys ++ [x],by rw [hk,h1,List.map_append]; rfl,fun y=>?_,?_⟩
  ·rw [List.mem_append,List.mem_append,h2]
  ·rw [hl,List.length_append,List.length_append,List.length_map]; exact Nat.succ_le_succ h3
theorem wda_of {H:Hp} {a:Addr} {w:Wd} (h:DenN H (wK w) (.ref a)):WdA H a w:=by
 unfold wK at h
 rw [DenN] at h
 obtain⟨b,xs,e,h1,h2⟩:=h
 cases e
 have:∀ {ns:List Int} {xs:List V},DenNs H (ns.map NK.int) xs→xs = ns.map V.int:=by
  intro ns
  induction ns with
  | nil=>intro xs h; rw [List.map_nil,DenNs] at h; exact h
  | cons n ns ih =>
   intro xs h
   rw [List.map_cons,DenNs] at h
   obtain⟨v,vs,rfl,h3,h4⟩:=h
   rw [DenN] at h3
   rw [h3,ih h4]; rfl
 rw [this h2] at h1
 exact h1
theorem mda_of {H:Hp} {a:Addr} {d:Md} (h:DenN H (mK d) (.ref a)):MdA H a d:=by
 unfold mK at h
 rw [DenN] at h
 obtain⟨b,xs,e,h1,h2⟩:=h
 cases e
 rw [DenNs] at h2
 obtain⟨v1,x1,rfl,g1,h2⟩:=h2
 rw [DenNs] at h2
 obtain⟨v2,x2,rfl,g2,h2⟩:=h2
 rw [DenNs] at h2
 obtain⟨v3,x3,rfl,g3,h2⟩:=h2
 rw [DenNs] at h2
 obtain⟨v4,x4,rfl,g4,h2⟩:=h2
 rw [DenNs] at h2
 subst h2
 rw [DenN] at g2 g3
 subst g2 g3
 have hr:∀ {w:Wd} {v:V},DenN H (wK w) v→∃ a,v = .ref a:=fun {w v} h=>by
  unfold wK at h; rw [DenN] at h; obtain⟨b,_,e,_⟩:=h; exact⟨b,e⟩
 obtain⟨l,rfl⟩:=hr g1
 obtain⟨r,rfl⟩:=hr g4
 exact⟨l,r,h1,wda_of g1,wda_of g4⟩
theorem rWs_same {sg:Nat} {R R':List Wd} (h:∀ w,w∈R ↔ w∈R') (d:Md):rWs sg R d = rWs sg R' d:=by
 unfold rWs
 exact List.filter_congr fun w _=>decide_eq_decide.2 (h w)
theorem lWs_same {sg:Nat} {R R':List Wd} (h:∀ w,w∈R ↔ w∈R') (d:Md):lWs sg R d = lWs sg R' d:=by
 unfold lWs
 exact List.filter_congr fun w _=>decide_eq_decide.2 (h w)
theorem askM_same {sg:Nat} {L L' R R':List Wd} (hL:∀ w,w∈L ↔ w∈L') (hR:∀ w,w∈R ↔ w∈R') (d:Md) (e:En):askM sg L R d e = askM sg L' R' d e:=by
 unfold askM
 rw [rWs_same hR,lWs_same hL]
theorem all_same {α:Type} {p q:α→Bool} {xs:List α} (h:∀ x,p x = q x):xs.all p = xs.all q:=by rw [show p = q from funext h]
theorem keptB_same {m:Ma} {L L' R R':List Wd} {Ms Ms':List Md} (hL:∀ w,w∈L ↔ w∈L') (hR:∀ w,w∈R ↔ w∈R') (hM:∀ w,w∈Ms ↔ w∈Ms') (d:Md):keptB m L R Ms d = keptB m L' R' Ms' d:=by
 unfold keptB
 rw [askM_same hL hR,all_same (fun w=>decide_eq_decide.2 (hL w)),all_same (fun w=>decide_eq_decide.2 (hR w)),all_same (fun w=>decide_eq_decide.2 (hM w))]
theorem all_mem {α:Type} {p:α→Bool} {xs ys:List α} (h:∀ x,x∈xs ↔ x∈ys):xs.all p = ys.all p:=by
 rw [Bool.eq_iff_iff,List.all_eq_true,List.all_eq_true]
 exact⟨fun z x hx=>z x ((h x).2 hx),fun z x hx=>z x ((h x).1 hx)⟩
structure PaS (H:Hp) (q:Addr) (n:Int) (L R:List Wd) (Ms:List Md):Prop where
 ex:∃ (wd:Str) (l r ms:Addr),wd = "shut"∧H q = some (.tup [.str wd,.int n,.ref l,.ref r,.ref ms])∧WL H l L∧WL H r R∧ML H ms Ms
 lL:L.length≤2000000
 lR:R.length≤2000000
 lM:Ms.length≤3000000
 wL:∀ w∈L ++ R,w.length≤100
 wM:∀ d∈Ms,d.1.length≤100∧d.2.2.2.length≤100
theorem PaS.sub {H H':Hp} (S:Sub H H') {q:Addr} {n:Int} {L R:List Wd} {Ms:List Md} (h:PaS H q n L R Ms):PaS H' q n L R Ms :=
 ⟨h.ex.imp fun _ ⟨l,r,ms,e,h1,h2,h3,h4⟩=>⟨l,r,ms,e,S _ _ h1,h2.sub S,h3.sub S,h4.sub S⟩,h.lL,h.lR,h.lM,h.wL,h.wM⟩
theorem PaS.stay {H H':Hp} (S:Stay H H') {q:Addr} {n:Int} {L R:List Wd} {Ms:List Md} (h:PaS H q n L R Ms):PaS H' q n L R Ms :=
 ⟨h.ex.imp fun _ ⟨l,r,ms,e,h1,h2,h3,h4⟩=>⟨l,r,ms,e,S.tup _ _ h1,h2.stay S,h3.stay S,h4.stay S⟩,h.lL,h.lR,h.lM,h.wL,h.wM⟩
def sp_shows_shut:Sp:=fun vs H Q _=>match vs with
 | [.ref t,.ref q]=>∃ (m:Ma) (n:Int) (L R:List Wd) (Ms:List Md),Mach H t m∧isM m = true∧PaS H q n L R Ms∧∀ (H':Hp),Sub H H'→Q (.bl (shutB m n L R Ms)) H'
 | _=>False
theorem ok_shows_shut (T:Tx K mg a):FnOk P w K mg base CX0 5 a.shows_shut a.shows_shut_d ["machine","paper"] (sp_shows_shut):=by
 have G_is_width:=ok_is_width (P:=P) (w:=w) (base:=base) T
 have G_is_word:=ok_is_word (P:=P) (w:=w) (base:=base) T
 have G_is_middle:=ok_is_middle (P:=P) (w:=w) (base:=base) T
 have G_is_kept:=ok_is_kept (P:=P) (w:=w) (base:=base) T
 have G_must_machine:=(ok_must_machine (P:=P) (w:=w) (base:=base) T).noE
 refine T.f_shows_shut.ok sc_shows_shut (fun vs H Q E h=>?_) (fun cdv A outer s H vs Q E hr h=>?_)
 ·unfold sp_shows_shut at h
  split at h
  ·rfl
  ·exact h.elim
 ·unfold sp_shows_shut at h
  split at h
  ·have nd:=sc_shows_shut.nd
   have hu:=hu_of hr
   rename_i t q
   obtain⟨m,n,L,R,Ms,hm,hM,hP,h⟩:=h
   have M:=OkM.of hM
   unfold shutB at h
   obtain⟨wd,l,r,ms,hwd,hq,⟨as1,W1,B1⟩,⟨as2,W2,B2⟩,⟨as3,W3,B3⟩⟩:=hP.ex
   refine⟨_,(pss_cons (ps_expr (pe_call G_must_machine (hr.mono (by decide)) rfl T.g_must_machine T.f_must_machine.kp T.b_must_machine .nil pass0 (pa_cons (qv 0) pa_nil)))
  (pss_cons (ps_asg (qv 1) (qg_tupK (K:=K) (n:=5) rfl rfl (qgs_cons (pg_name (i:=2) nd rfl (by walk_at "o")) (qgs_cons (pg_name (i:=3) nd rfl (by walk_at "o")) (qgs_cons (pg_name (i:=4) nd rfl (by walk_at "o")) (qgs_cons (pg_name (i:=5) nd rfl (by walk_at "o")) (qgs_cons (pg_name (i:=6) nd rfl (by walk_at "o")) qgs_nil)))))))
  (pss_cons (ps_c (pt_not (pt_e (pe_call G_is_width (hr.mono (by decide)) rfl T.g_is_width T.f_is_width.kp T.b_is_width .nil pass0 (pa_cons (qv 0) (pa_cons (qv 3) pa_nil))))) (pss_one (ps_ret pe_bl)) pss_nil)
  (pss_cons (ps_c (pt_not (pt_e (pe_callB (q_allK (K:=K) rfl rfl) rfl T.z_all bt_all (pa_cons (pe_lc (own:=["word"]) (fr:=[0,3]) rfl (by walk_at "comp_ok") (qi_listK (K:=K) rfl (pe_op q_cat (qv 4) (qv 5))) (fun _ _ _ _=>(pg_name (i:=0) (show List.Nodup (α:=Str) ["word","machine","width"] from by decide +kernel) rfl (by walk_at "o"))) (fun _ _ _ _=>pts_nil) (fun _ _ _ _=>(pe_call G_is_word (hr.mono (by decide)) rfl T.g_is_word T.f_is_word.kp T.b_is_word .nil pass0 (pa_cons (qv 1) (pa_cons (qv 2) (pa_cons (qv 0) pa_nil)))))) pa_nil)))) (pss_one (ps_ret pe_bl)) pss_nil)
  (pss_cons (ps_c (pt_not (pt_e (pe_callB (q_allK (K:=K) rfl rfl) rfl T.z_all bt_all (pa_cons (pe_lc (own:=["middle"]) (fr:=[0,3]) rfl (by walk_at "comp_ok") (qi_listK (K:=K) rfl (qv 6)) (fun _ _ _ _=>(pg_name (i:=0) (show List.Nodup (α:=Str) ["middle","machine","width"] from by decide +kernel) rfl (by walk_at "o"))) (fun _ _ _ _=>pts_nil) (fun _ _ _ _=>(pe_call G_is_middle (hr.mono (by decide)) rfl T.g_is_middle T.f_is_middle.kp T.b_is_middle .nil pass0 (pa_cons (qv 1) (pa_cons (qv 2) (pa_cons (qv 0) pa_nil)))))) pa_nil)))) (pss_one (ps_ret pe_bl)) pss_nil)
  (pss_cons (ps_set (i:=7) nd rfl (by walk_at "o") (pe_op (q_repSK (K:=K) rfl) (pe_tup (pa_cons pe_int pa_nil)) (qv 3)))
  (pss_cons (ps_c (PW.pt (pw_orR (pt_c (op_notInNL hr) (qv 7) (qv 4)) (pw_orR (pt_c (op_notInNL hr) (qv 7) (qv 5)) (qw_or1 (pt_c (op_notInNL hr) (pe_tup (pa_cons (qv 7) (pa_cons pe_int (pa_cons pe_int (pa_cons (qv 7) pa_nil))))) (qv 6)))))) (pss_one (ps_ret pe_bl)) pss_nil)
  (pss_cons (ps_set (i:=8) nd rfl (by walk_at "o") (pe_dcN (hr:=fun _ _ _ _=>hr) (own:=["word"]) (fr:=[]) rfl (by walk_at "comp_ok") (qi_listK (K:=K) rfl (qv 4)) (fun _ _ _ _=>(pg_name (i:=0) (show List.Nodup (α:=Str) ["word"] from by decide +kernel) rfl (by walk_at "o"))) (fun _ _ _ _=>pts_nil) (fun _ _ _ _=>(qv 0)) (fun _ _ _ _=>pe_bl)))
  (pss_cons (ps_set (i:=9) nd rfl (by walk_at "o") (pe_dcN (hr:=fun _ _ _ _=>hr) (own:=["word"]) (fr:=[]) rfl (by walk_at "comp_ok") (qi_listK (K:=K) rfl (qv 5)) (fun _ _ _ _=>(pg_name (i:=0) (show List.Nodup (α:=Str) ["word"] from by decide +kernel) rfl (by walk_at "o"))) (fun _ _ _ _=>pts_nil) (fun _ _ _ _=>(qv 0)) (fun _ _ _ _=>pe_bl)))
  (pss_cons (ps_set (i:=10) nd rfl (by walk_at "o") (pe_dcN (hr:=fun _ _ _ _=>hr) (own:=["middle"]) (fr:=[]) rfl (by walk_at "comp_ok") (qi_listK (K:=K) rfl (qv 6)) (fun _ _ _ _=>(pg_name (i:=0) (show List.Nodup (α:=Str) ["middle"] from by decide +kernel) rfl (by walk_at "o"))) (fun _ _ _ _=>pts_nil) (fun _ _ _ _=>(qv 0)) (fun _ _ _ _=>pe_bl)))
  (pss_one (ps_ret (pe_callB (q_allK (K:=K) rfl rfl) rfl T.z_all bt_all (pa_cons (pe_lc (own:=["middle"]) (fr:=[0,8,9,10]) rfl (by walk_at "comp_ok") (qi_keysN (qv 10)) (fun _ _ _ _=>(pg_name (i:=0) (show List.Nodup (α:=Str) ["middle","machine","left_words","right_words","all_middles"] from by decide +kernel) rfl (by walk_at "o"))) (fun _ _ _ _=>pts_nil) (fun _ _ _ _=>(pe_call G_is_kept (hr.mono (by decide)) rfl T.g_is_kept T.f_is_kept.kp T.b_is_kept .nil pass0 (pa_cons (qv 1) (pa_cons (qv 0) (pa_cons (qv 2) (pa_cons (qv 3) (pa_cons (qv 4) pa_nil)))))))) pa_nil)))))))))))))),?_⟩
   refine⟨m,hm,bd_of hM,fun _ H1 S1=>?_,fun z=>by rw [hM] at z; cases z⟩
   refine⟨_,SqT.of (S1 _ _ hq),rfl,?_⟩
   refine⟨m,hm.stay (.sub S1),hM,?_⟩
   walk_at "w"
   refine ifB.mk (fun c=>?_) (fun c=>?_)
   ·have c:isWid (sgn m) n = false:=by revert c; cases isWid (sgn m) n <;> simp
    rw [c,Bool.false_and] at h
    exact h _ S1
   have c:isWid (sgn m) n = true:=by revert c; cases isWid (sgn m) n <;> simp
   rw [c,Bool.true_and] at h
   have hn:1≤n∧n≤4:=by
    unfold isWid at c
    rw [Bool.and_eq_true,decide_eq_true_eq,decide_eq_true_eq] at c
    refine⟨c.1,Int.le_trans c.2 ?_⟩
    split <;> decide
   refine⟨_,_,S1 _ _ W1,S1 _ _ W2,?_,?_⟩
   ·rw [List.length_map,List.length_map,B1.1,B2.1]
    exact Nat.le_trans (Nat.add_le_add hP.lL hP.lR) (by decide)
   intro p2 n2
   generalize hU2:upd _ p2 _ = H2
   have S2:=(upd_sub n2 hU2).1
   have e2:=(upd_sub n2 hU2).2
   clear hU2
   rw [← List.map_append] at e2
   have B12:All2 (WdA H2) (as1 ++ as2) (L ++ R):=((B1.mono fun _ _ _ z=>z.sub (S1.trans S2)).append (B2.mono fun _ _ _ z=>z.sub (S1.trans S2)))
   have S02:=S1.trans S2
   have hLR:(L ++ R).length≤4000000:=by rw [List.length_append]; have:=hP.lL; have:=hP.lR; omega
   refine⟨⟨_,SqL.of e2⟩,?_⟩
   intro p3 n3
   refine comp_list (K:=K) (a:=p2) (xs:=(as1 ++ as2).map V.ref) (fun i σ H4=>∃ (v:Option V),σ = [v,some (.ref t),some (.int n)]∧Sub H2 H4∧H4 p3 = some (.lst ((((L ++ R).take i).map (okW (sgn m) n)).map V.bl))) ?_ ?_ ?_ ?_
   ·exact⟨none,rfl,Sub.new n3,upd_same⟩
   ·rintro i σ H4 _ ⟨v,rfl,S4,_⟩
    exact SqL.of (S4 _ _ e2)
   ·rintro i x σ H4 hi ⟨v,rfl,S4,g4⟩
    rw [List.getElem?_map] at hi
    obtain⟨c,hc,rfl⟩:=Option.map_eq_some_iff.1 hi
    obtain⟨w',hw',hcw⟩:=B12.at hc
    refine⟨m,w',hm.stay (.sub (S02.trans S4)),hM,hcw.sub S4,hP.wL w' (List.mem_of_getElem? hw'),fun H5 S5=>?_⟩
    refine⟨_,S5 _ _ g4,?_,_,rfl,(S4.trans S5).upd n3,?_⟩
    ·rw [List.length_map,List.length_map,List.length_take]; exact Nat.lt_of_le_of_lt (Nat.min_le_right _ _) (Nat.lt_of_le_of_lt hLR (by decide))
    ·rw [upd_same,List.take_add_one,hw',List.map_append,List.map_append]; rfl
   rintro σ H4 ⟨v,rfl,S4,g4⟩
   rw [List.length_map,B12.1,List.take_length] at g4
   have S04:=S02.trans S4
   refine⟨_,SqL.of g4,?_⟩
   rw [all_id]
   walk_at "w"
   refine ifB.mk (fun c=>?_) (fun c=>?_)
   ·have c:(L ++ R).all (okW (sgn m) n) = false:=by revert c; cases (L ++ R).all (okW (sgn m) n) <;> simp
    rw [c,Bool.false_and] at h
    exact h _ S04
   have cLR:(L ++ R).all (okW (sgn m) n) = true:=by revert c; cases (L ++ R).all (okW (sgn m) n) <;> simp
   rw [cLR,Bool.true_and] at h
   refine⟨⟨_,SqL.of (S04 _ _ W3)⟩,?_⟩
   intro p5 n5
   refine comp_list (K:=K) (a:=ms) (xs:=as3.map V.ref) (fun i σ H6=>∃ (v:Option V),σ = [v,some (.ref t),some (.int n)]∧Sub H4 H6∧H6 p5 = some (.lst (((Ms.take i).map (okM m n)).map V.bl))) ?_ ?_ ?_ ?_
   ·exact⟨none,rfl,Sub.new n5,upd_same⟩
   ·rintro i σ H6 _ ⟨v,rfl,S6,_⟩
    exact SqL.of (S6 _ _ (S04 _ _ W3))
   ·rintro i x σ H6 hi ⟨v,rfl,S6,g6⟩
    rw [List.getElem?_map] at hi
    obtain⟨c,hc,rfl⟩:=Option.map_eq_some_iff.1 hi
    obtain⟨w',hw',hcw⟩:=B3.at hc
    have hwm:=hP.wM w' (List.mem_of_getElem? hw')
    refine⟨m,w',hm.stay (.sub (S04.trans S6)),hM,hcw.sub (S04.trans S6),hwm.1,hwm.2,fun H7 S7=>?_⟩
    refine⟨_,S7 _ _ g6,?_,_,rfl,(S6.trans S7).upd n5,?_⟩
    ·rw [List.length_map,List.length_map,List.length_take]; exact Nat.lt_of_le_of_lt (Nat.min_le_right _ _) (Nat.lt_of_le_of_lt hP.lM (by decide))
    ·rw [upd_same,List.take_add_one,hw',List.map_append,List.map_append]; rfl
   rintro σ H6 ⟨v',rfl,S6,g6⟩
   rw [List.length_map,B3.1,List.take_length] at g6
   have S06:=S04.trans S6
   refine⟨_,SqL.of g6,?_⟩
   rw [all_id]
   walk_at "w"
   refine ifB.mk (fun c=>?_) (fun c=>?_)
   ·have c:Ms.all (okM m n) = false:=by revert c; cases Ms.all (okM m n) <;> simp
    rw [c,Bool.false_and] at h
    exact h _ S06
   have cM:Ms.all (okM m n) = true:=by revert c; cases Ms.all (okM m n) <;> simp
   rw [cM,Bool.true_and] at h
   refine⟨by show 1≤sizeLine; decide,?_⟩
   intro p7 n7
   generalize hU7:upd _ p7 _ = H7
   have S7:=(upd_sub n7 hU7).1
   have e7:=(upd_sub n7 hU7).2
   clear hU7
   refine⟨_,e7,hn.1,hn.2,fun pz H8 S8 e8=>?_⟩
   have e8:WdA H8 pz (noW n):=by unfold WdA noW; rw [List.map_replicate]; exact e8
   have S08:=(S06.trans S7).trans S8
   walk_at "w"
   have dz:∀ {w:Wd} {ws:List Wd},(if true = true then !decide (wK w∈ws.map wK) else decide (wK w∈ws.map wK)) = !decide (w∈ws):=by
    intro w ws
    rw [if_pos rfl]
    exact congrArg (!·) (decide_eq_decide.2 mem_wK)
   have dzM:∀ {w:Md} {ws:List Md},(if true = true then !decide (mK w∈ws.map mK) else decide (mK w∈ws.map mK)) = !decide (w∈ws):=by
    intro w ws
    rw [if_pos rfl]
    exact congrArg (!·) (decide_eq_decide.2 mem_mK)
   refine⟨pz,l,wK (noW n),L.map wK,_,rfl,rfl,wK_dep7 _,e8.den,S08 _ _ W1,dens_all (fun a x z=>WdA.den z) (B1.mono fun _ _ _ z=>z.sub S08),wKs_dep _,?_⟩
   rw [dz]
   walk_at "w"
   by_cases cL:noW n∈L
   rotate_left
   ·refine ifB.yes (by rw [decide_eq_false cL]; rfl) ?_
    walk_at "w"
    refine ifB.yes rfl ?_
    rw [decide_eq_false cL,Bool.false_and,Bool.false_and] at h
    exact h _ S08
   refine ifB.no (by rw [decide_eq_true cL]; rfl) ?_
   rw [decide_eq_true cL,Bool.true_and] at h
   refine⟨pz,r,wK (noW n),R.map wK,_,rfl,rfl,wK_dep7 _,e8.den,S08 _ _ W2,dens_all (fun a x z=>WdA.den z) (B2.mono fun _ _ _ z=>z.sub S08),wKs_dep _,?_⟩
   rw [dz]
   walk_at "w"
   by_cases cR:noW n∈R
   rotate_left
   ·refine ifB.yes (by rw [decide_eq_false cR]; rfl) ?_
    walk_at "w"
    refine ifB.yes rfl ?_
    rw [decide_eq_false cR,Bool.false_and,Bool.false_and] at h
    exact h _ S08
   refine ifB.no (by rw [decide_eq_true cR]; rfl) ?_
   rw [decide_eq_true cR,Bool.true_and] at h
   refine⟨by show 4≤sizeLine; decide,?_⟩
   intro p9 n9
   generalize hU9:upd _ p9 _ = H9
   have S9:=(upd_sub n9 hU9).1
   have e9:=(upd_sub n9 hU9).2
   clear hU9
   have e9:MdA H9 p9 (noW n,0,0,noW n):=⟨pz,pz,e9,S9 _ _ e8,S9 _ _ e8⟩
   have S09:=S08.trans S9
   refine⟨p9,ms,mK (noW n,0,0,noW n),Ms.map mK,_,rfl,rfl,mK_dep _,e9.den,S09 _ _ W3,dens_all (fun a x z=>MdA.den z) (B3.mono fun _ _ _ z=>z.sub S09),mKs_dep _,?_⟩
   rw [dzM]
   walk_at "w"
   by_cases cMs:(noW n,(0:Int),(0:Int),noW n)∈Ms
   rotate_left
   ·refine ifB.yes (by rw [decide_eq_false cMs]; rfl) ?_
    rw [decide_eq_false cMs,Bool.false_and] at h
    exact h _ S09
   refine ifB.no (by rw [decide_eq_true cMs]; rfl) ?_
   rw [decide_eq_true cMs,Bool.true_and] at h
   refine⟨⟨_,SqL.of (S09 _ _ W1)⟩,?_⟩
   intro p10 n10
   refine comp_list (K:=K) (a:=l) (xs:=as1.map V.ref) (fun i σ Hx=>∃ (v:Option V) (kvs:List (NK × Addr × V)),σ = [v]∧Sub H9 Hx∧DNe Hx p10 kvs∧KeysOf wK kvs (L.take i)∧(0 < i→DNx Hx p10 kvs)) ?_ ?_ ?_ ?_
   ·exact⟨none,[],rfl,Sub.new n10,.inl ⟨rfl,upd_same⟩,⟨[],rfl,fun y=>by simp,Nat.zero_le _⟩,fun z=>absurd z (Nat.lt_irrefl 0)⟩
   ·rintro i σ Hx _ ⟨v,kvs,rfl,Sx,_⟩
    exact SqL.of (Sx _ _ (S09 _ _ W1))
   ·rintro i x σ Hx hi ⟨v,kvs,rfl,Sx,De,Ks,_⟩
    rw [List.getElem?_map] at hi
    obtain⟨c,hc,rfl⟩:=Option.map_eq_some_iff.1 hi
    obtain⟨w',hw',hcw⟩:=B1.at hc
    have hKl:kvs.length < sizeLine:=by
     obtain⟨_,_,_,hk⟩:=Ks
     rw [List.length_take] at hk
     exact Nat.lt_of_le_of_lt (Nat.le_trans hk (Nat.le_trans (Nat.min_le_right _ _) hP.lL)) (by decide)
    refine⟨c,wK w',kvs,rfl,wK_dep7 w',(hcw.sub (S09.trans Sx)).den,De,hKl,fun Hy k1 k2 Dx=>?_⟩
    have hk:=Ks.put (fun _ _=>wK_inj) w' c (.bl true)
    rw [show L.take i ++ [w'] = L.take (i + 1) by rw [List.take_add_one,hw']; rfl] at hk
    exact⟨_,_,rfl,fun a u e=>k1 a u (Sx _ _ e) (ne_of_none e n10),.inr Dx,hk,fun _=>Dx⟩
   rintro σ H10 ⟨v10,kL,rfl,S10,_,⟨YL,hYL,mYL,lYL⟩,DL⟩
   rw [List.length_map,B1.1] at DL
   have DL:=DL (List.length_pos_of_mem cL)
   rw [List.length_map,B1.1,List.take_length] at mYL
   have S010:=S09.trans S10
   refine⟨⟨_,SqL.of (S010 _ _ W2)⟩,?_⟩
   intro p11 n11
   refine comp_list (K:=K) (a:=r) (xs:=as2.map V.ref) (fun i σ Hx=>∃ (v:Option V) (kvs:List (NK × Addr × V)),σ = [v]∧Sub H10 Hx∧DNe Hx p11 kvs∧KeysOf wK kvs (R.take i)∧(0 < i→DNx Hx p11 kvs)) ?_ ?_ ?_ ?_
   ·exact⟨none,[],rfl,Sub.new n11,.inl ⟨rfl,upd_same⟩,⟨[],rfl,fun y=>by simp,Nat.zero_le _⟩,fun z=>absurd z (Nat.lt_irrefl 0)⟩
   ·rintro i σ Hx _ ⟨v,kvs,rfl,Sx,_⟩
    exact SqL.of (Sx _ _ (S010 _ _ W2))
   ·rintro i x σ Hx hi ⟨v,kvs,rfl,Sx,De,Ks,_⟩
    rw [List.getElem?_map] at hi
    obtain⟨c,hc,rfl⟩:=Option.map_eq_some_iff.1 hi
    obtain⟨w',hw',hcw⟩:=B2.at hc
    have hKl:kvs.length < sizeLine:=by
     obtain⟨_,_,_,hk⟩:=Ks
     rw [List.length_take] at hk
     exact Nat.lt_of_le_of_lt (Nat.le_trans hk (Nat.le_trans (Nat.min_le_right _ _) hP.lR)) (by decide)
    refine⟨c,wK w',kvs,rfl,wK_dep7 w',(hcw.sub (S010.trans Sx)).den,De,hKl,fun Hy k1 k2 Dx=>?_⟩
    have hk:=Ks.put (fun _ _=>wK_inj) w' c (.bl true)
    rw [show R.take i ++ [w'] = R.take (i + 1) by rw [List.take_add_one,hw']; rfl] at hk
    exact⟨_,_,rfl,fun a u e=>k1 a u (Sx _ _ e) (ne_of_none e n11),.inr Dx,hk,fun _=>Dx⟩
   rintro σ H11 ⟨v11,kR,rfl,S11,_,⟨YR,hYR,mYR,lYR⟩,DR⟩
   rw [List.length_map,B2.1] at DR
   have DR:=DR (List.length_pos_of_mem cR)
   rw [List.length_map,B2.1,List.take_length] at mYR
   have S011:=S010.trans S11
   refine⟨⟨_,SqL.of (S011 _ _ W3)⟩,?_⟩
   intro p12 n12
   refine comp_list (K:=K) (a:=ms) (xs:=as3.map V.ref) (fun i σ Hx=>∃ (v:Option V) (kvs:List (NK × Addr × V)),σ = [v]∧Sub H11 Hx∧DNe Hx p12 kvs∧KeysOf mK kvs (Ms.take i)∧(0 < i→DNx Hx p12 kvs)) ?_ ?_ ?_ ?_
   ·exact⟨none,[],rfl,Sub.new n12,.inl ⟨rfl,upd_same⟩,⟨[],rfl,fun y=>by simp,Nat.zero_le _⟩,fun z=>absurd z (Nat.lt_irrefl 0)⟩
   ·rintro i σ Hx _ ⟨v,kvs,rfl,Sx,_⟩
    exact SqL.of (Sx _ _ (S011 _ _ W3))
   ·rintro i x σ Hx hi ⟨v,kvs,rfl,Sx,De,Ks,_⟩
    rw [List.getElem?_map] at hi
    obtain⟨c,hc,rfl⟩:=Option.map_eq_some_iff.1 hi
    obtain⟨w',hw',hcw⟩:=B3.at hc
    have hKl:kvs.length < sizeLine:=by
     obtain⟨_,_,_,hk⟩:=Ks
     rw [List.length_take] at hk
     exact Nat.lt_of_le_of_lt (Nat.le_trans hk (Nat.le_trans (Nat.min_le_right _ _) hP.lM)) (by decide)
    refine⟨c,mK w',kvs,rfl,mK_dep w',(hcw.sub (S011.trans Sx)).den,De,hKl,fun Hy k1 k2 Dx=>?_⟩
    have hk:=Ks.put (fun _ _=>mK_inj) w' c (.bl true)
    rw [show Ms.take i ++ [w'] = Ms.take (i + 1) by rw [List.take_add_one,hw']; rfl] at hk
    exact⟨_,_,rfl,fun a u e=>k1 a u (Sx _ _ e) (ne_of_none e n12),.inr Dx,hk,fun _=>Dx⟩
   rintro σ H12 ⟨v12,kMs,rfl,S12,_,⟨YMs,hYMs,mYMs,lYMs⟩,DMs⟩
   rw [List.length_map,B3.1] at DMs
   have DMs:=DMs (List.length_pos_of_mem cMs)
   rw [List.length_map,B3.1,List.take_length] at mYMs
   have S012:=S011.trans S12
   have n12':H p12 = none:=S011.free n12
   have DL2:=DL.sub (S11.trans S12)
   have DR2:=DR.sub S12
   have nL:p10≠p12:=by
    obtain⟨xs,e,_⟩:=DL.sub S11 |>.ex
    rintro rfl; rw [n12] at e; cases e
   have nR:p11≠p12:=by
    obtain⟨xs,e,_⟩:=DR.ex
    rintro rfl; rw [n12] at e; cases e
   refine⟨kMs,DMs,fun o H13 k13 f13 Df=>?_⟩
   have t13:∀ a us,H12 a = some (.tup us)→H13 a = some (.tup us):=fun a us e=>k13 a _ e (by
    obtain⟨xs,e',_⟩:=DMs.ex
    rintro rfl; rw [e'] at e; cases e)
   have DL3:DNx H13 p10 kL:=DL2.keep (fun u e=>k13 _ u e nL) t13
   have DR3:DNx H13 p11 kR:=DR2.keep (fun u e=>k13 _ u e nR) t13
   have S013:Sub H H13:=fun a u e=>k13 a u (S012 _ _ e) (ne_of_none e n12')
   have hmem:∀ qv∈kMs,∃ d∈Ms,qv.1 = mK d:=fun qv hqv=>by
    have:qv.1∈kMs.map (·.1):=List.mem_map.2 ⟨qv,hqv,rfl⟩
    rw [hYMs] at this
    obtain⟨d,hd,e⟩:=List.mem_map.1 this
    exact⟨d,(mYMs d).1 hd,e.symm⟩
   have hYl:YMs.length = kMs.length:=by have:=congrArg List.length hYMs; rw [List.length_map,List.length_map] at this; exact this.symm
   intro p14 n14
   refine comp_keysN (d:=p12) (o:=o) (kvs:=kMs) (fun i σ H15=>∃ (v:Option V),σ = [v,some (.ref t),some (.ref p10),some (.ref p11),some (.ref p12)]∧Sub H13 H15∧H15 p14 = some (.lst (((YMs.take i).map (keptB m L R Ms)).map V.bl))) ?_ ?_ ?_ ?_
   ·exact⟨none,rfl,Sub.new n14,upd_same⟩
   ·rintro i σ H15 _ ⟨v,rfl,S15,_⟩
    exact Df.sub S15
   ·rintro i qv σ H15 hqv ⟨v,rfl,S15,g15⟩
    obtain⟨d,hd,e⟩:=hmem qv (List.mem_of_getElem? hqv)
    have hYi:YMs[i]? = some d:=by
     have:=congrArg (fun l=>l[i]?) hYMs
     simp only [List.getElem?_map,hqv,Option.map_some] at this
     obtain⟨y,hy,ey⟩:=Option.map_eq_some_iff.1 this.symm
     rw [hy,mK_inj (ey.trans e)]
    have hden:=(Df.sub S15).ks qv (List.mem_of_getElem? hqv)
    rw [e] at hden
    have hda:=mda_of hden.2
    have hok:=List.all_eq_true.1 cM d hd
    unfold okM okW at hok
    rw [Bool.and_eq_true,Bool.and_eq_true,Bool.and_eq_true,Bool.and_eq_true,Bool.and_eq_true,Bool.and_eq_true,Bool.and_eq_true,decide_eq_true_eq,decide_eq_true_eq,decide_eq_true_eq,decide_eq_true_eq,decide_eq_true_eq,decide_eq_true_eq] at hok
    obtain⟨⟨o1,_⟩,⟨o2,_⟩,⟨o3,o4⟩,o5,o6⟩:=hok
    have hwm:=hP.wM d hd
    refine⟨m,d,YL,YR,YMs,kL,kR,kMs,hm.stay (.sub (S013.trans S15)),hM,hda,⟨o3,o4⟩,⟨o5,o6⟩,?_,?_,hwm.1,hwm.2,.inl (DL3.sub S15),hYL,.inl (DR3.sub S15),hYR,.inr ⟨o,Df.sub S15⟩,hYMs,fun H16 S16=>?_⟩
    ·intro z; rw [z] at o1; have o1:((0:Nat):Int) = n:=o1; omega
    ·intro z; rw [z] at o2; have o2:((0:Nat):Int) = n:=o2; omega
    rw [keptB_same mYL mYR mYMs d]
    refine⟨_,S16 _ _ g15,?_,_,rfl,(S15.trans S16).upd n14,?_⟩
    ·rw [List.length_map,List.length_map,List.length_take]; exact Nat.lt_of_le_of_lt (Nat.min_le_right _ _) (Nat.lt_of_le_of_lt (show YMs.length≤3000000 by rw [hYl]; exact Nat.le_trans lYMs (by rw [List.length_take]; exact Nat.le_trans (Nat.min_le_right _ _) hP.lM)) (by decide))
    ·rw [upd_same,List.take_add_one,hYi,List.map_append,List.map_append]; rfl
   rintro σ H15 ⟨v,rfl,S15,g15⟩
   rw [← hYl,List.take_length] at g15
   refine⟨_,SqL.of g15,?_⟩
   rw [all_id,all_mem mYMs]
   exact h _ (S013.trans S15)
  ·exact h.elim
theorem sc_least_shut:FnScope ["machine","width","noughts","lefts","rights","middles","before","middle","left_words","right_words","others"] ["machine","width"] (defScope s_least_shut):=⟨rfl,rfl,rfl,by decide +kernel,rfl,by decide +kernel,by decide +kernel⟩
theorem okW_iff {sg:Nat} {n:Int} {w:Wd}:okW sg n w = true ↔ (w.length:Int) = n∧∀ s∈w,0≤s∧s < (sg:Int):=by
 unfold okW
 rw [Bool.and_eq_true,decide_eq_true_eq,List.all_eq_true]
 refine and_congr_right fun _=>forall_congr' fun s=>forall_congr' fun _=>?_
 rw [Bool.and_eq_true,decide_eq_true_eq,decide_eq_true_eq]
structure GI (m:Ma) (n:Int) (L R:List Wd) (Ms:List Md):Prop where
 okL:∀ w∈L,okW (sgn m) n w = true
 okR:∀ w∈R,okW (sgn m) n w = true
 okd:∀ d∈Ms,okM m n d = true
 ndL:L.Nodup
 ndR:R.Nodup
 ndM:Ms.Nodup
 l1:1≤L.length
 r1:1≤R.length
 m1:1≤Ms.length
theorem ok_word {sg:Nat} (hs:sg≤4) {n:Int} (hn:n≤4) {w:Wd} (h:okW sg n w = true):w.length≤4∧cod w < 256∧∀ s∈w,0≤s∧s < 4:=by
 obtain⟨h1,h2⟩:=okW_iff.1 h
 have h3:∀ s∈w,0≤s∧s < 4:=fun s hs=>by have:=h2 s hs; omega
 have hl:w.length≤4:=by omega
 refine⟨hl,Nat.lt_of_lt_of_le (cod_lt h3) ?_,h3⟩
 exact Nat.le_trans (Nat.pow_le_pow_right (by decide) hl) (by decide)
theorem words_few {sg:Nat} (hs:sg≤4) {n:Int} (hn:n≤4) {L:List Wd} (h:∀ w∈L,okW sg n w = true) (nd:L.Nodup):L.length≤256:=by
 have:=pig 256 (L.map cod) ?_ ?_
 ·rwa [List.length_map] at this
 ·refine List.pairwise_map.2 (nd.imp_of_mem fun {x y} hx hy ne e=>ne ?_)
  exact cod_inj (ok_word hs hn (h x hx)).2.2 (ok_word hs hn (h y hy)).2.2 (by have:=(okW_iff.1 (h x hx)).1; have:=(okW_iff.1 (h y hy)).1; omega) e
 ·intro c hc
  obtain⟨x,hx,rfl⟩:=List.mem_map.1 hc
  exact (ok_word hs hn (h x hx)).2.1
theorem okM_iff {m:Ma} {n:Int} {d:Md}:okM m n d = true ↔ okW (sgn m) n d.1 = true∧okW (sgn m) n d.2.2.2 = true∧(0≤d.2.1∧d.2.1 < m.length)∧(0≤d.2.2.1∧d.2.2.1 < sgn m):=by
 unfold okM
 rw [Bool.and_eq_true,Bool.and_eq_true,Bool.and_eq_true,Bool.and_eq_true,Bool.and_eq_true,decide_eq_true_eq,decide_eq_true_eq,decide_eq_true_eq,decide_eq_true_eq]
def codM (d:Md):Nat:=cod d.1 + 256 * (d.2.1.toNat + 4 * (d.2.2.1.toNat + 4 * cod d.2.2.2))
theorem middles_few {m:Ma} (M:OkM m) {n:Int} (hn:n≤4) {Ms:List Md} (h:∀ d∈Ms,okM m n d = true) (nd:Ms.Nodup):Ms.length≤1048576:=by
 have h4:=M.n4
 have s4:=M.s4
 have:=pig 1048576 (Ms.map codM) ?_ ?_
 ·rwa [List.length_map] at this
 ·refine List.pairwise_map.2 (nd.imp_of_mem fun {x y} hx hy ne e=>ne ?_)
  obtain⟨x1,x2,x3,x4⟩:=okM_iff.1 (h x hx)
  obtain⟨y1,y2,y3,y4⟩:=okM_iff.1 (h y hy)
  have a1:=ok_word s4 hn x1
  have a2:=ok_word s4 hn x2
  have b1:=ok_word s4 hn y1
  have b2:=ok_word s4 hn y2
  have l1:=(okW_iff.1 x1).1
  have l2:=(okW_iff.1 x2).1
  have l3:=(okW_iff.1 y1).1
  have l4:=(okW_iff.1 y2).1
  unfold codM at e
  have e1:cod x.1 = cod y.1:=by omega
  have e2:x.2.1 = y.2.1:=by omega
  have e3:x.2.2.1 = y.2.2.1:=by omega
  have e4:cod x.2.2.2 = cod y.2.2.2:=by omega
  exact Prod.ext (cod_inj a1.2.2 b1.2.2 (by omega) e1) (Prod.ext e2 (Prod.ext e3 (cod_inj a2.2.2 b2.2.2 (by omega) e4)))
 ·intro c hc
  obtain⟨x,hx,rfl⟩:=List.mem_map.1 hc
  obtain⟨x1,x2,x3,x4⟩:=okM_iff.1 (h x hx)
  have a1:=ok_word s4 hn x1
  have a2:=ok_word s4 hn x2
  unfold codM
  omega
theorem okW_nl {m:Ma} {n:Int} (hn:1≤n) {d:Md} (h:okW (sgn m) n d.1 = true) {put:Int} (p0:0≤put) (p1:put < sgn m):okW (sgn m) n (nlW d put) = true:=by
 obtain⟨h1,h2⟩:=okW_iff.1 h
 unfold nlW
 refine okW_iff.2 ⟨?_,fun s hs=>?_⟩
 ·rw [List.length_append,List.length_drop]
  show ((d.1.length - 1 + 1:Nat):Int) = n
  omega
 ·rcases List.mem_append.1 hs with hs | hs
  ·exact h2 s (List.mem_of_mem_drop hs)
  ·rw [List.mem_singleton.1 hs]; exact⟨p0,p1⟩
theorem okW_nr {m:Ma} {n:Int} (hn:1≤n) {d:Md} (h:okW (sgn m) n d.2.2.2 = true) {put:Int} (p0:0≤put) (p1:put < sgn m):okW (sgn m) n (nrW d put) = true:=by
 obtain⟨h1,h2⟩:=okW_iff.1 h
 unfold nrW
 refine okW_iff.2 ⟨?_,fun s hs=>?_⟩
 ·rw [List.length_cons,List.length_dropLast]
  omega
 ·rcases List.mem_cons.1 hs with rfl | hs
  ·exact⟨p0,p1⟩
  ·exact h2 s (List.dropLast_subset _ hs)
theorem head_mem {w:Wd} (h:w≠[]):w.headD 0∈w:=by
 cases w with
 | nil=>exact (h rfl).elim
 | cons x w=>exact List.mem_cons_self ..
theorem last_mem {w:Wd} (h:w≠[]):w.getLastD 0∈w:=by
 cases w with
 | nil=>exact (h rfl).elim
 | cons x w =>
  rw [List.getLastD_eq_getLast?,List.getLast?_eq_some_getLast (List.cons_ne_nil x w)]
  exact List.getLast_mem _
theorem WL.upd {H:Hp} {p q:Addr} {us vs:List V} (hp:H p = some (.lst us)) (ne:q≠p) {ws:List Wd}:WL H q ws→WL (L2.upd H p (.lst vs)) q ws:=fun ⟨as,h1,h2⟩=>⟨as,by rw [upd_ne ne]; exact h1,h2.mono fun _ _ _ z=>z.tup fun a us e=>by rw [upd_ne (by rintro rfl; rw [hp] at e; cases e)]; exact e⟩
theorem ML.upd {H:Hp} {p q:Addr} {us vs:List V} (hp:H p = some (.lst us)) (ne:q≠p) {ws:List Md}:ML H q ws→ML (L2.upd H p (.lst vs)) q ws:=fun ⟨as,h1,h2⟩=>⟨as,by rw [upd_ne ne]; exact h1,h2.mono fun _ _ _ z=>z.tup fun a us e=>by rw [upd_ne (by rintro rfl; rw [hp] at e; cases e)]; exact e⟩
theorem WL.snoc {H:Hp} {p aw:Addr} {as:List Addr} {ws:List Wd} {w:Wd} (h1:H p = some (.lst (as.map V.ref))) (h2:All2 (WdA H) as ws) (hw:WdA H aw w):WL (L2.upd H p (.lst (as.map V.ref ++ [V.ref aw]))) p (ws ++ [w]):=by
 have kt:∀ a us,H a = some (.tup us)→(L2.upd H p (.lst (as.map V.ref ++ [V.ref aw]))) a = some (.tup us):=fun a us e=>by
  rw [upd_ne (by rintro rfl; rw [h1] at e; cases e)]; exact e
 exact⟨as ++ [aw],by rw [upd_same,List.map_append]; rfl,(h2.mono fun _ _ _ z=>z.tup kt).app (hw.tup kt)⟩
theorem okW_no {sg:Nat} (hs:2≤sg) {n:Int} (hn:1≤n):okW sg n (noW n) = true:=okW_iff.2 ⟨by unfold noW; rw [List.length_replicate]; omega,fun s h=>by rw [List.eq_of_mem_replicate h]; omega⟩
theorem gi_start {m:Ma} (M:OkM m) {n:Int} (hn:1≤n):GI m n [noW n] [noW n] [(noW n,0,0,noW n)]:=by
 have k:=okW_no M.s2 hn
 have:=M.n1
 have:=M.s2
 refine⟨fun w hw=>by rw [List.mem_singleton.1 hw]; exact k,fun w hw=>by rw [List.mem_singleton.1 hw]; exact k,fun d hd=>?_,by simp,by simp,by simp,Nat.le_refl _,Nat.le_refl _,Nat.le_refl _⟩
 rw [List.mem_singleton.1 hd]
 exact okM_iff.2 ⟨k,k,⟨Int.le_refl _,by show (0:Int) < (m.length:Int); omega⟩,Int.le_refl _,by show (0:Int) < (sgn m:Int); omega⟩
def cdB (g:Nat):Wd→Nat
 | []=>0
 | s :: r=>s.toNat + g * cdB g r
theorem cdB_lt {g:Nat} (hg:1≤g):∀ {l:Wd},(∀ s∈l,0≤s∧s < (g:Int))→cdB g l < g ^ l.length
 | [],_=>by simp [cdB]
 | s :: l,h=>by
  have h1:=h s (by simp)
  have h2:=cdB_lt hg (l:=l) fun q hq=>h q (by simp [hq])
  rw [cdB,List.length_cons,Nat.pow_succ]
  have h3:g * (cdB g l + 1)≤g * g ^ l.length:=Nat.mul_le_mul_left g h2
  rw [Nat.mul_add,Nat.mul_one,Nat.mul_comm g (g ^ l.length)] at h3
  omega
theorem cdB_inj {g:Nat} (hg:1≤g):∀ {l l':Wd},(∀ s∈l,0≤s∧s < (g:Int))→(∀ s∈l',0≤s∧s < (g:Int))→l.length = l'.length→cdB g l = cdB g l'→l = l'
 | [],[],_,_,_,_=>rfl
 | [],_ :: _,_,_,h,_=>by simp at h
 | _ :: _,[],_,_,h,_=>by simp at h
 | s :: l,s' :: l',h,h',hl,e=>by
  have h1:=h s (by simp)
  have h2:=h' s' (by simp)
  rw [cdB,cdB] at e
  have e1:s.toNat = s'.toNat:=by
   have a1:=congrArg (· % g) e
   simp only [Nat.add_mul_mod_self_left] at a1
   rwa [Nat.mod_eq_of_lt (by omega),Nat.mod_eq_of_lt (by omega)] at a1
  have e2:cdB g l = cdB g l':=by
   rw [e1] at e
   exact Nat.eq_of_mul_eq_mul_left (by omega) (Nat.add_left_cancel e)
  rw [cdB_inj hg (fun q hq=>h q (by simp [hq])) (fun q hq=>h' q (by simp [hq])) (by simpa using hl) e2,show s = s' by omega]
theorem wid16 {g:Nat} (h2:2≤g) (h4:g≤4) {n:Int} (h:isWid g n = true):g ^ n.toNat≤16∧1≤n∧n≤4:=by
 unfold isWid at h
 rw [Bool.and_eq_true,decide_eq_true_eq,decide_eq_true_eq] at h
 have hg:g = 2∨g = 3∨g = 4:=by omega
 rcases hg with rfl | rfl | rfl
 ·rw [if_pos rfl] at h
  have hn:n = 1∨n = 2∨n = 3∨n = 4:=by omega
  rcases hn with rfl | rfl | rfl | rfl <;> decide
 ·rw [if_neg (by decide)] at h
  have hn:n = 1∨n = 2:=by omega
  rcases hn with rfl | rfl <;> decide
 ·rw [if_neg (by decide)] at h
  have hn:n = 1∨n = 2:=by omega
  rcases hn with rfl | rfl <;> decide
theorem words16 {g:Nat} (h2:2≤g) (h4:g≤4) {n:Int} (hw:isWid g n = true) {L:List Wd} (h:∀ w∈L,okW g n w = true) (nd:L.Nodup):L.length≤16:=by
 have h16:=(wid16 h2 h4 hw).1
 have hlen:∀ w∈L,w.length = n.toNat:=fun w hw=>by have:=(okW_iff.1 (h w hw)).1; omega
 refine Nat.le_trans ?_ h16
 have:=pig (g ^ n.toNat) (L.map (cdB g)) ?_ ?_
 ·rwa [List.length_map] at this
 ·refine List.pairwise_map.2 (nd.imp_of_mem fun {x y} hx hy ne e=>ne ?_)
  exact cdB_inj (by omega) (okW_iff.1 (h x hx)).2 (okW_iff.1 (h y hy)).2 (by rw [hlen x hx,hlen y hy]) e
 ·intro c hc
  obtain⟨x,hx,rfl⟩:=List.mem_map.1 hc
  have:=cdB_lt (g:=g) (by omega) (okW_iff.1 (h x hx)).2
  rwa [hlen x hx] at this
theorem middles16 {m:Ma} (M:OkM m) {n:Int} (hw:isWid (sgn m) n = true) {Ms:List Md} (h:∀ d∈Ms,okM m n d = true) (nd:Ms.Nodup):Ms.length≤4096:=by
 have h4:=M.n4
 have s4:=M.s4
 have s2:=M.s2
 obtain⟨h16,hn1,hn4⟩:=wid16 s2 s4 hw
 have hc:∀ {w:Wd},okW (sgn m) n w = true→cdB (sgn m) w < 16:=fun {w} hw=>by
  have h1:=(okW_iff.1 hw).1
  have:=cdB_lt (g:=sgn m) (by omega) (okW_iff.1 hw).2
  rw [show w.length = n.toNat by omega] at this
  omega
 have:=pig 4096 (Ms.map fun d=>cdB (sgn m) d.1 + 16 * (d.2.1.toNat + 4 * (d.2.2.1.toNat + 4 * cdB (sgn m) d.2.2.2))) ?_ ?_
 ·rwa [List.length_map] at this
 ·refine List.pairwise_map.2 (nd.imp_of_mem fun {x y} hx hy ne e=>ne ?_)
  obtain⟨x1,x2,x3,x4⟩:=okM_iff.1 (h x hx)
  obtain⟨y1,y2,y3,y4⟩:=okM_iff.1 (h y hy)
  have a1:=hc x1
  have a2:=hc x2
  have b1:=hc y1
  have b2:=hc y2
  have l1:=(okW_iff.1 x1).1
  have l2:=(okW_iff.1 x2).1
  have l3:=(okW_iff.1 y1).1
  have l4:=(okW_iff.1 y2).1
  have e1:cdB (sgn m) x.1 = cdB (sgn m) y.1:=by omega
  have e2:x.2.1 = y.2.1:=by omega
  have e3:x.2.2.1 = y.2.2.1:=by omega
  have e4:cdB (sgn m) x.2.2.2 = cdB (sgn m) y.2.2.2:=by omega
  exact Prod.ext (cdB_inj (by omega) (okW_iff.1 x1).2 (okW_iff.1 y1).2 (by omega) e1) (Prod.ext e2 (Prod.ext e3 (cdB_inj (by omega) (okW_iff.1 x2).2 (okW_iff.1 y2).2 (by omega) e4)))
 ·intro c hc'
  obtain⟨x,hx,rfl⟩:=List.mem_map.1 hc'
  obtain⟨x1,x2,x3,x4⟩:=okM_iff.1 (h x hx)
  have a1:=hc x1
  have a2:=hc x2
  omega
theorem askM_ok {m:Ma} (M:OkM m) {n:Int} (hn:1≤n) {L R:List Wd} (okL:∀ w∈L,okW (sgn m) n w = true) (okR:∀ w∈R,okW (sgn m) n w = true) {d:Md} (hd:okM m n d = true) (hne:enA m d.2.1 d.2.2.1≠[]) :
  (∀ w∈(askM (sgn m) L R d (enA m d.2.1 d.2.2.1)).1,okW (sgn m) n w = true)∧(∀ w∈(askM (sgn m) L R d (enA m d.2.1 d.2.2.1)).2.1,okW (sgn m) n w = true)∧(∀ x∈(askM (sgn m) L R d (enA m d.2.1 d.2.2.1)).2.2,okM m n x = true):=by
 obtain⟨o1,o2,⟨o3,o4⟩,o5,o6⟩:=okM_iff.1 hd
 obtain⟨l1,s1⟩:=okW_iff.1 o1
 obtain⟨l2,s2⟩:=okW_iff.1 o2
 obtain⟨es,he⟩:∃ es,m[d.2.1.toNat]? = some es:=⟨_,List.getElem?_eq_getElem (by omega)⟩
 have hel:=M.len es (List.mem_of_getElem? he)
 obtain⟨e,hE⟩:∃ e,es[d.2.2.1.toNat]? = some e:=⟨_,List.getElem?_eq_getElem (by omega)⟩
 have hen:enA m d.2.1 d.2.2.1 = e:=by unfold enA; rw [he,Option.bind_some,hE]; rfl
 rw [hen] at hne ⊢
 obtain⟨put,way,after,rfl,a0,a1,a2,a3,a4⟩:=entryOk_three (M.ent es (List.mem_of_getElem? he) e (List.mem_of_getElem? hE)) hne
 have n1:d.1≠[]:=fun z=>by rw [z] at l1; have l1:((0:Nat):Int) = n:=l1; omega
 have n2:d.2.2.2≠[]:=fun z=>by rw [z] at l2; have l2:((0:Nat):Int) = n:=l2; omega
 have k1:=okW_nl hn o1 a0 a1
 have k2:=okW_nr hn o2 a0 a1
 by_cases cw:way = 1
 ·have e1:askM (sgn m) L R d [put,way,after] = ([nlW d put],[],(rWs (sgn m) R d).map fun w=>(nlW d put,after,d.2.2.2.headD 0,w)):=by show (if way = 1 then _ else _) = _; rw [if_pos cw]
  rw [e1]
  refine⟨fun w hw=>(by rw [List.mem_singleton.1 hw]; exact k1),fun w hw=>(by cases hw),fun x hx=>?_⟩
  obtain⟨w,hw,rfl⟩:=List.mem_map.1 hx
  exact okM_iff.2 ⟨k1,okR w (of_decide_eq_true (List.mem_filter.1 hw).2),⟨a3,a4⟩,s2 _ (head_mem n2)⟩
 ·have e1:askM (sgn m) L R d [put,way,after] = ([],[nrW d put],(lWs (sgn m) L d).map fun w=>(w,after,d.1.getLastD 0,nrW d put)):=by show (if way = 1 then _ else _) = _; rw [if_neg cw]
  rw [e1]
  refine⟨fun w hw=>(by cases hw),fun w hw=>(by rw [List.mem_singleton.1 hw]; exact k2),fun x hx=>?_⟩
  obtain⟨w,hw,rfl⟩:=List.mem_map.1 hx
  exact okM_iff.2 ⟨okL w (of_decide_eq_true (List.mem_filter.1 hw).2),k2,⟨a3,a4⟩,s1 _ (last_mem n1)⟩
theorem GI.exL {m:Ma} {n:Int} {L R:List Wd} {Ms:List Md} (G:GI m n L R Ms) {x:List Wd} (h:∀ w∈x,okW (sgn m) n w = true) (nd:(L ++ x).Nodup):GI m n (L ++ x) R Ms :=
 { G with okL:=fun w hw=>(List.mem_append.1 hw).elim (G.okL w) (h w),ndL:=nd,l1:=by rw [List.length_append]; have:=G.l1; omega }
theorem GI.exR {m:Ma} {n:Int} {L R:List Wd} {Ms:List Md} (G:GI m n L R Ms) {x:List Wd} (h:∀ w∈x,okW (sgn m) n w = true) (nd:(R ++ x).Nodup):GI m n L (R ++ x) Ms :=
 { G with okR:=fun w hw=>(List.mem_append.1 hw).elim (G.okR w) (h w),ndR:=nd,r1:=by rw [List.length_append]; have:=G.r1; omega }
theorem GI.exM {m:Ma} {n:Int} {L R:List Wd} {Ms:List Md} (G:GI m n L R Ms) {x:List Md} (h:∀ w∈x,okM m n w = true) (nd:(Ms ++ x).Nodup):GI m n L R (Ms ++ x) :=
 { G with okd:=fun w hw=>(List.mem_append.1 hw).elim (G.okd w) (h w),ndM:=nd,m1:=by rw [List.length_append]; have:=G.m1; omega }
theorem upd_keys {α:Type} {f:α→NK} (fi:∀ a b,f a = f b→a = b) {kvs more:List (NK × Addr × V)} {L A:List α} (hk:kvs.map (·.1) = L.map f) (hm:KeysOf f more A):∃ x:List α,(kFold kvs more).map (·.1) = (L ++ x).map f∧(∀ w∈x,w∈A)∧∀ w∈A,w∈L ++ x:=by
 obtain⟨ys,h1,h2,_⟩:=hm
 obtain⟨ext,e1,e2,e3⟩:=kFold_keys more kvs
 have:∀ l:List NK,(∀ x∈l,x∈ys.map f)→∃ z:List α,l = z.map f∧∀ w∈z,w∈ys:=by
  intro l
  induction l with
  | nil=>intro _; exact⟨[],rfl,fun w hw=>by cases hw⟩
  | cons a l ih =>
   intro h
   obtain⟨z,hz1,hz2⟩:=ih fun x hx=>h x (List.mem_cons_of_mem _ hx)
   obtain⟨y,hy,e⟩:=List.mem_map.1 (h a (List.mem_cons_self ..))
   exact⟨y :: z,by rw [List.map_cons,e,hz1],fun w hw=>(List.mem_cons.1 hw).elim (fun z=>by rw [z]; exact hy) (hz2 w)⟩
 obtain⟨x,hx1,hx2⟩:=this ext fun x hx=>by rw [← h1]; exact e2 x hx
 refine⟨x,by rw [e1,hk,hx1,List.map_append],fun w hw=>(h2 w).1 (hx2 w hw),fun w hw=>?_⟩
 have:=e3 (f w) (by rw [h1]; exact List.mem_map.2 ⟨w,(h2 w).2 hw,rfl⟩)
 rw [hk,hx1,← List.map_append] at this
 obtain⟨v,hv,e⟩:=List.mem_map.1 this
 rw [← fi _ _ e]; exact hv
theorem nd_of_map {α:Type} {f:α→NK} {L:List α} (h:(L.map f).Nodup):L.Nodup:=(List.pairwise_map.1 h).imp fun hn e=>hn (by rw [e])
def LSt (H:Hp) (dl dr dm:Addr) (L R:List Wd) (Ms:List Md):Prop:=∃ kl kr km,DNx H dl kl∧kl.map (·.1) = L.map wK∧DNx H dr kr∧kr.map (·.1) = R.map wK∧DNx H dm km∧km.map (·.1) = Ms.map mK
theorem LSt.sub {H H':Hp} (S:Sub H H') {dl dr dm:Addr} {L R:List Wd} {Ms:List Md}:LSt H dl dr dm L R Ms→LSt H' dl dr dm L R Ms:=fun ⟨kl,kr,km,h1,h2,h3,h4,h5,h6⟩=>⟨kl,kr,km,h1.sub S,h2,h3.sub S,h4,h5.sub S,h6⟩
def Kd (H H':Hp) (d:Addr):Prop:=∀ c u,H c = some u→c≠d→H' c = some u
theorem Kd.tup {H H':Hp} {d:Addr} {kvs:List (NK × Addr × V)} (D:DNx H d kvs) (k:Kd H H' d):∀ a us,H a = some (.tup us)→H' a = some (.tup us):=fun a us e=>k a _ e (by obtain⟨xs,e',_⟩:=D.ex; rintro rfl; rw [e'] at e; cases e)
theorem Kd.lst {H H':Hp} {d:Addr} {kvs:List (NK × Addr × V)} (D:DNx H d kvs) (k:Kd H H' d):∀ a us,H a = some (.lst us)→H' a = some (.lst us):=fun a us e=>k a _ e (by obtain⟨xs,e',_⟩:=D.ex; rintro rfl; rw [e'] at e; cases e)
theorem Kd.wl {H H':Hp} {d:Addr} {kvs:List (NK × Addr × V)} (D:DNx H d kvs) (k:Kd H H' d) {p:Addr} {ws:List Wd}:WL H p ws→WL H' p ws:=fun ⟨as,h1,h2⟩=>⟨as,k.lst D _ _ h1,h2.mono fun _ _ _ z=>z.tup (k.tup D)⟩
theorem Kd.ml {H H':Hp} {d:Addr} {kvs:List (NK × Addr × V)} (D:DNx H d kvs) (k:Kd H H' d) {p:Addr} {ws:List Md}:ML H p ws→ML H' p ws:=fun ⟨as,h1,h2⟩=>⟨as,k.lst D _ _ h1,h2.mono fun _ _ _ z=>z.tup (k.tup D)⟩
theorem keys_all2 {H:Hp} {d:Addr} {km:List (NK × Addr × V)} {Ms:List Md} (D:DNx H d km) (h:km.map (·.1) = Ms.map mK):All2 (MdA H) (km.map (·.2.1)) Ms:=by
 have hl:km.length = Ms.length:=by have:=congrArg List.length h; simpa using this
 refine⟨by rw [List.length_map]; exact hl,fun i a x ha hx=>?_⟩
 rw [List.getElem?_map] at ha
 obtain⟨q,hq,rfl⟩:=Option.map_eq_some_iff.1 ha
 have:=congrArg (fun l=>l[i]?) h
 simp only [List.getElem?_map,hq,hx,Option.map_some] at this
 have e:=Option.some.inj this
 have hd:=(D.ks q (List.mem_of_getElem? hq)).2
 rw [e] at hd
 exact mda_of hd
theorem len_of {α:Type} {f:α→NK} {kvs:List (NK × Addr × V)} {L:List α} (h:kvs.map (·.1) = L.map f):kvs.length = L.length:=by have:=congrArg List.length h; simpa using this
theorem cmpI:∀ a b:List Int,CmpNs (a.map NK.int) (b.map NK.int)
 | [],_=>by rw [List.map_nil,CmpNs]; exact True.intro
 | x :: a,[]=>by rw [List.map_cons,List.map_nil,CmpNs]; exact True.intro
 | x :: a,y :: b=>by
  rw [List.map_cons,List.map_cons,CmpNs]
  exact⟨by rw [CmpN]; exact True.intro,cmpI a b⟩
theorem cmpW (a b:Wd):CmpN (wK a) (wK b):=by unfold wK; rw [CmpN]; exact cmpI a b
theorem cmpD (a b:Md):CmpN (mK a) (mK b):=by
 unfold mK
 rw [CmpN,CmpNs,CmpNs,CmpNs,CmpNs,CmpNs,CmpN,CmpN]
 exact⟨cmpW _ _,True.intro,True.intro,cmpW _ _,True.intro⟩
theorem srtW {g:Nat} {n:Int} (hn:1≤n) {L:List Wd} (h:∀ w∈L,okW g n w = true) (nd:L.Nodup):SrtOk true (L.map wK) :=
 ⟨List.pairwise_map.2 (nd.imp fun h e=>h (wK_inj e)),fun k hk=>by obtain⟨x,_,rfl⟩:=List.mem_map.1 hk; exact wK_dep7 x,fun k hk=>by
  obtain⟨x,hx,rfl⟩:=List.mem_map.1 hk
  cases x with
  | nil=>have:=(okW_iff.1 (h _ hx)).1; have:((0:Nat):Int) = n:=this; omega
  | cons a x=>exact⟨a,_,rfl⟩,
  fun k hk j hj=>by obtain⟨x,_,rfl⟩:=List.mem_map.1 hk; obtain⟨y,_,rfl⟩:=List.mem_map.1 hj; exact cmpW x y⟩
theorem srtD {Ms:List Md} (nd:Ms.Nodup):SrtOk false (Ms.map mK) :=
 ⟨List.pairwise_map.2 (nd.imp fun h e=>h (mK_inj e)),fun k hk=>by obtain⟨x,_,rfl⟩:=List.mem_map.1 hk; exact mK_dep x,fun k hk=>by
  obtain⟨x,hx,rfl⟩:=List.mem_map.1 hk
  exact⟨_,_,rfl⟩,
  fun k hk j hj=>by obtain⟨x,_,rfl⟩:=List.mem_map.1 hk; obtain⟨y,_,rfl⟩:=List.mem_map.1 hj; exact cmpD x y⟩
theorem perm_of {α:Type} {f:α→NK} (fi:∀ a b,f a = f b→a = b) {js:List NK} {L:List α} (h:js.Perm (L.map f)):∃ z:List α,js = z.map f∧(∀ w,w∈z ↔ w∈L)∧z.length = L.length∧(L.Nodup→z.Nodup):=by
 have:∀ l:List NK,(∀ x∈l,x∈L.map f)→∃ z:List α,l = z.map f:=by
  intro l
  induction l with
  | nil=>intro _; exact⟨[],rfl⟩
  | cons a l ih =>
   intro h
   obtain⟨z,hz⟩:=ih fun x hx=>h x (List.mem_cons_of_mem _ hx)
   obtain⟨y,_,e⟩:=List.mem_map.1 (h a (List.mem_cons_self ..))
   exact⟨y :: z,by rw [List.map_cons,e,hz]⟩
 obtain⟨z,rfl⟩:=this js fun x hx=>h.mem_iff.1 hx
 have hm:∀ {w:α} {l:List α},f w∈l.map f ↔ w∈l:=fun {w l}=>⟨fun h=>by obtain⟨v,hv,e⟩:=List.mem_map.1 h; rw [← fi _ _ e]; exact hv,fun h=>List.mem_map.2 ⟨w,h,rfl⟩⟩
 refine⟨z,rfl,fun w=>by rw [← hm (l:=z),h.mem_iff,hm],by have:=h.length_eq; simpa using this,fun nd=>?_⟩
 exact nd_of_map (f:=f) (h.nodup_iff.2 (List.pairwise_map.2 (nd.imp fun hn e=>hn (fi _ _ e))))
theorem wa_of {H:Hp} {bs:List Addr} {z:List Wd} (h2:DenNs H (z.map wK) (bs.map V.ref)):All2 (WdA H) bs z:=by
 have hl:=denNs_len h2
 rw [List.length_map,List.length_map] at hl
 refine⟨hl,fun i a x ha hx=>?_⟩
 obtain⟨k,hk,hd⟩:=denNs_at h2 (i:=i) (v:=.ref a) (by rw [List.getElem?_map,ha]; rfl)
 rw [List.getElem?_map,hx] at hk
 cases hk
 exact wda_of hd
theorem ma_of {H:Hp} {bs:List Addr} {z:List Md} (h2:DenNs H (z.map mK) (bs.map V.ref)):All2 (MdA H) bs z:=by
 have hl:=denNs_len h2
 rw [List.length_map,List.length_map] at hl
 refine⟨hl,fun i a x ha hx=>?_⟩
 obtain⟨k,hk,hd⟩:=denNs_at h2 (i:=i) (v:=.ref a) (by rw [List.getElem?_map,ha]; rfl)
 rw [List.getElem?_map,hx] at hk
 cases hk
 exact mda_of hd
structure Clo (m:Ma) (n:Int) (CL CR:Wd→Prop) (CM:Md→Prop):Prop where
 l0:CL (noW n)
 r0:CR (noW n)
 m0:CM (noW n,0,0,noW n)
 cl:∀ X Y d,(∀ w∈X,CL w)→(∀ w∈Y,CR w)→CM d→(∀ w∈(askM (sgn m) X Y d (enA m d.2.1 d.2.2.1)).1,CL w)∧(∀ w∈(askM (sgn m) X Y d (enA m d.2.1 d.2.2.1)).2.1,CR w)∧(∀ w∈(askM (sgn m) X Y d (enA m d.2.1 d.2.2.1)).2.2,CM w)
def Lea (m:Ma) (n:Int) (L R:List Wd) (Ms:List Md):Prop:=∀ CL CR CM,Clo m n CL CR CM→(∀ w∈L,CL w)∧(∀ w∈R,CR w)∧(∀ d∈Ms,CM d)
def Rch (m:Ma) (n:Int) (d:Md):Prop:=∀ CL CR CM,Clo m n CL CR CM→CM d
theorem Lea.start (m:Ma) (n:Int):Lea m n [noW n] [noW n] [(noW n,0,0,noW n)]:=fun _ _ _ C=>⟨fun w hw=>by rw [List.mem_singleton.1 hw]; exact C.l0,fun w hw=>by rw [List.mem_singleton.1 hw]; exact C.r0,fun w hw=>by rw [List.mem_singleton.1 hw]; exact C.m0⟩
theorem Lea.ex {m:Ma} {n:Int} {L R:List Wd} {Ms:List Md} (E:Lea m n L R Ms) {d:Md} (hd:d∈Ms) {x1 x2:List Wd} {x3:List Md} (h1:∀ w∈x1,w∈(askM (sgn m) L R d (enA m d.2.1 d.2.2.1)).1) (h2:∀ w∈x2,w∈(askM (sgn m) L R d (enA m d.2.1 d.2.2.1)).2.1) (h3:∀ w∈x3,w∈(askM (sgn m) L R d (enA m d.2.1 d.2.2.1)).2.2):Lea m n (L ++ x1) (R ++ x2) (Ms ++ x3):=fun CL CR CM C=>by
 obtain⟨e1,e2,e3⟩:=E CL CR CM C
 obtain⟨c1,c2,c3⟩:=C.cl L R d e1 e2 (e3 d hd)
 exact⟨fun w hw=>(List.mem_append.1 hw).elim (e1 w) fun z=>c1 w (h1 w z),fun w hw=>(List.mem_append.1 hw).elim (e2 w) fun z=>c2 w (h2 w z),fun w hw=>(List.mem_append.1 hw).elim (e3 w) fun z=>c3 w (h3 w z)⟩
theorem askM_mono {g:Nat} {X L Y R:List Wd} (hX:∀ w∈X,w∈L) (hY:∀ w∈Y,w∈R) (d:Md) (e:En):(∀ w∈(askM g X Y d e).1,w∈(askM g L R d e).1)∧(∀ w∈(askM g X Y d e).2.1,w∈(askM g L R d e).2.1)∧(∀ w∈(askM g X Y d e).2.2,w∈(askM g L R d e).2.2):=by
 unfold askM
 split
 ·rename_i put way after
  split
  ·refine⟨fun w h=>h,fun w h=>h,fun w h=>?_⟩
   obtain⟨y,hy,rfl⟩:=List.mem_map.1 h
   refine List.mem_map.2 ⟨y,?_,rfl⟩
   unfold rWs at hy ⊢
   obtain⟨a,b⟩:=List.mem_filter.1 hy
   exact List.mem_filter.2 ⟨a,decide_eq_true (hY _ (of_decide_eq_true b))⟩
  ·refine⟨fun w h=>h,fun w h=>h,fun w h=>?_⟩
   obtain⟨y,hy,rfl⟩:=List.mem_map.1 h
   refine List.mem_map.2 ⟨y,?_,rfl⟩
   unfold lWs at hy ⊢
   obtain⟨a,b⟩:=List.mem_filter.1 hy
   exact List.mem_filter.2 ⟨a,decide_eq_true (hX _ (of_decide_eq_true b))⟩
 ·exact⟨fun w h=>h,fun w h=>h,fun w h=>h⟩
theorem clo_of {m:Ma} {n:Int} {L R:List Wd} {Ms:List Md} (h1:noW n∈L) (h2:noW n∈R) (h3:(noW n,0,0,noW n)∈Ms) (hk:∀ d∈Ms,keptB m L R Ms d = true):Clo m n (·∈L) (·∈R) (·∈Ms):=by
 refine⟨h1,h2,h3,fun X Y d hX hY hd=>?_⟩
 have:=hk d hd
 unfold keptB at this
 rw [Bool.and_eq_true,Bool.and_eq_true,Bool.and_eq_true,List.all_eq_true,List.all_eq_true,List.all_eq_true] at this
 obtain⟨_,⟨k1,k2⟩,k3⟩:=this
 obtain⟨a1,a2,a3⟩:=askM_mono (g:=sgn m) hX hY d (enA m d.2.1 d.2.2.1)
 exact⟨fun w hw=>of_decide_eq_true (k1 w (a1 w hw)),fun w hw=>of_decide_eq_true (k2 w (a2 w hw)),fun w hw=>of_decide_eq_true (k3 w (a3 w hw))⟩
theorem lea_one {m:Ma} {n:Int} {L R L' R':List Wd} {Ms Ms':List Md} (C:Clo m n (·∈L) (·∈R) (·∈Ms)) (C':Clo m n (·∈L') (·∈R') (·∈Ms')) (E:Lea m n L R Ms) (E':Lea m n L' R' Ms'):(∀ w,w∈L ↔ w∈L')∧(∀ w,w∈R ↔ w∈R')∧(∀ d,d∈Ms ↔ d∈Ms'):=by
 obtain⟨a1,a2,a3⟩:=E _ _ _ C'
 obtain⟨b1,b2,b3⟩:=E' _ _ _ C
 exact⟨fun w=>⟨a1 w,b1 w⟩,fun w=>⟨a2 w,b2 w⟩,fun w=>⟨a3 w,b3 w⟩⟩
theorem no_end {m:Ma} {n:Int} {L R:List Wd} {Ms:List Md} (C:Clo m n (·∈L) (·∈R) (·∈Ms)) (hk:∀ d∈Ms,keptB m L R Ms d = true) {d:Md} (h:Rch m n d) (he:enA m d.2.1 d.2.2.1 = []):False:=by
 have:=hk d (h _ _ _ C)
 unfold keptB at this
 rw [decide_eq_true he] at this
 cases this
def sp_lleast:Sp:=fun vs H Q _=>match vs with
 | [.ref t,.int n]=>∃ (m:Ma),Mach H t m∧isM m = true∧isWid (sgn m) n = true∧(∀ H',Sub H H'→(∃ d,Rch m n d∧enA m d.2.1 d.2.2.1 = [])→Q .non H') ∧
   ∀ (q l r ms:Addr) (wd:Str) (L R:List Wd) (Ms:List Md) (H':Hp),Sub H H'→H' q = some (.tup [.str wd,.int n,.ref l,.ref r,.ref ms])→WL H' l L→WL H' r R→ML H' ms Ms→GI m n L R Ms→noW n∈L→noW n∈R→(noW n,0,0,noW n)∈Ms→(∀ d∈Ms,keptB m L R Ms d = true)→wd = "shut"→Lea m n L R Ms→(L.map wK).Pairwise (fun x y=>ltN x y = true)→(R.map wK).Pairwise (fun x y=>ltN x y = true)→(Ms.map mK).Pairwise (fun x y=>ltN x y = true)→Q (.ref q) H'
 | _=>False
def sp_least_shut (a:Ad):Sp:=fun vs H Q E=>match vs with
 | [.ref t,.int n]=>∃ (m:Ma),Mach H t m∧isM m = true∧(isWid (sgn m) n = false→∀ H',Sub H H'→E (.ref a.NoWidth) none H')∧(isWid (sgn m) n = true→(∀ H',Sub H H'→(∃ d,Rch m n d∧enA m d.2.1 d.2.2.1 = [])→Q .non H') ∧
   ∀ (q l r ms:Addr) (wd:Str) (L R:List Wd) (Ms:List Md) (H':Hp),Sub H H'→H' q = some (.tup [.str wd,.int n,.ref l,.ref r,.ref ms])→WL H' l L→WL H' r R→ML H' ms Ms→GI m n L R Ms→noW n∈L→noW n∈R→(noW n,0,0,noW n)∈Ms→(∀ d∈Ms,keptB m L R Ms d = true)→wd = "shut"→Lea m n L R Ms→(L.map wK).Pairwise (fun x y=>ltN x y = true)→(R.map wK).Pairwise (fun x y=>ltN x y = true)→(Ms.map mK).Pairwise (fun x y=>ltN x y = true)→H l = none→H r = none→l≠r→Q (.ref q) H')
 | _=>False
theorem ok_least_shut (T:Tx K mg a):FnOk P w K mg base (CXE P w) 5 a.least_shut a.least_shut_d ["machine","width"] (sp_least_shut a):=by
 have G_must_machine:=ok_must_machine (P:=P) (w:=w) (base:=base) T
 have G_is_width:=ok_is_width (P:=P) (w:=w) (base:=base) T
 have G_ends_at:=ok_ends_at (P:=P) (w:=w) (base:=base) T
 have G_asked:=ok_asked (P:=P) (w:=w) (base:=base) T
 refine T.f_least_shut.okE sc_least_shut (fun vs H Q E h=>?_) (fun cdv A outer s H vs Q E hr h=>?_)
 ·unfold sp_least_shut at h
  split at h
  ·rfl
  ·exact h.elim
 ·unfold sp_least_shut at h
  split at h
  ·have nd:=sc_least_shut.nd
   have hu:=hu_of hr
   rename_i t n
   obtain⟨m,hm,hM,hbad,h⟩:=h
   have M:=OkM.of hM
   refine⟨_,(pss_cons (ps_expr (pe_call G_must_machine (hr.mono (by decide)) rfl T.g_must_machine T.f_must_machine.kp T.b_must_machine .nil passes_fn (pa_cons (qv 0) pa_nil)))
  (pss_cons (ps_c (pt_not (pt_e (pe_call G_is_width (hr.mono (by decide)) rfl T.g_is_width T.f_is_width.kp T.b_is_width .nil pass0 (pa_cons (qv 0) (pa_cons (qv 1) pa_nil))))) (pss_one (ps_raise rfl T.e_NoWidth rfl T.g_NoWidth wants_fn (pa_cons pe_str pa_nil))) pss_nil)
  (PSs.nox (pss_cons (ps_set (i:=2) nd rfl (by walk_at "o") (pe_op (q_repSK (K:=K) rfl) (pe_tup (pa_cons pe_int pa_nil)) (qv 1)))
  (pss_cons (ps_set (i:=3) nd rfl (by walk_at "o") (pe_dispN hr (pps_cons (qv 2) pe_bl pps_nil) rfl rfl (by simp) (by decide)))
  (pss_cons (ps_set (i:=4) nd rfl (by walk_at "o") (pe_dispN hr (pps_cons (qv 2) pe_bl pps_nil) rfl rfl (by simp) (by decide)))
  (pss_cut (ps_set (i:=5) nd rfl (by walk_at "o") (pe_dispN hr (pps_cons (pe_tup (pa_cons (qv 2) (pa_cons pe_int (pa_cons pe_int (pa_cons (qv 2) pa_nil))))) pe_bl pps_nil) rfl rfl (by simp) (by decide)))
  (pss_cons (ps_set (i:=6) nd rfl (by walk_at "o") pe_int)
  (pss_cons (ps_while PassesOwn.never (pt_c q_lt (qv 6) (pe_op q_add (pe_op q_add (pe_callB q_lenN rfl T.z_len bt_len (pa_cons (qv 3) pa_nil)) (pe_callB q_lenN rfl T.z_len bt_len (pa_cons (qv 4) pa_nil))) (pe_callB q_lenN rfl T.z_len bt_len (pa_cons (qv 5) pa_nil)))) (pss_cons (ps_set (i:=6) nd rfl (by walk_at "o") (pe_op q_add (pe_op q_add (pe_callB q_lenN rfl T.z_len bt_len (pa_cons (qv 3) pa_nil)) (pe_callB q_lenN rfl T.z_len bt_len (pa_cons (qv 4) pa_nil))) (pe_callB q_lenN rfl T.z_len bt_len (pa_cons (qv 5) pa_nil))))
    (pss_one (ps_for PassesOwn.never rfl (qi_listK (K:=K) rfl (pe_callTy (q_listN rfl) rfl T.z_list bt_list (pa_cons (qv 5) pa_nil))) (pg_name (i:=7) nd rfl (by walk_at "o")) (pss_cons (ps_c (pt_e (pe_call G_ends_at (hr.mono (by decide)) rfl T.g_ends_at T.f_ends_at.kp T.b_ends_at .nil pass0 (pa_cons (qv 0) (pa_cons (qv 7) pa_nil)))) (pss_one (ps_ret pe_non)) pss_nil)
      (pss_cons (ps_asg (pe_call G_asked (hr.mono (by decide)) rfl T.g_asked T.f_asked.kp T.b_asked .nil pass0 (pa_cons (qv 0) (pa_cons (qv 7) (pa_cons (qv 3) (pa_cons (qv 4) pa_nil))))) (qg_tupK (K:=K) (n:=3) rfl rfl (qgs_cons (pg_name (i:=8) nd rfl (by walk_at "o")) (qgs_cons (pg_name (i:=9) nd rfl (by walk_at "o")) (qgs_cons (pg_name (i:=10) nd rfl (by walk_at "o")) qgs_nil)))))
      (pss_cut (ps_expr (pe_updN hr (qv 3) (pa_cons (pe_dcN (hr:=fun _ _ _ _=>hr) (own:=["word"]) (fr:=[]) rfl (by walk_at "comp_ok") (qi_listK (K:=K) rfl (qv 8)) (fun _ _ _ _=>(pg_name (i:=0) (show List.Nodup (α:=Str) ["word"] from by decide +kernel) rfl (by walk_at "o"))) (fun _ _ _ _=>pts_nil) (fun _ _ _ _=>(qv 0)) (fun _ _ _ _=>pe_bl)) pa_nil)))
      (pss_cut (ps_expr (pe_updN hr (qv 4) (pa_cons (pe_dcN (hr:=fun _ _ _ _=>hr) (own:=["word"]) (fr:=[]) rfl (by walk_at "comp_ok") (qi_listK (K:=K) rfl (qv 9)) (fun _ _ _ _=>(pg_name (i:=0) (show List.Nodup (α:=Str) ["word"] from by decide +kernel) rfl (by walk_at "o"))) (fun _ _ _ _=>pts_nil) (fun _ _ _ _=>(qv 0)) (fun _ _ _ _=>pe_bl)) pa_nil)))
      (pss_one (ps_expr (pe_updN hr (qv 5) (pa_cons (pe_dcN (hr:=fun _ _ _ _=>hr) (own:=["other"]) (fr:=[]) rfl (by walk_at "comp_ok") (qi_listK (K:=K) rfl (qv 10)) (fun _ _ _ _=>(pg_name (i:=0) (show List.Nodup (α:=Str) ["other"] from by decide +kernel) rfl (by walk_at "o"))) (fun _ _ _ _=>pts_nil) (fun _ _ _ _=>(qv 0)) (fun _ _ _ _=>pe_bl)) pa_nil))))))))))))
  (pss_one (ps_ret (pe_tup (pa_cons pe_str (pa_cons (qv 1) (pa_cons (pe_callB (q_srtDN hr rfl) rfl T.z_sorted bt_sorted (pa_cons (qv 3) pa_nil)) (pa_cons (pe_callB (q_srtDN hr rfl) rfl T.z_sorted bt_sorted (pa_cons (qv 4) pa_nil)) (pa_cons (pe_callB (q_srtDN hr rfl) rfl T.z_sorted bt_sorted (pa_cons (qv 5) pa_nil)) pa_nil))))))))))))))))),?_⟩
   refine⟨m,hm,bd_of hM,fun _ H1 S1=>?_,fun z=>by rw [hM] at z; cases z⟩
   refine⟨m,hm.stay (.sub S1),hM,?_⟩
   walk_at "w"
   refine ifB.mk (fun e=>?_) (fun e=>?_)
   ·have e:isWid (sgn m) n = false:=by simpa using e
    walk_at "w"
    exact⟨by show 1≤sizeLine; decide,hbad e H1 S1⟩
   have hW:isWid (sgn m) n = true:=by simpa using e
   clear e hbad
   obtain⟨hnone,h⟩:=h hW
   obtain⟨_,hn1,hn4⟩:=wid16 M.s2 M.s4 hW
   refine⟨by show 1≤sizeLine; decide,?_⟩
   intro p2 n2
   generalize hU2:upd _ p2 _ = H2
   have S2:=(upd_sub n2 hU2).1
   have e2:=(upd_sub n2 hU2).2
   clear hU2
   refine⟨_,e2,hn1,hn4,fun pz H3 S3 e3=>?_⟩
   have e3:WdA H3 pz (noW n):=by unfold WdA noW; rw [List.map_replicate]; exact e3
   have S03:=(S1.trans S2).trans S3
   intro p4 n4
   refine⟨upd_same,pz,wK (noW n),_,rfl,wK_dep7 _,(e3.sub (Sub.new n4)).den,fun H4 k4 f4 D4=>?_⟩
   have S4:Sub H3 H4:=fun c u e=>k4 c u (Sub.new n4 c u e) (ne_of_none e n4)
   walk_at "w"
   intro p5 n5
   refine⟨upd_same,pz,wK (noW n),_,rfl,wK_dep7 _,((e3.sub S4).sub (Sub.new n5)).den,fun H5 k5 f5 D5=>?_⟩
   have S5:Sub H4 H5:=fun c u e=>k5 c u (Sub.new n5 c u e) (ne_of_none e n5)
   have n40:H p4 = none:=S03.free n4
   have n50:H p5 = none:=(S03.trans S4).free n5
   have n45:p4≠p5:=by obtain⟨xs,e,_⟩:=D4.ex; rintro rfl; rw [e] at n5; cases n5
   have e5:=(e3.sub S4).sub S5
   have S05:=(S03.trans S4).trans S5
   refine⟨fun σ H'=>∃ (dm:Addr),σ = [some (.ref t),some (.int n),some (.ref pz),some (.ref p4),some (.ref p5),some (.ref dm),none,none,none,none,none]∧Sub H H'∧LSt H' p4 p5 dm [noW n] [noW n] [(noW n,0,0,noW n)]∧p4≠dm∧p5≠dm∧H dm = none,?_,?_⟩
   ·walk_at "w"
    intro p6 n6
    refine⟨by show 4≤sizeLine; decide,?_⟩
    have S6':Sub H5 (upd H5 p6 (.dK [])):=Sub.new n6
    have e6':(upd H5 p6 (.dK [])) p6 = some (.dK []):=upd_same
    generalize upd H5 p6 (.dK []) = H6 at S6' e6' ⊢
    intro p7 n7
    generalize hU7:upd _ p7 _ = H7
    have S7:=(upd_sub n7 hU7).1
    have e7:=(upd_sub n7 hU7).2
    clear hU7
    have md:MdA H7 p7 (noW n,0,0,noW n):=⟨pz,pz,e7,(e5.sub S6').sub S7,(e5.sub S6').sub S7⟩
    refine⟨S7 _ _ e6',p7,mK (noW n,0,0,noW n),_,rfl,mK_dep _,md.den,fun H8 k8 f8 D8=>?_⟩
    have S58:Sub H5 H8:=fun c u e=>k8 c u (S7 _ _ (S6' _ _ e)) (ne_of_none e n6)
    walk_at "w"
    have n46:p4≠p6:=by obtain⟨xs,e,_⟩:=(D4.sub S5).ex; rintro rfl; rw [e] at n6; cases n6
    have n56:p5≠p6:=by obtain⟨xs,e,_⟩:=D5.ex; rintro rfl; rw [e] at n6; cases n6
    exact⟨p6,rfl,S05.trans S58,⟨_,_,_,(D4.sub S5).sub S58,rfl,D5.sub S58,rfl,D8,rfl⟩,n46,n56,S05.free n6⟩
   rintro σ H6 ⟨dm,rfl,S6,st6,n4m,n5m,nm0⟩
   refine⟨fun k σ H7=>∃ (b:Int) (v7 v8 v9 v10:Option V) (L R:List Wd) (Ms:List Md),k = 3000000 - b.toNat∧σ = [some (.ref t),some (.int n),some (.ref pz),some (.ref p4),some (.ref p5),some (.ref dm),some (.int b),v7,v8,v9,v10]∧Sub H H7∧LSt H7 p4 p5 dm L R Ms∧GI m n L R Ms∧(noW n∈L∧noW n∈R∧(noW n,(0:Int),(0:Int),noW n)∈Ms)∧Lea m n L R Ms∧0≤b∧b≤L.length + R.length + Ms.length∧(b = L.length + R.length + Ms.length→∀ d∈Ms,keptB m L R Ms d = true),
    ⟨_,0,none,none,none,none,[noW n],[noW n],[(noW n,0,0,noW n)],rfl,rfl,S6,st6,gi_start M hn1,⟨by simp,by simp,by simp⟩,Lea.start m n,Int.le_refl _,by show (0:Int)≤1 + 1 + 1; decide,fun z=>by cases z⟩,?_⟩
   rintro k σ H7 ⟨b,v7,v8,v9,v10,L,R,Ms,rfl,rfl,S7,st7,G,hno,hlea,b0,b1,bc⟩
   obtain⟨kl,kr,km,Dl,hkl,Dr,hkr,Dm,hkm⟩:=id st7
   have ll:=len_of hkl
   have lr:=len_of hkr
   have lm:=len_of hkm
   have fL:=words16 M.s2 M.s4 hW G.okL G.ndL
   have fR:=words16 M.s2 M.s4 hW G.okR G.ndR
   have fM:=middles16 M hW G.okd G.ndM
   refine⟨kl,Dl,?_⟩
   refine⟨kr,Dr,?_⟩
   refine⟨km,Dm,?_⟩
   rw [ll,lr,lm]
   by_cases z:b < (L.length:Int) + (R.length:Int) + (Ms.length:Int)
   rotate_left
   ·refine ite_not z ?_
    have hcl:=bc (by omega)
    refine⟨true,kl,Dl,by rw [hkl]; exact srtW hn1 G.okL G.ndL,by omega,fun j1 bs1 q1 pm1 so1 dn1 nq1=>?_⟩
    rw [hkl] at pm1
    obtain⟨zL,rfl,mL,lL,ndL⟩:=perm_of (fun _ _=>wK_inj) pm1
    have S8:Sub H7 (upd H7 q1 (.lst (bs1.map V.ref))):=Sub.new nq1
    have e8:(upd H7 q1 (.lst (bs1.map V.ref))) q1 = some (.lst (bs1.map V.ref)):=upd_same
    generalize upd H7 q1 (.lst (bs1.map V.ref)) = H8 at S8 e8 ⊢
    have w1:WL H8 q1 zL:=⟨bs1,e8,(wa_of dn1).mono fun _ _ _ z=>z.sub S8⟩
    refine⟨true,kr,Dr.sub S8,by rw [hkr]; exact srtW hn1 G.okR G.ndR,by omega,fun j2 bs2 q2 pm2 so2 dn2 nq2=>?_⟩
    rw [hkr] at pm2
    obtain⟨zR,rfl,mR,lR,ndR⟩:=perm_of (fun _ _=>wK_inj) pm2
    have S9:Sub H8 (upd H8 q2 (.lst (bs2.map V.ref))):=Sub.new nq2
    have e9:(upd H8 q2 (.lst (bs2.map V.ref))) q2 = some (.lst (bs2.map V.ref)):=upd_same
    generalize upd H8 q2 (.lst (bs2.map V.ref)) = H9 at S9 e9 ⊢
    have w2:WL H9 q2 zR:=⟨bs2,e9,(wa_of dn2).mono fun _ _ _ z=>z.sub S9⟩
    refine⟨false,km,(Dm.sub S8).sub S9,by rw [hkm]; exact srtD G.ndM,by omega,fun j3 bs3 q3 pm3 so3 dn3 nq3=>?_⟩
    rw [hkm] at pm3
    obtain⟨zM,rfl,mM,lM,ndM⟩:=perm_of (fun _ _=>mK_inj) pm3
    have S10:Sub H9 (upd H9 q3 (.lst (bs3.map V.ref))):=Sub.new nq3
    have e10:(upd H9 q3 (.lst (bs3.map V.ref))) q3 = some (.lst (bs3.map V.ref)):=upd_same
    generalize upd H9 q3 (.lst (bs3.map V.ref)) = H10 at S10 e10 ⊢
    have w3:ML H10 q3 zM:=⟨bs3,e10,(ma_of dn3).mono fun _ _ _ z=>z.sub S10⟩
    refine⟨by show 5≤sizeLine; decide,?_⟩
    intro p11 n11
    generalize hU11:upd _ p11 _ = H11
    have S11:=(upd_sub n11 hU11).1
    have e11:=(upd_sub n11 hU11).2
    clear hU11
    have hl1:=G.l1
    have hr1:=G.r1
    have hm1:=G.m1
    refine h p11 q1 q2 q3 _ zL zR zM H11 ((((S7.trans S8).trans S9).trans S10).trans S11) e11 (w1.sub ((S9.trans S10).trans S11)) (w2.sub (S10.trans S11)) (w3.sub S11) ⟨fun w hw=>G.okL w ((mL w).1 hw),fun w hw=>G.okR w ((mR w).1 hw),fun w hw=>G.okd w ((mM w).1 hw),ndL G.ndL,ndR G.ndR,ndM G.ndM,by omega,by omega,by omega⟩ ((mL _).2 hno.1) ((mR _).2 hno.2.1) ((mM _).2 hno.2.2) (fun d hd=>?_) rfl (fun CL CR CM C=>⟨fun w hw=>(hlea CL CR CM C).1 w ((mL w).1 hw),fun w hw=>(hlea CL CR CM C).2.1 w ((mR w).1 hw),fun w hw=>(hlea CL CR CM C).2.2 w ((mM w).1 hw)⟩) so1 so2 so3 (S7.free nq1) ((S7.trans S8).free nq2) (fun z=>by rw [← z,e8] at nq2; cases nq2)
    rw [keptB_same mL mR mM]
    exact hcl d ((mM d).1 hd)
   refine ite_yes z ?_
   refine⟨_,fun σ' H' z=>z,?_⟩
   refine⟨kl,Dl,?_⟩
   refine⟨kr,Dr,?_⟩
   refine⟨km,Dm,?_⟩
   rw [ll,lr,lm]
   refine⟨km,Dm,?_⟩
   intro p8 n8
   generalize hU8:upd _ p8 _ = H8
   have S8:=(upd_sub n8 hU8).1
   have e8:=(upd_sub n8 hU8).2
   clear hU8
   have hpc:H8 p8 = some (.lst ((km.map (·.2.1)).map V.ref)):=by rw [List.map_map]; exact e8
   refine⟨⟨_,SqL.of hpc⟩,?_⟩
   refine for_list (K:=K) (a:=p8) (xs:=(km.map (·.2.1)).map V.ref) (fun j σ H9=>∃ (v7 v8 v9 v10:Option V) (eL eR:List Wd) (eM:List Md),σ = [some (.ref t),some (.int n),some (.ref pz),some (.ref p4),some (.ref p5),some (.ref dm),some (.int ((L.length:Int) + (R.length:Int) + (Ms.length:Int))),v7,v8,v9,v10]∧Sub H H9∧LSt H9 p4 p5 dm (L ++ eL) (R ++ eR) (Ms ++ eM)∧GI m n (L ++ eL) (R ++ eR) (Ms ++ eM)∧Lea m n (L ++ eL) (R ++ eR) (Ms ++ eM)∧H9 p8 = some (.lst ((km.map (·.2.1)).map V.ref))∧All2 (MdA H9) (km.map (·.2.1)) Ms∧(eL = []→eR = []→eM = []→∀ d∈Ms.take j,keptB m L R Ms d = true)) ?_ ?_ ?_ ?_
   ·exact⟨_,_,_,_,[],[],[],rfl,S7.trans S8,by rw [List.append_nil,List.append_nil,List.append_nil]; exact st7.sub S8,by rw [List.append_nil,List.append_nil,List.append_nil]; exact G,by rw [List.append_nil,List.append_nil,List.append_nil]; exact hlea,hpc,keys_all2 (Dm.sub S8) hkm,fun _ _ _ d hd=>by simp at hd⟩
   ·rintro j σ H9 _ ⟨v7,v8,v9,v10,eL,eR,eM,rfl,S9,st9,G9,E9,hp9,A9,hk9⟩
    exact SqL.of hp9
   ·rintro j x σ H9 hj ⟨v7,v8,v9,v10,eL,eR,eM,rfl,S9,st9,G9,E9,hp9,A9,hk9⟩
    rw [List.getElem?_map] at hj
    obtain⟨c',hc,rfl⟩:=Option.map_eq_some_iff.1 hj
    obtain⟨d,hd',hcd⟩:=A9.at hc
    have hok:=G.okd d (List.mem_of_getElem? hd')
    obtain⟨o1,o2,o3,o4⟩:=okM_iff.1 hok
    have b1':=ok_word M.s4 hn4 o1
    have b2':=ok_word M.s4 hn4 o2
    have o1:=(okW_iff.1 o1).1
    have o2:=(okW_iff.1 o2).1
    have z1:d.1≠[]:=fun z=>by rw [z] at o1; have o1:((0:Nat):Int) = n:=o1; omega
    have z2:d.2.2.2≠[]:=fun z=>by rw [z] at o2; have o2:((0:Nat):Int) = n:=o2; omega
    refine⟨m,d,hm.stay (.sub S9),hM,hcd,o3,o4,fun H10 S10=>?_⟩
    walk_at "w"
    refine ifB.dec (fun ce=>?_) (fun ce=>?_)
    ·exact hnone _ (S9.trans S10) ⟨d,fun CL CR CM C=>(E9 CL CR CM C).2.2 d (List.mem_append_left _ (List.mem_of_getElem? hd')),ce⟩
    obtain⟨kl,kr,km',Dl,hkl,Dr,hkr,Dm',hkm'⟩:=st9.sub S10
    refine⟨m,d,L ++ eL,R ++ eR,kl,kr,hm.stay (.sub (S9.trans S10)),hM,hcd.sub S10,o3,o4,z1,z2,by omega,by omega,ce,.inl Dl,hkl,.inl Dr,hkr,fun q l1 l2 l3 H11 S11 hq W1' W2' W3'=>?_⟩
    obtain⟨a1,a2,a3⟩:=askM_ok M hn1 G9.okL G9.okR hok ce
    obtain⟨c1,c2,c3⟩:=askM_len (L:=L ++ eL) (R:=R ++ eR) (d:=d) (e:=enA m d.2.1 d.2.2.1) M.s4
    have hask:eL = []→eR = []→askM (sgn m) (L ++ eL) (R ++ eR) d (enA m d.2.1 d.2.2.1) = askM (sgn m) L R d (enA m d.2.1 d.2.2.1):=fun e1 e2=>by rw [e1,e2,List.append_nil,List.append_nil]
    have hex:=fun (x1 x2:List Wd) (x3:List Md)=>E9.ex (d:=d) (List.mem_append_left _ (List.mem_of_getElem? hd')) (x1:=x1) (x2:=x2) (x3:=x3)
    generalize askM (sgn m) (L ++ eL) (R ++ eR) d (enA m d.2.1 d.2.2.1) = A at W1' W2' W3' a1 a2 a3 c1 c2 c3 hask hex
    obtain⟨A1,A2,A3⟩:=A
    have W1':WL H11 l1 A1:=W1'
    have W2':WL H11 l2 A2:=W2'
    have W3':ML H11 l3 A3:=W3'
    have c1:A1.length≤10:=c1
    have c2:A2.length≤10:=c2
    have c3:A3.length≤10:=c3
    have S911:=S10.trans S11
    have Dl:=Dl.sub S11
    have Dr:=Dr.sub S11
    have Dm':=Dm'.sub S11
    have hp11:=S911 _ _ hp9
    have A11:All2 (MdA H11) (km.map (·.2.1)) Ms:=A9.mono fun _ _ _ z=>z.sub S911
    have S011:=S9.trans S911
    have gL:=words16 M.s2 M.s4 hW G9.okL G9.ndL
    have gR:=words16 M.s2 M.s4 hW G9.okR G9.ndR
    have gM:=middles16 M hW G9.okd G9.ndM
    refine⟨_,SqT.of hq,rfl,?_⟩
    refine⟨fun σ H'=>∃ (x1:List Wd) (kl':List (NK × Addr × V)),σ = [some (.ref t),some (.int n),some (.ref pz),some (.ref p4),some (.ref p5),some (.ref dm),some (.int ((L.length:Int) + (R.length:Int) + (Ms.length:Int))),some (.ref c'),some (.ref l1),some (.ref l2),some (.ref l3)]∧Sub H H'∧DNx H' p4 kl'∧kl'.map (·.1) = (L ++ eL ++ x1).map wK∧DNx H' p5 kr∧DNx H' dm km'∧(∀ w∈x1,w∈A1)∧(∀ w∈A1,w∈L ++ eL ++ x1)∧H' p8 = some (.lst ((km.map (·.2.1)).map V.ref))∧All2 (MdA H') (km.map (·.2.1)) Ms∧WL H' l2 A2∧ML H' l3 A3,?_,?_⟩
    ·skip
     refine⟨⟨_,_,rfl,Dl⟩,?_⟩
     walk_at "w"
     obtain⟨as1,W1,B1⟩:=W1'
     refine⟨⟨_,SqL.of W1⟩,?_⟩
     intro pu nu
     refine comp_list (K:=K) (a:=l1) (xs:=as1.map V.ref) (fun i σ Hx=>∃ (v:Option V) (kvs:List (NK × Addr × V)),σ = [v]∧Sub H11 Hx∧DNe Hx pu kvs∧KeysOf wK kvs (A1.take i)) ?_ ?_ ?_ ?_
     ·exact⟨none,[],rfl,Sub.new nu,.inl ⟨rfl,upd_same⟩,⟨[],rfl,fun y=>by simp,Nat.zero_le _⟩⟩
     ·rintro i σ Hx _ ⟨v,kvs,rfl,Sx,_⟩
      exact SqL.of (Sx _ _ W1)
     ·rintro i x σ Hx hi ⟨v,kvs,rfl,Sx,De,Ks⟩
      rw [List.getElem?_map] at hi
      obtain⟨c,hc,rfl⟩:=Option.map_eq_some_iff.1 hi
      obtain⟨w',hw',hcw⟩:=B1.at hc
      have hKl:kvs.length < sizeLine:=by
       obtain⟨_,_,_,hk⟩:=Ks
       rw [List.length_take] at hk
       exact Nat.lt_of_le_of_lt (Nat.le_trans hk (Nat.le_trans (Nat.min_le_right _ _) c1)) (by decide)
      refine⟨c,wK w',kvs,rfl,wK_dep7 w',(hcw.sub Sx).den,De,hKl,fun Hy k1 k2 Dx=>?_⟩
      have hk:=Ks.put (fun _ _=>wK_inj) w' c (.bl true)
      rw [show A1.take i ++ [w'] = A1.take (i + 1) by rw [List.take_add_one,hw']; rfl] at hk
      exact⟨_,_,rfl,fun a u e=>k1 a u (Sx _ _ e) (ne_of_none e nu),.inr Dx,hk⟩
     rintro σ Hx ⟨v,more,rfl,Sx,De,Ks⟩
     rw [List.length_map,B1.1,List.take_length] at Ks
     have hne:p4≠pu:=by
      obtain⟨xs,e,_⟩:=Dl.ex
      rintro rfl; rw [e] at nu; cases nu
     have hml:more.length≤10:=by obtain⟨_,_,_,hk⟩:=Ks; exact Nat.le_trans hk c1
     refine⟨_,more,Dl.sub Sx,?_,De,hne,?_,fun Hy k1 k2 Dy=>?_⟩
     ·intro z; have:=len_of hkl; rw [z] at this; have:=G9.l1; simp at *; omega
     ·have:=len_of hkl; exact Nat.le_trans (show _≤100 by omega) (by decide)
     have k1:Kd Hx Hy p4:=k1
     have Dlx:=Dl.sub Sx
     obtain⟨x1,y1,y2,y3⟩:=upd_keys (fun _ _=>wK_inj) hkl Ks
     walk_at "w"
     exact⟨x1,_,rfl,fun a u e=>k1 a u (Sx _ _ (S011 _ _ e)) (ne_of_none e n40),Dy,y1,(Dr.sub Sx).keep (fun u e=>k1 _ u e (Ne.symm n45)) (k1.tup Dlx),(Dm'.sub Sx).keep (fun u e=>k1 _ u e (Ne.symm n4m)) (k1.tup Dlx),y2,y3,k1.lst Dlx _ _ (Sx _ _ hp11),A11.mono fun _ _ _ z=>(z.sub Sx).tup (k1.tup Dlx),k1.wl Dlx (W2'.sub Sx),k1.ml Dlx (W3'.sub Sx)⟩
    clear Dl Dr Dm' hp11 A11 W1' W2' W3' S011
    rintro σ H12 ⟨x1,kl',rfl,S011,Dl,hkl',Dr,Dm',y2,y3,hp11,A11,W2',W3'⟩
    refine⟨fun σ H'=>∃ (x2:List Wd) (kr':List (NK × Addr × V)),σ = [some (.ref t),some (.int n),some (.ref pz),some (.ref p4),some (.ref p5),some (.ref dm),some (.int ((L.length:Int) + (R.length:Int) + (Ms.length:Int))),some (.ref c'),some (.ref l1),some (.ref l2),some (.ref l3)]∧Sub H H'∧DNx H' p4 kl'∧DNx H' p5 kr'∧kr'.map (·.1) = (R ++ eR ++ x2).map wK∧DNx H' dm km'∧(∀ w∈x2,w∈A2)∧(∀ w∈A2,w∈R ++ eR ++ x2)∧H' p8 = some (.lst ((km.map (·.2.1)).map V.ref))∧All2 (MdA H') (km.map (·.2.1)) Ms∧ML H' l3 A3,?_,?_⟩
    ·skip
     refine⟨⟨_,_,rfl,Dr⟩,?_⟩
     walk_at "w"
     obtain⟨as1,W1,B1⟩:=W2'
     refine⟨⟨_,SqL.of W1⟩,?_⟩
     intro pu nu
     refine comp_list (K:=K) (a:=l2) (xs:=as1.map V.ref) (fun i σ Hx=>∃ (v:Option V) (kvs:List (NK × Addr × V)),σ = [v]∧Sub H12 Hx∧DNe Hx pu kvs∧KeysOf wK kvs (A2.take i)) ?_ ?_ ?_ ?_
     ·exact⟨none,[],rfl,Sub.new nu,.inl ⟨rfl,upd_same⟩,⟨[],rfl,fun y=>by simp,Nat.zero_le _⟩⟩
     ·rintro i σ Hx _ ⟨v,kvs,rfl,Sx,_⟩
      exact SqL.of (Sx _ _ W1)
     ·rintro i x σ Hx hi ⟨v,kvs,rfl,Sx,De,Ks⟩
      rw [List.getElem?_map] at hi
      obtain⟨c,hc,rfl⟩:=Option.map_eq_some_iff.1 hi
      obtain⟨w',hw',hcw⟩:=B1.at hc
      have hKl:kvs.length < sizeLine:=by
       obtain⟨_,_,_,hk⟩:=Ks
       rw [List.length_take] at hk
       exact Nat.lt_of_le_of_lt (Nat.le_trans hk (Nat.le_trans (Nat.min_le_right _ _) c2)) (by decide)
      refine⟨c,wK w',kvs,rfl,wK_dep7 w',(hcw.sub Sx).den,De,hKl,fun Hy k1 k2 Dx=>?_⟩
      have hk:=Ks.put (fun _ _=>wK_inj) w' c (.bl true)
      rw [show A2.take i ++ [w'] = A2.take (i + 1) by rw [List.take_add_one,hw']; rfl] at hk
      exact⟨_,_,rfl,fun a u e=>k1 a u (Sx _ _ e) (ne_of_none e nu),.inr Dx,hk⟩
     rintro σ Hx ⟨v,more,rfl,Sx,De,Ks⟩
     rw [List.length_map,B1.1,List.take_length] at Ks
     have hne:p5≠pu:=by
      obtain⟨xs,e,_⟩:=Dr.ex
      rintro rfl; rw [e] at nu; cases nu
     have hml:more.length≤10:=by obtain⟨_,_,_,hk⟩:=Ks; exact Nat.le_trans hk c2
     refine⟨_,more,Dr.sub Sx,?_,De,hne,?_,fun Hy k1 k2 Dy=>?_⟩
     ·intro z; have:=len_of hkr; rw [z] at this; have:=G9.r1; simp at *; omega
     ·have:=len_of hkr; exact Nat.le_trans (show _≤100 by omega) (by decide)
     have k1:Kd Hx Hy p5:=k1
     have Drx:=Dr.sub Sx
     obtain⟨x2,y4,y5,y6⟩:=upd_keys (fun _ _=>wK_inj) hkr Ks
     walk_at "w"
     exact⟨x2,_,rfl,fun a u e=>k1 a u (Sx _ _ (S011 _ _ e)) (ne_of_none e n50),(Dl.sub Sx).keep (fun u e=>k1 _ u e n45) (k1.tup Drx),Dy,y4,(Dm'.sub Sx).keep (fun u e=>k1 _ u e (Ne.symm n5m)) (k1.tup Drx),y5,y6,k1.lst Drx _ _ (Sx _ _ hp11),A11.mono fun _ _ _ z=>(z.sub Sx).tup (k1.tup Drx),k1.ml Drx (W3'.sub Sx)⟩
    clear Dl Dr Dm' hp11 A11 W2' W3' S011
    rintro σ H13 ⟨x2,kr',rfl,S011,Dl,Dr,hkr',Dm',y5,y6,hp11,A11,W3'⟩
    refine⟨⟨_,_,rfl,Dm'⟩,?_⟩
    walk_at "w"
    obtain⟨as1,W1,B1⟩:=W3'
    refine⟨⟨_,SqL.of W1⟩,?_⟩
    intro pu nu
    refine comp_list (K:=K) (a:=l3) (xs:=as1.map V.ref) (fun i σ Hx=>∃ (v:Option V) (kvs:List (NK × Addr × V)),σ = [v]∧Sub H13 Hx∧DNe Hx pu kvs∧KeysOf mK kvs (A3.take i)) ?_ ?_ ?_ ?_
    ·exact⟨none,[],rfl,Sub.new nu,.inl ⟨rfl,upd_same⟩,⟨[],rfl,fun y=>by simp,Nat.zero_le _⟩⟩
    ·rintro i σ Hx _ ⟨v,kvs,rfl,Sx,_⟩
     exact SqL.of (Sx _ _ W1)
    ·rintro i x σ Hx hi ⟨v,kvs,rfl,Sx,De,Ks⟩
     rw [List.getElem?_map] at hi
     obtain⟨c,hc,rfl⟩:=Option.map_eq_some_iff.1 hi
     obtain⟨w',hw',hcw⟩:=B1.at hc
     have hKl:kvs.length < sizeLine:=by
      obtain⟨_,_,_,hk⟩:=Ks
      rw [List.length_take] at hk
      exact Nat.lt_of_le_of_lt (Nat.le_trans hk (Nat.le_trans (Nat.min_le_right _ _) c3)) (by decide)
     refine⟨c,mK w',kvs,rfl,mK_dep w',(hcw.sub Sx).den,De,hKl,fun Hy k1 k2 Dx=>?_⟩
     have hk:=Ks.put (fun _ _=>mK_inj) w' c (.bl true)
     rw [show A3.take i ++ [w'] = A3.take (i + 1) by rw [List.take_add_one,hw']; rfl] at hk
     exact⟨_,_,rfl,fun a u e=>k1 a u (Sx _ _ e) (ne_of_none e nu),.inr Dx,hk⟩
    rintro σ Hx ⟨v,more,rfl,Sx,De,Ks⟩
    rw [List.length_map,B1.1,List.take_length] at Ks
    have hne:dm≠pu:=by
     obtain⟨xs,e,_⟩:=Dm'.ex
     rintro rfl; rw [e] at nu; cases nu
    have hml:more.length≤10:=by obtain⟨_,_,_,hk⟩:=Ks; exact Nat.le_trans hk c3
    refine⟨_,more,Dm'.sub Sx,?_,De,hne,?_,fun Hy k1 k2 Dy=>?_⟩
    ·intro z; have:=len_of hkm'; rw [z] at this; have:=G9.m1; simp at *; omega
    ·have:=len_of hkm'; exact Nat.le_trans (show _≤5000 by omega) (by decide)
    have k1:Kd Hx Hy dm:=k1
    have Dmx:=Dm'.sub Sx
    obtain⟨x3,y7,y8,y9⟩:=upd_keys (fun _ _=>mK_inj) hkm' Ks
    have Dl2:=(Dl.sub Sx).keep (fun u e=>k1 _ u e n4m) (k1.tup Dmx)
    have Dr2:=(Dr.sub Sx).keep (fun u e=>k1 _ u e n5m) (k1.tup Dmx)
    have ndL:(L ++ eL ++ x1).Nodup:=nd_of_map (f:=wK) (by rw [← hkl']; exact Dl2.nd)
    have ndR:(R ++ eR ++ x2).Nodup:=nd_of_map (f:=wK) (by rw [← hkr']; exact Dr2.nd)
    have ndM:(Ms ++ eM ++ x3).Nodup:=nd_of_map (f:=mK) (by rw [← y7]; exact Dy.nd)
    refine⟨_,_,_,_,eL ++ x1,eR ++ x2,eM ++ x3,rfl,fun a u e=>k1 a u (Sx _ _ (S011 _ _ e)) (ne_of_none e nm0),?_,?_,?_,k1.lst Dmx _ _ (Sx _ _ hp11),A11.mono fun _ _ _ z=>(z.sub Sx).tup (k1.tup Dmx),?_⟩
    ·rw [← List.append_assoc,← List.append_assoc,← List.append_assoc]
     exact⟨_,_,_,Dl2,hkl',Dr2,hkr',Dy,y7⟩
    ·rw [← List.append_assoc,← List.append_assoc,← List.append_assoc]
     exact ((G9.exL (fun w hw=>a1 w (y2 w hw)) ndL).exR (fun w hw=>a2 w (y5 w hw)) ndR).exM (fun w hw=>a3 w (y8 w hw)) ndM
    ·rw [← List.append_assoc,← List.append_assoc,← List.append_assoc]
     exact hex x1 x2 x3 y2 y5 y8
    ·intro q1 q2 q3 d2 hd2
     obtain⟨rfl,rfl⟩:=List.append_eq_nil_iff.1 q1
     obtain⟨rfl,rfl⟩:=List.append_eq_nil_iff.1 q2
     obtain⟨rfl,rfl⟩:=List.append_eq_nil_iff.1 q3
     rw [List.take_add_one,hd'] at hd2
     rcases List.mem_append.1 hd2 with hd2 | hd2
     ·exact hk9 rfl rfl rfl d2 hd2
     ·have:d2 = d:=by simpa using hd2
      subst this
      unfold keptB
      rw [← hask rfl rfl,decide_eq_false ce]
      rw [List.append_nil,List.append_nil] at y3 y6 y9
      show (true && (((A1.all fun w=>decide (w∈L)) && (A2.all fun w=>decide (w∈R))) && (A3.all fun w=>decide (w∈Ms)))) = true
      rw [List.all_eq_true.2 (fun w hw=>decide_eq_true (y3 w hw)),List.all_eq_true.2 (fun w hw=>decide_eq_true (y6 w hw)),List.all_eq_true.2 (fun w hw=>decide_eq_true (y9 w hw))]
      rfl
   rintro σ H9 ⟨v7,v8,v9,v10,eL,eR,eM,rfl,S9,st9,G9,E9,hp9,A9,hk9⟩
   rw [List.length_map,A9.1,List.take_length] at hk9
   have gL:=words16 M.s2 M.s4 hW G9.okL G9.ndL
   have gR:=words16 M.s2 M.s4 hW G9.okR G9.ndR
   have gM:=middles16 M hW G9.okd G9.ndM
   rw [List.length_append] at gL gR gM
   refine⟨_,?_,(L.length:Int) + (R.length:Int) + (Ms.length:Int),_,_,_,_,L ++ eL,R ++ eR,Ms ++ eM,rfl,rfl,S9,st9,G9,⟨List.mem_append_left _ hno.1,List.mem_append_left _ hno.2.1,List.mem_append_left _ hno.2.2⟩,E9,by omega,?_,fun e=>?_⟩
   ·omega
   ·rw [List.length_append,List.length_append,List.length_append]; omega
   ·rw [List.length_append,List.length_append,List.length_append] at e
    have q1:eL = []:=List.length_eq_zero_iff.1 (by omega)
    have q2:eR = []:=List.length_eq_zero_iff.1 (by omega)
    have q3:eM = []:=List.length_eq_zero_iff.1 (by omega)
    have:=hk9 q1 q2 q3
    rw [q1,q2,q3,List.append_nil,List.append_nil,List.append_nil]
    exact this
  ·exact h.elim
theorem sc_l_machine:FnScope ["_law_purse_here","_law_rows","_law_signs","_law_found","_law_empty","_law_row","_law_entries","_law_sign","_law_entry"] ["_law_purse_here","_law_rows","_law_signs"] (defScope s_l_machine):=⟨rfl,rfl,rfl,by decide +kernel,rfl,by decide +kernel,by decide +kernel⟩
def sp_machine:Sp:=fun vs H Q _=>match vs with
 | [.ref pp,.int rows,.int signs]=>∃ n k:Int,H pp = some (.lst [.int n,.int k])∧(1≤rows∧rows≤4)∧(2≤signs∧signs≤4)∧∀ (q:Addr) (m:Ma) (H':Hp),Pu pp k H H'→H q = none→Mach H' q m→isM m = true→(m.length:Int) = rows→(sgn m:Int) = signs→Q (.ref q) H'
 | _=>False
theorem small_log {j:Int} (h0:0 < j) (h1:j≤1000):0 < j∧j.natAbs.log2 < 9000:=by
 refine⟨h0,?_⟩
 have:j.natAbs.log2 < 10:=(Nat.log2_lt (by omega)).2 (by show _ < 1024; omega)
 omega
theorem isM_of {m:Ma} {rows signs:Int} (h1:(m.length:Int) = rows) (h2:1≤rows) (h3:rows≤4) (h4:2≤signs) (h5:signs≤4)
  (h:∀ r∈m,(r.length:Int) = signs∧∀ e∈r,entryOk rows signs e = true):isM m = true:=by
 cases m with
 | nil=>simp at h1; omega
 | cons r0 m' =>
  have h0:=(h r0 (by simp)).1
  refine isM_mk (by omega) (by omega) (by omega) fun r hr=>⟨by have:=(h r hr).1; omega,?_⟩
  unfold okAll
  rw [h1,h0]
  exact List.all_eq_true.2 (h r hr).2
theorem ok_l_machine (T:Tx K mg a):FnOk P w K mg base CX0 2 a.l_machine a.l_machine_d ["_law_purse_here","_law_rows","_law_signs"] (sp_machine):=by
 have G_l_draw:=ok_l_draw (P:=P) (w:=w) (base:=base) T
 refine T.f_l_machine.ok sc_l_machine (fun vs H Q E h=>?_) (fun cdv A outer s H vs Q E hr h=>?_)
 ·unfold sp_machine at h
  split at h
  ·rfl
  ·exact h.elim
 ·unfold sp_machine at h
  split at h
  ·have nd:=sc_l_machine.nd
   have hu:=hu_of hr
   rename_i pp rows signs
   obtain⟨n,k,hp,⟨hr1,hr4⟩,⟨hs2,hs4⟩,h⟩:=h
   have P0:Pu pp k H H:=Pu.refl ⟨n,hp⟩
   have e0:=hp
   refine⟨_,(pss_cons (ps_set (i:=3) nd rfl (by walk_at "o") (pe_lst pa_nil))
  (pss_cons (ps_set (i:=4) nd rfl (by walk_at "o") (pe_ix (q_ixLK (K:=K) rfl) (pe_lst (pa_cons pe_int (pa_cons pe_int (pa_cons pe_int pa_nil)))) (pe_call G_l_draw (hr.mono (by decide)) rfl T.g_l_draw T.f_l_draw.kp T.b_l_draw .nil pass0 (pa_cons (qv 0) (pa_cons pe_int pa_nil))) (fun _ _=>rfl)))
  (pss_cons (ps_for PassesOwn.never rfl (qi_range1 rfl T.z_range (pa_cons (qv 1) pa_nil)) (pg_name (i:=5) nd rfl (by walk_at "o")) (pss_cons (ps_set (i:=6) nd rfl (by walk_at "o") (pe_lst pa_nil))
    (pss_cons (ps_for PassesOwn.never rfl (qi_range1 rfl T.z_range (pa_cons (qv 2) pa_nil)) (pg_name (i:=7) nd rfl (by walk_at "o")) (pss_cons (ps_set (i:=8) nd rfl (by walk_at "o") (pe_tup (pa_cons (pe_call G_l_draw (hr.mono (by decide)) rfl T.g_l_draw T.f_l_draw.kp T.b_l_draw .nil pass0 (pa_cons (qv 0) (pa_cons (qv 2) pa_nil))) (pa_cons (pe_op q_sub (pe_op q_mul pe_int (pe_call G_l_draw (hr.mono (by decide)) rfl T.g_l_draw T.f_l_draw.kp T.b_l_draw .nil pass0 (pa_cons (qv 0) (pa_cons pe_int pa_nil)))) pe_int) (pa_cons (pe_call G_l_draw (hr.mono (by decide)) rfl T.g_l_draw T.f_l_draw.kp T.b_l_draw .nil pass0 (pa_cons (qv 0) (pa_cons (qv 1) pa_nil))) pa_nil)))))
      (pss_cons (ps_c (pt_c q_eq (pe_call G_l_draw (hr.mono (by decide)) rfl T.g_l_draw T.f_l_draw.kp T.b_l_draw .nil pass0 (pa_cons (qv 0) (pa_cons (qv 4) pa_nil))) pe_int) (pss_one (ps_set (i:=8) nd rfl (by walk_at "o") (pe_tup pa_nil))) pss_nil)
      (pss_one (ps_expr (pe_bm PySem.F.plainAttrs_list PySem.F.slot_list_append PySem.F.type_list_append q_app (qv 6) (pa_cons (qv 8) pa_nil)))))))
    (pss_one (ps_expr (pe_bm PySem.F.plainAttrs_list PySem.F.slot_list_append PySem.F.type_list_append q_app (qv 3) (pa_cons (qv 6) pa_nil)))))))
  (pss_one (ps_ret (qv 3)))))),?_⟩
   have P1:=P0
   have e1:=e0
   refine⟨by show 0≤sizeLine; decide,?_⟩
   intro p4 n4
   generalize hU4:upd _ p4 _ = H4
   have S4:=(upd_sub n4 hU4).1
   have e4:=(upd_sub n4 hU4).2
   clear hU4
   have P4:=P1.sub S4
   have nf:H p4 = none:=P0.free n4
   have hp4:=e4
   have e4:=S4 _ _ e1
   refine⟨by show 3≤sizeLine; decide,?_⟩
   intro p2 n2
   generalize hU2:upd _ p2 _ = H2
   have S2:=(upd_sub n2 hU2).1
   have e2:=(upd_sub n2 hU2).2
   clear hU2
   have P2:=P4.sub S2
   have hp2:H2 p2 = some (.lst (([2,5,12]:List Int).map V.int)):=e2
   have hp4:=S2 _ _ hp4
   have e2:=S2 _ _ e4
   have np24:p2≠pp:=by rintro rfl; rw [e4] at n2; cases n2
   have np4:p4≠pp:=by rintro rfl; rw [e1] at n4; cases n4
   walk_at "w"
   refine⟨by decide,_,_,e2,fun d3 n3 d30 d31=>?_⟩
   have P3:=P2.draw n3
   have Q3:=Pu.of_draw n3 e2
   generalize hg3:upd _ pp _ = H3 at P3 Q3 ⊢
   have e3:H3 pp = some (.lst [.int n3,.int k]):=by rw [← hg3]; exact upd_same
   clear hg3
   walk_at "w"
   have hp3:=Q3.keep _ _ np24 hp2
   have hq3:=Q3.keep _ _ np4 hp4
   obtain⟨y3,hy3,y30,y31⟩:∃ y:Int,atI (([2,5,12]:List Int).map V.int) d3 = some (.int y)∧0 < y∧y≤12:=by
    have:d3 = 0∨d3 = 1∨d3 = 2:=by omega
    rcases this with rfl | rfl | rfl
    ·exact⟨2,rfl,by decide,by decide⟩
    ·exact⟨5,rfl,by decide,by decide⟩
    ·exact⟨12,rfl,by decide,by decide⟩
   refine⟨_,_,SqL.of hp3,hy3,?_⟩
   refine⟨⟨by omega,by omega⟩,?_⟩
   refine for_range (lo:=0) (n:=rows.toNat) (fun i σ H5=>∃ (v5 v6 v7 v8:Option V) (rs:List Addr) (m:Ma),σ = [some (.ref pp),some (.int rows),some (.int signs),some (.ref p4),some (.int y3),v5,v6,v7,v8]∧Pu pp k H H5∧MaR H5 p4 rs m∧m.length = i∧(∀ r∈rs,H r = none)∧∀ r∈m,(r.length:Int) = signs∧∀ e∈r,entryOk rows signs e = true) ?_ ?_ ?_
   ·exact⟨none,none,none,none,[],[],rfl,P3,⟨hq3,by simp,.nil⟩,rfl,by simp,by simp⟩
   ·rintro i σ H5 hi ⟨v5,v6,v7,v8,rs,m,rfl,P5,hm,hml,hrs,hme⟩
    refine⟨by show 0≤sizeLine; decide,?_⟩
    intro p6 n6
    generalize hU6:upd _ p6 _ = H6
    have S6:=(upd_sub n6 hU6).1
    have e6:=(upd_sub n6 hU6).2
    clear hU6
    have P6:=P5.sub S6
    have hm6:=hm.stay (.sub S6)
    have nr:H p6 = none:=P5.free n6
    have nrs:p6 ∉ rs:=hm.out n6
    have npf:p6≠p4:=hm.outp n6
    refine⟨⟨by omega,by omega⟩,?_⟩
    refine for_range (lo:=0) (n:=signs.toNat) (fun j σ H7=>∃ (v7 v8:Option V) (as:List Addr) (es:List En),σ = [some (.ref pp),some (.int rows),some (.int signs),some (.ref p4),some (.int y3),some (.int (0 + i)),some (.ref p6),v7,v8]∧Pu pp k H H7∧MaR H7 p4 rs m∧RowA H7 p6 as es∧es.length = j∧∀ e∈es,entryOk rows signs e = true) ?_ ?_ ?_
    ·exact⟨v7,v8,[],[],rfl,P6,hm6,⟨e6,.nil⟩,rfl,by simp⟩
    ·rintro j σ H7 hj ⟨v7,v8,as,es,rfl,P7,hm7,hr7,hel,hes⟩
     have hj:j < signs.toNat:=hj
     obtain⟨n7,e7⟩:=P7.has
     walk_at "w"
     refine⟨small_log (by omega) (by omega),_,_,e7,fun d8 n8 d80 d81=>?_⟩
     have P8:=P7.draw n8
     have Q8:=Pu.of_draw n8 e7
     generalize hg8:upd _ pp _ = H8 at P8 Q8 ⊢
     have e8:H8 pp = some (.lst [.int n8,.int k]):=by rw [← hg8]; exact upd_same
     clear hg8
     walk_at "w"
     refine⟨by decide,_,_,e8,fun d9 n9 d90 d91=>?_⟩
     have P9:=P8.draw n9
     have Q9:=Pu.of_draw n9 e8
     generalize hg9:upd _ pp _ = H9 at P9 Q9 ⊢
     have e9:H9 pp = some (.lst [.int n9,.int k]):=by rw [← hg9]; exact upd_same
     clear hg9
     walk_at "w"
     refine⟨.inl ⟨by omega,by omega⟩,fun m9 hm9 _=>?_⟩
     have hm9:m9 = 2 * d9:=hm9
     walk_at "w"
     refine⟨small_log (by omega) (by omega),_,_,e9,fun d10 n10 d100 d101=>?_⟩
     have P10:=P9.draw n10
     have Q10:=Pu.of_draw n10 e9
     generalize hg10:upd _ pp _ = H10 at P10 Q10 ⊢
     have e10:H10 pp = some (.lst [.int n10,.int k]):=by rw [← hg10]; exact upd_same
     clear hg10
     walk_at "w"
     refine⟨by show 3≤sizeLine; decide,?_⟩
     intro p11 n11
     generalize hU11:upd _ p11 _ = H11
     have S11:=(upd_sub n11 hU11).1
     have e11:=(upd_sub n11 hU11).2
     clear hU11
     have P11:=P10.sub S11
     have E11:Ent H11 p11 [d8,m9 - 1,d10]:=e11
     have st11:Stay H7 H11:=⟨fun a xs z=>S11 _ _ (((Q8.trans Q9).trans Q10).stay.tup a xs z),fun a xs z=>S11 _ _ (((Q8.trans Q9).trans Q10).stay.refs a xs z)⟩
     have hr11:=hr7.stay st11
     have hm11:=hm7.stay st11
     have ok11:entryOk rows signs [d8,m9 - 1,d10] = true:=by
      show ((decide (0≤d8) && decide (d8 < signs)) && (decide (m9 - 1 = -1) || decide (m9 - 1 = 1)) && (decide (0≤d10) && decide (d10 < rows))) = true
      have:m9 - 1 = -1∨m9 - 1 = 1:=by omega
      simp [d80,d81,d100,d101,this]
     obtain⟨n11,f11⟩:=P11.has
     have e11:=f11
     walk_at "w"
     refine⟨small_log (by omega) (by omega),_,_,e11,fun d13 n13 d130 d131=>?_⟩
     have P13:=P11.draw n13
     have Q13:=Pu.of_draw n13 e11
     generalize hg13:upd _ pp _ = H13 at P13 Q13 ⊢
     have e13:H13 pp = some (.lst [.int n13,.int k]):=by rw [← hg13]; exact upd_same
     clear hg13
     walk_at "w"
     have st13:Stay H11 H13:=(Q13:Pu pp k H11 H13).stay
     have hr13:=hr11.stay st13
     have hm13:=hm11.stay st13
     have E13:=E11.stay st13
     refine ifB.mk (fun hz=>?_) (fun hz=>?_)
     ·walk_at "w"
      refine⟨by show 0≤sizeLine; decide,?_⟩
      intro p14 n14
      generalize hU14:upd _ p14 _ = H14
      have S14:=(upd_sub n14 hU14).1
      have e14:=(upd_sub n14 hU14).2
      clear hU14
      have P14:=P13.sub S14
      have hr14:=hr13.stay (.sub S14)
      have hm14:=hm13.stay (.sub S14)
      have E14:Ent H14 p14 []:=e14
      refine⟨.inl ⟨rfl,_,SqL.of hr14.1⟩,?_⟩
      refine⟨_,hr14.1,?_,_,_,as ++ [p14],es ++ [[]],rfl,P14.set nr,hm14.other hr14.1 npf nrs,hr14.app' E14,by simp [hel],?_⟩
      ·rw [List.length_map,hr14.2.1,hel]; exact Nat.lt_of_lt_of_le hj (Nat.le_trans (show signs.toNat≤4 by omega) (by decide))
      ·intro y hy
       rcases List.mem_append.1 hy with hy | hy
       ·exact hes y hy
       ·rw [List.mem_singleton.1 hy]; rfl
     ·walk_at "w"
      refine⟨.inl ⟨rfl,_,SqL.of hr13.1⟩,?_⟩
      refine⟨_,hr13.1,?_,_,_,as ++ [p11],es ++ [[d8,m9 - 1,d10]],rfl,P13.set nr,hm13.other hr13.1 npf nrs,hr13.app' E13,by simp [hel],?_⟩
      ·rw [List.length_map,hr13.2.1,hel]; exact Nat.lt_of_lt_of_le hj (Nat.le_trans (show signs.toNat≤4 by omega) (by decide))
      ·intro y hy
       rcases List.mem_append.1 hy with hy | hy
       ·exact hes y hy
       ·rw [List.mem_singleton.1 hy]; exact ok11
    ·rintro σ H7 ⟨v7,v8,as,es,rfl,P7,hm7,hr7,hel,hes⟩
     refine⟨.inl ⟨rfl,_,SqL.of hm7.1⟩,?_⟩
     refine⟨_,hm7.1,?_,_,_,_,_,rs ++ [p6],m ++ [es],rfl,P7.set nf,hm7.app' ⟨as,hr7⟩ nrs npf,by simp [hml],?_,?_⟩
     ·rw [List.length_map,hm7.2.2.1,hml]; exact Nat.lt_trans hi (Nat.lt_of_le_of_lt (show rows.toNat≤4 by omega) (by decide))
     ·intro r hr
      rcases List.mem_append.1 hr with hr | hr
      ·exact hrs r hr
      ·rw [List.mem_singleton.1 hr]; exact nr
     ·intro r hr
      rcases List.mem_append.1 hr with hr | hr
      ·exact hme r hr
      ·rw [List.mem_singleton.1 hr]; exact⟨by rw [hel]; omega,hes⟩
   ·rintro σ H5 ⟨v5,v6,v7,v8,rs,m,rfl,P5,hm,hml,hrs,hme⟩
    walk_at "w"
    refine h p4 m H5 P5 nf ⟨rs,hm⟩ (isM_of (rows:=rows) (signs:=signs) (by omega) (by omega) (by omega) (by omega) (by omega) hme) (by omega) ?_
    cases m with
    | nil=>simp at hml; omega
    | cons r m=>have:=(hme r (List.mem_cons_self ..)).1; show (r.length:Int) = signs; omega
  ·exact h.elim
theorem sc_l_asked_by:FnScope ["_law_machine_here","_law_middle","_law_lefts","_law_rights","_law_left","_law_row","_law_sign","_law_right","_law_entry","_law_put","_law_way","_law_goes","_law_word_here"] ["_law_machine_here","_law_middle","_law_lefts","_law_rights"] (defScope s_l_asked_by):=⟨rfl,rfl,rfl,by decide +kernel,rfl,by decide +kernel,by decide +kernel⟩
def askL (L R:List Wd) (d:Md):En→Str × Wd × List Md
 | [put,way,after]=>if way = 1 then ("left",nlW d put,(R.filter fun w=>decide (w.dropLast = d.2.2.2.drop 1)).map fun w=>(nlW d put,after,d.2.2.2.headD 0,w)) else ("right",nrW d put,(L.filter fun w=>decide (w.drop 1 = d.1.dropLast)).map fun w=>(w,after,d.1.getLastD 0,nrW d put))
 | _=>("",[],[])
def sp_asked_by:Sp:=fun vs H Q _=>match vs with
 | [.ref t,.ref a,.ref pl,.ref pr]=>∃ (m:Ma) (d:Md) (L R:List Wd),Mach H t m∧isM m = true∧MdA H a d∧(0≤d.2.1∧d.2.1 < m.length)∧(0≤d.2.2.1∧d.2.2.1 < sgn m)∧d.1≠[]∧d.2.2.2≠[]∧d.1.length≤100∧d.2.2.2.length≤100 ∧
   WL H pl L∧WL H pr R∧L.length≤2000000∧R.length≤2000000∧(∀ w∈L ++ R,w≠[]) ∧
   (enA m d.2.1 d.2.2.1 = []→∀ H',Sub H H'→Q .non H') ∧
   (enA m d.2.1 d.2.2.1≠[]→∀ (q aw l3:Addr) (H':Hp),Sub H H'→H' q = some (.tup [.str (askL L R d (enA m d.2.1 d.2.2.1)).1,.ref aw,.ref l3])→WdA H' aw (askL L R d (enA m d.2.1 d.2.2.1)).2.1→ML H' l3 (askL L R d (enA m d.2.1 d.2.2.1)).2.2→H l3 = none→Q (.ref q) H')
 | _=>False
theorem ok_l_asked_by (T:Tx K mg a):FnOk P w K mg base CX0 1 a.l_asked_by a.l_asked_by_d ["_law_machine_here","_law_middle","_law_lefts","_law_rights"] (sp_asked_by):=by
 refine T.f_l_asked_by.ok sc_l_asked_by (fun vs H Q E h=>?_) (fun cdv A outer s H vs Q E hr h=>?_)
 ·unfold sp_asked_by at h
  split at h
  ·rfl
  ·exact h.elim
 ·unfold sp_asked_by at h
  split at h
  ·have nd:=sc_l_asked_by.nd
   have hu:=hu_of hr
   rename_i t a' pl pr
   obtain⟨m,d,L,R,hm,hM,⟨al,ar,hd,hl,hr'⟩,⟨r0,r1⟩,⟨s0,s1⟩,hn1,hn2,hb1,hb2,⟨asL,WL',BL⟩,⟨asR,WR,BR⟩,lL,lR,hne',hnone,h⟩:=h
   have M:=OkM.of hM
   obtain⟨vs,p,as,es,h1,h2,h3,h4,h5⟩:=mach_row hm r0 r1
   have hel:=M.len es (List.mem_of_getElem? h5)
   obtain⟨c,e,h6,h7,h8⟩:=all2_atI h4 s0 (by rw [hel]; exact s1)
   have hen:enA m d.2.1 d.2.2.1 = e:=by unfold enA; rw [h5,Option.bind_some,h7]; rfl
   rw [hen] at h hnone
   refine⟨_,(pss_cons (ps_asg (qv 1) (qg_tupK (K:=K) (n:=4) rfl rfl (qgs_cons (pg_name (i:=4) nd rfl (by walk_at "o")) (qgs_cons (pg_name (i:=5) nd rfl (by walk_at "o")) (qgs_cons (pg_name (i:=6) nd rfl (by walk_at "o")) (qgs_cons (pg_name (i:=7) nd rfl (by walk_at "o")) qgs_nil))))))
  (pss_cons (ps_set (i:=8) nd rfl (by walk_at "o") (pe_ix (q_ixLK (K:=K) rfl) (pe_ix (q_ixLK (K:=K) rfl) (qv 0) (qv 5) (fun _ _=>rfl)) (qv 6) (fun _ _=>rfl)))
  (pss_cons (ps_c (pt_c (op_eqD hr) (qv 8) (pe_tup pa_nil)) (pss_one (ps_ret pe_non)) pss_nil)
  (pss_cons (ps_asg (qv 8) (qg_tupK (K:=K) (n:=3) rfl rfl (qgs_cons (pg_name (i:=9) nd rfl (by walk_at "o")) (qgs_cons (pg_name (i:=10) nd rfl (by walk_at "o")) (qgs_cons (pg_name (i:=11) nd rfl (by walk_at "o")) qgs_nil)))))
  (pss_cons (ps_c (pt_c q_eq (qv 10) pe_int) (pss_cons (ps_set (i:=12) nd rfl (by walk_at "o") (pe_cut (pe_op (q_catUK (K:=K) rfl) (pe_slice (q_slTK (K:=K) rfl) (qv 4) (qo_some pe_int) po_none) (pe_tup (pa_cons (qv 9) pa_nil)))))
    (pss_one (ps_ret (pe_tup (pa_cons pe_str (pa_cons (qv 12) (pa_cons (pe_lc (own:=["_law_one"]) (fr:=[12,11,7]) rfl (by walk_at "comp_ok") (qi_listK (K:=K) rfl (qv 3)) (fun _ _ _ _=>(pg_name (i:=0) (show List.Nodup (α:=Str) ["_law_one","_law_word_here","_law_goes","_law_right"] from by decide +kernel) rfl (by walk_at "o"))) (fun _ _ _ _=>(pts_one (pt_c (op_eqD hr) (pe_slice (q_slTK (K:=K) rfl) (qv 0) po_none (qo_some (pe_un q_neg pe_int))) (pe_slice (q_slTK (K:=K) rfl) (qv 3) (qo_some pe_int) po_none)))) (fun _ _ _ _=>(pe_tup (pa_cons (qv 1) (pa_cons (qv 2) (pa_cons (pe_ix (q_ixTK (K:=K) rfl) (qv 3) pe_int (fun _ _=>rfl)) (pa_cons (qv 0) pa_nil))))))) pa_nil))))))) pss_nil)
  (pss_cons (ps_set (i:=12) nd rfl (by walk_at "o") (pe_cut (pe_op (q_catUK (K:=K) rfl) (pe_tup (pa_cons (qv 9) pa_nil)) (pe_slice (q_slTK (K:=K) rfl) (qv 7) po_none (qo_some (pe_un q_neg pe_int))))))
  (pss_one (ps_ret (pe_tup (pa_cons pe_str (pa_cons (qv 12) (pa_cons (pe_lc (own:=["_law_one"]) (fr:=[11,4,12]) rfl (by walk_at "comp_ok") (qi_listK (K:=K) rfl (qv 2)) (fun _ _ _ _=>(pg_name (i:=0) (show List.Nodup (α:=Str) ["_law_one","_law_goes","_law_left","_law_word_here"] from by decide +kernel) rfl (by walk_at "o"))) (fun _ _ _ _=>(pts_one (pt_c (op_eqD hr) (pe_slice (q_slTK (K:=K) rfl) (qv 0) (qo_some pe_int) po_none) (pe_slice (q_slTK (K:=K) rfl) (qv 2) po_none (qo_some (pe_un q_neg pe_int)))))) (fun _ _ _ _=>(pe_tup (pa_cons (qv 0) (pa_cons (qv 1) (pa_cons (pe_ix (q_ixTK (K:=K) rfl) (qv 2) (pe_un q_neg pe_int) (fun _ _=>rfl)) (pa_cons (qv 3) pa_nil))))))) pa_nil)))))))))))),?_⟩
   refine⟨_,SqT.of hd,rfl,?_⟩
   refine⟨_,_,SqL.of h1,h2,?_⟩
   refine⟨_,_,SqL.of h3,h6,?_⟩
   refine⟨by show 0≤sizeLine; decide,?_⟩
   intro p0 n0
   generalize hU0:upd _ p0 _ = H0
   have S0:=(upd_sub n0 hU0).1
   have e0:=(upd_sub n0 hU0).2
   clear hU0
   refine⟨_,_,Ent.den (show Ent H0 c e from S0 _ _ h8),(by rw [Den]; exact⟨_,_,rfl,e0,rfl⟩:Den H0 (.ref p0) (.tup [])),dE_dep e,?_⟩
   rw [dE_nil]
   clear e0
   walk_at "w"
   refine ifB.dec (fun c0=>?_) (fun c0=>?_)
   ·exact hnone c0 _ S0
   obtain⟨put,way,after,he3,a0,a1,a2,a3,a4⟩:=entryOk_three (M.ent es (List.mem_of_getElem? h5) e (List.mem_of_getElem? h7)) c0
   have h:=h c0
   subst he3
   refine⟨_,SqT.of (S0 _ _ h8),rfl,?_⟩
   walk_at "w"
   refine ifB.dec (fun c=>?_) (fun c=>?_)
   ·have hask:askL L R d [put,way,after] = (("left":Str),nlW d put,(R.filter fun w=>decide (w.dropLast = d.2.2.2.drop 1)).map fun w=>(nlW d put,after,d.2.2.2.headD 0,w)):=by show (if way = 1 then _ else _) = _; rw [if_pos c]
    rw [hask] at h
    refine⟨fun v H'=>∃ q,v = .ref q∧Sub H H'∧WdA H' q (nlW d put),?_,?_⟩
    ·walk_at "w"
     refine⟨_,SqT.of (S0 _ _ hl),(cut_tail hn1).2,?_⟩
     rw [(cut_tail hn1).1]
     intro p1 n1
     generalize hU1:upd _ p1 _ = H1
     have S1:=(upd_sub n1 hU1).1
     have e1:=(upd_sub n1 hU1).2
     clear hU1
     refine⟨by show 1≤sizeLine; decide,?_⟩
     intro p2 n2
     generalize hU2:upd _ p2 _ = H2
     have S2:=(upd_sub n2 hU2).1
     have e2:=(upd_sub n2 hU2).2
     clear hU2
     have S12:=(S0.trans S1).trans S2
     refine⟨_,_,SqT.of (S2 _ _ e1),SqT.of e2,?_,fun z=>?_,fun _ z=>(by cases z),fun z _=>?_⟩
     ·rw [List.length_map,List.length_drop]; exact Nat.le_trans (show d.1.length - 1 + 1≤200 by omega) (by decide)
     ·refine⟨p2,rfl,S12,?_⟩
      unfold WdA nlW
      rw [List.map_append,z]
      exact e2
     ·skip
      intro p3 n3
      generalize hU3:upd _ p3 _ = H3
      have S3:=(upd_sub n3 hU3).1
      have e3:=(upd_sub n3 hU3).2
      clear hU3
      refine⟨p3,rfl,S12.trans S3,?_⟩
      unfold WdA nlW
      rw [List.map_append]
      exact e3
    rintro v H1 ⟨nl,rfl,S1,hnl⟩
    refine⟨⟨_,SqL.of (S1 _ _ WR)⟩,?_⟩
    intro p7 n7
    refine comp_list (K:=K) (a:=pr) (xs:=asR.map V.ref) (fun i σ H7=>∃ (v:Option V) (as3:List Addr),σ = [v,some (.ref nl),some (.int after),some (.ref ar)]∧Sub H1 H7∧H7 p7 = some (.lst (as3.map V.ref))∧as3.length≤i∧All2 (MdA H7) as3 (((R.take i).filter fun w=>decide (w.dropLast = d.2.2.2.drop 1)).map fun w=>(nlW d put,after,d.2.2.2.headD 0,w))) ?_ ?_ ?_ ?_
    ·exact⟨none,[],rfl,Sub.new n7,upd_same,Nat.le_refl _,.nil⟩
    ·rintro i σ H7 _ ⟨v,as3,rfl,S7,_⟩
     exact SqL.of (S7 _ _ (S1 _ _ WR))
    ·rintro i x σ H7 hi ⟨v,as3,rfl,S7,g7,l7,A7⟩
     have hil:i < asR.length:=by have:=(List.getElem?_eq_some_iff.1 hi).1; rwa [List.length_map] at this
     rw [List.getElem?_map] at hi
     obtain⟨c,hc,rfl⟩:=Option.map_eq_some_iff.1 hi
     obtain⟨w',hw',hcw⟩:=BR.at hc
     have hwn:=hne' w' (List.mem_append_right _ (List.mem_of_getElem? hw'))
     have hcw:=hcw.sub (S1.trans S7)
     have htk:(R.take (i + 1)).filter (fun w=>decide (w.dropLast = d.2.2.2.drop 1)) = (R.take i).filter (fun w=>decide (w.dropLast = d.2.2.2.drop 1)) ++ [w'].filter (fun w=>decide (w.dropLast = d.2.2.2.drop 1)):=by
      rw [List.take_add_one,hw',List.filter_append]; rfl
     have hil2:i < 2000000:=by have:=BR.1; omega
     refine⟨_,SqT.of hcw,(cut_init hwn).2,?_⟩
     rw [(cut_init hwn).1]
     intro p8 n8
     generalize hU8:upd _ p8 _ = H8
     have S8:=(upd_sub n8 hU8).1
     have e8:=(upd_sub n8 hU8).2
     clear hU8
     refine⟨_,SqT.of (S8 _ _ ((S1.trans S7) _ _ hr')),(cut_tail hn2).2,?_⟩
     rw [(cut_tail hn2).1]
     intro p9 n9
     generalize hU9:upd _ p9 _ = H9
     have S9:=(upd_sub n9 hU9).1
     have e9:=(upd_sub n9 hU9).2
     clear hU9
     refine⟨_,_,Ent.den (show Ent H9 p8 (w'.dropLast) from S9 _ _ e8),Ent.den (show Ent H9 p9 (d.2.2.2.drop 1) from e9),dE_dep _,?_⟩
     rw [eqD_ee]
     have S79:=S8.trans S9
     clear e8 e9
     have g7:=S79 _ _ g7
     have hcw:=hcw.sub S79
     have A7:=A7.mono fun _ _ _ z=>MdA.sub S79 z
     have S7:=S7.trans S79
     have T7:=S1.trans S7
     have T17:=S7
     by_cases cz:w'.dropLast = d.2.2.2.drop 1
     ·refine ite_yes cz ?_
      rw [List.filter_cons_of_pos (by simpa using cz)] at htk
      refine⟨_,_,SqT.of (T7 _ _ hr'),atI_first hn2,?_⟩
      refine⟨by show 4≤sizeLine; decide,?_⟩
      intro p8 n8
      generalize hU8:upd _ p8 _ = H8
      have S8:=(upd_sub n8 hU8).1
      have e8:=(upd_sub n8 hU8).2
      clear hU8
      have g8:=S8 _ _ g7
      have kt:∀ a us,H8 a = some (.tup us)→(upd H8 p7 (.lst (as3.map V.ref ++ [V.ref p8]))) a = some (.tup us):=fun a us e=>by
       rw [upd_ne (by rintro rfl; rw [g8] at e; cases e)]; exact e
      refine⟨_,g8,by rw [List.length_map]; exact Nat.lt_of_le_of_lt (show as3.length≤2000000 by omega) (by decide),_,as3 ++ [p8],rfl,(S7.trans S8).upd n7,by rw [upd_same,List.map_append]; rfl,by rw [List.length_append]; exact Nat.succ_le_succ l7,?_⟩
      rw [htk,List.map_append]
      exact (A7.mono fun _ _ _ z=>(z.sub S8).tup kt).app (show MdA _ p8 (nlW d put,after,d.2.2.2.headD 0,w') from ⟨nl,c,kt _ _ e8,kt _ _ (S8 _ _ (T17 _ _ hnl)),kt _ _ (S8 _ _ hcw)⟩)
     ·refine ite_not cz ?_
      rw [List.filter_cons_of_neg (by simpa using cz),List.filter_nil,List.append_nil] at htk
      refine⟨_,as3,rfl,S7,g7,by omega,?_⟩
      rw [htk]
      exact A7
    ·rintro σ H7 ⟨v,as3,rfl,S7,g7,l7,A7⟩
     rw [List.length_map,BR.1,List.take_length] at A7
     refine⟨by show 3≤sizeLine; decide,?_⟩
     intro p8 n8
     generalize hU8:upd _ p8 _ = H8
     have S8:=(upd_sub n8 hU8).1
     have e8:=(upd_sub n8 hU8).2
     clear hU8
     exact h p8 _ _ H8 ((S1.trans S7).trans S8) e8 (S8 _ _ (S7 _ _ hnl)) ⟨as3,S8 _ _ g7,A7.mono fun _ _ _ z=>z.sub S8⟩ (S1.free n7)
   ·have hask:askL L R d [put,way,after] = (("right":Str),nrW d put,(L.filter fun w=>decide (w.drop 1 = d.1.dropLast)).map fun w=>(w,after,d.1.getLastD 0,nrW d put)):=by show (if way = 1 then _ else _) = _; rw [if_neg c]
    rw [hask] at h
    refine⟨fun v H'=>∃ q,v = .ref q∧Sub H H'∧WdA H' q (nrW d put),?_,?_⟩
    ·walk_at "w"
     refine⟨by show 1≤sizeLine; decide,?_⟩
     intro p1 n1
     generalize hU1:upd _ p1 _ = H1
     have S1:=(upd_sub n1 hU1).1
     have e1:=(upd_sub n1 hU1).2
     clear hU1
     refine⟨_,SqT.of (S1 _ _ (S0 _ _ hr')),(cut_init hn2).2,?_⟩
     rw [(cut_init hn2).1]
     intro p2 n2
     generalize hU2:upd _ p2 _ = H2
     have S2:=(upd_sub n2 hU2).1
     have e2:=(upd_sub n2 hU2).2
     clear hU2
     have S12:=(S0.trans S1).trans S2
     refine⟨_,_,SqT.of (S2 _ _ e1),SqT.of e2,?_,fun z=>(by cases z),fun _ z=>?_,fun _ z=>?_⟩
     ·rw [List.length_map,List.length_dropLast]; exact Nat.le_trans (show 1 + (d.2.2.2.length - 1)≤200 by omega) (by decide)
     ·refine⟨p1,rfl,S12,?_⟩
      unfold WdA nrW
      rw [List.map_cons,z]
      exact S2 _ _ e1
     ·skip
      intro p3 n3
      generalize hU3:upd _ p3 _ = H3
      have S3:=(upd_sub n3 hU3).1
      have e3:=(upd_sub n3 hU3).2
      clear hU3
      exact⟨p3,rfl,S12.trans S3,e3⟩
    rintro v H1 ⟨nr,rfl,S1,hnr⟩
    refine⟨⟨_,SqL.of (S1 _ _ WL')⟩,?_⟩
    intro p7 n7
    refine comp_list (K:=K) (a:=pl) (xs:=asL.map V.ref) (fun i σ H7=>∃ (v:Option V) (as3:List Addr),σ = [v,some (.int after),some (.ref al),some (.ref nr)]∧Sub H1 H7∧H7 p7 = some (.lst (as3.map V.ref))∧as3.length≤i∧All2 (MdA H7) as3 (((L.take i).filter fun w=>decide (w.drop 1 = d.1.dropLast)).map fun w=>(w,after,d.1.getLastD 0,nrW d put))) ?_ ?_ ?_ ?_
    ·exact⟨none,[],rfl,Sub.new n7,upd_same,Nat.le_refl _,.nil⟩
    ·rintro i σ H7 _ ⟨v,as3,rfl,S7,_⟩
     exact SqL.of (S7 _ _ (S1 _ _ WL'))
    ·rintro i x σ H7 hi ⟨v,as3,rfl,S7,g7,l7,A7⟩
     have hil:i < asL.length:=by have:=(List.getElem?_eq_some_iff.1 hi).1; rwa [List.length_map] at this
     rw [List.getElem?_map] at hi
     obtain⟨c,hc,rfl⟩:=Option.map_eq_some_iff.1 hi
     obtain⟨w',hw',hcw⟩:=BL.at hc
     have hwn:=hne' w' (List.mem_append_left _ (List.mem_of_getElem? hw'))
     have hcw:=hcw.sub (S1.trans S7)
     have htk:(L.take (i + 1)).filter (fun w=>decide (w.drop 1 = d.1.dropLast)) = (L.take i).filter (fun w=>decide (w.drop 1 = d.1.dropLast)) ++ [w'].filter (fun w=>decide (w.drop 1 = d.1.dropLast)):=by
      rw [List.take_add_one,hw',List.filter_append]; rfl
     have hil2:i < 2000000:=by have:=BL.1; omega
     refine⟨_,SqT.of hcw,(cut_tail hwn).2,?_⟩
     rw [(cut_tail hwn).1]
     intro p8 n8
     generalize hU8:upd _ p8 _ = H8
     have S8:=(upd_sub n8 hU8).1
     have e8:=(upd_sub n8 hU8).2
     clear hU8
     refine⟨_,SqT.of (S8 _ _ ((S1.trans S7) _ _ hl)),(cut_init hn1).2,?_⟩
     rw [(cut_init hn1).1]
     intro p9 n9
     generalize hU9:upd _ p9 _ = H9
     have S9:=(upd_sub n9 hU9).1
     have e9:=(upd_sub n9 hU9).2
     clear hU9
     refine⟨_,_,Ent.den (show Ent H9 p8 (w'.drop 1) from S9 _ _ e8),Ent.den (show Ent H9 p9 (d.1.dropLast) from e9),dE_dep _,?_⟩
     rw [eqD_ee]
     have S79:=S8.trans S9
     clear e8 e9
     have g7:=S79 _ _ g7
     have hcw:=hcw.sub S79
     have A7:=A7.mono fun _ _ _ z=>MdA.sub S79 z
     have S7:=S7.trans S79
     have T7:=S1.trans S7
     have T17:=S7
     by_cases cz:w'.drop 1 = d.1.dropLast
     ·refine ite_yes cz ?_
      rw [List.filter_cons_of_pos (by simpa using cz)] at htk
      refine⟨_,_,SqT.of (T7 _ _ hl),atI_last hn1,?_⟩
      refine⟨by show 4≤sizeLine; decide,?_⟩
      intro p8 n8
      generalize hU8:upd _ p8 _ = H8
      have S8:=(upd_sub n8 hU8).1
      have e8:=(upd_sub n8 hU8).2
      clear hU8
      have g8:=S8 _ _ g7
      have kt:∀ a us,H8 a = some (.tup us)→(upd H8 p7 (.lst (as3.map V.ref ++ [V.ref p8]))) a = some (.tup us):=fun a us e=>by
       rw [upd_ne (by rintro rfl; rw [g8] at e; cases e)]; exact e
      refine⟨_,g8,by rw [List.length_map]; exact Nat.lt_of_le_of_lt (show as3.length≤2000000 by omega) (by decide),_,as3 ++ [p8],rfl,(S7.trans S8).upd n7,by rw [upd_same,List.map_append]; rfl,by rw [List.length_append]; exact Nat.succ_le_succ l7,?_⟩
      rw [htk,List.map_append]
      exact (A7.mono fun _ _ _ z=>(z.sub S8).tup kt).app (show MdA _ p8 (w',after,d.1.getLastD 0,nrW d put) from ⟨c,nr,kt _ _ e8,kt _ _ (S8 _ _ hcw),kt _ _ (S8 _ _ (T17 _ _ hnr))⟩)
     ·refine ite_not cz ?_
      rw [List.filter_cons_of_neg (by simpa using cz),List.filter_nil,List.append_nil] at htk
      refine⟨_,as3,rfl,S7,g7,by omega,?_⟩
      rw [htk]
      exact A7
    ·rintro σ H7 ⟨v,as3,rfl,S7,g7,l7,A7⟩
     rw [List.length_map,BL.1,List.take_length] at A7
     refine⟨by show 3≤sizeLine; decide,?_⟩
     intro p8 n8
     generalize hU8:upd _ p8 _ = H8
     have S8:=(upd_sub n8 hU8).1
     have e8:=(upd_sub n8 hU8).2
     clear hU8
     exact h p8 _ _ H8 ((S1.trans S7).trans S8) e8 (S8 _ _ (S7 _ _ hnr)) ⟨as3,S8 _ _ g7,A7.mono fun _ _ _ z=>z.sub S8⟩ (S1.free n7)
  ·exact h.elim
theorem sc_l_in:FnScope ["_law_some","_law_others"] ["_law_some","_law_others"] (defScope s_l_in):=⟨rfl,rfl,rfl,by decide +kernel,rfl,by decide +kernel,by decide +kernel⟩
def NL (H:Hp) (p:Addr) (ks:List NK):Prop:=∃ as:List Addr,H p = some (.lst (as.map V.ref))∧DenNs H ks (as.map V.ref)∧NK.depL ks≤7
theorem denNs_tup {H H':Hp} (S:∀ a us,H a = some (.tup us)→H' a = some (.tup us)) {ks:List NK} {vs:List V} (h:DenNs H ks vs) (hd:NK.depL ks≤7):DenNs H' ks vs:=denNs_mk (denNs_len h).symm fun i k v hk hv=>by
 obtain⟨k',hk',hdn⟩:=denNs_at h hv
 rw [hk] at hk'
 cases hk'
 exact DenN.mono S 7 k v (depL_at hd hk) hdn
theorem denNs_sub {H H':Hp} (S:Sub H H') {ks:List NK} {vs:List V} (h:DenNs H ks vs) (hd:NK.depL ks≤7):DenNs H' ks vs:=denNs_tup (fun a us e=>S _ _ e) h hd
theorem NL.sub {H H':Hp} (S:Sub H H') {p:Addr} {ks:List NK}:NL H p ks→NL H' p ks:=fun ⟨as,h1,h2,h3⟩=>⟨as,S _ _ h1,denNs_sub S h2 h3,h3⟩
theorem WL.nl {H:Hp} {p:Addr} {L:List Wd}:WL H p L→NL H p (L.map wK):=fun ⟨as,h1,h2⟩=>⟨as,h1,dens_all (fun _ _ z=>WdA.den z) h2,wKs_dep _⟩
theorem ML.nl {H:Hp} {p:Addr} {L:List Md}:ML H p L→NL H p (L.map mK):=fun ⟨as,h1,h2⟩=>⟨as,h1,dens_all (fun _ _ z=>MdA.den z) h2,mKs_dep _⟩
def sp_in:Sp:=fun vs H Q _=>match vs with
 | [.ref a,.ref b]=>∃ ks js:List NK,NL H a ks∧NL H b js∧(∀ k∈ks,k∈js)∧∀ H',Sub H H'→Q (.bl true) H'
 | _=>False
theorem ok_l_in (T:Tx K mg a):FnOk P w K mg base CX0 1 a.l_in a.l_in_d ["_law_some","_law_others"] (sp_in):=by
 refine T.f_l_in.ok sc_l_in (fun vs H Q E h=>?_) (fun cdv A outer s H vs Q E hr h=>?_)
 ·unfold sp_in at h
  split at h
  ·rfl
  ·exact h.elim
 ·unfold sp_in at h
  split at h
  ·have nd:=sc_l_in.nd
   have hu:=hu_of hr
   rename_i a' b'
   obtain⟨ks,js,⟨as,h1,A1,d1⟩,⟨bs,h2,A2,d2⟩,hin,h⟩:=h
   refine⟨_,(pss_one (ps_ret (pe_cmpR q_eq (pe_callB (q_lenK (K:=K) rfl) rfl T.z_len bt_len (pa_cons (pe_lc (own:=["_law_one"]) (fr:=[1]) rfl (by walk_at "comp_ok") (qi_listK (K:=K) rfl (qv 0)) (fun _ _ _ _=>(pg_name (i:=0) (show List.Nodup (α:=Str) ["_law_one","_law_others"] from by decide +kernel) rfl (by walk_at "o"))) (fun _ _ _ _=>(pts_one (pt_c (op_notInNL hr) (qv 0) (qv 1)))) (fun _ _ _ _=>(qv 0))) pa_nil)) pe_int (by first | exact nomark _ | rfl)))),?_⟩
   refine⟨⟨_,SqL.of h1⟩,?_⟩
   intro pc nc
   refine comp_list (K:=K) (a:=a') (xs:=as.map V.ref) (fun i σ H1=>∃ v,σ = [v,some (.ref b')]∧Sub H H1∧H1 pc = some (.lst [])) ?_ ?_ ?_ ?_
   ·exact⟨none,rfl,Sub.new nc,upd_same⟩
   ·rintro i σ H1 _ ⟨v,rfl,S1,e1⟩
    exact SqL.of (S1 _ _ h1)
   ·rintro i x σ H1 hi ⟨v,rfl,S1,e1⟩
    obtain⟨k,hk,hck⟩:=denNs_at A1 hi
    rw [List.getElem?_map] at hi
    obtain⟨c,hc,rfl⟩:=Option.map_eq_some_iff.1 hi
    refine⟨c,b',k,js,_,rfl,rfl,depL_at d1 hk,DenN.mono (fun a xs e=>S1 _ _ e) 7 k _ (depL_at d1 hk) hck,S1 _ _ h2,denNs_sub S1 A2 d2,d2,?_⟩
    have hm:decide (k∈js) = true:=decide_eq_true (hin k (List.mem_of_getElem? hk))
    rw [hm]
    exact⟨_,rfl,S1,e1⟩
   rintro σ H1 ⟨v,rfl,S1,e1⟩
   refine⟨_,.inl (SqL.of e1),?_⟩
   walk_at "w"
   exact h _ S1
  ·exact h.elim
theorem sc_l_within:FnScope ["_law_wide","_law_narrow","_law_near","_law_far","_law_cut"] ["_law_wide","_law_narrow"] (defScope s_l_within):=⟨rfl,rfl,rfl,by decide +kernel,rfl,by decide +kernel,by decide +kernel⟩
def sp_within:Sp:=fun vs H Q _=>match vs with
 | [.ref qw,.ref qn]=>∃ (wd wd':Str) (nw nn:Int) (lw rw mw l r ms:Addr) (Lw Rw L R:List Wd) (Mw Ms:List Md),H qw = some (.tup [.str wd,.int nw,.ref lw,.ref rw,.ref mw])∧H qn = some (.tup [.str wd',.int nn,.ref l,.ref r,.ref ms])∧WL H lw Lw∧WL H rw Rw∧ML H mw Mw∧WL H l L∧WL H r R∧ML H ms Ms ∧
   (∀ w∈Lw,w≠[]∧w.drop 1∈L∧w.dropLast∈L)∧(∀ w∈Rw,w≠[]∧w.drop 1∈R∧w.dropLast∈R)∧(∀ d∈Mw,d.1≠[]∧d.2.2.2≠[]∧(d.1.drop 1,d.2.1,d.2.2.1,d.2.2.2.dropLast)∈Ms)∧Lw.length≤5000∧Rw.length≤5000∧Mw.length≤5000∧∀ H',Sub H H'→Q (.bl true) H'
 | _=>False
theorem ok_l_within (T:Tx K mg a):FnOk P w K mg base CX0 2 a.l_within a.l_within_d ["_law_wide","_law_narrow"] (sp_within):=by
 have G_l_in:=ok_l_in (P:=P) (w:=w) (base:=base) T
 refine T.f_l_within.ok sc_l_within (fun vs H Q E h=>?_) (fun cdv A outer s H vs Q E hr h=>?_)
 ·unfold sp_within at h
  split at h
  ·rfl
  ·exact h.elim
 ·unfold sp_within at h
  split at h
  ·have nd:=sc_l_within.nd
   have hu:=hu_of hr
   rename_i qw qn
   obtain⟨wd,wd',nw,nn,lw,rw',mw,l,r,ms,Lw,Rw,L,R,Mw,Ms,hqw,hqn,⟨asL,hlw,AL⟩,⟨asR,hrw,AR⟩,⟨asM,hmw,AM⟩,wL,wR,wM,cL,cR,cM,lL,lR,lM,h⟩:=h
   refine⟨_,(pss_cut (ps_set (i:=2) nd rfl (by walk_at "o") (pe_op q_cat (pe_lc (own:=["_law_word_here"]) (fr:=[]) rfl (by walk_at "comp_ok") (qi_listK (K:=K) rfl (pe_ix (q_ixTK (K:=K) rfl) (qv 0) pe_int (fun _ _=>rfl))) (fun _ _ _ _=>(pg_name (i:=0) (show List.Nodup (α:=Str) ["_law_word_here"] from by decide +kernel) rfl (by walk_at "o"))) (fun _ _ _ _=>pts_nil) (fun _ _ _ _=>(pe_slice (q_slTK (K:=K) rfl) (qv 0) (qo_some pe_int) po_none))) (pe_lc (own:=["_law_word_here"]) (fr:=[]) rfl (by walk_at "comp_ok") (qi_listK (K:=K) rfl (pe_ix (q_ixTK (K:=K) rfl) (qv 0) pe_int (fun _ _=>rfl))) (fun _ _ _ _=>(pg_name (i:=0) (show List.Nodup (α:=Str) ["_law_word_here"] from by decide +kernel) rfl (by walk_at "o"))) (fun _ _ _ _=>pts_nil) (fun _ _ _ _=>(pe_slice (q_slTK (K:=K) rfl) (qv 0) po_none (qo_some (pe_un q_neg pe_int)))))))
  (pss_cut (ps_set (i:=3) nd rfl (by walk_at "o") (pe_op q_cat (pe_lc (own:=["_law_word_here"]) (fr:=[]) rfl (by walk_at "comp_ok") (qi_listK (K:=K) rfl (pe_ix (q_ixTK (K:=K) rfl) (qv 0) pe_int (fun _ _=>rfl))) (fun _ _ _ _=>(pg_name (i:=0) (show List.Nodup (α:=Str) ["_law_word_here"] from by decide +kernel) rfl (by walk_at "o"))) (fun _ _ _ _=>pts_nil) (fun _ _ _ _=>(pe_slice (q_slTK (K:=K) rfl) (qv 0) (qo_some pe_int) po_none))) (pe_lc (own:=["_law_word_here"]) (fr:=[]) rfl (by walk_at "comp_ok") (qi_listK (K:=K) rfl (pe_ix (q_ixTK (K:=K) rfl) (qv 0) pe_int (fun _ _=>rfl))) (fun _ _ _ _=>(pg_name (i:=0) (show List.Nodup (α:=Str) ["_law_word_here"] from by decide +kernel) rfl (by walk_at "o"))) (fun _ _ _ _=>pts_nil) (fun _ _ _ _=>(pe_slice (q_slTK (K:=K) rfl) (qv 0) po_none (qo_some (pe_un q_neg pe_int)))))))
  (pss_cut (ps_lc (j:=4) rfl nd rfl (by walk_at "o") (own:=["_law_left","_law_row","_law_sign","_law_right"]) (fr:=[]) (by walk_at "comp_ok") (qi_listK (K:=K) rfl (pe_ix (q_ixTK (K:=K) rfl) (qv 0) pe_int (fun _ _=>rfl))) (fun _ _ _ _=>(qg_tupK (K:=K) (n:=4) rfl rfl (qgs_cons (pg_name (i:=0) (show List.Nodup (α:=Str) ["_law_left","_law_row","_law_sign","_law_right"] from by decide +kernel) rfl (by walk_at "o")) (qgs_cons (pg_name (i:=1) (show List.Nodup (α:=Str) ["_law_left","_law_row","_law_sign","_law_right"] from by decide +kernel) rfl (by walk_at "o")) (qgs_cons (pg_name (i:=2) (show List.Nodup (α:=Str) ["_law_left","_law_row","_law_sign","_law_right"] from by decide +kernel) rfl (by walk_at "o")) (qgs_cons (pg_name (i:=3) (show List.Nodup (α:=Str) ["_law_left","_law_row","_law_sign","_law_right"] from by decide +kernel) rfl (by walk_at "o")) qgs_nil)))))) (fun _ _ _ _=>pts_nil) (fun _ _ _ _=>(pe_tup (pa_cons (pe_slice (q_slTK (K:=K) rfl) (qv 0) (qo_some pe_int) po_none) (pa_cons (qv 1) (pa_cons (qv 2) (pa_cons (pe_slice (q_slTK (K:=K) rfl) (qv 3) po_none (qo_some (pe_un q_neg pe_int))) pa_nil)))))))
  (pss_one (ps_ret (pe_andC (pe_call G_l_in (hr.mono (by decide)) rfl T.g_l_in T.f_l_in.kp T.b_l_in .nil pass0 (pa_cons (qv 2) (pa_cons (pe_ix (q_ixTK (K:=K) rfl) (qv 1) pe_int (fun _ _=>rfl)) pa_nil))) (pe_andC (pe_call G_l_in (hr.mono (by decide)) rfl T.g_l_in T.f_l_in.kp T.b_l_in .nil pass0 (pa_cons (qv 3) (pa_cons (pe_ix (q_ixTK (K:=K) rfl) (qv 1) pe_int (fun _ _=>rfl)) pa_nil))) (pe_one (pe_call G_l_in (hr.mono (by decide)) rfl T.g_l_in T.f_l_in.kp T.b_l_in .nil pass0 (pa_cons (qv 4) (pa_cons (pe_ix (q_ixTK (K:=K) rfl) (qv 1) pe_int (fun _ _=>rfl)) pa_nil))))))))))),?_⟩
   refine⟨fun σ H'=>∃ pn,σ = [some (.ref qw),some (.ref qn),some (.ref pn),none,none]∧Sub H H'∧WL H' pn (Lw.map (fun w=>w.drop 1) ++ Lw.map (fun w=>w.dropLast)),?_,?_⟩
   ·walk_at "w"
    refine⟨_,_,SqT.of ((Sub.refl:Sub H H) _ _ hqw),atI_nat (j:=2) rfl,?_⟩
    refine⟨⟨_,SqL.of ((Sub.refl:Sub H H) _ _ hlw)⟩,?_⟩
    intro pa npa
    refine comp_list (K:=K) (a:=lw) (xs:=asL.map V.ref) (fun i σ H'=>∃ (v:Option V) (as':List Addr),σ = [v]∧Sub H H'∧H' pa = some (.lst (as'.map V.ref))∧as'.length = i∧All2 (WdA H') as' ((Lw.take i).map fun w=>w.drop 1)) ?_ ?_ ?_ ?_
    ·exact⟨none,[],rfl,Sub.new npa,upd_same,rfl,.nil⟩
    ·rintro i σ H' _ ⟨v,as',rfl,S',_⟩
     exact SqL.of (S' _ _ ((Sub.refl:Sub H H) _ _ hlw))
    ·rintro i x σ H' hi ⟨v,as',rfl,S',g',l',A'⟩
     have hil:i < asL.length:=by have:=(List.getElem?_eq_some_iff.1 hi).1; rwa [List.length_map] at this
     rw [List.getElem?_map] at hi
     obtain⟨b',hb',rfl⟩:=Option.map_eq_some_iff.1 hi
     obtain⟨w,hw,hbw⟩:=AL.at hb'
     have hne:=(cL w (List.mem_of_getElem? hw)).1
     refine⟨_,SqT.of (((Sub.refl:Sub H H).trans S') _ _ hbw),(cut_tail hne).2,?_⟩
     rw [(cut_tail hne).1]
     intro pz nz
     generalize hUz:upd _ pz _ = Hz
     have Sz:=(upd_sub nz hUz).1
     have ez:=(upd_sub nz hUz).2
     clear hUz
     have gz:=Sz _ _ g'
     have kt:∀ a us,Hz a = some (.tup us)→(upd Hz pa (.lst (as'.map V.ref ++ [V.ref pz]))) a = some (.tup us):=fun a us e=>by
      rw [upd_ne (by rintro rfl; rw [gz] at e; cases e)]; exact e
     refine⟨_,gz,by rw [List.length_map,l']; have:=AL.1; exact Nat.lt_of_lt_of_le (show i < 5000 by omega) (by decide),_,as' ++ [pz],rfl,(S'.trans Sz).upd npa,by rw [upd_same,List.map_append]; rfl,by rw [List.length_append,l']; rfl,?_⟩
     rw [List.take_add_one,hw,List.map_append]
     exact (A'.mono fun _ _ _ z=>(z.sub Sz).tup kt).app (kt _ _ ez)
    rintro σ H1 ⟨v,as1,rfl,S1,g1,l1,A1⟩
    rw [List.length_map,AL.1,List.take_length] at A1
    rw [List.length_map] at l1
    have T1:=(Sub.refl:Sub H H).trans S1
    refine⟨_,_,SqT.of (T1 _ _ hqw),atI_nat (j:=2) rfl,?_⟩
    refine⟨⟨_,SqL.of (T1 _ _ hlw)⟩,?_⟩
    intro pb npb
    refine comp_list (K:=K) (a:=lw) (xs:=asL.map V.ref) (fun i σ H'=>∃ (v:Option V) (as':List Addr),σ = [v]∧Sub H1 H'∧H' pb = some (.lst (as'.map V.ref))∧as'.length = i∧All2 (WdA H') as' ((Lw.take i).map fun w=>w.dropLast)) ?_ ?_ ?_ ?_
    ·exact⟨none,[],rfl,Sub.new npb,upd_same,rfl,.nil⟩
    ·rintro i σ H' _ ⟨v,as',rfl,S',_⟩
     exact SqL.of (S' _ _ (T1 _ _ hlw))
    ·rintro i x σ H' hi ⟨v,as',rfl,S',g',l',A'⟩
     have hil:i < asL.length:=by have:=(List.getElem?_eq_some_iff.1 hi).1; rwa [List.length_map] at this
     rw [List.getElem?_map] at hi
     obtain⟨b',hb',rfl⟩:=Option.map_eq_some_iff.1 hi
     obtain⟨w,hw,hbw⟩:=AL.at hb'
     have hne:=(cL w (List.mem_of_getElem? hw)).1
     refine⟨_,SqT.of ((T1.trans S') _ _ hbw),(cut_init hne).2,?_⟩
     rw [(cut_init hne).1]
     intro pz nz
     generalize hUz:upd _ pz _ = Hz
     have Sz:=(upd_sub nz hUz).1
     have ez:=(upd_sub nz hUz).2
     clear hUz
     have gz:=Sz _ _ g'
     have kt:∀ a us,Hz a = some (.tup us)→(upd Hz pb (.lst (as'.map V.ref ++ [V.ref pz]))) a = some (.tup us):=fun a us e=>by
      rw [upd_ne (by rintro rfl; rw [gz] at e; cases e)]; exact e
     refine⟨_,gz,by rw [List.length_map,l']; have:=AL.1; exact Nat.lt_of_lt_of_le (show i < 5000 by omega) (by decide),_,as' ++ [pz],rfl,(S'.trans Sz).upd npb,by rw [upd_same,List.map_append]; rfl,by rw [List.length_append,l']; rfl,?_⟩
     rw [List.take_add_one,hw,List.map_append]
     exact (A'.mono fun _ _ _ z=>(z.sub Sz).tup kt).app (kt _ _ ez)
    rintro σ H2 ⟨v2,as2,rfl,S2,g2,l2,A2⟩
    rw [List.length_map,AL.1,List.take_length] at A2
    rw [List.length_map] at l2
    refine⟨_,_,S2 _ _ g1,g2,by rw [List.length_map,List.length_map,l1,l2]; have:=AL.1; exact Nat.le_trans (show asL.length + asL.length≤10000 by omega) (by decide),?_⟩
    intro p3 n3
    generalize hU3:upd _ p3 _ = H3
    have S3:=(upd_sub n3 hU3).1
    have e3:=(upd_sub n3 hU3).2
    clear hU3
    exact⟨p3,rfl,(S1.trans S2).trans S3,as1 ++ as2,by rw [List.map_append]; exact e3,(A1.mono fun _ _ _ z=>z.sub (S2.trans S3)).append (A2.mono fun _ _ _ z=>z.sub S3)⟩
   rintro σ Ha ⟨pn,rfl,Sa,wa⟩
   refine⟨fun σ H'=>∃ pf,σ = [some (.ref qw),some (.ref qn),some (.ref pn),some (.ref pf),none]∧Sub Ha H'∧WL H' pf (Rw.map (fun w=>w.drop 1) ++ Rw.map (fun w=>w.dropLast)),?_,?_⟩
   ·walk_at "w"
    refine⟨_,_,SqT.of (Sa _ _ hqw),atI_nat (j:=3) rfl,?_⟩
    refine⟨⟨_,SqL.of (Sa _ _ hrw)⟩,?_⟩
    intro pa npa
    refine comp_list (K:=K) (a:=rw') (xs:=asR.map V.ref) (fun i σ H'=>∃ (v:Option V) (as':List Addr),σ = [v]∧Sub Ha H'∧H' pa = some (.lst (as'.map V.ref))∧as'.length = i∧All2 (WdA H') as' ((Rw.take i).map fun w=>w.drop 1)) ?_ ?_ ?_ ?_
    ·exact⟨none,[],rfl,Sub.new npa,upd_same,rfl,.nil⟩
    ·rintro i σ H' _ ⟨v,as',rfl,S',_⟩
     exact SqL.of (S' _ _ (Sa _ _ hrw))
    ·rintro i x σ H' hi ⟨v,as',rfl,S',g',l',A'⟩
     have hil:i < asR.length:=by have:=(List.getElem?_eq_some_iff.1 hi).1; rwa [List.length_map] at this
     rw [List.getElem?_map] at hi
     obtain⟨b',hb',rfl⟩:=Option.map_eq_some_iff.1 hi
     obtain⟨w,hw,hbw⟩:=AR.at hb'
     have hne:=(cR w (List.mem_of_getElem? hw)).1
     refine⟨_,SqT.of ((Sa.trans S') _ _ hbw),(cut_tail hne).2,?_⟩
     rw [(cut_tail hne).1]
     intro pz nz
     generalize hUz:upd _ pz _ = Hz
     have Sz:=(upd_sub nz hUz).1
     have ez:=(upd_sub nz hUz).2
     clear hUz
     have gz:=Sz _ _ g'
     have kt:∀ a us,Hz a = some (.tup us)→(upd Hz pa (.lst (as'.map V.ref ++ [V.ref pz]))) a = some (.tup us):=fun a us e=>by
      rw [upd_ne (by rintro rfl; rw [gz] at e; cases e)]; exact e
     refine⟨_,gz,by rw [List.length_map,l']; have:=AR.1; exact Nat.lt_of_lt_of_le (show i < 5000 by omega) (by decide),_,as' ++ [pz],rfl,(S'.trans Sz).upd npa,by rw [upd_same,List.map_append]; rfl,by rw [List.length_append,l']; rfl,?_⟩
     rw [List.take_add_one,hw,List.map_append]
     exact (A'.mono fun _ _ _ z=>(z.sub Sz).tup kt).app (kt _ _ ez)
    rintro σ H1 ⟨v,as1,rfl,S1,g1,l1,A1⟩
    rw [List.length_map,AR.1,List.take_length] at A1
    rw [List.length_map] at l1
    have T1:=Sa.trans S1
    refine⟨_,_,SqT.of (T1 _ _ hqw),atI_nat (j:=3) rfl,?_⟩
    refine⟨⟨_,SqL.of (T1 _ _ hrw)⟩,?_⟩
    intro pb npb
    refine comp_list (K:=K) (a:=rw') (xs:=asR.map V.ref) (fun i σ H'=>∃ (v:Option V) (as':List Addr),σ = [v]∧Sub H1 H'∧H' pb = some (.lst (as'.map V.ref))∧as'.length = i∧All2 (WdA H') as' ((Rw.take i).map fun w=>w.dropLast)) ?_ ?_ ?_ ?_
    ·exact⟨none,[],rfl,Sub.new npb,upd_same,rfl,.nil⟩
    ·rintro i σ H' _ ⟨v,as',rfl,S',_⟩
     exact SqL.of (S' _ _ (T1 _ _ hrw))
    ·rintro i x σ H' hi ⟨v,as',rfl,S',g',l',A'⟩
     have hil:i < asR.length:=by have:=(List.getElem?_eq_some_iff.1 hi).1; rwa [List.length_map] at this
     rw [List.getElem?_map] at hi
     obtain⟨b',hb',rfl⟩:=Option.map_eq_some_iff.1 hi
     obtain⟨w,hw,hbw⟩:=AR.at hb'
     have hne:=(cR w (List.mem_of_getElem? hw)).1
     refine⟨_,SqT.of ((T1.trans S') _ _ hbw),(cut_init hne).2,?_⟩
     rw [(cut_init hne).1]
     intro pz nz
     generalize hUz:upd _ pz _ = Hz
     have Sz:=(upd_sub nz hUz).1
     have ez:=(upd_sub nz hUz).2
     clear hUz
     have gz:=Sz _ _ g'
     have kt:∀ a us,Hz a = some (.tup us)→(upd Hz pb (.lst (as'.map V.ref ++ [V.ref pz]))) a = some (.tup us):=fun a us e=>by
      rw [upd_ne (by rintro rfl; rw [gz] at e; cases e)]; exact e
     refine⟨_,gz,by rw [List.length_map,l']; have:=AR.1; exact Nat.lt_of_lt_of_le (show i < 5000 by omega) (by decide),_,as' ++ [pz],rfl,(S'.trans Sz).upd npb,by rw [upd_same,List.map_append]; rfl,by rw [List.length_append,l']; rfl,?_⟩
     rw [List.take_add_one,hw,List.map_append]
     exact (A'.mono fun _ _ _ z=>(z.sub Sz).tup kt).app (kt _ _ ez)
    rintro σ H2 ⟨v2,as2,rfl,S2,g2,l2,A2⟩
    rw [List.length_map,AR.1,List.take_length] at A2
    rw [List.length_map] at l2
    refine⟨_,_,S2 _ _ g1,g2,by rw [List.length_map,List.length_map,l1,l2]; have:=AR.1; exact Nat.le_trans (show asR.length + asR.length≤10000 by omega) (by decide),?_⟩
    intro p3 n3
    generalize hU3:upd _ p3 _ = H3
    have S3:=(upd_sub n3 hU3).1
    have e3:=(upd_sub n3 hU3).2
    clear hU3
    exact⟨p3,rfl,(S1.trans S2).trans S3,as1 ++ as2,by rw [List.map_append]; exact e3,(A1.mono fun _ _ _ z=>z.sub (S2.trans S3)).append (A2.mono fun _ _ _ z=>z.sub S3)⟩
   rintro σ Hb ⟨pf,rfl,Sb,wb⟩
   have Tb:=Sa.trans Sb
   refine⟨fun σ H'=>∃ pm,σ = [some (.ref qw),some (.ref qn),some (.ref pn),some (.ref pf),some (.ref pm)]∧Sub Hb H'∧ML H' pm (Mw.map fun d=>(d.1.drop 1,d.2.1,d.2.2.1,d.2.2.2.dropLast)),?_,?_⟩
   ·walk_at "w"
    refine⟨_,_,SqT.of (Tb _ _ hqw),atI_nat (j:=4) rfl,?_⟩
    refine⟨⟨_,SqL.of (Tb _ _ hmw)⟩,?_⟩
    intro pa npa
    refine comp_list (K:=K) (a:=mw) (xs:=asM.map V.ref) (fun i σ H'=>∃ (v1 v2 v3 v4:Option V) (as':List Addr),σ = [v1,v2,v3,v4]∧Sub Hb H'∧H' pa = some (.lst (as'.map V.ref))∧as'.length = i∧All2 (MdA H') as' ((Mw.take i).map fun d=>(d.1.drop 1,d.2.1,d.2.2.1,d.2.2.2.dropLast))) ?_ ?_ ?_ ?_
    ·exact⟨none,none,none,none,[],rfl,Sub.new npa,upd_same,rfl,.nil⟩
    ·rintro i σ H' _ ⟨v1,v2,v3,v4,as',rfl,S',_⟩
     exact SqL.of (S' _ _ (Tb _ _ hmw))
    ·rintro i x σ H' hi ⟨v1,v2,v3,v4,as',rfl,S',g',l',A'⟩
     have hil:i < asM.length:=by have:=(List.getElem?_eq_some_iff.1 hi).1; rwa [List.length_map] at this
     rw [List.getElem?_map] at hi
     obtain⟨b',hb',rfl⟩:=Option.map_eq_some_iff.1 hi
     obtain⟨d,hd,ll,rr,hb0,hll,hrr⟩:=AM.at hb'
     obtain⟨hne1,hne2,_⟩:=cM d (List.mem_of_getElem? hd)
     have TS:=Tb.trans S'
     refine⟨_,SqT.of (TS _ _ hb0),rfl,?_⟩
     refine⟨_,SqT.of (TS _ _ hll),(cut_tail hne1).2,?_⟩
     rw [(cut_tail hne1).1]
     intro py ny
     generalize hUy:upd _ py _ = Hy
     have Sy:=(upd_sub ny hUy).1
     have ey:=(upd_sub ny hUy).2
     clear hUy
     refine⟨_,SqT.of (Sy _ _ (TS _ _ hrr)),(cut_init hne2).2,?_⟩
     rw [(cut_init hne2).1]
     intro px nx
     generalize hUx:upd _ px _ = Hx
     have Sx:=(upd_sub nx hUx).1
     have ex:=(upd_sub nx hUx).2
     clear hUx
     refine⟨by show 4≤sizeLine; decide,?_⟩
     intro pz nz
     generalize hUz:upd _ pz _ = Hz
     have Sz:=(upd_sub nz hUz).1
     have ez:=(upd_sub nz hUz).2
     clear hUz
     have gz:=Sz _ _ (Sx _ _ (Sy _ _ g'))
     have kt:∀ a us,Hz a = some (.tup us)→(upd Hz pa (.lst (as'.map V.ref ++ [V.ref pz]))) a = some (.tup us):=fun a us e=>by
      rw [upd_ne (by rintro rfl; rw [gz] at e; cases e)]; exact e
     refine⟨_,gz,by rw [List.length_map,l']; have:=AM.1; exact Nat.lt_of_lt_of_le (show i < 5000 by omega) (by decide),_,_,_,_,as' ++ [pz],rfl,(S'.trans (Sy.trans (Sx.trans Sz))).upd npa,by rw [upd_same,List.map_append]; rfl,by rw [List.length_append,l']; rfl,?_⟩
     rw [List.take_add_one,hd,List.map_append]
     exact (A'.mono fun _ _ _ z=>(z.sub (Sy.trans (Sx.trans Sz))).tup kt).app (show MdA _ pz (d.1.drop 1,d.2.1,d.2.2.1,d.2.2.2.dropLast) from ⟨py,px,kt _ _ ez,kt _ _ (Sz _ _ (Sx _ _ ey)),kt _ _ (Sz _ _ ex)⟩)
    rintro σ H1 ⟨v1,v2,v3,v4,as1,rfl,S1,g1,l1,A1⟩
    rw [List.length_map,AM.1,List.take_length] at A1
    exact⟨pa,rfl,S1,as1,g1,A1⟩
   rintro σ Hc ⟨pm,rfl,Sc,wc⟩
   have Tc:=Tb.trans Sc
   refine⟨_,_,SqT.of (Tc _ _ hqn),atI_nat (j:=2) rfl,?_⟩
   refine⟨_,_,(wa.sub (Sb.trans Sc)).nl,(wL.sub Tc).nl,fun k hk=>?_,fun Hd Sd=>?_⟩
   ·obtain⟨w,hw,rfl⟩:=List.mem_map.1 hk
    refine mem_wK.2 ?_
    rcases List.mem_append.1 hw with hw | hw
    ·obtain⟨y,hy,rfl⟩:=List.mem_map.1 hw; exact (cL y hy).2.1
    ·obtain⟨y,hy,rfl⟩:=List.mem_map.1 hw; exact (cL y hy).2.2
   walk_at "w"
   refine ifB.yes rfl ?_
   have Td:=Tc.trans Sd
   refine⟨_,_,SqT.of (Td _ _ hqn),atI_nat (j:=3) rfl,?_⟩
   refine⟨_,_,(wb.sub (Sc.trans Sd)).nl,(wR.sub Td).nl,fun k hk=>?_,fun He Se=>?_⟩
   ·obtain⟨w,hw,rfl⟩:=List.mem_map.1 hk
    refine mem_wK.2 ?_
    rcases List.mem_append.1 hw with hw | hw
    ·obtain⟨y,hy,rfl⟩:=List.mem_map.1 hw; exact (cR y hy).2.1
    ·obtain⟨y,hy,rfl⟩:=List.mem_map.1 hw; exact (cR y hy).2.2
   walk_at "w"
   refine ifB.yes rfl ?_
   have Te:=Td.trans Se
   refine⟨_,_,SqT.of (Te _ _ hqn),atI_nat (j:=4) rfl,?_⟩
   refine⟨_,_,(wc.sub (Sd.trans Se)).nl,(wM.sub Te).nl,fun k hk=>?_,fun Hf Sf=>?_⟩
   ·obtain⟨w,hw,rfl⟩:=List.mem_map.1 hk
    refine mem_mK.2 ?_
    obtain⟨y,hy,rfl⟩:=List.mem_map.1 hw
    exact (cM y hy).2.2
   exact h _ (Te.trans Sf)
  ·exact h.elim
theorem sc_l_shared:FnScope ["_law_one","_law_other_here","_law_found"] ["_law_one","_law_other_here"] (defScope s_l_shared):=⟨rfl,rfl,rfl,by decide +kernel,rfl,by decide +kernel,by decide +kernel⟩
theorem nl_wl {H:Hp} {p:Addr} {L:List Wd}:NL H p (L.map wK)→WL H p L:=fun ⟨as,h1,h2,_⟩=>⟨as,h1,wa_of h2⟩
theorem nl_ml {H:Hp} {p:Addr} {L:List Md}:NL H p (L.map mK)→ML H p L:=fun ⟨as,h1,h2,_⟩=>⟨as,h1,ma_of h2⟩
theorem depL_ok {ks:List NK} (h:∀ k∈ks,k.dep≤7):NK.depL ks≤7:=by
 induction ks with
 | nil=>rw [NK.depL]; omega
 | cons k ks ih =>
  have h1:=h k (List.mem_cons_self ..)
  have h2:=ih fun x hx=>h x (List.mem_cons_of_mem _ hx)
  rw [NK.depL]
  omega
theorem dep_mem {ks:List NK} (h:NK.depL ks≤7) {k:NK} (hk:k∈ks):k.dep≤7:=by
 obtain⟨i,hi⟩:=List.getElem?_of_mem hk
 exact depL_at h hi
theorem denNs_snoc {H:Hp}:∀ {ks:List NK} {vs:List V} {k:NK} {v:V},DenNs H ks vs→DenN H k v→DenNs H (ks ++ [k]) (vs ++ [v])
 | [],vs,k,v,h,hk=>by
  rw [DenNs] at h
  subst h
  show DenNs H [k] [v]
  rw [DenNs]
  exact⟨v,[],rfl,hk,by rw [DenNs]⟩
 | j :: ks,vs,k,v,h,hk=>by
  rw [DenNs] at h
  obtain⟨u,us,rfl,h1,h2⟩:=h
  show DenNs H (j :: (ks ++ [k])) (u :: (us ++ [v]))
  rw [DenNs]
  exact⟨u,_,rfl,h1,denNs_snoc h2 hk⟩
theorem NL.tup {H H':Hp} {p:Addr} {ks:List NK} (hp:∀ us,H p = some (.lst us)→H' p = some (.lst us)) (kt:∀ a us,H a = some (.tup us)→H' a = some (.tup us)):NL H p ks→NL H' p ks:=fun ⟨as,h1,h2,h3⟩=>⟨as,hp _ h1,denNs_tup kt h2 h3,h3⟩
def sp_shared:Sp:=fun vs H Q _=>match vs with
 | [.ref q1,.ref q2]=>∃ (wd wd':Str) (n n':Int) (l r ms l2 r2 ms2:Addr) (L R Lb Rb:List Wd) (Ms Mb:List Md),H q1 = some (.tup [.str wd,.int n,.ref l,.ref r,.ref ms])∧H q2 = some (.tup [.str wd',.int n',.ref l2,.ref r2,.ref ms2])∧WL H l L∧WL H r R∧ML H ms Ms∧WL H l2 Lb∧WL H r2 Rb∧ML H ms2 Mb∧L.length≤5000∧R.length≤5000∧Ms.length≤5000 ∧
   ∀ (q l3 r3 ms3:Addr) (H':Hp),Sub H H'→H' q = some (.tup [.str wd,.int n,.ref l3,.ref r3,.ref ms3])→WL H' l3 (L.filter fun w=>decide (w∈Lb))→WL H' r3 (R.filter fun w=>decide (w∈Rb))→ML H' ms3 (Ms.filter fun w=>decide (w∈Mb))→Q (.ref q) H'
 | _=>False
theorem filt_map {α:Type} [BEq α] [LawfulBEq α] {f:α→NK} (fi:∀ a b,f a = f b→a = b) (L Lb:List α):(L.map f).filter (fun k=>decide (k∈Lb.map f)) = (L.filter fun w=>decide (w∈Lb)).map f:=by
 rw [List.filter_map]
 congr 1
 refine List.filter_congr fun w _=>decide_eq_decide.2 ?_
 exact⟨fun h=>by obtain⟨v,hv,e⟩:=List.mem_map.1 h; rw [← fi _ _ e]; exact hv,fun h=>List.mem_map.2 ⟨w,h,rfl⟩⟩
theorem three {P:Nat→Prop} (h0:P 0) (h1:P 1) (h2:P 2):∀ j,j < 3→P j
 | 0,_=>h0
 | 1,_=>h1
 | 2,_=>h2
 | j + 3,h=>absurd h (by omega)
theorem ok_l_shared (T:Tx K mg a):FnOk P w K mg base CX0 1 a.l_shared a.l_shared_d ["_law_one","_law_other_here"] (sp_shared):=by
 refine T.f_l_shared.ok sc_l_shared (fun vs H Q E h=>?_) (fun cdv A outer s H vs Q E hr h=>?_)
 ·unfold sp_shared at h
  split at h
  ·rfl
  ·exact h.elim
 ·unfold sp_shared at h
  split at h
  ·have nd:=sc_l_shared.nd
   have hu:=hu_of hr
   rename_i q1 q2
   obtain⟨wd,wd',n,n',l,r,ms,l2,r2,ms2,L,R,Lb,Rb,Ms,Mb,hq1,hq2,wL,wR,wM,wL2,wR2,wM2,lL,lR,lM,h⟩:=h
   obtain⟨xs1,hx1⟩:∃ xs1:List V,xs1 = [.str wd,.int n,.ref l,.ref r,.ref ms]:=⟨_,rfl⟩
   obtain⟨xs2,hx2⟩:∃ xs2:List V,xs2 = [.str wd',.int n',.ref l2,.ref r2,.ref ms2]:=⟨_,rfl⟩
   obtain⟨A1,K1,hA1⟩:∃ (A1:Nat→Addr) (K1:Nat→List NK),(∀ j:Nat,j < 3→atI xs1 (2 + (j:Int)) = some (.ref (A1 j))∧NL H (A1 j) (K1 j)∧(K1 j).length≤5000)∧K1 0 = L.map wK∧K1 1 = R.map wK∧K1 2 = Ms.map mK :=
    ⟨fun j=>if j = 0 then l else if j = 1 then r else ms,fun j=>if j = 0 then L.map wK else if j = 1 then R.map wK else Ms.map mK,three ⟨by rw [hx1]; rfl,wL.nl,by show (L.map wK).length≤5000; rw [List.length_map]; exact lL⟩ ⟨by rw [hx1]; rfl,wR.nl,by show (R.map wK).length≤5000; rw [List.length_map]; exact lR⟩ ⟨by rw [hx1]; rfl,wM.nl,by show (Ms.map mK).length≤5000; rw [List.length_map]; exact lM⟩,rfl,rfl,rfl⟩
   obtain⟨A2,K2,hA2⟩:∃ (A2:Nat→Addr) (K2:Nat→List NK),(∀ j:Nat,j < 3→atI xs2 (2 + (j:Int)) = some (.ref (A2 j))∧NL H (A2 j) (K2 j))∧K2 0 = Lb.map wK∧K2 1 = Rb.map wK∧K2 2 = Mb.map mK :=
    ⟨fun j=>if j = 0 then l2 else if j = 1 then r2 else ms2,fun j=>if j = 0 then Lb.map wK else if j = 1 then Rb.map wK else Mb.map mK,three ⟨by rw [hx2]; rfl,wL2.nl⟩ ⟨by rw [hx2]; rfl,wR2.nl⟩ ⟨by rw [hx2]; rfl,wM2.nl⟩,rfl,rfl,rfl⟩
   obtain⟨hA1,k10,k11,k12⟩:=hA1
   obtain⟨hA2,k20,k21,k22⟩:=hA2
   have hy1:H q1 = some (.tup xs1):=by rw [hx1]; exact hq1
   have hy2:H q2 = some (.tup xs2):=by rw [hx2]; exact hq2
   refine⟨_,(pss_cons (ps_lcC (j:=2) rfl nd rfl (by walk_at "o") (own:=["_law_k"]) (fr:=[0,1]) (y:="_law_k") (by exact⟨rfl,by decide +kernel,by decide +kernel,by rfl,by walk_at "frees",by walk_at "frees"⟩) (qi_range2 rfl T.z_range (pa_cons pe_int (pa_cons pe_int pa_nil))) (fun _ _ _ _=>(pg_name (i:=0) (show List.Nodup (α:=Str) ["_law_k","_law_one","_law_other_here"] from by decide +kernel) rfl (by walk_at "o") (hf:=Or.inl fn_y))) (fun _ _ _ _=>pts_nil) (fun _ _ _ _=>(pe_lc (own:=["_law_thing"]) (fr:=[2,0]) rfl (by walk_at "comp_ok") (qi_listK (K:=K) rfl (pe_ix (q_ixTK (K:=K) rfl) (qv 1) (qv 0) (fun _ _=>rfl))) (fun _ _ _ _=>(pg_name (i:=0) (show List.Nodup (α:=Str) ["_law_thing","_law_other_here","_law_k"] from by decide +kernel) rfl (by walk_at "o"))) (fun _ _ _ _=>(pts_one (pt_c (op_inNL hr) (qv 0) (pe_ix (q_ixTK (K:=K) rfl) (qv 1) (qv 2) (fun _ _=>rfl))))) (fun _ _ _ _=>(qv 0)))))
  (pss_one (ps_ret (pe_tup (pa_cons (pe_ix (q_ixTK (K:=K) rfl) (qv 0) pe_int (fun _ _=>rfl)) (pa_cons (pe_ix (q_ixTK (K:=K) rfl) (qv 0) pe_int (fun _ _=>rfl)) (pa_cons (pe_ix (q_ixLK (K:=K) rfl) (qv 2) pe_int (fun _ _=>rfl)) (pa_cons (pe_ix (q_ixLK (K:=K) rfl) (qv 2) pe_int (fun _ _=>rfl)) (pa_cons (pe_ix (q_ixLK (K:=K) rfl) (qv 2) pe_int (fun _ _=>rfl)) pa_nil))))))))),?_⟩
   refine⟨⟨by decide,by decide⟩,?_⟩
   intro pc npc
   refine comp_range (lo:=2) (n:=3) (fun i σ H1=>∃ (v:Option V) (rs:List Addr),σ = [v,some (.ref q1),some (.ref q2)]∧Sub H H1∧H1 pc = some (.lst (rs.map V.ref))∧rs.length = i∧∀ j a,rs[j]? = some a→a≠pc∧NL H1 a ((K1 j).filter fun k=>decide (k∈K2 j))) ?_ ?_ ?_
   ·exact⟨none,[],rfl,Sub.new npc,upd_same,rfl,fun j a e=>by simp at e⟩
   ·rintro i σ H1 hi ⟨v,rs,rfl,S1,g1,l1,N1⟩
    obtain⟨a1,⟨as,h1,D1,d1⟩,len1⟩:=hA1 i hi
    obtain⟨a2,nl2⟩:=hA2 i hi
    have lD:=denNs_len D1
    rw [List.length_map] at lD
    refine⟨_,_,SqT.of (S1 _ _ hy1),a1,?_⟩
    refine⟨⟨_,SqL.of (S1 _ _ h1)⟩,?_⟩
    intro pd npd
    refine comp_list (K:=K) (a:=A1 i) (xs:=as.map V.ref) (fun j σ H2=>∃ (v:Option V) (as':List Addr),σ = [v,some (.ref q2),some (.int (2 + (i:Int)))]∧Sub H1 H2∧H2 pd = some (.lst (as'.map V.ref))∧as'.length≤j∧DenNs H2 (((K1 i).take j).filter fun k=>decide (k∈K2 i)) (as'.map V.ref)) ?_ ?_ ?_ ?_
    ·exact⟨none,[],rfl,Sub.new npd,upd_same,Nat.le_refl _,by rw [List.take_zero,List.filter_nil,DenNs]; rfl⟩
    ·rintro j σ H2 _ ⟨v,as',rfl,S2,_⟩
     exact SqL.of (S2 _ _ (S1 _ _ h1))
    ·rintro j x σ H2 hj ⟨v,as',rfl,S2,g2,l2',D2⟩
     have hjl:j < as.length:=by have:=(List.getElem?_eq_some_iff.1 hj).1; rwa [List.length_map] at this
     obtain⟨k,hk,hck⟩:=denNs_at D1 hj
     rw [List.getElem?_map] at hj
     obtain⟨c,hc,rfl⟩:=Option.map_eq_some_iff.1 hj
     have S12:=S1.trans S2
     have hk7:=depL_at d1 hk
     have hck2:=DenN.mono (fun a xs e=>S12 _ _ e) 7 k _ hk7 hck
     obtain⟨bs,hb1,hb2,hb3⟩:=nl2.sub S12
     have htk:((K1 i).take (j + 1)).filter (fun k=>decide (k∈K2 i)) = ((K1 i).take j).filter (fun k=>decide (k∈K2 i)) ++ [k].filter (fun k=>decide (k∈K2 i)):=by
      rw [List.take_add_one,hk,List.filter_append]; rfl
     have dt:NK.depL (((K1 i).take j).filter fun k=>decide (k∈K2 i))≤7:=depL_ok fun x hx=>dep_mem d1 (List.mem_of_mem_take (List.mem_filter.1 hx).1)
     refine⟨_,_,SqT.of (S12 _ _ hy2),a2,?_⟩
     refine⟨c,A2 i,k,K2 i,_,rfl,rfl,hk7,hck2,hb1,hb2,hb3,?_⟩
     by_cases cz:k∈K2 i
     ·refine ite_yes cz ?_
      rw [List.filter_cons_of_pos (by simpa using cz),List.filter_nil] at htk
      have kt:∀ a us,H2 a = some (.tup us)→(upd H2 pd (.lst (as'.map V.ref ++ [V.ref c]))) a = some (.tup us):=fun a us e=>by
       rw [upd_ne (by rintro rfl; rw [g2] at e; cases e)]; exact e
      refine⟨_,g2,by rw [List.length_map]; exact Nat.lt_of_le_of_lt (show as'.length≤5000 by omega) (by decide),_,as' ++ [c],rfl,S2.upd npd,by rw [upd_same,List.map_append]; rfl,by rw [List.length_append]; exact Nat.succ_le_succ l2',?_⟩
      rw [htk,List.map_append]
      exact denNs_snoc (denNs_tup kt D2 dt) (DenN.mono kt 7 k _ hk7 hck2)
     ·refine ite_not cz ?_
      rw [List.filter_cons_of_neg (by simpa using cz),List.filter_nil,List.append_nil] at htk
      refine⟨_,as',rfl,S2,g2,by omega,?_⟩
      rw [htk]
      exact D2
    ·rintro σ H2 ⟨v,as',rfl,S2,g2,l2',D2⟩
     rw [List.length_map,lD,List.take_length] at D2
     have g12:=S2 _ _ g1
     have kt:∀ a us,H2 a = some (.tup us)→(upd H2 pc (.lst (rs.map V.ref ++ [V.ref pd]))) a = some (.tup us):=fun a us e=>by
      rw [upd_ne (by rintro rfl; rw [g12] at e; cases e)]; exact e
     have nd:pd≠pc:=by rintro rfl; rw [g1] at npd; cases npd
     refine⟨_,g12,by rw [List.length_map,l1]; exact Nat.lt_trans hi (by decide),_,rs ++ [pd],rfl,(S1.trans S2).upd npc,by rw [upd_same,List.map_append]; rfl,by rw [List.length_append,l1]; rfl,fun j a hj=>?_⟩
     have dt:NK.depL ((K1 i).filter fun k=>decide (k∈K2 i))≤7:=depL_ok fun x hx=>dep_mem d1 (List.mem_filter.1 hx).1
     by_cases cj:j < rs.length
     ·rw [List.getElem?_append_left cj] at hj
      obtain⟨na,hN⟩:=N1 j a hj
      exact⟨na,(hN.sub S2).tup (fun us e=>by rw [upd_ne na]; exact e) kt⟩
     ·have hlen:=(List.getElem?_eq_some_iff.1 hj).1
      rw [List.length_append] at hlen
      have hlen:j < rs.length + 1:=hlen
      obtain rfl:j = rs.length:=by omega
      rw [List.getElem?_append_right (Nat.le_refl _),Nat.sub_self] at hj
      injection hj with hj
      subst hj
      rw [l1]
      exact⟨nd,as',by rw [upd_ne nd]; exact g2,denNs_tup kt D2 dt,dt⟩
   rintro σ H1 ⟨v,rs,rfl,S1,g1,l1,N1⟩
   match rs,l1 with
   | [x0,x1,x2],_ =>
    have m0:=(N1 0 x0 rfl).2
    have m1:=(N1 1 x1 rfl).2
    have m2:=(N1 2 x2 rfl).2
    rw [k10,k20,filt_map (fun _ _=>wK_inj)] at m0
    rw [k11,k21,filt_map (fun _ _=>wK_inj)] at m1
    rw [k12,k22,filt_map (fun _ _=>mK_inj)] at m2
    refine⟨_,_,SqT.of (S1 _ _ hq1),atI_nat (j:=0) rfl,?_⟩
    refine⟨_,_,SqT.of (S1 _ _ hq1),atI_nat (j:=1) rfl,?_⟩
    refine⟨_,_,SqL.of g1,atI_nat (j:=0) rfl,?_⟩
    refine⟨_,_,SqL.of g1,atI_nat (j:=1) rfl,?_⟩
    refine⟨_,_,SqL.of g1,atI_nat (j:=2) rfl,?_⟩
    refine⟨by show 5≤sizeLine; decide,?_⟩
    intro p3 n3
    generalize hU3:upd _ p3 _ = H3
    have S3:=(upd_sub n3 hU3).1
    have e3:=(upd_sub n3 hU3).2
    clear hU3
    exact h p3 x0 x1 x2 H3 (S1.trans S3) e3 ((nl_wl m0).sub S3) ((nl_wl m1).sub S3) ((nl_ml m2).sub S3)
  ·exact h.elim
theorem sc_l_word:FnScope ["_law_purse_here","_law_signs","_law_width"] ["_law_purse_here","_law_signs","_law_width"] (defScope s_l_word):=⟨rfl,rfl,rfl,by decide +kernel,rfl,by decide +kernel,by decide +kernel⟩
def sp_word:Sp:=fun vs H Q _=>match vs with
 | [.ref pp,.int g,.int n]=>∃ c k:Int,H pp = some (.lst [.int c,.int k])∧(2≤g∧g≤4)∧(1≤n∧n≤4)∧∀ (q:Addr) (w:Wd) (H':Hp),Pu pp k H H'→WdA H' q w→(w.length:Int) = n→(∀ s∈w,0≤s∧s < g)→Q (.ref q) H'
 | _=>False
theorem ok_l_word (T:Tx K mg a):FnOk P w K mg base CX0 2 a.l_word a.l_word_d ["_law_purse_here","_law_signs","_law_width"] (sp_word):=by
 have G_l_draw:=ok_l_draw (P:=P) (w:=w) (base:=base) T
 refine T.f_l_word.ok sc_l_word (fun vs H Q E h=>?_) (fun cdv A outer s H vs Q E hr h=>?_)
 ·unfold sp_word at h
  split at h
  ·rfl
  ·exact h.elim
 ·unfold sp_word at h
  split at h
  ·have nd:=sc_l_word.nd
   have hu:=hu_of hr
   rename_i pp g w
   obtain⟨n,k,hp,⟨g0,g1⟩,⟨w0,w1⟩,h⟩:=h
   have P0:Pu pp k H H:=Pu.refl ⟨n,hp⟩
   refine⟨_,(pss_one (ps_ret (pe_callTy (q_tupOK (K:=K) rfl) rfl T.z_tuple bt_tuple (pa_cons (pe_lc (own:=["_law_k"]) (fr:=[0,1]) rfl (by walk_at "comp_ok") (qi_range1 rfl T.z_range (pa_cons (qv 2) pa_nil)) (fun _ _ _ _=>(pg_name (i:=0) (show List.Nodup (α:=Str) ["_law_k","_law_purse_here","_law_signs"] from by decide +kernel) rfl (by walk_at "o"))) (fun _ _ _ _=>pts_nil) (fun _ _ _ _=>(pe_call G_l_draw (hr.mono (by decide)) rfl T.g_l_draw T.f_l_draw.kp T.b_l_draw .nil pass0 (pa_cons (qv 1) (pa_cons (qv 2) pa_nil))))) pa_nil)))),?_⟩
   refine⟨⟨by omega,by omega⟩,?_⟩
   intro pr npr
   refine comp_range (lo:=0) (n:=w.toNat) (fun j σ H7=>∃ (v:Option V) (e:En),σ = [v,some (.ref pp),some (.int g)]∧Pu pp k H H7∧H7 pr = some (.lst (e.map V.int))∧e.length = j∧∀ s∈e,0≤s∧s < g) ?_ ?_ ?_
   ·exact⟨none,[],rfl,P0.sub (Sub.new npr),upd_same,rfl,by simp⟩
   ·rintro j σ H7 hj ⟨v,e,rfl,P7,g7,hel,hs⟩
    obtain⟨n7,e7⟩:=P7.has
    walk_at "w"
    refine⟨small_log (by omega) (by omega),_,_,e7,fun d8 n8 d80 d81=>?_⟩
    have P8:=P7.draw n8
    have Q8:=Pu.of_draw n8 e7
    generalize hg8:upd _ pp _ = H8 at P8 Q8 ⊢
    have e8:H8 pp = some (.lst [.int n8,.int k]):=by rw [← hg8]; exact upd_same
    clear hg8
    walk_at "w"
    have g8:H8 pr = some (.lst (e.map V.int)):=Q8.keep _ _ (by rintro rfl; rw [hp] at npr; cases npr) g7
    refine⟨_,g8,?_,_,e ++ [d8],rfl,P8.set npr,by rw [upd_same,List.map_append]; rfl,by simp [hel],?_⟩
    ·rw [List.length_map,hel]; exact Nat.lt_trans hj (Nat.lt_of_le_of_lt (show w.toNat≤4 by omega) (by decide))
    ·intro s hs'
     rcases List.mem_append.1 hs' with z | z
     ·exact hs s z
     ·rw [List.mem_singleton.1 z]; exact⟨d80,d81⟩
   ·rintro σ H7 ⟨v,e,rfl,P7,g7,hel,hs⟩
    refine⟨_,SqL.of g7,?_⟩
    intro p8 n8
    generalize hU8:upd _ p8 _ = H8
    have S8:=(upd_sub n8 hU8).1
    have e8:=(upd_sub n8 hU8).2
    clear hU8
    exact h p8 e H8 (P7.sub S8) e8 (by omega) hs
  ·exact h.elim
theorem sc_l_begun:FnScope ["_law_purse_here","_law_machine_here","_law_width","_law_signs","_law_noughts","_law_lefts","_law_rights","_law_middles","_law_row","_law_sign"] ["_law_purse_here","_law_machine_here","_law_width"] (defScope s_l_begun):=⟨rfl,rfl,rfl,by decide +kernel,rfl,by decide +kernel,by decide +kernel⟩
def sp_begun:Sp:=fun vs H Q _=>match vs with
 | [.ref pp,.ref t,.int n]=>∃ (c k:Int) (m:Ma),H pp = some (.lst [.int c,.int k])∧Mach H t m∧isM m = true∧(1≤n∧n≤4)∧∀ (q l r ms:Addr) (L R:List Wd) (Ms:List Md) (H':Hp),Pu pp k H H'→H' q = some (.lst [.ref l,.ref r,.ref ms])→WL H' l L→WL H' r R→ML H' ms Ms→(∀ w∈L,okW (sgn m) n w = true)→(∀ w∈R,okW (sgn m) n w = true)→(∀ d∈Ms,okM m n d = true)→noW n∈L→noW n∈R→(noW n,(0:Int),(0:Int),noW n)∈Ms→L.length≤3→R.length≤3→Ms.length≤2→Q (.ref q) H'
 | _=>False
theorem ok_l_begun (T:Tx K mg a):FnOk P w K mg base CX0 3 a.l_begun a.l_begun_d ["_law_purse_here","_law_machine_here","_law_width"] (sp_begun):=by
 have G_l_draw:=ok_l_draw (P:=P) (w:=w) (base:=base) T
 have G_l_word:=ok_l_word (P:=P) (w:=w) (base:=base) T
 refine T.f_l_begun.ok sc_l_begun (fun vs H Q E h=>?_) (fun cdv A outer s H vs Q E hr h=>?_)
 ·unfold sp_begun at h
  split at h
  ·rfl
  ·exact h.elim
 ·unfold sp_begun at h
  split at h
  ·have nd:=sc_l_begun.nd
   have hu:=hu_of hr
   rename_i pp t n
   obtain⟨c,k,m,hp,hm,hM,⟨hn1,hn4⟩,h⟩:=h
   have M:=OkM.of hM
   have s2:=M.s2
   have s4:=M.s4
   have r1:=M.n1
   have r4:=M.n4
   have P0:Pu pp k H H:=Pu.refl ⟨c,hp⟩
   obtain⟨vs,pr0,as0,es0,h1,h2,h3,h4,h5⟩:=mach_row hm (Int.le_refl 0) (by omega)
   have hel:=M.len es0 (List.mem_of_getElem? h5)
   refine⟨_,(pss_cons (ps_set (i:=3) nd rfl (by walk_at "o") (pe_callB (q_lenK (K:=K) rfl) rfl T.z_len bt_len (pa_cons (pe_ix (q_ixLK (K:=K) rfl) (qv 1) pe_int (fun _ _=>rfl)) pa_nil)))
  (pss_cons (ps_set (i:=4) nd rfl (by walk_at "o") (pe_op (q_repSK (K:=K) rfl) (pe_tup (pa_cons pe_int pa_nil)) (qv 2)))
  (pss_cut (ps_set (i:=5) nd rfl (by walk_at "o") (pe_op q_cat (pe_lst (pa_cons (qv 4) pa_nil)) (pe_lc (own:=["_law_k"]) (fr:=[0,3,2]) rfl (by walk_at "comp_ok") (qi_range1 rfl T.z_range (pa_cons (pe_call G_l_draw (hr.mono (by decide)) rfl T.g_l_draw T.f_l_draw.kp T.b_l_draw .nil pass0 (pa_cons (qv 0) (pa_cons pe_int pa_nil))) pa_nil)) (fun _ _ _ _=>(pg_name (i:=0) (show List.Nodup (α:=Str) ["_law_k","_law_purse_here","_law_signs","_law_width"] from by decide +kernel) rfl (by walk_at "o"))) (fun _ _ _ _=>pts_nil) (fun _ _ _ _=>(pe_call G_l_word (hr.mono (by decide)) rfl T.g_l_word T.f_l_word.kp T.b_l_word .nil pass0 (pa_cons (qv 1) (pa_cons (qv 2) (pa_cons (qv 3) pa_nil))))))))
  (pss_cut (ps_set (i:=6) nd rfl (by walk_at "o") (pe_op q_cat (pe_lst (pa_cons (qv 4) pa_nil)) (pe_lc (own:=["_law_k"]) (fr:=[0,3,2]) rfl (by walk_at "comp_ok") (qi_range1 rfl T.z_range (pa_cons (pe_call G_l_draw (hr.mono (by decide)) rfl T.g_l_draw T.f_l_draw.kp T.b_l_draw .nil pass0 (pa_cons (qv 0) (pa_cons pe_int pa_nil))) pa_nil)) (fun _ _ _ _=>(pg_name (i:=0) (show List.Nodup (α:=Str) ["_law_k","_law_purse_here","_law_signs","_law_width"] from by decide +kernel) rfl (by walk_at "o"))) (fun _ _ _ _=>pts_nil) (fun _ _ _ _=>(pe_call G_l_word (hr.mono (by decide)) rfl T.g_l_word T.f_l_word.kp T.b_l_word .nil pass0 (pa_cons (qv 1) (pa_cons (qv 2) (pa_cons (qv 3) pa_nil))))))))
  (pss_cut (ps_set (i:=7) nd rfl (by walk_at "o") (pe_lst (pa_cons (pe_tup (pa_cons (qv 4) (pa_cons pe_int (pa_cons pe_int (pa_cons (qv 4) pa_nil))))) pa_nil)))
  (pss_cons (ps_c (pt_c q_eq (pe_call G_l_draw (hr.mono (by decide)) rfl T.g_l_draw T.f_l_draw.kp T.b_l_draw .nil pass0 (pa_cons (qv 0) (pa_cons pe_int pa_nil))) pe_int) (pss_cons (ps_set (i:=8) nd rfl (by walk_at "o") (pe_call G_l_draw (hr.mono (by decide)) rfl T.g_l_draw T.f_l_draw.kp T.b_l_draw .nil pass0 (pa_cons (qv 0) (pa_cons (pe_callB (q_lenK (K:=K) rfl) rfl T.z_len bt_len (pa_cons (qv 1) pa_nil)) pa_nil))))
    (pss_cons (ps_set (i:=9) nd rfl (by walk_at "o") (pe_call G_l_draw (hr.mono (by decide)) rfl T.g_l_draw T.f_l_draw.kp T.b_l_draw .nil pass0 (pa_cons (qv 0) (pa_cons (qv 3) pa_nil))))
    (pss_one (ps_expr (pe_bm PySem.F.plainAttrs_list PySem.F.slot_list_append PySem.F.type_list_append q_app (qv 7) (pa_cons (pe_tup (pa_cons (pe_call G_l_word (hr.mono (by decide)) rfl T.g_l_word T.f_l_word.kp T.b_l_word .nil pass0 (pa_cons (qv 0) (pa_cons (qv 3) (pa_cons (qv 2) pa_nil)))) (pa_cons (qv 8) (pa_cons (qv 9) (pa_cons (pe_call G_l_word (hr.mono (by decide)) rfl T.g_l_word T.f_l_word.kp T.b_l_word .nil pass0 (pa_cons (qv 0) (pa_cons (qv 3) (pa_cons (qv 2) pa_nil)))) pa_nil))))) pa_nil)))))) pss_nil)
  (pss_one (ps_ret (pe_lst (pa_cons (qv 5) (pa_cons (qv 6) (pa_cons (qv 7) pa_nil)))))))))))),?_⟩
   refine⟨_,_,SqL.of h1,h2,?_⟩
   refine⟨_,.inl (SqL.of h3),?_⟩
   have hl0:((as0.map V.ref).length:Int) = sgn m:=by rw [List.length_map,h4.1,hel]
   rw [hl0]
   refine⟨by show 1≤sizeLine; decide,?_⟩
   intro p2 n2
   generalize hU2:upd _ p2 _ = H2
   have S2:=(upd_sub n2 hU2).1
   have e2:=(upd_sub n2 hU2).2
   clear hU2
   refine⟨_,e2,hn1,hn4,fun pz H3 S3 e3=>?_⟩
   have e3:WdA H3 pz (noW n):=by unfold WdA noW; rw [List.map_replicate]; exact e3
   have S03:=S2.trans S3
   have P3:=P0.sub S03
   have kno:=okW_no s2 hn1
   refine⟨fun σ H'=>∃ (pl:Addr) (L:List Wd),σ = [some (.ref pp),some (.ref t),some (.int n),some (.int (sgn m)),some (.ref pz),some (.ref pl),none,none,none,none]∧Pu pp k H3 H'∧WL H' pl L∧(∀ w∈L,okW (sgn m) n w = true)∧noW n∈L∧L.length≤3,?_,?_⟩
   ·walk_at "w"
    refine⟨by show 1≤sizeLine; decide,?_⟩
    intro p5 n5
    generalize hU5:upd _ p5 _ = H5
    have S5:=(upd_sub n5 hU5).1
    have e5:=(upd_sub n5 hU5).2
    clear hU5
    have P5:=P3.sub S5
    have R0:Pu pp k H3 H3:=Pu.refl P3.has
    have g5:=e5
    obtain⟨c5,e5⟩:=P5.has
    have R5:=R0.sub S5
    walk_at "w"
    refine⟨by decide,_,_,e5,fun d6 n6 d60 d61=>?_⟩
    have P6:=P5.draw n6
    have Q6:=Pu.of_draw n6 e5
    generalize hg6:upd _ pp _ = H6 at P6 Q6 ⊢
    have e6:H6 pp = some (.lst [.int n6,.int k]):=by rw [← hg6]; exact upd_same
    clear hg6
    walk_at "w"
    refine⟨⟨by omega,by omega⟩,?_⟩
    have R6:=R5.trans Q6
    intro pr npr
    have npr0:H3 pr = none:=R6.free npr
    refine comp_range (lo:=0) (n:=d6.toNat) (fun j σ H7=>∃ (v:Option V) (as:List Addr) (ws:List Wd),σ = [v,some (.ref pp),some (.int (sgn m)),some (.int n)]∧Pu pp k H6 H7∧RowA H7 pr as ws∧ws.length = j∧∀ w∈ws,okW (sgn m) n w = true) ?_ ?_ ?_
    ·exact⟨none,[],[],rfl,(Pu.refl ⟨_,e6⟩).sub (Sub.new npr),⟨upd_same,.nil⟩,rfl,by simp⟩
    ·rintro j σ H7 hj ⟨v,as,ws,rfl,P7,R7,hwl,hwk⟩
     obtain⟨c7,e7⟩:=P7.has
     refine⟨_,_,e7,⟨by omega,by omega⟩,⟨hn1,hn4⟩,fun q w H8 P8 hq hl hs=>?_⟩
     have R8:=R7.stay P8.stay
     refine⟨_,R8.1,?_,_,as ++ [q],ws ++ [w],rfl,(P7.trans P8).set npr,R8.app' hq,by simp [hwl],?_⟩
     ·rw [List.length_map,R8.2.1,hwl]; exact Nat.lt_trans hj (Nat.lt_of_le_of_lt (show d6.toNat≤2 by omega) (by decide))
     ·intro x hx
      rcases List.mem_append.1 hx with hx | hx
      ·exact hwk x hx
      ·rw [List.mem_singleton.1 hx]; exact okW_iff.2 ⟨hl,hs⟩
    rintro σ H7 ⟨v,as,ws,rfl,P7,R7,hwl,hwk⟩
    have g7:H7 p5 = some (.lst ([pz].map V.ref)):=P7.stay.refs _ [pz] (Q6.stay.refs _ [pz] g5)
    have z7:WdA H7 pz (noW n):=P7.stay.tup _ _ (R6.stay.tup _ _ e3)
    refine⟨_,_,g7,R7.1,by rw [List.length_map,List.length_map,R7.2.1,hwl]; exact Nat.le_trans (show [pz].length + d6.toNat≤3 by show 1 + d6.toNat≤3; omega) (by decide),?_⟩
    intro p9 n9
    generalize hU9:upd _ p9 _ = H9
    have S9:=(upd_sub n9 hU9).1
    have e9:=(upd_sub n9 hU9).2
    clear hU9
    refine⟨p9,noW n :: ws,rfl,(R6.trans P7).sub S9,⟨pz :: as,e9,?_⟩,fun w hw=>?_,List.mem_cons_self ..,?_⟩
    ·exact (All2.app (as:=[]) (xs:=[]) .nil (S9 _ _ z7)).append (R7.2.mono fun _ _ _ z=>S9 _ _ z)
    ·rcases List.mem_cons.1 hw with rfl | hw
     ·exact kno
     ·exact hwk w hw
    ·rw [List.length_cons,hwl]; omega
   rintro σ Ha ⟨pl,L,rfl,Pa,wL,okL,noL,lL⟩
   have P4:=P3.trans Pa
   have e4:WdA Ha pz (noW n):=Pa.stay.tup _ _ e3
   refine⟨fun σ H'=>∃ (pr':Addr) (L:List Wd),σ = [some (.ref pp),some (.ref t),some (.int n),some (.int (sgn m)),some (.ref pz),some (.ref pl),some (.ref pr'),none,none,none]∧Pu pp k Ha H'∧WL H' pr' L∧(∀ w∈L,okW (sgn m) n w = true)∧noW n∈L∧L.length≤3,?_,?_⟩
   ·walk_at "w"
    refine⟨by show 1≤sizeLine; decide,?_⟩
    intro p5 n5
    generalize hU5:upd _ p5 _ = H5
    have S5:=(upd_sub n5 hU5).1
    have e5:=(upd_sub n5 hU5).2
    clear hU5
    have P5:=P4.sub S5
    have R0:Pu pp k Ha Ha:=Pu.refl P4.has
    have g5:=e5
    obtain⟨c5,e5⟩:=P5.has
    have R5:=R0.sub S5
    walk_at "w"
    refine⟨by decide,_,_,e5,fun d6 n6 d60 d61=>?_⟩
    have P6:=P5.draw n6
    have Q6:=Pu.of_draw n6 e5
    generalize hg6:upd _ pp _ = H6 at P6 Q6 ⊢
    have e6:H6 pp = some (.lst [.int n6,.int k]):=by rw [← hg6]; exact upd_same
    clear hg6
    walk_at "w"
    refine⟨⟨by omega,by omega⟩,?_⟩
    have R6:=R5.trans Q6
    intro pr npr
    have npr0:Ha pr = none:=R6.free npr
    refine comp_range (lo:=0) (n:=d6.toNat) (fun j σ H7=>∃ (v:Option V) (as:List Addr) (ws:List Wd),σ = [v,some (.ref pp),some (.int (sgn m)),some (.int n)]∧Pu pp k H6 H7∧RowA H7 pr as ws∧ws.length = j∧∀ w∈ws,okW (sgn m) n w = true) ?_ ?_ ?_
    ·exact⟨none,[],[],rfl,(Pu.refl ⟨_,e6⟩).sub (Sub.new npr),⟨upd_same,.nil⟩,rfl,by simp⟩
    ·rintro j σ H7 hj ⟨v,as,ws,rfl,P7,R7,hwl,hwk⟩
     obtain⟨c7,e7⟩:=P7.has
     refine⟨_,_,e7,⟨by omega,by omega⟩,⟨hn1,hn4⟩,fun q w H8 P8 hq hl hs=>?_⟩
     have R8:=R7.stay P8.stay
     refine⟨_,R8.1,?_,_,as ++ [q],ws ++ [w],rfl,(P7.trans P8).set npr,R8.app' hq,by simp [hwl],?_⟩
     ·rw [List.length_map,R8.2.1,hwl]; exact Nat.lt_trans hj (Nat.lt_of_le_of_lt (show d6.toNat≤2 by omega) (by decide))
     ·intro x hx
      rcases List.mem_append.1 hx with hx | hx
      ·exact hwk x hx
      ·rw [List.mem_singleton.1 hx]; exact okW_iff.2 ⟨hl,hs⟩
    rintro σ H7 ⟨v,as,ws,rfl,P7,R7,hwl,hwk⟩
    have g7:H7 p5 = some (.lst ([pz].map V.ref)):=P7.stay.refs _ [pz] (Q6.stay.refs _ [pz] g5)
    have z7:WdA H7 pz (noW n):=P7.stay.tup _ _ (R6.stay.tup _ _ e4)
    refine⟨_,_,g7,R7.1,by rw [List.length_map,List.length_map,R7.2.1,hwl]; exact Nat.le_trans (show [pz].length + d6.toNat≤3 by show 1 + d6.toNat≤3; omega) (by decide),?_⟩
    intro p9 n9
    generalize hU9:upd _ p9 _ = H9
    have S9:=(upd_sub n9 hU9).1
    have e9:=(upd_sub n9 hU9).2
    clear hU9
    refine⟨p9,noW n :: ws,rfl,(R6.trans P7).sub S9,⟨pz :: as,e9,?_⟩,fun w hw=>?_,List.mem_cons_self ..,?_⟩
    ·exact (All2.app (as:=[]) (xs:=[]) .nil (S9 _ _ z7)).append (R7.2.mono fun _ _ _ z=>S9 _ _ z)
    ·rcases List.mem_cons.1 hw with rfl | hw
     ·exact kno
     ·exact hwk w hw
    ·rw [List.length_cons,hwl]; omega
   rintro σ Hb ⟨pr',R,rfl,Pb,wR,okR,noR,lR⟩
   have P5:=P4.trans Pb
   have e5:WdA Hb pz (noW n):=Pb.stay.tup _ _ e4
   have wL:=wL.stay Pb.stay
   have hm5:=hm.stay P5.stay
   have okm0:okM m n (noW n,0,0,noW n) = true:=okM_iff.2 ⟨kno,kno,⟨Int.le_refl _,by show (0:Int) < (m.length:Int); omega⟩,Int.le_refl _,by show (0:Int) < (sgn m:Int); omega⟩
   refine⟨fun σ H'=>∃ pm,σ = [some (.ref pp),some (.ref t),some (.int n),some (.int (sgn m)),some (.ref pz),some (.ref pl),some (.ref pr'),some (.ref pm),none,none]∧Sub Hb H'∧Hb pm = none∧ML H' pm [(noW n,0,0,noW n)],?_,?_⟩
   ·walk_at "w"
    refine⟨by show 4≤sizeLine; decide,?_⟩
    intro p6 n6
    generalize hU6:upd _ p6 _ = H6
    have S6:=(upd_sub n6 hU6).1
    have e6:=(upd_sub n6 hU6).2
    clear hU6
    refine⟨by show 1≤sizeLine; decide,?_⟩
    intro p7 n7
    generalize hU7:upd _ p7 _ = H7
    have S7:=(upd_sub n7 hU7).1
    have e7:=(upd_sub n7 hU7).2
    clear hU7
    refine⟨p7,rfl,S6.trans S7,S6.free n7,[p6],e7,All2.app (as:=[]) (xs:=[]) .nil ⟨pz,pz,S7 _ _ e6,S7 _ _ (S6 _ _ e5),S7 _ _ (S6 _ _ e5)⟩⟩
   rintro σ Hc ⟨pm,rfl,Sc,npm,wM⟩
   have P6:=P5.sub Sc
   have Pbc:Pu pp k Hb Hc:=(Pu.refl P5.has).sub Sc
   have hm6:=hm5.stay (.sub Sc)
   obtain⟨c6,e6⟩:=P6.has
   walk_at "w"
   refine⟨by decide,_,_,e6,fun d7 n7 d70 d71=>?_⟩
   have P7:=P6.draw n7
   have Q7:=Pu.of_draw n7 e6
   generalize hg7:upd _ pp _ = H7 at P7 Q7 ⊢
   have e7:H7 pp = some (.lst [.int n7,.int k]):=by rw [← hg7]; exact upd_same
   clear hg7
   walk_at "w"
   have Pb7:=Pbc.trans Q7
   refine ifB.dec (fun c0=>?_) (fun c0=>?_)
   ·obtain⟨rs7,hm7⟩:=hm6.stay Q7.stay
    refine⟨_,.inl (SqL.of hm7.1),?_⟩
    have hml:((rs7.map V.ref).length:Int) = m.length:=by rw [List.length_map,hm7.2.2.1]
    rw [hml]
    walk_at "w"
    refine⟨small_log (by omega) (by omega),_,_,e7,fun d8 n8 d80 d81=>?_⟩
    have P8:=P7.draw n8
    have Q8:=Pu.of_draw n8 e7
    generalize hg8:upd _ pp _ = H8 at P8 Q8 ⊢
    have e8:H8 pp = some (.lst [.int n8,.int k]):=by rw [← hg8]; exact upd_same
    clear hg8
    walk_at "w"
    walk_at "w"
    refine⟨small_log (by omega) (by omega),_,_,e8,fun d9 n9 d90 d91=>?_⟩
    have P9:=P8.draw n9
    have Q9:=Pu.of_draw n9 e8
    generalize hg9:upd _ pp _ = H9 at P9 Q9 ⊢
    have e9:H9 pp = some (.lst [.int n9,.int k]):=by rw [← hg9]; exact upd_same
    clear hg9
    walk_at "w"
    have Pb9:=(Pb7.trans Q8).trans Q9
    have wM9:=((wM.stay Q7.stay).stay Q8.stay).stay Q9.stay
    obtain⟨as9,gM9,aM9⟩:=id wM9
    refine⟨.inl ⟨rfl,_,SqL.of gM9⟩,?_⟩
    refine⟨_,_,e9,⟨by omega,by omega⟩,⟨hn1,hn4⟩,fun q1 w1 H10 P10 hq1 hl1 hs1=>?_⟩
    obtain⟨c10,e10⟩:=P10.has
    refine⟨_,_,e10,⟨by omega,by omega⟩,⟨hn1,hn4⟩,fun q2 w2 H11 P11 hq2 hl2 hs2=>?_⟩
    refine⟨by show 4≤sizeLine; decide,?_⟩
    intro p12 n12
    generalize hU12:upd _ p12 _ = H12
    have S12:=(upd_sub n12 hU12).1
    have e12:=(upd_sub n12 hU12).2
    clear hU12
    have P911:=P10.trans P11
    have gM12:H12 pm = some (.lst (as9.map V.ref)):=S12 _ _ (P911.stay.refs _ _ gM9)
    have aM12:All2 (MdA H12) as9 [(noW n,0,0,noW n)]:=(aM9.mono fun _ _ _ z=>MdA.tup P911.stay.tup z).mono fun _ _ _ z=>MdA.sub S12 z
    have Pb12:=(Pb9.trans P911).sub S12
    have md:MdA H12 p12 (w1,d8,d9,w2):=⟨q1,q2,e12,S12 _ _ (P11.stay.tup _ _ hq1),S12 _ _ hq2⟩
    have la9:=aM9.1
    have kt:∀ a us,H12 a = some (.tup us)→(upd H12 pm (.lst (as9.map V.ref ++ [V.ref p12]))) a = some (.tup us):=fun a us e=>by
     rw [upd_ne (by rintro rfl; rw [gM12] at e; cases e)]; exact e
    refine⟨_,gM12,by rw [List.length_map,la9]; show 1 < sizeLine; decide,?_⟩
    have Pb13:=Pb12.set (o:=.lst (as9.map V.ref ++ [V.ref p12])) npm
    have wM13:ML (upd H12 pm (.lst (as9.map V.ref ++ [V.ref p12]))) pm [(noW n,0,0,noW n),(w1,d8,d9,w2)]:=⟨as9 ++ [p12],by rw [upd_same,List.map_append]; rfl,(aM12.mono fun _ _ _ z=>z.tup kt).app (md.tup kt)⟩
    generalize upd H12 pm (.lst (as9.map V.ref ++ [V.ref p12])) = H13 at Pb13 wM13
    refine⟨by show 3≤sizeLine; decide,?_⟩
    intro p14 n14
    generalize hU14:upd _ p14 _ = H14
    have S14:=(upd_sub n14 hU14).1
    have e14:=(upd_sub n14 hU14).2
    clear hU14
    have Pb14:=Pb13.sub S14
    refine h p14 pl pr' pm L R _ H14 (P5.trans Pb14) e14 (wL.stay Pb14.stay) (wR.stay Pb14.stay) (wM13.sub S14) okL okR (fun d hd=>?_) noL noR (List.mem_cons_self ..) lL lR (Nat.le_refl _)
    rcases List.mem_cons.1 hd with rfl | hd
    ·exact okm0
    ·rw [List.mem_singleton.1 hd]
     exact okM_iff.2 ⟨okW_iff.2 ⟨hl1,hs1⟩,okW_iff.2 ⟨hl2,hs2⟩,⟨d80,d81⟩,d90,d91⟩
   ·walk_at "w"
    refine⟨by show 3≤sizeLine; decide,?_⟩
    intro p8 n8
    generalize hU8:upd _ p8 _ = H8
    have S8:=(upd_sub n8 hU8).1
    have e8:=(upd_sub n8 hU8).2
    clear hU8
    have Pb8:=Pb7.sub S8
    refine h p8 pl pr' pm L R _ H8 (P5.trans Pb8) e8 (wL.stay Pb8.stay) (wR.stay Pb8.stay) ((wM.stay Q7.stay).sub S8) okL okR (fun d hd=>?_) noL noR (List.mem_singleton.2 rfl) lL lR (by show 1≤2; decide)
    rw [List.mem_singleton.1 hd]
    exact okm0
  ·exact h.elim
theorem sc_l_closed:FnScope ["_law_machine_here","_law_width","_law_begun_here","_law_lefts","_law_rights","_law_middles","_law_found","_law_some","_law_one","_law_many","_law_middle","_law_asked"] ["_law_machine_here","_law_width","_law_begun_here"] (defScope s_l_closed):=⟨rfl,rfl,rfl,by decide +kernel,rfl,by decide +kernel,by decide +kernel⟩
theorem rWs_mem {sg:Nat} {n:Int} (hn:1≤n) {R:List Wd} (hR:∀ w∈R,okW sg n w = true) {d:Md} (hd:d.2.2.2.length = n) {w:Wd}:w∈rWs sg R d ↔ w∈R.filter fun w=>decide (w.dropLast = d.2.2.2.drop 1):=by
 unfold rWs
 rw [List.mem_filter,List.mem_filter,decide_eq_true_eq,decide_eq_true_eq,List.mem_map]
 constructor
 ·rintro ⟨⟨f,_,rfl⟩,h2⟩
  exact⟨h2,List.dropLast_concat⟩
 ·rintro ⟨h1,h2⟩
  obtain⟨hl,hs⟩:=okW_iff.1 (hR w h1)
  have hne:w≠[]:=by rintro rfl; have hl:((0:Nat):Int) = n:=hl; omega
  have hlast:=hs _ (List.getLast_mem hne)
  refine⟨⟨(w.getLast hne).toNat,List.mem_range.2 (by omega),?_⟩,h1⟩
  rw [← h2,show (((w.getLast hne).toNat:Nat):Int) = w.getLast hne by omega]
  exact List.dropLast_concat_getLast hne
theorem lWs_mem {sg:Nat} {n:Int} (hn:1≤n) {L:List Wd} (hL:∀ w∈L,okW sg n w = true) {d:Md} {w:Wd}:w∈lWs sg L d ↔ w∈L.filter fun w=>decide (w.drop 1 = d.1.dropLast):=by
 unfold lWs
 rw [List.mem_filter,List.mem_filter,decide_eq_true_eq,decide_eq_true_eq,List.mem_map]
 constructor
 ·rintro ⟨⟨f,_,rfl⟩,h2⟩
  exact⟨h2,rfl⟩
 ·rintro ⟨h1,h2⟩
  obtain⟨hl,hs⟩:=okW_iff.1 (hL w h1)
  cases w with
  | nil=>have hl:((0:Nat):Int) = n:=hl; omega
  | cons x w =>
   have hx:=hs x (by simp)
   refine⟨⟨x.toNat,List.mem_range.2 (by omega),?_⟩,h1⟩
   rw [← h2,show ((x.toNat:Nat):Int) = x by omega]
   rfl
theorem askL_M {m:Ma} {n:Int} (hn:1≤n) {L R:List Wd} (okL:∀ w∈L,okW (sgn m) n w = true) (okR:∀ w∈R,okW (sgn m) n w = true) {d:Md} (hd:d.2.2.2.length = n) {e:En} (he:∃ a b c,e = [a,b,c]) :
  ((askL L R d e).1 = "left"∧(askM (sgn m) L R d e).1 = [(askL L R d e).2.1]∧(askM (sgn m) L R d e).2.1 = []∨(askL L R d e).1 = "right"∧(askM (sgn m) L R d e).1 = []∧(askM (sgn m) L R d e).2.1 = [(askL L R d e).2.1])∧∀ x,x∈(askL L R d e).2.2 ↔ x∈(askM (sgn m) L R d e).2.2:=by
 obtain⟨put,way,after,rfl⟩:=he
 by_cases c:way = 1
 ·have e1:askM (sgn m) L R d [put,way,after] = ([nlW d put],[],(rWs (sgn m) R d).map fun w=>(nlW d put,after,d.2.2.2.headD 0,w)):=by show (if way = 1 then _ else _) = _; rw [if_pos c]
  have e2:askL L R d [put,way,after] = (("left":Str),nlW d put,(R.filter fun w=>decide (w.dropLast = d.2.2.2.drop 1)).map fun w=>(nlW d put,after,d.2.2.2.headD 0,w)):=by show (if way = 1 then _ else _) = _; rw [if_pos c]
  rw [e1,e2]
  refine⟨.inl ⟨rfl,rfl,rfl⟩,fun x=>?_⟩
  show x∈List.map _ _ ↔ x∈List.map _ _
  rw [List.mem_map,List.mem_map]
  exact⟨fun ⟨w,hw,e⟩=>⟨w,(rWs_mem hn okR hd).2 hw,e⟩,fun ⟨w,hw,e⟩=>⟨w,(rWs_mem hn okR hd).1 hw,e⟩⟩
 ·have e1:askM (sgn m) L R d [put,way,after] = ([],[nrW d put],(lWs (sgn m) L d).map fun w=>(w,after,d.1.getLastD 0,nrW d put)):=by show (if way = 1 then _ else _) = _; rw [if_neg c]
  have e2:askL L R d [put,way,after] = (("right":Str),nrW d put,(L.filter fun w=>decide (w.drop 1 = d.1.dropLast)).map fun w=>(w,after,d.1.getLastD 0,nrW d put)):=by show (if way = 1 then _ else _) = _; rw [if_neg c]
  rw [e1,e2]
  refine⟨.inr ⟨rfl,rfl,rfl⟩,fun x=>?_⟩
  show x∈List.map _ _ ↔ x∈List.map _ _
  rw [List.mem_map,List.mem_map]
  exact⟨fun ⟨w,hw,e⟩=>⟨w,(lWs_mem hn okL).2 hw,e⟩,fun ⟨w,hw,e⟩=>⟨w,(lWs_mem hn okL).1 hw,e⟩⟩
theorem put_keys {α:Type} {f:α→NK} (fi:∀ a b,f a = f b→a = b) {kvs:List (NK × Addr × V)} {L:List α} (hk:kvs.map (·.1) = L.map f) (w:α) (b:Addr) (v:V):∃ x:List α,(kPut kvs (f w) b v).map (·.1) = (L ++ x).map f∧(∀ y∈x,y = w)∧w∈L ++ x:=by
 rw [kPut_keys,hk]
 by_cases c:f w∈L.map f
 ·rw [if_pos c]
  obtain⟨y,hy,e⟩:=List.mem_map.1 c
  exact⟨[],by rw [List.append_nil],fun y h=>(by cases h),by rw [List.append_nil,← fi _ _ e]; exact hy⟩
 ·rw [if_neg c]
  exact⟨[w],by rw [List.map_append]; rfl,fun y h=>List.mem_singleton.1 h,List.mem_append_right _ (List.mem_singleton.2 rfl)⟩
theorem wkeys_all2 {H:Hp} {d:Addr} {km:List (NK × Addr × V)} {Ms:List Wd} (D:DNx H d km) (h:km.map (·.1) = Ms.map wK):All2 (WdA H) (km.map (·.2.1)) Ms:=by
 have hl:km.length = Ms.length:=by have:=congrArg List.length h; simpa using this
 refine⟨by rw [List.length_map]; exact hl,fun i a x ha hx=>?_⟩
 rw [List.getElem?_map] at ha
 obtain⟨q,hq,rfl⟩:=Option.map_eq_some_iff.1 ha
 have:=congrArg (fun l=>l[i]?) h
 simp only [List.getElem?_map,hq,hx,Option.map_some] at this
 have e:=Option.some.inj this
 have hd:=(D.ks q (List.mem_of_getElem? hq)).2
 rw [e] at hd
 exact wda_of hd
theorem keys_as {α:Type} {f:α→NK} (fi:∀ a b,f a = f b→a = b) {l:List NK} {L:List α} (h:∀ k,k∈l ↔ k∈L.map f):∃ z:List α,l = z.map f∧∀ w,w∈z ↔ w∈L:=by
 have:∀ l:List NK,(∀ x∈l,x∈L.map f)→∃ z:List α,l = z.map f:=by
  intro l
  induction l with
  | nil=>intro _; exact⟨[],rfl⟩
  | cons a l ih =>
   intro h
   obtain⟨z,hz⟩:=ih fun x hx=>h x (List.mem_cons_of_mem _ hx)
   obtain⟨y,_,e⟩:=List.mem_map.1 (h a (List.mem_cons_self ..))
   exact⟨y :: z,by rw [List.map_cons,e,hz]⟩
 obtain⟨z,rfl⟩:=this l fun x hx=>(h x).1 hx
 have hm:∀ {w:α} {l:List α},f w∈l.map f ↔ w∈l:=fun {w l}=>⟨fun h=>by obtain⟨v,hv,e⟩:=List.mem_map.1 h; rw [← fi _ _ e]; exact hv,fun h=>List.mem_map.2 ⟨w,h,rfl⟩⟩
 exact⟨z,rfl,fun w=>by rw [← hm (l:=z),h,hm]⟩
def sp_closed:Sp:=fun vs H Q _=>match vs with
 | [.ref t,.int n,.ref bq]=>∃ (m:Ma) (bl br bm:Addr) (L0 R0:List Wd) (M0:List Md),Mach H t m∧isM m = true∧isWid (sgn m) n = true∧H bq = some (.lst [.ref bl,.ref br,.ref bm])∧WL H bl L0∧WL H br R0∧ML H bm M0∧(∀ w∈L0,okW (sgn m) n w = true)∧(∀ w∈R0,okW (sgn m) n w = true)∧(∀ d∈M0,okM m n d = true)∧noW n∈L0∧noW n∈R0∧(noW n,(0:Int),(0:Int),noW n)∈M0∧L0.length≤3∧R0.length≤3∧M0.length≤2∧(∀ H',Sub H H'→Q .non H') ∧
   ∀ (q l r ms:Addr) (wd:Str) (L R:List Wd) (Ms:List Md) (H':Hp),Sub H H'→H' q = some (.tup [.str wd,.int n,.ref l,.ref r,.ref ms])→WL H' l L→WL H' r R→ML H' ms Ms→GI m n L R Ms→noW n∈L→noW n∈R→(noW n,0,0,noW n)∈Ms→(∀ d∈Ms,keptB m L R Ms d = true)→wd = "shut"→H l = none→H r = none→H ms = none→Q (.ref q) H'
 | _=>False
theorem ok_l_closed (T:Tx K mg a):FnOk P w K mg base CX0 2 a.l_closed a.l_closed_d ["_law_machine_here","_law_width","_law_begun_here"] (sp_closed):=by
 have G_l_asked_by:=ok_l_asked_by (P:=P) (w:=w) (base:=base) T
 refine T.f_l_closed.ok sc_l_closed (fun vs H Q E h=>?_) (fun cdv A outer s H vs Q E hr h=>?_)
 ·unfold sp_closed at h
  split at h
  ·rfl
  ·exact h.elim
 ·unfold sp_closed at h
  split at h
  ·have nd:=sc_l_closed.nd
   have hu:=hu_of hr
   rename_i t n bq
   obtain⟨m,bl,br,bm,L0,R0,M0,hm,hM,hW,hbq,wL0,wR0,wM0,ok0L,ok0R,ok0M,no0L,no0R,no0M,l0L,l0R,l0M,hnone,h⟩:=h
   have M:=OkM.of hM
   obtain⟨_,hn1,hn4⟩:=wid16 M.s2 M.s4 hW
   refine⟨_,(pss_cut (ps_asg (pe_lst (pa_cons pe_dnewN (pa_cons pe_dnewN (pa_cons pe_dnewN pa_nil)))) (qg_tupLK (K:=K) (n:=3) rfl rfl (qgs_cons (pg_name (i:=3) nd rfl (by walk_at "o")) (qgs_cons (pg_name (i:=4) nd rfl (by walk_at "o")) (qgs_cons (pg_name (i:=5) nd rfl (by walk_at "o")) qgs_nil)))))
  (pss_cut (ps_for PassesOwn.never rfl (qi_listK (K:=K) rfl (pe_lst (pa_cons (pe_tup (pa_cons (qv 3) (pa_cons (pe_ix (q_ixLK (K:=K) rfl) (qv 2) pe_int (fun _ _=>rfl)) pa_nil))) (pa_cons (pe_tup (pa_cons (qv 4) (pa_cons (pe_ix (q_ixLK (K:=K) rfl) (qv 2) pe_int (fun _ _=>rfl)) pa_nil))) (pa_cons (pe_tup (pa_cons (qv 5) (pa_cons (pe_ix (q_ixLK (K:=K) rfl) (qv 2) pe_int (fun _ _=>rfl)) pa_nil))) pa_nil))))) (qg_tupK (K:=K) (n:=2) rfl rfl (qgs_cons (pg_name (i:=6) nd rfl (by walk_at "o")) (qgs_cons (pg_name (i:=7) nd rfl (by walk_at "o")) qgs_nil))) (pss_one (ps_for PassesOwn.never rfl (qi_listK (K:=K) rfl (qv 7)) (pg_name (i:=8) nd rfl (by walk_at "o")) (pss_one (ps_dputA hr (qv 6) (qv 8) pe_bl rfl)))))
  (pss_cons (ps_set (i:=9) nd rfl (by walk_at "o") pe_int)
  (pss_cons (ps_while PassesOwn.never (pt_c q_lt (qv 9) (pe_op q_add (pe_op q_add (pe_callB q_lenN rfl T.z_len bt_len (pa_cons (qv 3) pa_nil)) (pe_callB q_lenN rfl T.z_len bt_len (pa_cons (qv 4) pa_nil))) (pe_callB q_lenN rfl T.z_len bt_len (pa_cons (qv 5) pa_nil)))) (pss_cons (ps_set (i:=9) nd rfl (by walk_at "o") (pe_op q_add (pe_op q_add (pe_callB q_lenN rfl T.z_len bt_len (pa_cons (qv 3) pa_nil)) (pe_callB q_lenN rfl T.z_len bt_len (pa_cons (qv 4) pa_nil))) (pe_callB q_lenN rfl T.z_len bt_len (pa_cons (qv 5) pa_nil))))
    (pss_one (ps_for PassesOwn.never rfl (qi_listK (K:=K) rfl (pe_callTy (q_listN rfl) rfl T.z_list bt_list (pa_cons (qv 5) pa_nil))) (pg_name (i:=10) nd rfl (by walk_at "o")) (pss_cons (ps_set (i:=11) nd rfl (by walk_at "o") (pe_call G_l_asked_by (hr.mono (by decide)) rfl T.g_l_asked_by T.f_l_asked_by.kp T.b_l_asked_by .nil pass0 (pa_cons (qv 0) (pa_cons (qv 10) (pa_cons (pe_callTy (q_listN rfl) rfl T.z_list bt_list (pa_cons (qv 3) pa_nil)) (pa_cons (pe_callTy (q_listN rfl) rfl T.z_list bt_list (pa_cons (qv 4) pa_nil)) pa_nil))))))
      (pss_cons (ps_c (pt_c op_isN (qv 11) pe_non) (pss_one (ps_ret pe_non)) pss_nil)
      (pss_cut (ps_c (pt_c q_eq (pe_ix (q_ixTK (K:=K) rfl) (qv 11) pe_int (fun _ _=>rfl)) pe_str) (pss_one (ps_dputA hr (qv 3) (pe_ix (q_ixTK (K:=K) rfl) (qv 11) pe_int (fun _ _=>rfl)) pe_bl rfl)) (pss_one (ps_dputA hr (qv 4) (pe_ix (q_ixTK (K:=K) rfl) (qv 11) pe_int (fun _ _=>rfl)) pe_bl rfl)))
      (pss_one (ps_for PassesOwn.never rfl (qi_listK (K:=K) rfl (pe_ix (q_ixTK (K:=K) rfl) (qv 11) pe_int (fun _ _=>rfl))) (pg_name (i:=8) nd rfl (by walk_at "o")) (pss_one (ps_dputA hr (qv 5) (qv 8) pe_bl rfl)))))))))))
  (pss_one (ps_ret (pe_tup (pa_cons pe_str (pa_cons (qv 1) (pa_cons (pe_callTy (q_listN rfl) rfl T.z_list bt_list (pa_cons (qv 3) pa_nil)) (pa_cons (pe_callTy (q_listN rfl) rfl T.z_list bt_list (pa_cons (qv 4) pa_nil)) (pa_cons (pe_callTy (q_listN rfl) rfl T.z_list bt_list (pa_cons (qv 5) pa_nil)) pa_nil)))))))))))),?_⟩
   refine⟨fun σ H'=>∃ p4 p5 dm,σ = [some (.ref t),some (.int n),some (.ref bq),some (.ref p4),some (.ref p5),some (.ref dm),none,none,none,none,none,none]∧Sub H H'∧DNx H' p4 []∧DNx H' p5 []∧DNx H' dm []∧H p4 = none∧H p5 = none∧H dm = none∧p4≠p5∧p4≠dm∧p5≠dm,?_,?_⟩
   ·walk_at "w"
    intro p4 H1 n4 hH1 D4
    have S1:Sub H H1:=by rw [hH1]; exact Sub.new n4
    clear hH1
    walk_at "w"
    intro p5 H2 n5 hH2 D5
    have S2:Sub H1 H2:=by rw [hH2]; exact Sub.new n5
    clear hH2
    walk_at "w"
    intro dm H3 nm hH3 Dm
    have S3:Sub H2 H3:=by rw [hH3]; exact Sub.new nm
    clear hH3
    refine⟨by show 3≤sizeLine; decide,?_⟩
    intro p9 n9
    generalize hU9:upd _ p9 _ = H9
    have S9:=(upd_sub n9 hU9).1
    have e9:=(upd_sub n9 hU9).2
    clear hU9
    have x45:p4≠p5:=by obtain⟨xs,e,_⟩:=D4.ex; rintro rfl; rw [e] at n5; cases n5
    have x4m:p4≠dm:=by obtain⟨xs,e,_⟩:=(D4.sub S2).ex; rintro rfl; rw [e] at nm; cases nm
    have x5m:p5≠dm:=by obtain⟨xs,e,_⟩:=D5.ex; rintro rfl; rw [e] at nm; cases nm
    refine⟨_,SqL.of e9,rfl,?_⟩
    exact⟨p4,p5,dm,rfl,((S1.trans S2).trans S3).trans S9,((D4.sub S2).sub S3).sub S9,(D5.sub S3).sub S9,Dm.sub S9,n4,S1.free n5,(S1.trans S2).free nm,x45,x4m,x5m⟩
   rintro σ H1 ⟨p4,p5,dm,rfl,S1,D4,D5,Dm,n40,n50,nm0,n45,n4m,n5m⟩
   refine⟨fun σ H'=>∃ (v6 v7 v8:Option V) (L R:List Wd) (Ms:List Md),σ = [some (.ref t),some (.int n),some (.ref bq),some (.ref p4),some (.ref p5),some (.ref dm),v6,v7,v8,none,none,none]∧Sub H H'∧LSt H' p4 p5 dm L R Ms∧GI m n L R Ms∧noW n∈L∧noW n∈R∧(noW n,(0:Int),(0:Int),noW n)∈Ms,?_,?_⟩
   ·obtain⟨da,hda⟩:∃ da:Nat→Addr,da = fun j=>if j = 0 then p4 else if j = 1 then p5 else dm:=⟨_,rfl⟩
    obtain⟨ba,hba⟩:∃ ba:Nat→Addr,ba = fun j=>if j = 0 then bl else if j = 1 then br else bm:=⟨_,rfl⟩
    obtain⟨ks,hks⟩:∃ ks:Nat→List NK,ks = fun j=>if j = 0 then L0.map wK else if j = 1 then R0.map wK else M0.map mK:=⟨_,rfl⟩
    have dd:∀ j,j < 3→DNx H1 (da j) []:=by subst hda; exact three D4 D5 Dm
    have db:∀ j,j < 3→NL H (ba j) (ks j):=by subst hba; subst hks; exact three wL0.nl wR0.nl wM0.nl
    have dl:∀ j,j < 3→(ks j).length≤3:=by
     subst hks
     refine three ?_ ?_ ?_
     ·show (L0.map wK).length≤3; rw [List.length_map]; exact l0L
     ·show (R0.map wK).length≤3; rw [List.length_map]; exact l0R
     ·show (M0.map mK).length≤3; rw [List.length_map]; omega
    have dn:∀ j,j < 3→H (da j) = none:=by subst hda; exact three n40 n50 nm0
    have di:∀ i,i < 3→∀ j,j < 3→j≠i→da j≠da i:=by
     subst hda
     refine three (three (fun z=>(z rfl).elim) (fun _=>Ne.symm n45) (fun _=>Ne.symm n4m)) (three (fun _=>n45) (fun z=>(z rfl).elim) (fun _=>Ne.symm n5m)) (three (fun _=>n4m) (fun _=>n5m) (fun z=>(z rfl).elim))
    refine⟨_,_,SqL.of (S1 _ _ hbq),atI_nat (j:=0) rfl,?_⟩
    refine⟨by show 2≤sizeLine; decide,?_⟩
    intro p2 n2
    generalize hU2:upd _ p2 _ = H2
    have S2:=(upd_sub n2 hU2).1
    have e2:=(upd_sub n2 hU2).2
    clear hU2
    refine⟨_,_,SqL.of (S2 _ _ (S1 _ _ hbq)),atI_nat (j:=1) rfl,?_⟩
    refine⟨by show 2≤sizeLine; decide,?_⟩
    intro p3 n3
    generalize hU3:upd _ p3 _ = H3
    have S3:=(upd_sub n3 hU3).1
    have e3:=(upd_sub n3 hU3).2
    clear hU3
    refine⟨_,_,SqL.of (S3 _ _ (S2 _ _ (S1 _ _ hbq))),atI_nat (j:=2) rfl,?_⟩
    refine⟨by show 2≤sizeLine; decide,?_⟩
    intro p6 n6
    generalize hU6:upd _ p6 _ = H6
    have S6:=(upd_sub n6 hU6).1
    have e6:=(upd_sub n6 hU6).2
    clear hU6
    refine⟨by show 3≤sizeLine; decide,?_⟩
    intro p7 n7
    generalize hU7:upd _ p7 _ = H7
    have S7:=(upd_sub n7 hU7).1
    have e7:=(upd_sub n7 hU7).2
    clear hU7
    obtain⟨ta,hta⟩:∃ ta:Nat→Addr,ta = fun j=>if j = 0 then p2 else if j = 1 then p3 else p6:=⟨_,rfl⟩
    have S17:=((S2.trans S3).trans S6).trans S7
    have dt:∀ j,j < 3→H7 (ta j) = some (.tup [.ref (da j),.ref (ba j)]):=by
     subst hta; subst hda; subst hba
     exact three (S7 _ _ (S6 _ _ (S3 _ _ e2))) (S7 _ _ (S6 _ _ e3)) (S7 _ _ e6)
    have dx:∀ (i:Nat) x,([.ref p2,.ref p3,.ref p6]:List V)[i]? = some x→i < 3∧x = .ref (ta i):=by
     intro i x hx
     have hi:i < 3:=(List.getElem?_eq_some_iff.1 hx).1
     refine⟨hi,?_⟩
     have:∀ j,j < 3→([.ref p2,.ref p3,.ref p6]:List V)[j]? = some (.ref (ta j)):=by subst hta; exact three rfl rfl rfl
     rw [this i hi] at hx
     exact (Option.some.inj hx).symm
    have dd7:∀ j,j < 3→DNx H7 (da j) []:=fun j hj=>(dd j hj).sub S17
    have k4:da 0 = p4:=by subst hda; rfl
    have k5:da 1 = p5:=by subst hda; rfl
    have km:da 2 = dm:=by subst hda; rfl
    have q0:ks 0 = L0.map wK:=by subst hks; rfl
    have q1:ks 1 = R0.map wK:=by subst hks; rfl
    have q2:ks 2 = M0.map mK:=by subst hks; rfl
    clear hda hba hks hta dd S2 S3 S6 S7 e2 e3 e6
    refine⟨⟨_,SqL.of e7⟩,?_⟩
    refine for_list (K:=K) (a:=p7) (xs:=[.ref p2,.ref p3,.ref p6]) (fun i σ H'=>∃ (v6 v7 v8:Option V) (kv:Nat→List (NK × Addr × V)),σ = [some (.ref t),some (.int n),some (.ref bq),some (.ref p4),some (.ref p5),some (.ref dm),v6,v7,v8,none,none,none]∧Sub H H'∧(∀ a us,H7 a = some (.tup us)→H' a = some (.tup us))∧H' p7 = some (.lst [.ref p2,.ref p3,.ref p6])∧(∀ j,j < 3→DNx H' (da j) (kv j))∧(∀ j,j < i→∀ k,k∈(kv j).map (·.1) ↔ k∈ks j)∧∀ j,i≤j→j < 3→kv j = []) ?_ ?_ ?_ ?_
    ·exact⟨none,none,none,fun _=>[],rfl,S1.trans S17,fun a us e=>e,e7,dd7,fun j z=>absurd z (Nat.not_lt_zero _),fun _ _ _=>rfl⟩
    ·rintro i σ H' _ ⟨v6,v7,v8,kv,rfl,S',kt,e',D',m',z'⟩
     exact SqL.of e'
    ·rintro i x σ H' hx ⟨v6,v7,v8,kv,rfl,S',kt,e',D',m',z'⟩
     obtain⟨hi,rfl⟩:=dx i x hx
     obtain⟨bs,hb1,hb2,hb3⟩:=db i hi
     have hbl:=denNs_len hb2
     rw [List.length_map] at hbl
     have hl3:=dl i hi
     refine⟨_,SqT.of (kt _ _ (dt i hi)),rfl,?_⟩
     refine⟨⟨_,SqL.of (S' _ _ hb1)⟩,?_⟩
     refine for_list (K:=K) (a:=ba i) (xs:=bs.map V.ref) (fun u σ H2=>∃ (v8:Option V) (kvs:List (NK × Addr × V)),σ = [some (.ref t),some (.int n),some (.ref bq),some (.ref p4),some (.ref p5),some (.ref dm),some (.ref (da i)),some (.ref (ba i)),v8,none,none,none]∧Sub H H2∧(∀ a us,H7 a = some (.tup us)→H2 a = some (.tup us))∧H2 p7 = some (.lst [.ref p2,.ref p3,.ref p6])∧(∀ j,j < 3→j≠i→DNx H2 (da j) (kv j))∧DNx H2 (da i) kvs∧kvs.length≤u∧∀ k,k∈kvs.map (·.1) ↔ k∈(ks i).take u) ?_ ?_ ?_ ?_
     ·exact⟨v8,[],rfl,S',kt,e',fun j hj _=>D' j hj,by have:=D' i hi; rwa [z' i (Nat.le_refl _) hi] at this,Nat.le_refl _,fun k=>by simp⟩
     ·rintro u σ H2 _ ⟨v8,kvs,rfl,S2,kt2,e2,Dj,Di,lk,mk⟩
      exact SqL.of (S2 _ _ hb1)
     ·rintro u x σ H2 hu ⟨v8,kvs,rfl,S2,kt2,e2,Dj,Di,lk,mk⟩
      have hul:u < bs.length:=by have:=(List.getElem?_eq_some_iff.1 hu).1; rwa [List.length_map] at this
      obtain⟨k,hk,hck⟩:=denNs_at hb2 hu
      rw [List.getElem?_map] at hu
      obtain⟨c,hc,rfl⟩:=Option.map_eq_some_iff.1 hu
      have hk7:=depL_at hb3 hk
      refine⟨da i,c,k,kvs,rfl,rfl,hk7,DenN.mono (fun a xs e=>S2 _ _ e) 7 k _ hk7 hck,Di,Nat.lt_of_le_of_lt (show kvs.length≤5 by omega) (by decide),fun Hy k1 k2 Dy=>?_⟩
      have k1:Kd H2 Hy (da i):=k1
      have hkp:=kPut_keys kvs k c (.bl true)
      refine⟨_,_,rfl,fun a u e=>k1 a u (S2 _ _ e) (ne_of_none e (dn i hi)),fun a us e=>k1.tup Di _ _ (kt2 _ _ e),k1.lst Di _ _ e2,fun j hj ne=>(Dj j hj ne).keep (fun u e=>k1 _ u e (di i hi j hj ne)) (k1.tup Di),Dy,?_,fun k'=>?_⟩
      ·have:=congrArg List.length hkp
       rw [List.length_map] at this
       rw [this]
       split
       ·rw [List.length_map]; omega
       ·rw [List.length_append,List.length_map]; exact Nat.succ_le_succ lk
      ·rw [List.take_add_one,hk,hkp,List.mem_append,← mk]
       by_cases c:k∈kvs.map (·.1)
       ·rw [if_pos c]
        exact⟨.inl,fun z=>z.elim id fun z=>(by have e:k' = k:=(by simpa using z); rw [e]; exact c)⟩
       ·rw [if_neg c,List.mem_append]; rfl
     rintro σ H2 ⟨v8,kvs,rfl,S2,kt2,e2,Dj,Di,lk,mk⟩
     rw [List.length_map,hbl,List.take_length] at mk
     refine⟨_,_,_,fun j=>if j = i then kvs else kv j,rfl,S2,kt2,e2,fun j hj=>?_,fun j hj k=>?_,fun j hj hj3=>?_⟩
     ·by_cases c:j = i
      ·show DNx H2 (da j) (if j = i then kvs else kv j)
       rw [if_pos c,c]; exact Di
      ·show DNx H2 (da j) (if j = i then kvs else kv j)
       rw [if_neg c]; exact Dj j hj c
     ·show k∈(if j = i then kvs else kv j).map (·.1) ↔ k∈ks j
      by_cases c:j = i
      ·rw [if_pos c,c]; exact mk k
      ·rw [if_neg c]; exact m' j (by omega) k
     ·show (if j = i then kvs else kv j) = []
      rw [if_neg (by omega)]; exact z' j (by omega) hj3
    rintro σ H' ⟨v6,v7,v8,kv,rfl,S',kt,e',D',m',z'⟩
    have a0:=D' 0 (by decide)
    have a1:=D' 1 (by decide)
    have a2:=D' 2 (by decide)
    rw [k4] at a0
    rw [k5] at a1
    rw [km] at a2
    obtain⟨L,hL,mL⟩:=keys_as (f:=wK) (l:=(kv 0).map (·.1)) (L:=L0) (fun _ _=>wK_inj) (fun k=>(by have e:=m' 0 (by show 0 < 3; decide) k; rwa [q0] at e))
    obtain⟨R,hR,mR⟩:=keys_as (f:=wK) (l:=(kv 1).map (·.1)) (L:=R0) (fun _ _=>wK_inj) (fun k=>(by have e:=m' 1 (by show 1 < 3; decide) k; rwa [q1] at e))
    obtain⟨Ms,hMs,mM⟩:=keys_as (f:=mK) (l:=(kv 2).map (·.1)) (L:=M0) (fun _ _=>mK_inj) (fun k=>(by have e:=m' 2 (by show 2 < 3; decide) k; rwa [q2] at e))
    have w1:=(mL _).2 no0L
    have w2:=(mR _).2 no0R
    have w3:=(mM _).2 no0M
    exact⟨v6,v7,v8,L,R,Ms,rfl,S',⟨_,_,_,a0,hL,a1,hR,a2,hMs⟩,⟨fun w hw=>ok0L w ((mL w).1 hw),fun w hw=>ok0R w ((mR w).1 hw),fun w hw=>ok0M w ((mM w).1 hw),nd_of_map (f:=wK) (by rw [← hL]; exact a0.nd),nd_of_map (f:=wK) (by rw [← hR]; exact a1.nd),nd_of_map (f:=mK) (by rw [← hMs]; exact a2.nd),List.length_pos_of_mem w1,List.length_pos_of_mem w2,List.length_pos_of_mem w3⟩,w1,w2,w3⟩
   rintro σ H6 ⟨v6,v7,v8,Lx,Rx,Mx,rfl,S6,st6,G6,w1,w2,w3⟩
   refine⟨fun k σ H7=>∃ (b:Int) (v8 v10 v11:Option V) (L R:List Wd) (Ms:List Md),k = 3000000 - b.toNat∧σ = [some (.ref t),some (.int n),some (.ref bq),some (.ref p4),some (.ref p5),some (.ref dm),v6,v7,v8,some (.int b),v10,v11]∧Sub H H7∧LSt H7 p4 p5 dm L R Ms∧GI m n L R Ms∧(noW n∈L∧noW n∈R∧(noW n,(0:Int),(0:Int),noW n)∈Ms)∧0≤b∧b≤L.length + R.length + Ms.length∧(b = L.length + R.length + Ms.length→∀ d∈Ms,keptB m L R Ms d = true),
    ⟨_,0,v8,none,none,Lx,Rx,Mx,rfl,rfl,S6,st6,G6,⟨w1,w2,w3⟩,Int.le_refl _,by omega,fun z=>by have:=G6.l1; omega⟩,?_⟩
   rintro k σ H7 ⟨b,v8,v10,v11,L,R,Ms,rfl,rfl,S7,st7,G,hno,b0,b1,bc⟩
   obtain⟨kl,kr,km,Dl,hkl,Dr,hkr,Dm,hkm⟩:=id st7
   have ll:=len_of hkl
   have lr:=len_of hkr
   have lm:=len_of hkm
   have fL:=words16 M.s2 M.s4 hW G.okL G.ndL
   have fR:=words16 M.s2 M.s4 hW G.okR G.ndR
   have fM:=middles16 M hW G.okd G.ndM
   refine⟨kl,Dl,?_⟩
   refine⟨kr,Dr,?_⟩
   refine⟨km,Dm,?_⟩
   rw [ll,lr,lm]
   by_cases z:b < (L.length:Int) + (R.length:Int) + (Ms.length:Int)
   rotate_left
   ·refine ite_not z ?_
    have hcl:=bc (by omega)
    refine⟨kl,Dl,?_⟩
    intro p8 n8
    generalize hU8:upd _ p8 _ = H8
    have S8:=(upd_sub n8 hU8).1
    have e8:=(upd_sub n8 hU8).2
    clear hU8
    have w1:WL H8 p8 L:=⟨kl.map (·.2.1),by rw [List.map_map]; exact e8,(wkeys_all2 Dl hkl).mono fun _ _ _ z=>z.sub S8⟩
    refine⟨kr,Dr.sub S8,?_⟩
    intro p9 n9
    generalize hU9:upd _ p9 _ = H9
    have S9:=(upd_sub n9 hU9).1
    have e9:=(upd_sub n9 hU9).2
    clear hU9
    have w2:WL H9 p9 R:=⟨kr.map (·.2.1),by rw [List.map_map]; exact e9,(wkeys_all2 (Dr.sub S8) hkr).mono fun _ _ _ z=>z.sub S9⟩
    refine⟨km,(Dm.sub S8).sub S9,?_⟩
    intro p10 n10
    generalize hU10:upd _ p10 _ = H10
    have S10:=(upd_sub n10 hU10).1
    have e10:=(upd_sub n10 hU10).2
    clear hU10
    have w3:ML H10 p10 Ms:=⟨km.map (·.2.1),by rw [List.map_map]; exact e10,(keys_all2 ((Dm.sub S8).sub S9) hkm).mono fun _ _ _ z=>z.sub S10⟩
    refine⟨by show 5≤sizeLine; decide,?_⟩
    intro p11 n11
    generalize hU11:upd _ p11 _ = H11
    have S11:=(upd_sub n11 hU11).1
    have e11:=(upd_sub n11 hU11).2
    clear hU11
    exact h p11 p8 p9 p10 _ L R Ms H11 ((((S7.trans S8).trans S9).trans S10).trans S11) e11 (w1.sub ((S9.trans S10).trans S11)) (w2.sub (S10.trans S11)) (w3.sub S11) G hno.1 hno.2.1 hno.2.2 hcl rfl (S7.free n8) ((S7.trans S8).free n9) (((S7.trans S8).trans S9).free n10)
   refine ite_yes z ?_
   refine⟨_,fun σ' H' z=>z,?_⟩
   refine⟨kl,Dl,?_⟩
   refine⟨kr,Dr,?_⟩
   refine⟨km,Dm,?_⟩
   rw [ll,lr,lm]
   refine⟨km,Dm,?_⟩
   intro p8 n8
   generalize hU8:upd _ p8 _ = H8
   have S8:=(upd_sub n8 hU8).1
   have e8:=(upd_sub n8 hU8).2
   clear hU8
   obtain⟨bs3,hbs3⟩:∃ bs3:List Addr,bs3 = km.map (·.2.1):=⟨_,rfl⟩
   have e8:H8 p8 = some (.lst (bs3.map V.ref)):=by rw [hbs3,List.map_map]; exact e8
   have A8:All2 (MdA H8) bs3 Ms:=by rw [hbs3]; exact keys_all2 (Dm.sub S8) hkm
   clear hbs3
   refine⟨⟨_,SqL.of e8⟩,?_⟩
   refine for_list (K:=K) (a:=p8) (xs:=bs3.map V.ref) (fun j σ H9=>∃ (v8 v10 v11:Option V) (eL eR:List Wd) (eM:List Md),σ = [some (.ref t),some (.int n),some (.ref bq),some (.ref p4),some (.ref p5),some (.ref dm),v6,v7,v8,some (.int ((L.length:Int) + (R.length:Int) + (Ms.length:Int))),v10,v11]∧Sub H H9∧LSt H9 p4 p5 dm (L ++ eL) (R ++ eR) (Ms ++ eM)∧GI m n (L ++ eL) (R ++ eR) (Ms ++ eM)∧H9 p8 = some (.lst (bs3.map V.ref))∧All2 (MdA H9) bs3 Ms∧(eL = []→eR = []→eM = []→∀ d∈Ms.take j,keptB m L R Ms d = true)) ?_ ?_ ?_ ?_
   ·exact⟨_,_,_,[],[],[],rfl,S7.trans S8,by rw [List.append_nil,List.append_nil,List.append_nil]; exact st7.sub S8,by rw [List.append_nil,List.append_nil,List.append_nil]; exact G,e8,A8,fun _ _ _ d hd=>by simp at hd⟩
   ·rintro j σ H9 _ ⟨v8,v10,v11,eL,eR,eM,rfl,S9,st9,G9,hp9,A9,hk9⟩
    exact SqL.of hp9
   ·rintro j x σ H9 hj ⟨v8,v10,v11,eL,eR,eM,rfl,S9,st9,G9,hp9,A9,hk9⟩
    rw [List.getElem?_map] at hj
    obtain⟨c',hc,rfl⟩:=Option.map_eq_some_iff.1 hj
    obtain⟨d,hd',hcd⟩:=A9.at hc
    have hdM:=List.mem_of_getElem? hd'
    have hok:=G.okd d hdM
    obtain⟨o1,o2,o3,o4⟩:=okM_iff.1 hok
    have b1':=ok_word M.s4 hn4 o1
    have b2':=ok_word M.s4 hn4 o2
    have o1:=(okW_iff.1 o1).1
    have o2:=(okW_iff.1 o2).1
    have z1:d.1≠[]:=fun z=>by rw [z] at o1; have o1:((0:Nat):Int) = n:=o1; omega
    have z2:d.2.2.2≠[]:=fun z=>by rw [z] at o2; have o2:((0:Nat):Int) = n:=o2; omega
    have gL:=words16 M.s2 M.s4 hW G9.okL G9.ndL
    have gR:=words16 M.s2 M.s4 hW G9.okR G9.ndR
    have gM:=middles16 M hW G9.okd G9.ndM
    obtain⟨kl,kr,km',Dl,hkl,Dr,hkr,Dm',hkm'⟩:=id st9
    have ll:=len_of hkl
    have lr:=len_of hkr
    have lm:=len_of hkm'
    refine⟨kl,Dl,?_⟩
    intro p10 n10
    generalize hU10:upd _ p10 _ = H10
    have S10:=(upd_sub n10 hU10).1
    have e10:=(upd_sub n10 hU10).2
    clear hU10
    have w1:WL H10 p10 (L ++ eL):=⟨kl.map (·.2.1),by rw [List.map_map]; exact e10,(wkeys_all2 Dl hkl).mono fun _ _ _ z=>z.sub S10⟩
    refine⟨kr,Dr.sub S10,?_⟩
    intro p11 n11
    generalize hU11:upd _ p11 _ = H11
    have S11:=(upd_sub n11 hU11).1
    have e11:=(upd_sub n11 hU11).2
    clear hU11
    have w2:WL H11 p11 (R ++ eR):=⟨kr.map (·.2.1),by rw [List.map_map]; exact e11,(wkeys_all2 (Dr.sub S10) hkr).mono fun _ _ _ z=>z.sub S11⟩
    have S911:=S10.trans S11
    refine⟨m,d,L ++ eL,R ++ eR,hm.stay (.sub (S9.trans S911)),hM,hcd.sub S911,o3,o4,z1,z2,by omega,by omega,w1.sub S11,w2,by omega,by omega,fun w hw=>?_,fun ce H12 S12=>?_,fun ce qa aw l3 H12 S12 hq hw hml _=>?_⟩
    ·have hl:(w.length:Int) = n:=by
      rcases List.mem_append.1 hw with hw | hw
      ·exact (okW_iff.1 (G9.okL w hw)).1
      ·exact (okW_iff.1 (G9.okR w hw)).1
     rintro rfl
     have hl:((0:Nat):Int) = n:=hl
     omega
    ·walk_at "w"
     refine⟨rfl,?_⟩
     walk_at "w"
     refine ifB.yes rfl ?_
     walk_at "w"
     exact hnone _ ((S9.trans S911).trans S12)
    refine⟨rfl,?_⟩
    walk_at "w"
    refine ifB.no rfl ?_
    obtain⟨a1,a2,a3⟩:=askM_ok M hn1 G9.okL G9.okR hok ce
    have hask:eL = []→eR = []→askM (sgn m) (L ++ eL) (R ++ eR) d (enA m d.2.1 d.2.2.1) = askM (sgn m) L R d (enA m d.2.1 d.2.2.1):=fun e1 e2=>by rw [e1,e2,List.append_nil,List.append_nil]
    obtain⟨hside,hmem⟩:=askL_M (m:=m) hn1 G9.okL G9.okR (d:=d) o2 (e:=enA m d.2.1 d.2.2.1) (by
     obtain⟨es,he⟩:∃ es,m[d.2.1.toNat]? = some es:=⟨_,List.getElem?_eq_getElem (by omega)⟩
     have hel:=M.len es (List.mem_of_getElem? he)
     obtain⟨e,hE⟩:∃ e,es[d.2.2.1.toNat]? = some e:=⟨_,List.getElem?_eq_getElem (by omega)⟩
     have hen:enA m d.2.1 d.2.2.1 = e:=by unfold enA; rw [he,Option.bind_some,hE]; rfl
     rw [hen] at ce ⊢
     obtain⟨put,way,after,rfl,_⟩:=entryOk_three (M.ent es (List.mem_of_getElem? he) e (List.mem_of_getElem? hE)) ce
     exact⟨_,_,_,rfl⟩)
    generalize askM (sgn m) (L ++ eL) (R ++ eR) d (enA m d.2.1 d.2.2.1) = A at a1 a2 a3 hask hside hmem
    generalize askL (L ++ eL) (R ++ eR) d (enA m d.2.1 d.2.2.1) = B at hq hw hml hside hmem
    obtain⟨A1,A2,A3⟩:=A
    obtain⟨wd,B2,B3⟩:=B
    have hq:H12 qa = some (.tup [.str wd,.ref aw,.ref l3]):=hq
    have hw:WdA H12 aw B2:=hw
    have hml:ML H12 l3 B3:=hml
    have hside:(wd = "left"∧A1 = [B2]∧A2 = [])∨(wd = "right"∧A1 = []∧A2 = [B2]):=hside
    have hmem:∀ x,x∈B3 ↔ x∈A3:=hmem
    have S912:=S911.trans S12
    have Dl:=Dl.sub S912
    have Dr:=Dr.sub S912
    have Dm':=Dm'.sub S912
    have hp12:=S912 _ _ hp9
    have A12:All2 (MdA H12) bs3 Ms:=A9.mono fun _ _ _ z=>z.sub S912
    have S012:=S9.trans S912
    clear w1 w2 e10 e11
    refine⟨fun σ H'=>∃ (x1 x2:List Wd) (kl' kr':List (NK × Addr × V)),σ = [some (.ref t),some (.int n),some (.ref bq),some (.ref p4),some (.ref p5),some (.ref dm),v6,v7,v8,some (.int ((L.length:Int) + (R.length:Int) + (Ms.length:Int))),some (.ref c'),some (.ref qa)]∧Sub H H'∧DNx H' p4 kl'∧kl'.map (·.1) = (L ++ eL ++ x1).map wK∧DNx H' p5 kr'∧kr'.map (·.1) = (R ++ eR ++ x2).map wK∧DNx H' dm km'∧(∀ w∈x1,w∈A1)∧(∀ w∈A1,w∈L ++ eL ++ x1)∧(∀ w∈x2,w∈A2)∧(∀ w∈A2,w∈R ++ eR ++ x2)∧H' p8 = some (.lst (bs3.map V.ref))∧All2 (MdA H') bs3 Ms∧H' qa = some (.tup [.str wd,.ref aw,.ref l3])∧ML H' l3 B3,?_,?_⟩
    ·walk_at "w"
     refine⟨_,_,SqT.of hq,atI_nat (j:=0) rfl,?_⟩
     walk_at "w"
     rcases hside with ⟨hwd,rfl,rfl⟩ | ⟨hwd,rfl,rfl⟩
     ·refine ifB.yes (decide_eq_true hwd) ?_
      refine⟨_,_,SqT.of hq,atI_nat (j:=1) rfl,?_⟩
      refine⟨p4,aw,wK B2,kl,rfl,rfl,wK_dep7 _,hw.den,Dl,by rw [ll]; exact Nat.lt_of_le_of_lt gL (by decide),fun Hy k1 k2 Dy=>?_⟩
      have k1:Kd H12 Hy p4:=k1
      obtain⟨x1,y1,y2,y3⟩:=put_keys (fun _ _=>wK_inj) hkl B2 aw (.bl true)
      exact⟨x1,[],_,kr,rfl,fun a u e=>k1 a u (S012 _ _ e) (ne_of_none e n40),Dy,y1,Dr.keep (fun u e=>k1 _ u e (Ne.symm n45)) (k1.tup Dl),by rw [List.append_nil]; exact hkr,Dm'.keep (fun u e=>k1 _ u e (Ne.symm n4m)) (k1.tup Dl),fun w hw=>List.mem_singleton.2 (y2 w hw),fun w hw=>by rw [List.mem_singleton.1 hw]; exact y3,fun w hw=>(by cases hw),fun w hw=>(by cases hw),k1.lst Dl _ _ hp12,A12.mono fun _ _ _ z=>z.tup (k1.tup Dl),k1.tup Dl _ _ hq,k1.ml Dl hml⟩
     ·refine ifB.no (decide_eq_false (by rw [hwd]; decide)) ?_
      refine⟨_,_,SqT.of hq,atI_nat (j:=1) rfl,?_⟩
      refine⟨p5,aw,wK B2,kr,rfl,rfl,wK_dep7 _,hw.den,Dr,by rw [lr]; exact Nat.lt_of_le_of_lt gR (by decide),fun Hy k1 k2 Dy=>?_⟩
      have k1:Kd H12 Hy p5:=k1
      obtain⟨x2,y1,y2,y3⟩:=put_keys (fun _ _=>wK_inj) hkr B2 aw (.bl true)
      exact⟨[],x2,kl,_,rfl,fun a u e=>k1 a u (S012 _ _ e) (ne_of_none e n50),Dl.keep (fun u e=>k1 _ u e n45) (k1.tup Dr),by rw [List.append_nil]; exact hkl,Dy,y1,Dm'.keep (fun u e=>k1 _ u e (Ne.symm n5m)) (k1.tup Dr),fun w hw=>(by cases hw),fun w hw=>(by cases hw),fun w hw=>List.mem_singleton.2 (y2 w hw),fun w hw=>by rw [List.mem_singleton.1 hw]; exact y3,k1.lst Dr _ _ hp12,A12.mono fun _ _ _ z=>z.tup (k1.tup Dr),k1.tup Dr _ _ hq,k1.ml Dr hml⟩
    clear Dl Dr Dm' hkl hkr ll lr hp12 A12 S012 S912 hq hw hml hside S12
    rintro σ H13 ⟨x1,x2,kl',kr',rfl,S13,Dl,hkl',Dr,hkr',Dm',y2,y3,y5,y6,hp13,A13,hq13,as3,W3,B3'⟩
    refine⟨_,_,SqT.of hq13,atI_nat (j:=2) rfl,?_⟩
    refine⟨⟨_,SqL.of W3⟩,?_⟩
    have hB3l:=B3'.1
    refine for_list (K:=K) (a:=l3) (xs:=as3.map V.ref) (fun i σ H'=>∃ (v8:Option V) (x3:List Md) (km3:List (NK × Addr × V)),σ = [some (.ref t),some (.int n),some (.ref bq),some (.ref p4),some (.ref p5),some (.ref dm),v6,v7,v8,some (.int ((L.length:Int) + (R.length:Int) + (Ms.length:Int))),some (.ref c'),some (.ref qa)]∧Sub H H'∧DNx H' p4 kl'∧DNx H' p5 kr'∧DNx H' dm km3∧km3.map (·.1) = (Ms ++ eM ++ x3).map mK∧(∀ w∈x3,w∈A3)∧(∀ w∈B3.take i,w∈Ms ++ eM ++ x3)∧H' p8 = some (.lst (bs3.map V.ref))∧All2 (MdA H') bs3 Ms∧H' l3 = some (.lst (as3.map V.ref))∧All2 (MdA H') as3 B3) ?_ ?_ ?_ ?_
    ·exact⟨_,[],km',rfl,S13,Dl,Dr,Dm',by rw [List.append_nil]; exact hkm',fun w hw=>(by cases hw),fun w hw=>(by simp at hw),hp13,A13,W3,B3'⟩
    ·rintro i σ H' _ ⟨v8,x3,km3,rfl,S14,Dl,Dr,Dm,hkm3,y7,y8,hp14,A14,W4,B4⟩
     exact SqL.of W4
    ·rintro i x σ H' hi ⟨v8,x3,km3,rfl,S14,Dl,Dr,Dm,hkm3,y7,y8,hp14,A14,W4,B4⟩
     rw [List.getElem?_map] at hi
     obtain⟨c,hc,rfl⟩:=Option.map_eq_some_iff.1 hi
     obtain⟨w',hw',hcw⟩:=B4.at hc
     have ndM:(Ms ++ eM ++ x3).Nodup:=nd_of_map (f:=mK) (by rw [← hkm3]; exact Dm.nd)
     have okx:∀ w∈Ms ++ eM ++ x3,okM m n w = true:=fun w hw=>(List.mem_append.1 hw).elim (G9.okd w) fun z=>a3 w (y7 w z)
     have hf:=middles16 M hW okx ndM
     refine⟨dm,c,mK w',km3,rfl,rfl,mK_dep _,hcw.den,Dm,by rw [len_of hkm3]; exact Nat.lt_of_le_of_lt hf (by decide),fun Hy k1 k2 Dy=>?_⟩
     have k1:Kd H' Hy dm:=k1
     obtain⟨x4,z1,z2,z3⟩:=put_keys (fun _ _=>mK_inj) hkm3 w' c (.bl true)
     refine⟨_,x3 ++ x4,_,rfl,fun a u e=>k1 a u (S14 _ _ e) (ne_of_none e nm0),Dl.keep (fun u e=>k1 _ u e n4m) (k1.tup Dm),Dr.keep (fun u e=>k1 _ u e n5m) (k1.tup Dm),Dy,by rw [← List.append_assoc]; exact z1,fun w hw=>?_,fun w hw=>?_,k1.lst Dm _ _ hp14,A14.mono fun _ _ _ z=>z.tup (k1.tup Dm),k1.lst Dm _ _ W4,B4.mono fun _ _ _ z=>z.tup (k1.tup Dm)⟩
     ·rcases List.mem_append.1 hw with hw | hw
      ·exact y7 w hw
      ·rw [z2 w hw]; exact (hmem w').1 (List.mem_of_getElem? hw')
     ·rw [List.take_add_one,hw'] at hw
      rw [← List.append_assoc]
      rcases List.mem_append.1 hw with hw | hw
      ·exact List.mem_append_left _ (y8 w hw)
      ·have:w = w':=by simpa using hw
       rw [this]; exact z3
    rintro σ H14 ⟨v8,x3,km3,rfl,S14,Dl2,Dr2,Dm3,y7k,y8,y9,hp14,A14,_,_⟩
    rw [List.length_map,hB3l,List.take_length] at y9
    have y9:∀ w∈A3,w∈Ms ++ eM ++ x3:=fun w hw=>y9 w ((hmem w).2 hw)
    have ndL:(L ++ eL ++ x1).Nodup:=nd_of_map (f:=wK) (by rw [← hkl']; exact Dl2.nd)
    have ndR:(R ++ eR ++ x2).Nodup:=nd_of_map (f:=wK) (by rw [← hkr']; exact Dr2.nd)
    have ndM:(Ms ++ eM ++ x3).Nodup:=nd_of_map (f:=mK) (by rw [← y7k]; exact Dm3.nd)
    refine⟨_,_,_,eL ++ x1,eR ++ x2,eM ++ x3,rfl,S14,?_,?_,hp14,A14,?_⟩
    ·rw [← List.append_assoc,← List.append_assoc,← List.append_assoc]
     exact⟨_,_,_,Dl2,hkl',Dr2,hkr',Dm3,y7k⟩
    ·rw [← List.append_assoc,← List.append_assoc,← List.append_assoc]
     exact ((G9.exL (fun w hw=>a1 w (y2 w hw)) ndL).exR (fun w hw=>a2 w (y5 w hw)) ndR).exM (fun w hw=>a3 w (y8 w hw)) ndM
    ·intro q1 q2 q3 d2 hd2
     obtain⟨rfl,rfl⟩:=List.append_eq_nil_iff.1 q1
     obtain⟨rfl,rfl⟩:=List.append_eq_nil_iff.1 q2
     obtain⟨rfl,rfl⟩:=List.append_eq_nil_iff.1 q3
     rw [List.take_add_one,hd'] at hd2
     rcases List.mem_append.1 hd2 with hd2 | hd2
     ·exact hk9 rfl rfl rfl d2 hd2
     ·have:d2 = d:=by simpa using hd2
      subst this
      unfold keptB
      rw [← hask rfl rfl,decide_eq_false ce]
      rw [List.append_nil,List.append_nil] at y3 y6 y9
      show (true && (((A1.all fun w=>decide (w∈L)) && (A2.all fun w=>decide (w∈R))) && (A3.all fun w=>decide (w∈Ms)))) = true
      rw [List.all_eq_true.2 (fun w hw=>decide_eq_true (y3 w hw)),List.all_eq_true.2 (fun w hw=>decide_eq_true (y6 w hw)),List.all_eq_true.2 (fun w hw=>decide_eq_true (y9 w hw))]
      rfl
   rintro σ H9 ⟨v8,v10,v11,eL,eR,eM,rfl,S9,st9,G9,hp9,A9,hk9⟩
   rw [List.length_map,A9.1,List.take_length] at hk9
   have gL:=words16 M.s2 M.s4 hW G9.okL G9.ndL
   have gR:=words16 M.s2 M.s4 hW G9.okR G9.ndR
   have gM:=middles16 M hW G9.okd G9.ndM
   rw [List.length_append] at gL gR gM
   refine⟨_,?_,(L.length:Int) + (R.length:Int) + (Ms.length:Int),_,_,_,L ++ eL,R ++ eR,Ms ++ eM,rfl,rfl,S9,st9,G9,⟨List.mem_append_left _ hno.1,List.mem_append_left _ hno.2.1,List.mem_append_left _ hno.2.2⟩,by omega,?_,fun e=>?_⟩
   ·omega
   ·rw [List.length_append,List.length_append,List.length_append]; omega
   ·rw [List.length_append,List.length_append,List.length_append] at e
    have q1:eL = []:=List.length_eq_zero_iff.1 (by omega)
    have q2:eR = []:=List.length_eq_zero_iff.1 (by omega)
    have q3:eM = []:=List.length_eq_zero_iff.1 (by omega)
    have:=hk9 q1 q2 q3
    rw [q1,q2,q3,List.append_nil,List.append_nil,List.append_nil]
    exact this
  ·exact h.elim
theorem sc_l_other:FnScope ["_law_purse_here","_law_machine_here","_law_met","_law_made","_law_row","_law_sign","_law_way","_law_entry"] ["_law_purse_here","_law_machine_here","_law_met"] (defScope s_l_other):=⟨rfl,rfl,rfl,by decide +kernel,rfl,by decide +kernel,by decide +kernel⟩
theorem okM_put {m:Ma} {i j:Nat} {es:List En} {e:En} (M:OkM m) (hi:m[i]? = some es) (he:entryOk m.length (sgn m) e = true):isM (m.set i (es.set j e)) = true:=by
 refine isM_of (rows:=m.length) (signs:=sgn m) (by rw [List.length_set]) (by have:=M.n1; omega) (by have:=M.n4; omega) (by have:=M.s2; omega) (by have:=M.s4; omega) fun r hr=>?_
 rcases List.mem_or_eq_of_mem_set hr with hr | rfl
 ·exact⟨by rw [M.len r hr],M.ent r hr⟩
 ·refine⟨by rw [List.length_set,M.len es (List.mem_of_getElem? hi)],fun x hx=>?_⟩
  rcases List.mem_or_eq_of_mem_set hx with hx | rfl
  ·exact M.ent es (List.mem_of_getElem? hi) x hx
  ·exact he
theorem sgn_put {m:Ma} {i j:Nat} {es:List En} {e:En} (hi:m[i]? = some es):sgn (m.set i (es.set j e)) = sgn m:=by
 unfold sgn
 cases m with
 | nil=>rfl
 | cons r m =>
  cases i with
  | zero =>
   have:r = es:=by simpa using hi
   subst this
   show (r.set j e).length = r.length
   rw [List.length_set]
  | succ i=>rfl
def Oth (m m':Ma) (met:Int→Int→Prop):Prop:=isM m' = true∧m'.length = m.length∧sgn m' = sgn m∧∀ r s:Int,met r s→enA m' r s = enA m r s
theorem enA_put {m:Ma} {i j:Nat} {es:List En} {e:En} (hi:m[i]? = some es) {r s:Int} (h:¬ (r.toNat = i∧s.toNat = j)):enA (m.set i (es.set j e)) r s = enA m r s:=by
 unfold enA
 by_cases c:r.toNat = i
 ·subst c
  have hl:r.toNat < m.length:=(List.getElem?_eq_some_iff.1 hi).1
  rw [List.getElem?_set_self hl,hi,Option.bind_some,Option.bind_some,List.getElem?_set_ne (fun z=>h ⟨rfl,z.symm⟩)]
 ·rw [List.getElem?_set_ne (fun z=>c z.symm)]
theorem Oth.put {m m':Ma} {met:Int→Int→Prop} (h:Oth m m' met) {i j:Nat} {es:List En} {e:En} (hi:m'[i]? = some es) (he:entryOk m.length (sgn m) e = true) (hn:∀ r s:Int,met r s→0≤r∧0≤s) (hm:¬ met i j):Oth m (m'.set i (es.set j e)) met:=by
 obtain⟨h1,h2,h3,h4⟩:=h
 refine⟨okM_put (OkM.of h1) hi (by rw [h2,h3]; exact he),by rw [List.length_set]; exact h2,by rw [sgn_put hi]; exact h3,fun r s hrs=>?_⟩
 have hne:¬ (r.toNat = i∧s.toNat = j):=by
  rintro ⟨a,b⟩
  obtain⟨r0,s0⟩:=hn r s hrs
  refine hm ?_
  rw [← a,← b,show ((r.toNat:Nat):Int) = r by omega,show ((s.toNat:Nat):Int) = s by omega]
  exact hrs
 rw [enA_put hi hne]
 exact h4 r s hrs
theorem ok3 {rows signs s w r:Int} (h0:0≤s) (h1:s < signs) (h2:w = -1∨w = 1) (h3:0≤r) (h4:r < rows):entryOk rows signs [s,w,r] = true:=by
 show ((decide (0≤s) && decide (s < signs)) && (decide (w = -1) || decide (w = 1)) && (decide (0≤r) && decide (r < rows))) = true
 simp [h0,h1,h2,h3,h4]
theorem NL.stay {H H':Hp} (S:Stay H H') {p:Addr} {ks:List NK}:NL H p ks→NL H' p ks:=fun ⟨as,h1,h2,h3⟩=>⟨as,S.refs _ _ h1,denNs_tup S.tup h2 h3,h3⟩
def kP (p:Int × Int):NK:=.tup [.int p.1,.int p.2]
def sp_other:Sp:=fun vs H Q _=>match vs with
 | [.ref pp,.ref p,.ref pm]=>∃ (n k:Int) (m:Ma) (ps:List (Int × Int)),H pp = some (.lst [.int n,.int k])∧Mach H p m∧isM m = true∧NL H pm (ps.map kP)∧(∀ x∈ps,0≤x.1∧0≤x.2)∧∀ (q:Addr) (m':Ma) (H':Hp),Pu pp k H H'→H q = none→Mach H' q m'→Oth m m' (fun r s=>(r,s)∈ps)→Q (.ref q) H'
 | _=>False
theorem kP_inj {a b:Int × Int} (h:kP a = kP b):a = b:=by
 unfold kP at h
 injection h with h
 injection h with h1 h2
 injection h2 with h2 _
 injection h1 with h1
 injection h2 with h2
 exact Prod.ext h1 h2
theorem ok_l_other (T:Tx K mg a):FnOk P w K mg base CX0 2 a.l_other a.l_other_d ["_law_purse_here","_law_machine_here","_law_met"] (sp_other):=by
 have G_l_draw:=ok_l_draw (P:=P) (w:=w) (base:=base) T
 refine T.f_l_other.ok sc_l_other (fun vs H Q E h=>?_) (fun cdv A outer s H vs Q E hr h=>?_)
 ·unfold sp_other at h
  split at h
  ·rfl
  ·exact h.elim
 ·unfold sp_other at h
  split at h
  ·have nd:=sc_l_other.nd
   have hu:=hu_of hr
   rename_i pp p pm
   obtain⟨n,k,m,ps,hp,⟨rs0,hm,hnd,hrw⟩,hM,hpm,hps,h⟩:=h
   have P0:Pu pp k H H:=Pu.refl ⟨n,hp⟩
   have M:=OkM.of hM
   have hn1:=M.n1
   have hn4:=M.n4
   have hs2:=M.s2
   have hs4:=M.s4
   have hMa:Mach H p m:=⟨rs0,hm,hnd,hrw⟩
   refine⟨_,(pss_cons (ps_lc (j:=3) rfl nd rfl (by walk_at "o") (own:=["_law_entries"]) (fr:=[]) (by walk_at "comp_ok") (qi_listK (K:=K) rfl (qv 1)) (fun _ _ _ _=>(pg_name (i:=0) (show List.Nodup (α:=Str) ["_law_entries"] from by decide +kernel) rfl (by walk_at "o"))) (fun _ _ _ _=>pts_nil) (fun _ _ _ _=>(pe_callTy (q_listOfK (K:=K) rfl) rfl T.z_list bt_list (pa_cons (qv 0) pa_nil))))
  (pss_cons (ps_for PassesOwn.never rfl (qi_range1 rfl T.z_range (pa_cons (pe_callB (q_lenK (K:=K) rfl) rfl T.z_len bt_len (pa_cons (qv 1) pa_nil)) pa_nil)) (pg_name (i:=4) nd rfl (by walk_at "o")) (pss_one (ps_for PassesOwn.never rfl (qi_range1 rfl T.z_range (pa_cons (pe_callB (q_lenK (K:=K) rfl) rfl T.z_len bt_len (pa_cons (pe_ix (q_ixLK (K:=K) rfl) (qv 1) pe_int (fun _ _=>rfl)) pa_nil)) pa_nil)) (pg_name (i:=5) nd rfl (by walk_at "o")) (pss_one (ps_c (pt_c (op_notInNL hr) (pe_tup (pa_cons (qv 4) (pa_cons (qv 5) pa_nil))) (qv 2)) (pss_cons (ps_set (i:=6) nd rfl (by walk_at "o") (pe_op q_sub (pe_op q_mul pe_int (pe_call G_l_draw (hr.mono (by decide)) rfl T.g_l_draw T.f_l_draw.kp T.b_l_draw .nil pass0 (pa_cons (qv 0) (pa_cons pe_int pa_nil)))) pe_int)) (pss_cons (ps_set (i:=7) nd rfl (by walk_at "o") (pe_tup (pa_cons (pe_call G_l_draw (hr.mono (by decide)) rfl T.g_l_draw T.f_l_draw.kp T.b_l_draw .nil pass0 (pa_cons (qv 0) (pa_cons (pe_callB (q_lenK (K:=K) rfl) rfl T.z_len bt_len (pa_cons (pe_ix (q_ixLK (K:=K) rfl) (qv 1) pe_int (fun _ _=>rfl)) pa_nil)) pa_nil))) (pa_cons (qv 6) (pa_cons (pe_call G_l_draw (hr.mono (by decide)) rfl T.g_l_draw T.f_l_draw.kp T.b_l_draw .nil pass0 (pa_cons (qv 0) (pa_cons (pe_callB (q_lenK (K:=K) rfl) rfl T.z_len bt_len (pa_cons (qv 1) pa_nil)) pa_nil))) pa_nil))))) (pss_one (ps_asg (pe_ix (q_ixLK (K:=K) rfl) (pe_lst (pa_cons (qv 7) (pa_cons (pe_tup pa_nil) pa_nil))) (pe_call G_l_draw (hr.mono (by decide)) rfl T.g_l_draw T.f_l_draw.kp T.b_l_draw .nil pass0 (pa_cons (qv 0) (pa_cons pe_int pa_nil))) (fun _ _=>rfl)) (pg_sub (pe_ix (q_ixLK (K:=K) rfl) (qv 3) (qv 4) (fun _ _=>rfl)) (qv 5) q_setL))))) pss_nil)))))
  (pss_one (ps_ret (qv 3))))),?_⟩
   refine⟨⟨_,SqL.of hm⟩,?_⟩
   intro p1 n1
   refine comp_list (K:=K) (a:=p) (xs:=rs0.map V.ref) (fun i σ H4=>∃ (v:Option V) (rs:List Addr),σ = [v]∧Sub H H4∧MaR H4 p1 rs (m.take i)∧∀ r∈rs,H r = none) ?_ ?_ ?_ ?_
   ·exact⟨none,[],rfl,Sub.new n1,⟨upd_same,by simp,.nil⟩,by simp⟩
   ·rintro i σ H4 _ ⟨v,rs,rfl,S4,_⟩
    exact SqL.of (S4 _ _ hm)
   ·rintro i x σ H4 hi ⟨v,rs,rfl,S4,M4,f4⟩
    rw [List.getElem?_map] at hi
    obtain⟨c',hc',rfl⟩:=Option.map_eq_some_iff.1 hi
    obtain⟨es,he,as,hE,hA⟩:=hrw.at hc'
    refine⟨_,.inl (SqL.of (S4 _ _ hE)),?_⟩
    intro p5 n5
    generalize hU5:upd _ p5 _ = H5
    have S5:=(upd_sub n5 hU5).1
    have e5:=(upd_sub n5 hU5).2
    clear hU5
    have M5:=M4.stay (.sub S5)
    have R5:Row H5 p5 es:=⟨as,e5,hA.mono fun _ _ _ z=>S5 _ _ (S4 _ _ z)⟩
    refine⟨_,M5.1,?_,_,rs ++ [p5],rfl,(S4.trans S5).upd n1,?_,?_⟩
    ·rw [List.length_map,M5.2.2.1,List.length_take]; exact Nat.lt_of_le_of_lt (Nat.min_le_right _ _) (Nat.lt_of_le_of_lt hn4 (by decide))
    ·rw [List.take_add_one,he]
     exact M5.app' R5 (M4.out n5) (M4.outp n5)
    ·intro r hr
     rcases List.mem_append.1 hr with hr | hr
     ·exact f4 r hr
     ·rw [List.mem_singleton.1 hr]; exact S4.free n5
   rintro σ H1 ⟨v,rs,rfl,S1,M1,f1⟩
   rw [List.length_map,hrw.1,List.take_length] at M1
   have P1:=P0.sub S1
   have elr:((rs0.map V.ref).length:Int) = m.length:=by rw [List.length_map,hrw.1]
   obtain⟨r0,hr0⟩:∃ r0,rs0[0]? = some r0:=⟨_,List.getElem?_eq_getElem (by rw [hrw.1]; omega)⟩
   obtain⟨es0,g5,as0,g3,g4⟩:=hrw.at hr0
   have hel0:=M.len es0 (List.mem_of_getElem? g5)
   have hl0:((as0.map V.ref).length:Int) = sgn m:=by rw [List.length_map,g4.1,hel0]
   have at0:atI (rs0.map V.ref) 0 = some (V.ref r0):=atI_toNat (Int.le_refl 0) (by rw [List.getElem?_map]; show Option.map V.ref rs0[0]? = _; rw [hr0]; rfl)
   refine⟨_,.inl (SqL.of (S1 _ _ hm)),?_⟩
   rw [elr]
   refine⟨⟨by omega,by omega⟩,?_⟩
   refine for_range (lo:=0) (n:=(m.length:Int).toNat) (fun i σ H2=>∃ (v4 v5 v6 v7:Option V) (m':Ma),σ = [some (.ref pp),some (.ref p),some (.ref pm),some (.ref p1),v4,v5,v6,v7]∧Pu pp k H H2∧MaR H2 p1 rs m'∧Oth m m' (fun r s=>(r,s)∈ps)) ?_ ?_ ?_
   ·exact⟨_,_,_,_,m,rfl,P1,M1,hM,rfl,rfl,fun _ _ _=>rfl⟩
   ·rintro i σ H2 hi ⟨v4,v5,v6,v7,m2,rfl,P2,M2,O2⟩
    refine⟨_,_,SqL.of (P2.stay.refs _ _ hm),at0,?_⟩
    refine⟨_,.inl (SqL.of (P2.stay.refs _ _ g3)),?_⟩
    rw [hl0]
    refine⟨⟨by omega,by omega⟩,?_⟩
    have hri:rs[i]? = some (rs[i]'(by have:=M1.2.2.1; omega)):=List.getElem?_eq_getElem _
    generalize rs[i]'(by have:=M1.2.2.1; omega) = rr at hri
    have frr:=f1 rr (List.mem_of_getElem? hri)
    have ati:atI (rs.map V.ref) (0 + (i:Int)) = some (V.ref rr):=atI_toNat (by omega) (by rw [show (0 + (i:Int)).toNat = i by omega,List.getElem?_map,hri]; rfl)
    refine for_range (lo:=0) (n:=(sgn m:Int).toNat) (fun j σ H3=>∃ (v5 v6 v7:Option V) (m':Ma),σ = [some (.ref pp),some (.ref p),some (.ref pm),some (.ref p1),some (.int (0 + (i:Int))),v5,v6,v7]∧Pu pp k H H3∧MaR H3 p1 rs m'∧Oth m m' (fun r s=>(r,s)∈ps)) ?_ ?_ ?_
    ·exact⟨_,_,_,m2,rfl,P2,M2,O2⟩
    ·rintro j σ H3 hj ⟨v5,v6,v7,m3,rfl,P3,M3,O3⟩
     refine⟨by show 2≤sizeLine; decide,?_⟩
     intro p4 n4
     generalize hU4:upd _ p4 _ = H4
     have S4:=(upd_sub n4 hU4).1
     have e4:=(upd_sub n4 hU4).2
     clear hU4
     have P4:=P3.sub S4
     have M4:=M3.stay (.sub S4)
     obtain⟨bs,hb1,hb2,hb3⟩:=hpm.stay P4.stay
     have hkd:(kP ((0:Int) + i,(0:Int) + j)).dep≤7:=by unfold kP; simp only [NK.dep,NK.depL]; omega
     refine⟨p4,pm,kP ((0:Int) + i,(0:Int) + j),ps.map kP,_,rfl,rfl,hkd,by unfold kP; rw [DenN]; exact⟨_,_,rfl,e4,⟨_,_,rfl,by rw [DenN],⟨_,_,rfl,by rw [DenN],rfl⟩⟩⟩,hb1,hb2,hb3,?_⟩
     by_cases c:((0:Int) + i,(0:Int) + j)∈ps
     ·rw [decide_eq_true (List.mem_map.2 ⟨_,c,rfl⟩)]
      refine ifB.no rfl ?_
      exact⟨_,_,_,m3,rfl,P4,M4,O3⟩
     rw [decide_eq_false (fun z=>by obtain⟨x,hx,e⟩:=List.mem_map.1 z; rw [kP_inj e] at hx; exact c hx)]
     refine ifB.yes rfl ?_
     obtain⟨c4,e4⟩:=P4.has
     walk_at "w"
     refine⟨by decide,_,_,e4,fun d5 n5 d50 d51=>?_⟩
     have P5:=P4.draw n5
     have Q5:=Pu.of_draw n5 e4
     generalize hg5:upd _ pp _ = H5 at P5 Q5 ⊢
     have e5:H5 pp = some (.lst [.int n5,.int k]):=by rw [← hg5]; exact upd_same
     clear hg5
     walk_at "w"
     refine⟨.inl ⟨by omega,by omega⟩,fun m6 hm6 _=>?_⟩
     have hm6:m6 = 2 * d5:=hm6
     refine⟨_,_,SqL.of (P5.stay.refs _ _ hm),at0,?_⟩
     refine⟨_,.inl (SqL.of (P5.stay.refs _ _ g3)),?_⟩
     rw [hl0]
     walk_at "w"
     refine⟨small_log (by omega) (by omega),_,_,e5,fun d7 n7 d70 d71=>?_⟩
     have P7:=P5.draw n7
     have Q7:=Pu.of_draw n7 e5
     generalize hg7:upd _ pp _ = H7 at P7 Q7 ⊢
     have e7:H7 pp = some (.lst [.int n7,.int k]):=by rw [← hg7]; exact upd_same
     clear hg7
     walk_at "w"
     refine⟨_,.inl (SqL.of (P7.stay.refs _ _ hm)),?_⟩
     rw [elr]
     walk_at "w"
     refine⟨small_log (by omega) (by omega),_,_,e7,fun d8 n8 d80 d81=>?_⟩
     have P8:=P7.draw n8
     have Q8:=Pu.of_draw n8 e7
     generalize hg8:upd _ pp _ = H8 at P8 Q8 ⊢
     have e8:H8 pp = some (.lst [.int n8,.int k]):=by rw [← hg8]; exact upd_same
     clear hg8
     walk_at "w"
     refine⟨by show 3≤sizeLine; decide,?_⟩
     intro p9 n9
     generalize hU9:upd _ p9 _ = H9
     have S9:=(upd_sub n9 hU9).1
     have e9:=(upd_sub n9 hU9).2
     clear hU9
     have P9:=P8.sub S9
     have E9:Ent H9 p9 [d7,m6 - 1,d8]:=e9
     refine⟨by show 0≤sizeLine; decide,?_⟩
     intro p10 n10
     generalize hU10:upd _ p10 _ = H10
     have S10:=(upd_sub n10 hU10).1
     have e10:=(upd_sub n10 hU10).2
     clear hU10
     have E10:Ent H10 p10 []:=e10
     refine⟨by show 2≤sizeLine; decide,?_⟩
     intro p11 n11
     generalize hU11:upd _ p11 _ = H11
     have S11:=(upd_sub n11 hU11).1
     have e11:=(upd_sub n11 hU11).2
     clear hU11
     have P11:=(P9.sub S10).sub S11
     have f11:H11 p11 = some (.lst ([p9,p10].map V.ref)):=e11
     obtain⟨c11,e11⟩:=P11.has
     walk_at "w"
     refine⟨by decide,_,_,e11,fun d12 n12 d120 d121=>?_⟩
     have P12:=P11.draw n12
     have Q12:=Pu.of_draw n12 e11
     generalize hg12:upd _ pp _ = H12 at P12 Q12 ⊢
     have e12:H12 pp = some (.lst [.int n12,.int k]):=by rw [← hg12]; exact upd_same
     clear hg12
     walk_at "w"
     have f12:H12 p11 = some (.lst ([p9,p10].map V.ref)):=Q12.stay.refs _ _ f11
     have M12:MaR H12 p1 rs m3:=((((((M4.stay Q5.stay).stay Q7.stay).stay Q8.stay).stay (.sub S9)).stay (.sub S10)).stay (.sub S11)).stay Q12.stay
     obtain⟨pe,e,hpe,hpE,hok⟩:∃ (pe:Addr) (e:En),atI ([p9,p10].map V.ref) d12 = some (.ref pe)∧Ent H12 pe e∧entryOk m.length (sgn m) e = true:=by
      have:d12 = 0∨d12 = 1:=by omega
      rcases this with rfl | rfl
      ·exact⟨p9,_,rfl,((E9.stay (.sub S10)).stay (.sub S11)).stay Q12.stay,ok3 d70 d71 (by omega) d80 d81⟩
      ·exact⟨p10,[],rfl,(E10.stay (.sub S11)).stay Q12.stay,rfl⟩
     refine⟨_,_,SqL.of f12,hpe,?_⟩
     refine⟨_,_,SqL.of M12.1,ati,?_⟩
     obtain⟨es,hes,as,hra⟩:=M12.2.2.at hri
     have hesl:es.length = sgn m:=by rw [(OkM.of O3.1).len es (List.mem_of_getElem? hes)]; exact O3.2.2.1
     have hel:((as.map V.ref).length:Int) = sgn m:=by rw [List.length_map,hra.2.1,hesl]
     refine⟨_,j,hra.1,?_,?_⟩
     ·have:=ixN_toNat (n:=(as.map V.ref).length) (i:=(0:Int) + j) (by omega) (by rw [hel]; omega)
      rwa [show ((0:Int) + j).toNat = j by omega] at this
     refine⟨_,_,_,m3.set i (es.set j e),rfl,P12.set frr,M12.rowSet hri hra hpE,O3.put hes hok (fun r s hrs=>hps _ hrs) (fun z=>c ?_)⟩
     rw [Int.zero_add,Int.zero_add]; exact z
    ·rintro σ H3 ⟨v5,v6,v7,m3,rfl,P3,M3,O3⟩
     exact⟨_,_,_,_,m3,rfl,P3,M3,O3⟩
   rintro σ H2 ⟨v4,v5,v6,v7,m',rfl,P2,M2,O2⟩
   walk_at "w"
   exact h p1 m' H2 P2 n1 ⟨rs,M2⟩ O2
  ·exact h.elim
theorem sc_law:FnScope ["_law_script","_law_purse_here","_law_rows","_law_signs","_law_machine_here","_law_width","_law_least","_law_wide","_law_papers","_law_shut","_law_paper","_law_other_here"] ["_law_script"] (defScope s_law):=⟨rfl,rfl,rfl,by decide +kernel,rfl,by decide +kernel,by decide +kernel⟩
theorem two_of {w:Wd} {n:Int} (hn:1≤n) (h:(w.length:Int) = n + 1):∃ a x b,w = a :: (x ++ [b]):=by
 match w,h with
 | [],h=>have h:((0:Nat):Int) = n + 1:=h; omega
 | [a],h=>have h:((1:Nat):Int) = n + 1:=h; omega
 | a :: c :: w,_=>exact⟨a,(c :: w).dropLast,(c :: w).getLast (by simp),by rw [List.dropLast_concat_getLast]⟩
def cutD (d:Md):Md:=(d.1.drop 1,d.2.1,d.2.2.1,d.2.2.2.dropLast)
structure WiM (m:Ma) (n:Int) (L R:List Wd) (Ms:List Md) (d:Md):Prop where
 ok:okM m (n + 1) d = true
 l:d.1.drop 1∈L
 r:d.2.2.2.dropLast∈R
 c:cutD d∈Ms
def WiW (m:Ma) (n:Int) (L:List Wd) (w:Wd):Prop:=okW (sgn m) (n + 1) w = true∧w.drop 1∈L∧w.dropLast∈L
theorem noW_succ {n:Int} (hn:1≤n):(noW (n + 1)).drop 1 = noW n∧(noW (n + 1)).dropLast = noW n:=by
 unfold noW
 rw [show (n + 1).toNat = n.toNat + 1 by omega]
 refine⟨by rw [List.drop_replicate]; rfl,?_⟩
 rw [List.replicate_succ',List.dropLast_concat]
theorem clo_wide {m:Ma} (M:OkM m) {n:Int} (hn:1≤n) {L R:List Wd} {Ms:List Md} (C:Clo m n (·∈L) (·∈R) (·∈Ms)) (hk:∀ d∈Ms,enA m d.2.1 d.2.2.1≠[]):Clo m (n + 1) (WiW m n L) (WiW m n R) (WiM m n L R Ms):=by
 have k0:=okW_no M.s2 (show 1≤n + 1 by omega)
 obtain⟨z1,z2⟩:=noW_succ hn
 have hn1:=M.n1
 have hs2:=M.s2
 refine⟨⟨k0,by rw [z1]; exact C.l0,by rw [z2]; exact C.l0⟩,⟨k0,by rw [z1]; exact C.r0,by rw [z2]; exact C.r0⟩,⟨okM_iff.2 ⟨k0,k0,⟨Int.le_refl _,by show (0:Int) < (m.length:Int); omega⟩,Int.le_refl _,by show (0:Int) < (sgn m:Int); omega⟩,by show (noW (n + 1)).drop 1∈L; rw [z1]; exact C.l0,by show (noW (n + 1)).dropLast∈R; rw [z2]; exact C.r0,by unfold cutD; show ((noW (n + 1)).drop 1,(0:Int),(0:Int),(noW (n + 1)).dropLast)∈Ms; rw [z1,z2]; exact C.m0⟩,fun X Y d hX hY hd=>?_⟩
 have hne:=hk _ hd.c
 have hne:enA m d.2.1 d.2.2.1≠[]:=hne
 obtain⟨a1,a2,a3⟩:=askM_ok M (show 1≤n + 1 by omega) (fun w hw=>(hX w hw).1) (fun w hw=>(hY w hw).1) hd.ok hne
 obtain⟨o1,o2,o3,o4⟩:=okM_iff.1 hd.ok
 obtain⟨ln1,sg1⟩:=okW_iff.1 o1
 obtain⟨ln2,sg2⟩:=okW_iff.1 o2
 have hdl:=hd.l
 have hdr:=hd.r
 have hdc:=hd.c
 obtain⟨dl,row,sign,dr⟩:=d
 obtain⟨a,x,b,rfl⟩:∃ a x b,dl = a :: (x ++ [b]):=two_of hn ln1
 obtain⟨a',y,b',rfl⟩:∃ a x b,dr = a :: (x ++ [b]):=two_of hn ln2
 have c1:cutD (a :: (x ++ [b]),row,sign,a' :: (y ++ [b'])) = (x ++ [b],row,sign,a' :: y):=by
  unfold cutD
  show (x ++ [b],row,sign,(a' :: (y ++ [b'])).dropLast) = _
  rw [show a' :: (y ++ [b']) = (a' :: y) ++ [b'] from rfl,List.dropLast_concat]
 rw [c1] at hdc
 have hdl:x ++ [b]∈L:=hdl
 have hdr:a' :: y∈R:=by have:=hdr; rwa [show ((a' :: (y ++ [b'])).dropLast:Wd) = a' :: y by rw [show a' :: (y ++ [b']) = (a' :: y) ++ [b'] from rfl,List.dropLast_concat]] at this
 have hb':=sg2 b' (by simp)
 have ha:=sg1 a (by simp)
 have hcl:=fun X' Y' hX' hY'=>C.cl X' Y' (x ++ [b],row,sign,a' :: y) hX' hY' hdc
 generalize hE:enA m row sign = e at a1 a2 a3
 have hE':enA m ((x ++ [b],row,sign,a' :: y):Md).2.1 ((x ++ [b],row,sign,a' :: y):Md).2.2.1 = e:=hE
 rw [hE'] at hcl
 match e,a1,a2,a3,hcl with
 | [put,way,after],a1,a2,a3,hcl =>
  by_cases cw:way = 1
  ·have e1:∀ (A B:List Wd) (d:Md),askM (sgn m) A B d [put,way,after] = ([nlW d put],[],(rWs (sgn m) B d).map fun w=>(nlW d put,after,d.2.2.2.headD 0,w)):=fun A B d=>by show (if way = 1 then _ else _) = _; rw [if_pos cw]
   rw [e1] at a1 a2 a3 ⊢
   have hnl:nlW (x ++ [b],row,sign,a' :: y) put∈L:=by
    have:=(hcl [] [] (by simp) (by simp)).1
    rw [e1] at this
    exact this _ (List.mem_singleton.2 rfl)
   have n1:nlW (a :: (x ++ [b]),row,sign,a' :: (y ++ [b'])) put = x ++ [b] ++ [put]:=rfl
   have n2:(x ++ [b] ++ [put]).drop 1 = nlW (x ++ [b],row,sign,a' :: y) put:=by
    show (x ++ [b] ++ [put]).drop 1 = (x ++ [b]).drop 1 ++ [put]
    cases x <;> rfl
   have wi:WiW m n L (nlW (a :: (x ++ [b]),row,sign,a' :: (y ++ [b'])) put):=⟨a1 _ (List.mem_singleton.2 rfl),by rw [n1,n2]; exact hnl,by rw [n1,List.dropLast_concat]; exact hdl⟩
   refine⟨fun w hw=>by rw [List.mem_singleton.1 hw]; exact wi,fun w hw=>(by cases hw),fun d' hd'=>?_⟩
   have ok':=a3 d' hd'
   obtain⟨w,hw,rfl⟩:=List.mem_map.1 hd'
   unfold rWs at hw
   obtain⟨hw1,hw2⟩:=List.mem_filter.1 hw
   have hw2:=of_decide_eq_true hw2
   obtain⟨f,_,rfl⟩:=List.mem_map.1 hw1
   have wY:=hY _ hw2
   have q1:((a' :: (y ++ [b'])).drop 1 ++ [(f:Int)]).dropLast = y ++ [b']:=by rw [List.dropLast_concat]; rfl
   have wR:y ++ [b']∈R:=by have:=wY.2.2; rwa [show (((a :: (x ++ [b]),row,sign,a' :: (y ++ [b'])):Md).2.2.2.drop 1 ++ [(f:Int)]).dropLast = y ++ [b'] from q1] at this
   refine⟨ok',wi.2.1,?_,?_⟩
   ·show ((a' :: (y ++ [b'])).drop 1 ++ [(f:Int)]).dropLast∈R
    rw [q1]; exact wR
   ·have:=(hcl [] [y ++ [b']] (by simp) (by simpa using wR)).2.2
    rw [e1] at this
    refine (show cutD _ = (nlW (x ++ [b],row,sign,a' :: y) put,after,a',y ++ [b']) from ?_) ▸ this _ (List.mem_map.2 ⟨y ++ [b'],?_,rfl⟩)
    ·unfold cutD
     show ((nlW (a :: (x ++ [b]),row,sign,a' :: (y ++ [b'])) put).drop 1,after,a',((a' :: (y ++ [b'])).drop 1 ++ [(f:Int)]).dropLast) = _
     rw [q1,n1,n2]
    ·unfold rWs
     refine List.mem_filter.2 ⟨List.mem_map.2 ⟨b'.toNat,List.mem_range.2 (by omega),?_⟩,by simp⟩
     show y ++ [((b'.toNat:Nat):Int)] = y ++ [b']
     rw [show ((b'.toNat:Nat):Int) = b' by omega]
  ·have e1:∀ (A B:List Wd) (d:Md),askM (sgn m) A B d [put,way,after] = ([],[nrW d put],(lWs (sgn m) A d).map fun w=>(w,after,d.1.getLastD 0,nrW d put)):=fun A B d=>by show (if way = 1 then _ else _) = _; rw [if_neg cw]
   rw [e1] at a1 a2 a3 ⊢
   have hnr:nrW (x ++ [b],row,sign,a' :: y) put∈R:=by
    have:=(hcl [] [] (by simp) (by simp)).2.1
    rw [e1] at this
    exact this _ (List.mem_singleton.2 rfl)
   have n1:nrW (a :: (x ++ [b]),row,sign,a' :: (y ++ [b'])) put = put :: (a' :: y):=by
    show put :: (a' :: (y ++ [b'])).dropLast = _
    rw [show a' :: (y ++ [b']) = (a' :: y) ++ [b'] from rfl,List.dropLast_concat]
   have n2:(put :: (a' :: y)).dropLast = nrW (x ++ [b],row,sign,a' :: y) put:=rfl
   have wi:WiW m n R (nrW (a :: (x ++ [b]),row,sign,a' :: (y ++ [b'])) put):=⟨a2 _ (List.mem_singleton.2 rfl),by rw [n1]; exact hdr,by rw [n1,n2]; exact hnr⟩
   refine⟨fun w hw=>(by cases hw),fun w hw=>by rw [List.mem_singleton.1 hw]; exact wi,fun d' hd'=>?_⟩
   have ok':=a3 d' hd'
   obtain⟨w,hw,rfl⟩:=List.mem_map.1 hd'
   unfold lWs at hw
   obtain⟨hw1,hw2⟩:=List.mem_filter.1 hw
   have hw2:=of_decide_eq_true hw2
   obtain⟨f,_,rfl⟩:=List.mem_map.1 hw1
   have wX:=hX _ hw2
   have q0:((a :: (x ++ [b])).dropLast:Wd) = a :: x:=by rw [show a :: (x ++ [b]) = (a :: x) ++ [b] from rfl,List.dropLast_concat]
   have wL:a :: x∈L:=by have:=wX.2.1; rwa [show ((f:Int) :: ((a :: (x ++ [b]),row,sign,a' :: (y ++ [b'])):Md).1.dropLast).drop 1 = a :: x from q0] at this
   have gl:((a :: (x ++ [b]):Wd)).getLastD 0 = b:=by rw [show a :: (x ++ [b]) = (a :: x) ++ [b] from rfl,List.getLastD_concat]
   have gl2:((x ++ [b]:Wd)).getLastD 0 = b:=List.getLastD_concat
   refine⟨ok',?_,wi.2.2,?_⟩
   ·show (a :: (x ++ [b])).dropLast∈L
    rw [q0]; exact wL
   ·have:=(hcl [a :: x] [] (by simpa using wL) (by simp)).2.2
    rw [e1] at this
    refine (show cutD _ = (a :: x,after,b,nrW (x ++ [b],row,sign,a' :: y) put) from ?_) ▸ (show (a :: x,after,b,nrW (x ++ [b],row,sign,a' :: y) put)∈Ms from ?_)
    ·unfold cutD
     show ((a :: (x ++ [b])).dropLast,after,(a :: (x ++ [b])).getLastD 0,(nrW (a :: (x ++ [b]),row,sign,a' :: (y ++ [b'])) put).dropLast) = _
     rw [q0,gl,n1,n2]
    ·refine this _ (List.mem_map.2 ⟨a :: x,?_,?_⟩)
     ·unfold lWs
      refine List.mem_filter.2 ⟨List.mem_map.2 ⟨a.toNat,List.mem_range.2 (by omega),?_⟩,by simp⟩
      show ((a.toNat:Nat):Int) :: (x ++ [b]).dropLast = a :: x
      rw [List.dropLast_concat,show ((a.toNat:Nat):Int) = a by omega]
     ·show (a :: x,after,(x ++ [b]).getLastD 0,_) = _
      rw [gl2]
 | [],_,_,_,_=>exact⟨fun w hw=>(by cases hw),fun w hw=>(by cases hw),fun w hw=>(by cases hw)⟩
 | [_],_,_,_,_=>exact⟨fun w hw=>(by cases hw),fun w hw=>(by cases hw),fun w hw=>(by cases hw)⟩
 | [_,_],_,_,_,_=>exact⟨fun w hw=>(by cases hw),fun w hw=>(by cases hw),fun w hw=>(by cases hw)⟩
 | _ :: _ :: _ :: _ :: _,_,_,_,_=>exact⟨fun w hw=>(by cases hw),fun w hw=>(by cases hw),fun w hw=>(by cases hw)⟩
theorem kept_iff {m:Ma} {L R:List Wd} {Ms:List Md} {d:Md}:keptB m L R Ms d = true ↔ enA m d.2.1 d.2.2.1≠[]∧(∀ w∈(askM (sgn m) L R d (enA m d.2.1 d.2.2.1)).1,w∈L)∧(∀ w∈(askM (sgn m) L R d (enA m d.2.1 d.2.2.1)).2.1,w∈R)∧(∀ w∈(askM (sgn m) L R d (enA m d.2.1 d.2.2.1)).2.2,w∈Ms):=by
 unfold keptB
 rw [Bool.and_eq_true,Bool.and_eq_true,Bool.and_eq_true,List.all_eq_true,List.all_eq_true,List.all_eq_true,Bool.not_eq_true',decide_eq_false_iff_not]
 simp only [decide_eq_true_eq]
 exact⟨fun ⟨a,⟨b,c⟩,d⟩=>⟨a,b,c,d⟩,fun ⟨a,b,c,d⟩=>⟨a,⟨b,c⟩,d⟩⟩
theorem fil_mem {α:Type} [BEq α] [LawfulBEq α] {L L2:List α} {w:α}:w∈(L.filter fun w=>decide (w∈L2)) ↔ w∈L∧w∈L2:=by rw [List.mem_filter,decide_eq_true_eq]
theorem kept_shared {m:Ma} {L R La Ra:List Wd} {Ms Mb:List Md} (h1:∀ d∈Ms,keptB m L R Ms d = true) (h2:∀ d∈Mb,keptB m La Ra Mb d = true):∀ d∈Ms.filter (fun w=>decide (w∈Mb)),keptB m (L.filter fun w=>decide (w∈La)) (R.filter fun w=>decide (w∈Ra)) (Ms.filter fun w=>decide (w∈Mb)) d = true:=fun d hd=>by
 obtain⟨d1,d2⟩:=fil_mem.1 hd
 obtain⟨a0,a1,a2,a3⟩:=kept_iff.1 (h1 d d1)
 obtain⟨_,b1,b2,b3⟩:=kept_iff.1 (h2 d d2)
 obtain⟨x1,x2,x3⟩:=askM_mono (g:=sgn m) (X:=L.filter fun w=>decide (w∈La)) (Y:=R.filter fun w=>decide (w∈Ra)) (L:=L) (R:=R) (fun w hw=>(fil_mem.1 hw).1) (fun w hw=>(fil_mem.1 hw).1) d (enA m d.2.1 d.2.2.1)
 obtain⟨y1,y2,y3⟩:=askM_mono (g:=sgn m) (X:=L.filter fun w=>decide (w∈La)) (Y:=R.filter fun w=>decide (w∈Ra)) (L:=La) (R:=Ra) (fun w hw=>(fil_mem.1 hw).2) (fun w hw=>(fil_mem.1 hw).2) d (enA m d.2.1 d.2.2.1)
 exact kept_iff.2 ⟨a0,fun w hw=>fil_mem.2 ⟨a1 w (x1 w hw),b1 w (y1 w hw)⟩,fun w hw=>fil_mem.2 ⟨a2 w (x2 w hw),b2 w (y2 w hw)⟩,fun w hw=>fil_mem.2 ⟨a3 w (x3 w hw),b3 w (y3 w hw)⟩⟩
theorem gi_shared {m:Ma} {n:Int} {L R La Ra:List Wd} {Ms Mb:List Md} (G:GI m n L R Ms) (h1:noW n∈L) (h2:noW n∈R) (h3:(noW n,(0:Int),(0:Int),noW n)∈Ms) (g1:noW n∈La) (g2:noW n∈Ra) (g3:(noW n,(0:Int),(0:Int),noW n)∈Mb):GI m n (L.filter fun w=>decide (w∈La)) (R.filter fun w=>decide (w∈Ra)) (Ms.filter fun w=>decide (w∈Mb)) :=
 ⟨fun w hw=>G.okL w (fil_mem.1 hw).1,fun w hw=>G.okR w (fil_mem.1 hw).1,fun w hw=>G.okd w (fil_mem.1 hw).1,G.ndL.filter _,G.ndR.filter _,G.ndM.filter _,List.length_pos_of_mem (fil_mem.2 ⟨h1,g1⟩),List.length_pos_of_mem (fil_mem.2 ⟨h2,g2⟩),List.length_pos_of_mem (fil_mem.2 ⟨h3,g3⟩)⟩
theorem oth_kept {m m':Ma} {L R:List Wd} {Ms:List Md} {ps:List (Int × Int)} (hps:∀ d∈Ms,(d.2.1,d.2.2.1)∈ps) (O:Oth m m' fun r s=>(r,s)∈ps) (hk:∀ d∈Ms,keptB m L R Ms d = true):∀ d∈Ms,keptB m' L R Ms d = true:=fun d hd=>by
 have e:=O.2.2.2 d.2.1 d.2.2.1 (hps d hd)
 unfold keptB
 rw [e,O.2.2.1]
 exact hk d hd
theorem oth_lea {m m':Ma} {n:Int} {L R:List Wd} {Ms:List Md} {ps:List (Int × Int)} (hps:∀ d∈Ms,(d.2.1,d.2.2.1)∈ps) (O:Oth m m' fun r s=>(r,s)∈ps) (C:Clo m n (·∈L) (·∈R) (·∈Ms)) (E:Lea m n L R Ms):Lea m' n L R Ms:=fun CL CR CM C'=>by
 have C2:Clo m n (fun w=>CL w∧w∈L) (fun w=>CR w∧w∈R) (fun w=>CM w∧w∈Ms):=by
  refine⟨⟨C'.l0,C.l0⟩,⟨C'.r0,C.r0⟩,⟨C'.m0,C.m0⟩,fun X Y d hX hY hd=>?_⟩
  obtain⟨a1,a2,a3⟩:=C.cl X Y d (fun w hw=>(hX w hw).2) (fun w hw=>(hY w hw).2) hd.2
  obtain⟨b1,b2,b3⟩:=C'.cl X Y d (fun w hw=>(hX w hw).1) (fun w hw=>(hY w hw).1) hd.1
  rw [O.2.2.2 d.2.1 d.2.2.1 (hps d hd.2),O.2.2.1] at b1 b2 b3
  exact⟨fun w hw=>⟨b1 w hw,a1 w hw⟩,fun w hw=>⟨b2 w hw,a2 w hw⟩,fun w hw=>⟨b3 w hw,a3 w hw⟩⟩
 obtain⟨e1,e2,e3⟩:=E _ _ _ C2
 exact⟨fun w hw=>(e1 w hw).1,fun w hw=>(e2 w hw).1,fun w hw=>(e3 w hw).1⟩
theorem oth_gi {m m':Ma} {n:Int} {L R:List Wd} {Ms:List Md} {p:Int→Int→Prop} (O:Oth m m' p) (G:GI m n L R Ms):GI m' n L R Ms :=
 ⟨fun w hw=>by rw [O.2.2.1]; exact G.okL w hw,fun w hw=>by rw [O.2.2.1]; exact G.okR w hw,fun d hd=>by have:=G.okd d hd; unfold okM at this ⊢; rw [O.2.2.1,O.2.1]; exact this,G.ndL,G.ndR,G.ndM,G.l1,G.r1,G.m1⟩
def PP (m:Ma) (n:Int) (H:Hp) (v:V) (ne:Addr→Prop):Prop:=∃ (q l r ms:Addr) (wd:Str) (L R:List Wd) (Ms:List Md),v = .ref q∧H q = some (.tup [.str wd,.int n,.ref l,.ref r,.ref ms])∧WL H l L∧WL H r R∧ML H ms Ms∧GI m n L R Ms∧noW n∈L∧noW n∈R∧(noW n,(0:Int),(0:Int),noW n)∈Ms∧(∀ d∈Ms,keptB m L R Ms d = true)∧wd = "shut"∧ne l∧ne r∧ne ms
theorem PP.stay {m:Ma} {n:Int} {H H':Hp} (S:Stay H H') {v:V} {ne:Addr→Prop}:PP m n H v ne→PP m n H' v ne:=fun ⟨q,l,r,ms,wd,L,R,Ms,h0,h1,h2,h3,h4,h5⟩=>⟨q,l,r,ms,wd,L,R,Ms,h0,S.tup _ _ h1,h2.stay S,h3.stay S,h4.stay S,h5⟩
theorem PP.upd {m:Ma} {n:Int} {H:Hp} {pc:Addr} {us vs:List V} (hp:H pc = some (.lst us)) {v:V}:PP m n H v (·≠pc)→PP m n (L2.upd H pc (.lst vs)) v (·≠pc):=fun ⟨q,l,r,ms,wd,L,R,Ms,h0,h1,h2,h3,h4,h5,h6,h7,h8,h9,h10,n1,n2,n3⟩=>⟨q,l,r,ms,wd,L,R,Ms,h0,by rw [upd_ne (by rintro rfl; rw [hp] at h1; cases h1)]; exact h1,h2.upd hp n1,h3.upd hp n2,h4.upd hp n3,h5,h6,h7,h8,h9,h10,n1,n2,n3⟩
def LP (m:Ma) (n:Int) (H:Hp) (v:V):Prop:=(v = .non∧∃ d,Rch m n d∧enA m d.2.1 d.2.2.1 = [])∨∃ (q l r ms:Addr) (wd:Str) (L R:List Wd) (Ms:List Md),v = .ref q∧H q = some (.tup [.str wd,.int n,.ref l,.ref r,.ref ms])∧WL H l L∧WL H r R∧ML H ms Ms∧GI m n L R Ms∧noW n∈L∧noW n∈R∧(noW n,(0:Int),(0:Int),noW n)∈Ms∧(∀ d∈Ms,keptB m L R Ms d = true)∧wd = "shut"∧Lea m n L R Ms∧(L.map wK).Pairwise (fun x y=>ltN x y = true)∧(R.map wK).Pairwise (fun x y=>ltN x y = true)∧(Ms.map mK).Pairwise (fun x y=>ltN x y = true)
theorem LP.stay {m:Ma} {n:Int} {H H':Hp} (S:Stay H H') {v:V}:LP m n H v→LP m n H' v
 | .inl h=>.inl h
 | .inr ⟨q,l,r,ms,wd,L,R,Ms,h0,h1,h2,h3,h4,h5⟩=>.inr ⟨q,l,r,ms,wd,L,R,Ms,h0,S.tup _ _ h1,h2.stay S,h3.stay S,h4.stay S,h5⟩
def dWL (L:List Wd):DD:=.lst (L.map dE)
def dMd (d:Md):DD:=.tup [dE d.1,.int d.2.1,.int d.2.2.1,dE d.2.2.2]
def dMLs (L:List Md):DD:=.lst (L.map dMd)
def dPa (wd:Str) (n:Int) (L R:List Wd) (Ms:List Md):DD:=.tup [.str wd,.int n,dWL L,dWL R,dMLs Ms]
theorem dens_two {α:Type} {H:Hp} {R:Addr→α→Prop} {f:α→DD} (hR:∀ a x,R a x→Den H (.ref a) (f x)):∀ {as:List Addr} {xs:List α},All2 R as xs→Dens H (as.map V.ref) (xs.map f)
 | [],[],_=>by rw [List.map_nil,List.map_nil,Dens]
 | _ :: _,[],h=>by have:=h.1; simp at this
 | [],_ :: _,h=>by have:=h.1; simp at this
 | a :: as,x :: xs,h=>by
  rw [List.map_cons,List.map_cons,Dens]
  exact⟨_,_,rfl,hR _ _ (h.2 0 a x rfl rfl),dens_two hR ⟨by have:=h.1; simpa using this,fun k b y hb hy=>h.2 (k + 1) b y hb hy⟩⟩
theorem MdA.denD {H:Hp} {a:Addr} {d:Md}:MdA H a d→Den H (.ref a) (dMd d):=fun ⟨l,r,h,hl,hr⟩=>by
 unfold dMd
 rw [Den]
 exact⟨_,_,rfl,h,⟨_,_,rfl,Ent.den hl,⟨_,_,rfl,by rw [Den],⟨_,_,rfl,by rw [Den],⟨_,_,rfl,Ent.den hr,rfl⟩⟩⟩⟩⟩
theorem WL.denD {H:Hp} {a:Addr} {L:List Wd}:WL H a L→Den H (.ref a) (dWL L):=fun ⟨as,h1,h2⟩=>by
 unfold dWL
 rw [Den]
 exact⟨_,_,rfl,h1,dens_two (fun a x z=>Ent.den z) h2⟩
theorem ML.denD {H:Hp} {a:Addr} {L:List Md}:ML H a L→Den H (.ref a) (dMLs L):=fun ⟨as,h1,h2⟩=>by
 unfold dMLs
 rw [Den]
 exact⟨_,_,rfl,h1,dens_two (fun a x z=>MdA.denD z) h2⟩
theorem dPa_den {H:Hp} {q l r ms:Addr} {wd:Str} {n:Int} {L R:List Wd} {Ms:List Md} (e:H q = some (.tup [.str wd,.int n,.ref l,.ref r,.ref ms])) (wL:WL H l L) (wR:WL H r R) (wM:ML H ms Ms):Den H (.ref q) (dPa wd n L R Ms):=by
 unfold dPa
 rw [Den]
 exact⟨_,_,rfl,e,⟨_,_,rfl,by rw [Den],⟨_,_,rfl,by rw [Den],⟨_,_,rfl,wL.denD,⟨_,_,rfl,wR.denD,⟨_,_,rfl,wM.denD,rfl⟩⟩⟩⟩⟩⟩
theorem dWL_dep (L:List Wd):dep (dWL L)≤4:=by
 unfold dWL
 rw [dep]
 have:depL (L.map dE)≤2:=depL_leK fun d hd=>by
  obtain⟨w,_,rfl⟩:=List.mem_map.1 hd
  exact dep_ints w
 omega
theorem dMd_dep (d:Md):dep (dMd d)≤4:=by
 have h1:=dep_ints d.1
 have h2:=dep_ints d.2.2.2
 unfold dMd
 rw [dep]
 have:depL [dE d.1,.int d.2.1,.int d.2.2.1,dE d.2.2.2]≤2:=depL_leK fun x hx=>by
  simp only [List.mem_cons,List.not_mem_nil,or_false] at hx
  rcases hx with rfl | rfl | rfl | rfl
  ·exact h1
  ·exact Nat.zero_le _
  ·exact Nat.zero_le _
  ·exact h2
 omega
theorem dMLs_dep (L:List Md):dep (dMLs L)≤6:=by
 unfold dMLs
 rw [dep]
 have:depL (L.map dMd)≤4:=depL_leK fun d hd=>by
  obtain⟨w,_,rfl⟩:=List.mem_map.1 hd
  exact dMd_dep w
 omega
theorem dPa_dep (wd:Str) (n:Int) (L R:List Wd) (Ms:List Md):dep (dPa wd n L R Ms)≤60:=by
 have h1:=dWL_dep L
 have h2:=dWL_dep R
 have h3:=dMLs_dep Ms
 unfold dPa
 rw [dep]
 have:depL [.str wd,.int n,dWL L,dWL R,dMLs Ms]≤6:=depL_leK fun x hx=>by
  simp only [List.mem_cons,List.not_mem_nil,or_false] at hx
  rcases hx with rfl | rfl | rfl | rfl | rfl
  ·exact Nat.zero_le _
  ·exact Nat.zero_le _
  ·omega
  ·omega
  ·exact h3
 omega
theorem srt_as {α:Type} {f:α→NK} (fi:∀ a b,f a = f b→a = b) {L L':List α} (h:(L.map f).Pairwise fun x y=>ltN x y = true) (h':(L'.map f).Pairwise fun x y=>ltN x y = true) (hm:∀ w,w∈L ↔ w∈L'):L' = L:=by
 have e:L'.map f = L.map f:=srtN_one h' h fun x=>by
  rw [List.mem_map,List.mem_map]
  exact⟨fun ⟨y,hy,e⟩=>⟨y,(hm y).2 hy,e⟩,fun ⟨y,hy,e⟩=>⟨y,(hm y).1 hy,e⟩⟩
 have:∀ {a b:List α},a.map f = b.map f→a = b:=by
  intro a
  induction a with
  | nil=>intro b h; cases b with | nil=>rfl | cons y b=>simp at h
  | cons x a ih =>
   intro b h
   cases b with
   | nil=>simp at h
   | cons y b =>
    rw [List.map_cons,List.map_cons] at h
    injection h with h1 h2
    rw [fi _ _ h1,ih h2]
 exact this e
theorem shut_of {m:Ma} {n:Int} {L R:List Wd} {Ms:List Md} (hW:isWid (sgn m) n = true) (G:GI m n L R Ms) (h1:noW n∈L) (h2:noW n∈R) (h3:(noW n,(0:Int),(0:Int),noW n)∈Ms) (hk:∀ d∈Ms,keptB m L R Ms d = true):shutB m n L R Ms = true:=by
 unfold shutB
 rw [hW,List.all_eq_true.2 (fun w hw=>(List.mem_append.1 hw).elim (G.okL w) (G.okR w)),List.all_eq_true.2 G.okd,decide_eq_true h1,decide_eq_true h2,decide_eq_true h3,List.all_eq_true.2 hk]
 rfl
theorem pas_of {m:Ma} {n:Int} {L R:List Wd} {Ms:List Md} (M:OkM m) (hW:isWid (sgn m) n = true) (G:GI m n L R Ms) {H:Hp} {q l r ms:Addr} {wd:Str} (hwd:wd = "shut") (e:H q = some (.tup [.str wd,.int n,.ref l,.ref r,.ref ms])) (wL:WL H l L) (wR:WL H r R) (wM:ML H ms Ms):PaS H q n L R Ms:=by
 have f1:=words16 M.s2 M.s4 hW G.okL G.ndL
 have f2:=words16 M.s2 M.s4 hW G.okR G.ndR
 have f3:=middles16 M hW G.okd G.ndM
 obtain⟨_,hn1,hn4⟩:=wid16 M.s2 M.s4 hW
 refine⟨⟨wd,l,r,ms,hwd,e,wL,wR,wM⟩,by omega,by omega,by omega,fun w hw=>?_,fun d hd=>?_⟩
 ·have:okW (sgn m) n w = true:=(List.mem_append.1 hw).elim (G.okL w) (G.okR w)
  have:=(okW_iff.1 this).1
  omega
 ·obtain⟨o1,o2,_⟩:=okM_iff.1 (G.okd d hd)
  have:=(okW_iff.1 o1).1
  have:=(okW_iff.1 o2).1
  exact⟨by omega,by omega⟩
theorem pap_three {H:Hp} {q l r ms:Addr} {wd:Str} {n:Int} {L R:List Wd} {Ms:List Md} (e:H q = some (.tup [.str wd,.int n,.ref l,.ref r,.ref ms])) (wL:WL H l L) (wR:WL H r R) (wM:ML H ms Ms):∃ (xs:List V) (A:Nat→Addr) (Kk:Nat→List NK),H q = some (.tup xs)∧(∀ j:Nat,j < 3→atI xs (2 + (j:Int)) = some (.ref (A j))∧NL H (A j) (Kk j))∧Kk 0 = L.map wK∧Kk 1 = R.map wK∧Kk 2 = Ms.map mK :=
 ⟨_,fun j=>if j = 0 then l else if j = 1 then r else ms,fun j=>if j = 0 then L.map wK else if j = 1 then R.map wK else Ms.map mK,e,three ⟨rfl,wL.nl⟩ ⟨rfl,wR.nl⟩ ⟨rfl,wM.nl⟩,rfl,rfl,rfl⟩
def sp_law (K:PySem.W.Frag):Sp:=fun vs H Q _=>match vs with
 | [.ref b]=>∃ ns:List Int,SqL K H b (ns.map V.int)∧ns.length≤63∧∀ H',Q (.bl true) H'
 | _=>False
theorem ok_law (T:Tx K mg a):FnOk P w K mg base CX0 6 a.law a.law_d ["_law_script"] (sp_law K):=by
 have G_l_purse:=ok_l_purse (P:=P) (w:=w) (base:=base) T
 have G_l_draw:=ok_l_draw (P:=P) (w:=w) (base:=base) T
 have G_l_machine:=ok_l_machine (P:=P) (w:=w) (base:=base) T
 have G_l_begun:=ok_l_begun (P:=P) (w:=w) (base:=base) T
 have G_l_closed:=ok_l_closed (P:=P) (w:=w) (base:=base) T
 have G_l_within:=ok_l_within (P:=P) (w:=w) (base:=base) T
 have G_l_in:=ok_l_in (P:=P) (w:=w) (base:=base) T
 have G_l_shared:=ok_l_shared (P:=P) (w:=w) (base:=base) T
 have G_l_other:=ok_l_other (P:=P) (w:=w) (base:=base) T
 have G_shows_shut:=ok_shows_shut (P:=P) (w:=w) (base:=base) T
 have G_least_shut:=(ok_least_shut (P:=P) (w:=w) (base:=base) T).noE
 refine T.f_law.ok sc_law (fun vs H Q E h=>?_) (fun cdv A outer s H vs Q E hr h=>?_)
 ·unfold sp_law at h
  split at h
  ·rfl
  ·exact h.elim
 ·unfold sp_law at h
  split at h
  ·have nd:=sc_law.nd
   have hu:=hu_of hr
   rename_i b
   obtain⟨ns,hb,hl,h⟩:=h
   refine⟨_,(pss_cons (ps_set (i:=1) nd rfl (by walk_at "o") (pe_call G_l_purse (hr.mono (by decide)) rfl T.g_l_purse T.f_l_purse.kp T.b_l_purse .nil pass0 (pa_cons (qv 0) pa_nil)))
  (pss_cons (ps_set (i:=2) nd rfl (by walk_at "o") (pe_op q_add pe_int (pe_call G_l_draw (hr.mono (by decide)) rfl T.g_l_draw T.f_l_draw.kp T.b_l_draw .nil pass0 (pa_cons (qv 1) (pa_cons pe_int pa_nil)))))
  (pss_cons (ps_set (i:=3) nd rfl (by walk_at "o") (pe_op q_add pe_int (pe_call G_l_draw (hr.mono (by decide)) rfl T.g_l_draw T.f_l_draw.kp T.b_l_draw .nil pass0 (pa_cons (qv 1) (pa_cons pe_int pa_nil)))))
  (pss_cons (ps_set (i:=4) nd rfl (by walk_at "o") (pe_call G_l_machine (hr.mono (by decide)) rfl T.g_l_machine T.f_l_machine.kp T.b_l_machine .nil pass0 (pa_cons (qv 1) (pa_cons (qv 2) (pa_cons (qv 3) pa_nil)))))
  (pss_cut (ps_set (i:=5) nd rfl (by walk_at "o") (pe_op q_add pe_int (pe_call G_l_draw (hr.mono (by decide)) rfl T.g_l_draw T.f_l_draw.kp T.b_l_draw .nil pass0 (pa_cons (qv 1) (pa_cons (pe_ix (q_ixLK (K:=K) rfl) (pe_lst (pa_cons pe_int (pa_cons pe_int (pa_cons pe_int pa_nil)))) (pe_op q_sub (qv 3) pe_int) (fun _ _=>rfl)) pa_nil)))))
  (pss_cut (ps_set (i:=6) nd rfl (by walk_at "o") (pe_call G_least_shut (hr.mono (by decide)) rfl T.g_least_shut T.f_least_shut.kp T.b_least_shut .nil pass0 (pa_cons (qv 4) (pa_cons (qv 5) pa_nil))))
  (pss_cut (ps_set (i:=7) nd rfl (by walk_at "o") (pe_call G_least_shut (hr.mono (by decide)) rfl T.g_least_shut T.f_least_shut.kp T.b_least_shut .nil pass0 (pa_cons (qv 4) (pa_cons (pe_op q_add (qv 5) pe_int) pa_nil))))
  (pss_cut (ps_lc (j:=8) rfl nd rfl (by walk_at "o") (own:=["_law_k"]) (fr:=[4,5,1]) (by walk_at "comp_ok") (qi_range1 rfl T.z_range (pa_cons pe_int pa_nil)) (fun _ _ _ _=>(pg_name (i:=0) (show List.Nodup (α:=Str) ["_law_k","_law_machine_here","_law_width","_law_purse_here"] from by decide +kernel) rfl (by walk_at "o"))) (fun _ _ _ _=>pts_nil) (fun _ _ _ _=>(pe_call G_l_closed (hr.mono (by decide)) rfl T.g_l_closed T.f_l_closed.kp T.b_l_closed .nil pass0 (pa_cons (qv 1) (pa_cons (qv 2) (pa_cons (pe_call G_l_begun (hr.mono (by decide)) rfl T.g_l_begun T.f_l_begun.kp T.b_l_begun .nil pass0 (pa_cons (qv 3) (pa_cons (qv 1) (pa_cons (qv 2) pa_nil)))) pa_nil))))))
  (pss_cons (ps_c (pt_c op_isN (qv 6) pe_non) (pss_one (ps_ret (pe_cmpR (op_eqD hr) (qv 8) (pe_lst (pa_cons pe_non (pa_cons pe_non pa_nil))) (by first | exact nomark _ | rfl)))) pss_nil)
  (pss_cons (ps_c (PW.pt (pw_orR (pt_c op_isN (qv 7) pe_non) (qw_or1 (pt_not (pt_e (pe_call G_l_within (hr.mono (by decide)) rfl T.g_l_within T.f_l_within.kp T.b_l_within .nil pass0 (pa_cons (qv 7) (pa_cons (qv 6) pa_nil)))))))) (pss_one (ps_ret pe_bl)) pss_nil)
  (pss_cut (ps_lc (j:=9) rfl nd rfl (by walk_at "o") (own:=["_law_paper"]) (fr:=[]) (by walk_at "comp_ok") (qi_listK (K:=K) rfl (qv 8)) (fun _ _ _ _=>(pg_name (i:=0) (show List.Nodup (α:=Str) ["_law_paper"] from by decide +kernel) rfl (by walk_at "o"))) (fun _ _ _ _=>(pts_one (pt_c op_notN (qv 0) pe_non))) (fun _ _ _ _=>(qv 0)))
  (pss_cons (ps_for PassesOwn.never rfl (qi_listK (K:=K) rfl (qv 9)) (pg_name (i:=10) nd rfl (by walk_at "o")) (pss_cons (ps_c (PW.pt (pw_orR (pt_c op_notB (pe_call G_shows_shut (hr.mono (by decide)) rfl T.g_shows_shut T.f_shows_shut.kp T.b_shows_shut .nil pass0 (pa_cons (qv 4) (pa_cons (qv 10) pa_nil))) pe_bl) (qw_or1 (pt_c op_notB (pe_call G_shows_shut (hr.mono (by decide)) rfl T.g_shows_shut T.f_shows_shut.kp T.b_shows_shut .nil pass0 (pa_cons (qv 4) (pa_cons (pe_call G_l_shared (hr.mono (by decide)) rfl T.g_l_shared T.f_l_shared.kp T.b_l_shared .nil pass0 (pa_cons (qv 10) (pa_cons (pe_ix (q_ixLK (K:=K) rfl) (qv 9) pe_int (fun _ _=>rfl)) pa_nil))) pa_nil))) pe_bl)))) (pss_one (ps_ret pe_bl)) pss_nil)
    (pss_one (ps_c (pt_c q_gt (pe_callB (q_lenK (K:=K) rfl) rfl T.z_len bt_len (pa_cons (pe_lc (own:=["_law_k"]) (fr:=[6,10]) rfl (by walk_at "comp_ok") (qi_range2 rfl T.z_range (pa_cons pe_int (pa_cons pe_int pa_nil))) (fun _ _ _ _=>(pg_name (i:=0) (show List.Nodup (α:=Str) ["_law_k","_law_least","_law_paper"] from by decide +kernel) rfl (by walk_at "o"))) (fun _ _ _ _=>(pts_one (pt_not (pt_e (pe_call G_l_in (hr.mono (by decide)) rfl T.g_l_in T.f_l_in.kp T.b_l_in .nil pass0 (pa_cons (pe_ix (q_ixTK (K:=K) rfl) (qv 1) (qv 0) (fun _ _=>rfl)) (pa_cons (pe_ix (q_ixTK (K:=K) rfl) (qv 2) (qv 0) (fun _ _=>rfl)) pa_nil))))))) (fun _ _ _ _=>(qv 0))) pa_nil)) pe_int) (pss_one (ps_ret pe_bl)) pss_nil))))
  (pss_cut (ps_set (i:=11) nd rfl (by walk_at "o") (pe_call G_l_other (hr.mono (by decide)) rfl T.g_l_other T.f_l_other.kp T.b_l_other .nil pass0 (pa_cons (qv 1) (pa_cons (qv 4) (pa_cons (pe_lc (own:=["_law_middle"]) (fr:=[]) rfl (by walk_at "comp_ok") (qi_listK (K:=K) rfl (pe_ix (q_ixTK (K:=K) rfl) (qv 6) pe_int (fun _ _=>rfl))) (fun _ _ _ _=>(pg_name (i:=0) (show List.Nodup (α:=Str) ["_law_middle"] from by decide +kernel) rfl (by walk_at "o"))) (fun _ _ _ _=>pts_nil) (fun _ _ _ _=>(pe_slice (q_slTK (K:=K) rfl) (qv 0) (qo_some pe_int) (qo_some pe_int)))) pa_nil)))))
  (pss_one (ps_ret (pe_andC (pe_cmpR (op_eqD hr) (pe_call G_least_shut (hr.mono (by decide)) rfl T.g_least_shut T.f_least_shut.kp T.b_least_shut .nil pass0 (pa_cons (qv 11) (pa_cons (qv 5) pa_nil))) (qv 6) (by first | exact nomark _ | rfl)) (pe_one (pe_cmpR op_isB (pe_call G_shows_shut (hr.mono (by decide)) rfl T.g_shows_shut T.f_shows_shut.kp T.b_shows_shut .nil pass0 (pa_cons (qv 11) (pa_cons (qv 6) pa_nil))) pe_bl (by first | exact nomark _ | rfl))))))))))))))))))),?_⟩
   refine⟨ns,hb,hl,fun pp H1 n k S1 n1 e1=>?_⟩
   have P1:Pu pp k H1 H1:=Pu.refl ⟨n,e1⟩
   walk_at "w"
   refine⟨by decide,_,_,e1,fun d2 n2 d20 d21=>?_⟩
   have P2:=P1.draw n2
   have Q2:=Pu.of_draw n2 e1
   generalize hg2:upd _ pp _ = H2 at P2 Q2 ⊢
   have e2:H2 pp = some (.lst [.int n2,.int k]):=by rw [← hg2]; exact upd_same
   clear hg2
   walk_at "w"
   walk_at "w"
   refine⟨by decide,_,_,e2,fun d3 n3 d30 d31=>?_⟩
   have P3:=P2.draw n3
   have Q3:=Pu.of_draw n3 e2
   generalize hg3:upd _ pp _ = H3 at P3 Q3 ⊢
   have e3:H3 pp = some (.lst [.int n3,.int k]):=by rw [← hg3]; exact upd_same
   clear hg3
   walk_at "w"
   refine⟨_,k,e3,⟨by omega,by omega⟩,⟨by omega,by omega⟩,fun tm m H4 P4' nt hm hM hml hsg=>?_⟩
   have M:=OkM.of hM
   have P4:=P3.trans P4'
   obtain⟨n4',e4⟩:=P4.has
   have R4:Pu pp k H4 H4:=Pu.refl P4.has
   refine⟨fun σ H'=>∃ wi:Int,σ = [some (.ref b),some (.ref pp),some (.int (1 + d2)),some (.int (2 + d3)),some (.ref tm),some (.int wi),none,none,none,none,none,none]∧Pu pp k H4 H'∧(1≤wi∧wi≤4)∧isWid (sgn m) wi = true∧isWid (sgn m) (wi + 1) = true,?_,?_⟩
   ·walk_at "w"
    refine⟨by show 3≤sizeLine; decide,?_⟩
    intro p6 n6
    generalize hU6:upd _ p6 _ = H6
    have S6:=(upd_sub n6 hU6).1
    have e6:=(upd_sub n6 hU6).2
    clear hU6
    have P6:=R4.sub S6
    have f6:H6 p6 = some (.lst (([3,1,1]:List Int).map V.int)):=e6
    have e6:=S6 _ _ e4
    obtain⟨y6,hy6,y60⟩:∃ y:Int,atI (([3,1,1]:List Int).map V.int) (2 + d3 - 2) = some (.int y)∧(d3 = 0∧y = 3∨(d3 = 1∨d3 = 2)∧y = 1):=by
     have:d3 = 0∨d3 = 1∨d3 = 2:=by omega
     rcases this with rfl | rfl | rfl
     ·exact⟨3,rfl,.inl ⟨rfl,rfl⟩⟩
     ·exact⟨1,rfl,.inr ⟨.inl rfl,rfl⟩⟩
     ·exact⟨1,rfl,.inr ⟨.inr rfl,rfl⟩⟩
    refine⟨_,_,SqL.of f6,hy6,?_⟩
    walk_at "w"
    refine⟨small_log (by omega) (by omega),_,_,e6,fun d7 n7 d70 d71=>?_⟩
    have P7:=P6.draw n7
    have Q7:=Pu.of_draw n7 e6
    generalize hg7:upd _ pp _ = H7 at P7 Q7 ⊢
    have e7:H7 pp = some (.lst [.int n7,.int k]):=by rw [← hg7]; exact upd_same
    clear hg7
    walk_at "w"
    have hsig:(sgn m:Int) = 2 + d3:=hsg
    have hwid:∀ w:Int,1≤w→w≤1 + d7 + 1→isWid (sgn m) w = true:=fun w h1 h2=>by
     unfold isWid
     rw [decide_eq_true h1,Bool.true_and]
     refine decide_eq_true ?_
     rcases y60 with ⟨z,y⟩ | ⟨z,y⟩
     ·rw [if_pos (by omega)]; omega
     ·rw [if_neg (by omega)]; omega
    exact⟨1 + d7,rfl,P7,⟨by omega,by omega⟩,hwid _ (by omega) (by omega),hwid _ (by omega) (by omega)⟩
   rintro σ H7 ⟨wi,rfl,P7,⟨hn1,hn4⟩,hW,hW1⟩
   have hm7:=hm.stay P7.stay
   refine⟨fun σ H'=>∃ v6,σ = [some (.ref b),some (.ref pp),some (.int (1 + d2)),some (.int (2 + d3)),some (.ref tm),some (.int wi),some v6,none,none,none,none,none]∧Sub H7 H'∧LP m wi H' v6,?_,?_⟩
   ·walk_at "w"
    refine⟨m,hm7,hM,fun z=>(by rw [hW] at z; cases z),fun _=>⟨fun H8 S8 hR=>?_,fun q l r ms wd L R Ms H8 S8 hq wL wR wM G c1 c2 c3 hk hwd E so1 so2 so3 _ _ _=>?_⟩⟩
    ·exact⟨_,rfl,S8,.inl ⟨rfl,hR⟩⟩
    ·exact⟨_,rfl,S8,.inr ⟨q,l,r,ms,wd,L,R,Ms,rfl,hq,wL,wR,wM,G,c1,c2,c3,hk,hwd,E,so1,so2,so3⟩⟩
   rintro σ H8 ⟨v6,rfl,S8,lp6⟩
   have hm8:=hm7.stay (.sub S8)
   refine⟨fun σ H'=>∃ v7,σ = [some (.ref b),some (.ref pp),some (.int (1 + d2)),some (.int (2 + d3)),some (.ref tm),some (.int wi),some v6,some v7,none,none,none,none]∧Sub H8 H'∧LP m (wi + 1) H' v7,?_,?_⟩
   ·walk_at "w"
    refine⟨m,hm8,hM,fun z=>(by rw [hW1] at z; cases z),fun _=>⟨fun H8 S8 hR=>?_,fun q l r ms wd L R Ms H8 S8 hq wL wR wM G c1 c2 c3 hk hwd E so1 so2 so3 _ _ _=>?_⟩⟩
    ·exact⟨_,rfl,S8,.inl ⟨rfl,hR⟩⟩
    ·exact⟨_,rfl,S8,.inr ⟨q,l,r,ms,wd,L,R,Ms,rfl,hq,wL,wR,wM,G,c1,c2,c3,hk,hwd,E,so1,so2,so3⟩⟩
   rintro σ H9 ⟨v7,rfl,S9,lp7⟩
   have lp6:=lp6.stay (.sub S9)
   have hm9:=hm8.stay (.sub S9)
   have P9:=(P7.sub S8).sub S9
   obtain⟨n9,e9⟩:=P9.has
   refine⟨fun σ H'=>∃ pc xs,σ = [some (.ref b),some (.ref pp),some (.int (1 + d2)),some (.int (2 + d3)),some (.ref tm),some (.int wi),some v6,some v7,some (.ref pc),none,none,none]∧Pu pp k H9 H'∧H' pc = some (.lst xs)∧xs.length = 2∧∀ x∈xs,x = .non∨PP m wi H' x (·≠pc),?_,?_⟩
   ·walk_at "w"
    refine⟨⟨by decide,by decide⟩,?_⟩
    intro pc npc
    have ncp:pc≠pp:=by rintro rfl; rw [e9] at npc; cases npc
    refine comp_range (lo:=0) (n:=2) (fun i σ H'=>∃ (v:Option V) (xs:List V),σ = [v,some (.ref tm),some (.int wi),some (.ref pp)]∧Pu pp k H9 H'∧H' pc = some (.lst xs)∧xs.length = i∧∀ x∈xs,x = .non∨PP m wi H' x (·≠pc)) ?_ ?_ ?_
    ·exact⟨none,[],rfl,(Pu.refl ⟨_,e9⟩).sub (Sub.new npc),upd_same,rfl,by simp⟩
    ·rintro i σ H' hi ⟨v,xs,rfl,P',g',l',x'⟩
     obtain⟨n',e'⟩:=P'.has
     have hm':=hm9.stay P'.stay
     refine⟨_,k,m,e',hm',hM,⟨hn1,hn4⟩,fun q l r ms L R Ms H2 P2 hq wL wR wM okL okR okM nL nR nM lL lR lM=>?_⟩
     have g2:H2 pc = some (.lst xs):=P2.keep _ _ ncp g'
     refine⟨m,l,r,ms,L,R,Ms,hm'.stay P2.stay,hM,hW,hq,wL,wR,wM,okL,okR,okM,nL,nR,nM,lL,lR,lM,fun H3 S3=>?_,fun q3 l3 r3 ms3 wd L3 R3 Ms3 H3 S3 hq3 wL3 wR3 wM3 G3 c1 c2 c3 hk hwd f1 f2 f3=>?_⟩
     ·have g3:=S3 _ _ g2
      refine⟨_,g3,by rw [l']; exact Nat.lt_trans hi (by decide),_,xs ++ [.non],rfl,((P'.trans P2).sub S3).set npc,upd_same,by rw [List.length_append,l']; rfl,fun x hx=>?_⟩
      rcases List.mem_append.1 hx with hx | hx
      ·exact (x' x hx).imp id fun z=>((z.stay P2.stay).stay (.sub S3)).upd g3
      ·exact .inl (List.mem_singleton.1 hx)
     ·have g3:=S3 _ _ g2
      refine⟨_,g3,by rw [l']; exact Nat.lt_trans hi (by decide),_,xs ++ [.ref q3],rfl,((P'.trans P2).sub S3).set npc,upd_same,by rw [List.length_append,l']; rfl,fun x hx=>?_⟩
      rcases List.mem_append.1 hx with hx | hx
      ·exact (x' x hx).imp id fun z=>((z.stay P2.stay).stay (.sub S3)).upd g3
      ·rw [List.mem_singleton.1 hx]
       exact .inr (PP.upd g3 ⟨q3,l3,r3,ms3,wd,L3,R3,Ms3,rfl,hq3,wL3,wR3,wM3,G3,c1,c2,c3,hk,hwd,fun z=>(by rw [z,g2] at f1; cases f1),fun z=>(by rw [z,g2] at f2; cases f2),fun z=>(by rw [z,g2] at f3; cases f3)⟩)
    rintro σ H' ⟨v,xs,rfl,P',g',l',x'⟩
    exact⟨pc,xs,rfl,P',g',l',x'⟩
   rintro σ H10 ⟨pc,xs,rfl,P10,g10,l10,x10⟩
   have lp6:=lp6.stay P10.stay
   have lp7:=lp7.stay P10.stay
   have hm10:=hm9.stay P10.stay
   have P10':=P9.trans P10
   refine⟨rfl,?_⟩
   rcases lp6 with ⟨rfl,d,hd,he⟩ | ⟨q6,l6,r6,ms6,wd6,L6,R6,Ms6,rfl,hq6,wL6,wR6,wM6,G6,c1,c2,c3,hk6,hwd6,E6,so1,so2,so3⟩
   ·walk_at "w"
    refine ifB.yes rfl ?_
    have hx:∀ x∈xs,x = .non:=fun x hx=>by
     rcases x10 x hx with z | ⟨q,l,r,ms,wd,L,R,Ms,_,_,_,_,_,_,z1,z2,z3,hk,_⟩
     ·exact z
     ·exact (no_end (clo_of z1 z2 z3 hk) hk hd he).elim
    match xs,l10 with
    | [x1,x2],_ =>
     obtain rfl:=hx x1 (by simp)
     obtain rfl:=hx x2 (by simp)
     refine⟨by show 2≤sizeLine; decide,?_⟩
     intro p11 n11
     generalize hU11:upd _ p11 _ = H11
     have S11:=(upd_sub n11 hU11).1
     have e11:=(upd_sub n11 hU11).2
     clear hU11
     refine⟨.lst [.non,.non],.lst [.non,.non],by rw [Den]; exact⟨_,_,rfl,S11 _ _ g10,⟨_,_,rfl,by rw [Den],⟨_,_,rfl,by rw [Den],rfl⟩⟩⟩,by rw [Den]; exact⟨_,_,rfl,e11,⟨_,_,rfl,by rw [Den],⟨_,_,rfl,by rw [Den],rfl⟩⟩⟩,by decide,?_⟩
     rw [eqD_refl]
     exact h _
   walk_at "w"
   refine ifB.no rfl ?_
   have C6:=clo_of c1 c2 c3 hk6
   have CW:=clo_wide M hn1 C6 (fun d hd=>(kept_iff.1 (hk6 d hd)).1)
   refine⟨rfl,?_⟩
   rcases lp7 with ⟨rfl,d,hd,he⟩ | ⟨q7,l7,r7,ms7,wd7,L7,R7,Ms7,rfl,hq7,wL7,wR7,wM7,G7,_,_,_,_,_,E7,_,_,_⟩
   ·have:=hd _ _ _ CW
    exact ((kept_iff.1 (hk6 _ this.c)).1 he).elim
   walk_at "w"
   refine ifB.no rfl ?_
   obtain⟨i1,i2,i3⟩:=E7 _ _ _ CW
   have fne:∀ {w:Wd},okW (sgn m) (wi + 1) w = true→w≠[]:=fun {w} hw z=>by
    have:=(okW_iff.1 hw).1
    rw [z] at this
    have:((0:Nat):Int) = wi + 1:=this
    omega
   have fL7:=words16 M.s2 M.s4 hW1 G7.okL G7.ndL
   have fR7:=words16 M.s2 M.s4 hW1 G7.okR G7.ndR
   have fM7:=middles16 M hW1 G7.okd G7.ndM
   refine⟨_,_,_,_,_,_,_,_,_,_,_,_,_,_,_,_,hq7,hq6,wL7,wR7,wM7,wL6,wR6,wM6,fun w hw=>⟨fne (i1 w hw).1,(i1 w hw).2⟩,fun w hw=>⟨fne (i2 w hw).1,(i2 w hw).2⟩,fun d hd=>⟨fne (okM_iff.1 (i3 d hd).ok).1,fne (okM_iff.1 (i3 d hd).ok).2.1,(i3 d hd).c⟩,by omega,by omega,by omega,fun H11 S11=>?_⟩
   walk_at "w"
   refine ifB.no rfl ?_
   clear hq7 wL7 wR7 wM7 G7 E7 i1 i2 i3 CW
   have T11:=S11
   refine⟨fun σ H'=>∃ ps ys,σ = [some (.ref b),some (.ref pp),some (.int (1 + d2)),some (.int (2 + d3)),some (.ref tm),some (.int wi),some (.ref q6),some (.ref q7),some (.ref pc),some (.ref ps),none,none]∧Sub H10 H'∧H' ps = some (.lst ys)∧∀ y∈ys,PP m wi H10 y (·≠pc),?_,?_⟩
   ·walk_at "w"
    refine⟨⟨_,SqL.of (S11 _ _ g10)⟩,?_⟩
    intro ps nps
    refine comp_list (K:=K) (a:=pc) (xs:=xs) (fun i σ H'=>∃ (v:Option V) (ys:List V),σ = [v]∧Sub H11 H'∧H' ps = some (.lst ys)∧ys.length≤i∧∀ y∈ys,PP m wi H10 y (·≠pc)) ?_ ?_ ?_ ?_
    ·exact⟨none,[],rfl,Sub.new nps,upd_same,Nat.le_refl _,by simp⟩
    ·rintro i σ H' _ ⟨v,ys,rfl,S',_⟩
     exact SqL.of (S' _ _ (S11 _ _ g10))
    ·rintro i x σ H' hi ⟨v,ys,rfl,S',g',l',y'⟩
     have hil:i < 2:=by have:=(List.getElem?_eq_some_iff.1 hi).1; omega
     refine⟨rfl,?_⟩
     rcases x10 x (List.mem_of_getElem? hi) with rfl | hP
     ·exact⟨_,ys,rfl,S',g',by omega,y'⟩
     ·have hP':=hP
      obtain⟨q,_,_,_,_,_,_,_,rfl,_⟩:=hP'
      exact⟨_,g',Nat.lt_of_le_of_lt (show ys.length≤2 by omega) (by decide),_,ys ++ [.ref q],rfl,S'.upd nps,upd_same,by rw [List.length_append]; exact Nat.succ_le_succ l',fun y hy=>(List.mem_append.1 hy).elim (y' y) fun z=>by rw [List.mem_singleton.1 z]; exact hP⟩
    rintro σ H' ⟨v,ys,rfl,S',g',l',y'⟩
    exact⟨ps,ys,rfl,S11.trans S',g',y'⟩
   rintro σ H12 ⟨ps,ys,rfl,S12,g12,y12⟩
   have hm12:=hm10.stay (.sub S12)
   have hq6:=S12 _ _ hq6
   have wL6:=wL6.sub S12
   have wR6:=wR6.sub S12
   have wM6:=wM6.sub S12
   have P12:=P10'.sub S12
   have y12:∀ y∈ys,PP m wi H12 y (·≠pc):=fun y hy=>(y12 y hy).stay (.sub S12)
   obtain⟨xs6,A6,K6,hx6,hA6,k60,k61,k62⟩:=pap_three hq6 wL6 wR6 wM6
   refine⟨⟨_,SqL.of g12⟩,?_⟩
   refine for_list (K:=K) (a:=ps) (xs:=ys) (fun i σ H'=>∃ v10,σ = [some (.ref b),some (.ref pp),some (.int (1 + d2)),some (.int (2 + d3)),some (.ref tm),some (.int wi),some (.ref q6),some (.ref q7),some (.ref pc),some (.ref ps),v10,none]∧Sub H12 H') ?_ ?_ ?_ ?_
   ·exact⟨_,rfl,Sub.refl⟩
   ·rintro i σ H' _ ⟨v10,rfl,S'⟩
    exact SqL.of (S' _ _ g12)
   ·rintro i x σ H' hi ⟨v10,rfl,S'⟩
    obtain⟨q,l,r,ms,wd,L,R,Ms,rfl,hq,wL,wR,wM,G,b1,b2,b3,hk,hwd,_⟩:=y12 x (List.mem_of_getElem? hi)
    obtain⟨y0,hy0⟩:∃ y0,ys[0]? = some y0:=⟨_,List.getElem?_eq_getElem (Nat.lt_of_le_of_lt (Nat.zero_le _) (List.getElem?_eq_some_iff.1 hi).1)⟩
    obtain⟨q0,l0,r0,ms0,wd0,La,Ra,Mb,rfl,hq0,wL0,wR0,wM0,G0,a1,a2,a3,hk0,hwd0,_⟩:=y12 y0 (List.mem_of_getElem? hy0)
    have fL:=words16 M.s2 M.s4 hW G.okL G.ndL
    have fR:=words16 M.s2 M.s4 hW G.okR G.ndR
    have fM:=middles16 M hW G.okd G.ndM
    refine⟨m,wi,_,_,_,hm12.stay (.sub S'),hM,(pas_of M hW G hwd hq wL wR wM).sub S',fun H1 S1=>?_⟩
    rw [shut_of hW G b1 b2 b3 hk]
    have T1:=S'.trans S1
    walk_at "w"
    refine ifB.no rfl ?_
    refine⟨_,_,SqL.of (T1 _ _ g12),atI_nat (j:=0) hy0,?_⟩
    refine⟨_,_,_,_,_,_,_,_,_,_,L,R,La,Ra,Ms,Mb,T1 _ _ hq,T1 _ _ hq0,wL.sub T1,wR.sub T1,wM.sub T1,wL0.sub T1,wR0.sub T1,wM0.sub T1,by omega,by omega,by omega,fun q3 l3 r3 ms3 H2 S2 hq3 wL3 wR3 wM3=>?_⟩
    have GS:=gi_shared G b1 b2 b3 a1 a2 a3
    have T2:=T1.trans S2
    refine⟨m,wi,_,_,_,hm12.stay (.sub T2),hM,pas_of M hW GS hwd hq3 wL3 wR3 wM3,fun H3 S3=>?_⟩
    rw [shut_of hW GS (fil_mem.2 ⟨b1,a1⟩) (fil_mem.2 ⟨b2,a2⟩) (fil_mem.2 ⟨b3,a3⟩) (kept_shared hk hk0)]
    have T3:=T2.trans S3
    walk_at "w"
    refine ifB.no rfl ?_
    obtain⟨xs9,A9,K9,hx9,hA9,k90,k91,k92⟩:=pap_three hq wL wR wM
    obtain⟨i1,i2,i3⟩:=E6 _ _ _ (clo_of b1 b2 b3 hk)
    have hin:∀ j,j < 3→∀ k,k∈K6 j→k∈K9 j:=by
     refine three ?_ ?_ ?_
     ·rw [k60,k90]; intro k hk'; obtain⟨w,hw,rfl⟩:=List.mem_map.1 hk'; exact List.mem_map.2 ⟨w,i1 w hw,rfl⟩
     ·rw [k61,k91]; intro k hk'; obtain⟨w,hw,rfl⟩:=List.mem_map.1 hk'; exact List.mem_map.2 ⟨w,i2 w hw,rfl⟩
     ·rw [k62,k92]; intro k hk'; obtain⟨w,hw,rfl⟩:=List.mem_map.1 hk'; exact List.mem_map.2 ⟨w,i3 w hw,rfl⟩
    refine⟨⟨by decide,by decide⟩,?_⟩
    intro pz npz
    refine comp_range (lo:=2) (n:=3) (fun j σ H4=>∃ (v:Option V),σ = [v,some (.ref q6),some (.ref q)]∧Sub H3 H4∧H4 pz = some (.lst [])) ?_ ?_ ?_
    ·exact⟨none,rfl,Sub.new npz,upd_same⟩
    ·rintro j σ H4 hj ⟨v,rfl,S4,g4⟩
     have T4:=T3.trans S4
     obtain⟨at6,nl6⟩:=hA6 j hj
     obtain⟨at9,nl9⟩:=hA9 j hj
     refine⟨_,_,SqT.of (T4 _ _ hx6),at6,?_⟩
     refine⟨_,_,SqT.of (T4 _ _ hx9),at9,?_⟩
     refine⟨_,_,nl6.sub T4,nl9.sub T4,hin j hj,fun H5 S5=>?_⟩
     exact⟨_,rfl,S4.trans S5,S5 _ _ g4⟩
    rintro σ H4 ⟨v,rfl,S4,g4⟩
    refine⟨_,.inl (SqL.of g4),?_⟩
    walk_at "w"
    refine ifB.no rfl ?_
    exact⟨_,rfl,T3.trans S4⟩
   rintro σ H13 ⟨v10,rfl,S13⟩
   have hm13:=hm12.stay (.sub S13)
   have P13:=P12.sub S13
   obtain⟨n13,e13⟩:=P13.has
   have hq6:=S13 _ _ hq6
   have wL6:=wL6.sub S13
   have wR6:=wR6.sub S13
   have wM6:=wM6.sub S13
   clear hx6 hA6 y12 x10 g10 g12
   obtain⟨pl,hpl⟩:∃ pl:List (Int × Int),pl = Ms6.map fun d=>(d.2.1,d.2.2.1):=⟨_,rfl⟩
   have hpm:∀ d∈Ms6,(d.2.1,d.2.2.1)∈pl:=fun d hd=>by rw [hpl]; exact List.mem_map.2 ⟨d,hd,rfl⟩
   have hp0:∀ x∈pl,0≤x.1∧0≤x.2:=fun x hx=>by
    rw [hpl] at hx
    obtain⟨d,hd,rfl⟩:=List.mem_map.1 hx
    obtain⟨_,_,z1,z2⟩:=okM_iff.1 (G6.okd d hd)
    exact⟨z1.1,z2.1⟩
   have fM6:=middles16 M hW G6.okd G6.ndM
   refine⟨fun σ H'=>∃ (po:Addr) (m':Ma),σ = [some (.ref b),some (.ref pp),some (.int (1 + d2)),some (.int (2 + d3)),some (.ref tm),some (.int wi),some (.ref q6),some (.ref q7),some (.ref pc),some (.ref ps),v10,some (.ref po)]∧Pu pp k H13 H'∧Mach H' po m'∧Oth m m' (fun r s=>(r,s)∈pl),?_,?_⟩
   ·walk_at "w"
    refine⟨_,_,SqT.of hq6,atI_nat (j:=4) rfl,?_⟩
    obtain⟨asM,hmw,AM⟩:=id wM6
    refine⟨⟨_,SqL.of hmw⟩,?_⟩
    intro pa npa
    refine comp_list (K:=K) (a:=ms6) (xs:=asM.map V.ref) (fun i σ H'=>∃ (v:Option V) (as':List Addr),σ = [v]∧Sub H13 H'∧H' pa = some (.lst (as'.map V.ref))∧as'.length = i∧DenNs H' (((Ms6.take i).map fun d=>(d.2.1,d.2.2.1)).map kP) (as'.map V.ref)) ?_ ?_ ?_ ?_
    ·exact⟨none,[],rfl,Sub.new npa,upd_same,rfl,by show DenNs _ [] []; rw [DenNs]⟩
    ·rintro i σ H' _ ⟨v,as',rfl,S',_⟩
     exact SqL.of (S' _ _ hmw)
    ·rintro i x σ H' hi ⟨v,as',rfl,S',g',l',D'⟩
     have hil:i < asM.length:=by have:=(List.getElem?_eq_some_iff.1 hi).1; rwa [List.length_map] at this
     rw [List.getElem?_map] at hi
     obtain⟨b',hb',rfl⟩:=Option.map_eq_some_iff.1 hi
     obtain⟨d,hd,ll,rr,hb0,hll,hrr⟩:=AM.at hb'
     refine⟨_,SqT.of (S' _ _ hb0),by show ¬(HT.sIx 4 0 (some 1) = 0∧HT.sIx 4 4 (some 3) = 4); decide,?_⟩
     rw [show cutV [V.ref ll,.int d.2.1,.int d.2.2.1,.ref rr] (some 1) (some 3) = [.int d.2.1,.int d.2.2.1] from rfl]
     intro pz nz
     generalize hUz:upd _ pz _ = Hz
     have Sz:=(upd_sub nz hUz).1
     have ez:=(upd_sub nz hUz).2
     clear hUz
     have gz:=Sz _ _ g'
     have kt:∀ a us,Hz a = some (.tup us)→(upd Hz pa (.lst (as'.map V.ref ++ [V.ref pz]))) a = some (.tup us):=fun a us e=>by
      rw [upd_ne (by rintro rfl; rw [gz] at e; cases e)]; exact e
     have dp:∀ ls:List (Int × Int),NK.depL (ls.map kP)≤7:=fun ls=>depL_ok fun k hk=>by
      obtain⟨x,_,rfl⟩:=List.mem_map.1 hk
      unfold kP; simp only [NK.dep,NK.depL]; omega
     refine⟨_,gz,by rw [List.length_map,l']; have:=AM.1; exact Nat.lt_of_lt_of_le (show i < 5000 by omega) (by decide),_,as' ++ [pz],rfl,(S'.trans Sz).upd npa,by rw [upd_same,List.map_append]; rfl,by rw [List.length_append,l']; rfl,?_⟩
     rw [List.take_add_one,hd,List.map_append,List.map_append,List.map_append]
     refine denNs_snoc (denNs_tup kt (denNs_sub Sz D' (dp _)) (dp _)) ?_
     show DenN _ (kP (d.2.1,d.2.2.1)) (V.ref pz)
     unfold kP
     rw [DenN]
     exact⟨_,_,rfl,kt _ _ ez,⟨_,_,rfl,by rw [DenN],⟨_,_,rfl,by rw [DenN],rfl⟩⟩⟩
    rintro σ H' ⟨v,as',rfl,S',g',l',D'⟩
    rw [List.length_map,AM.1,List.take_length,← hpl] at D'
    refine⟨_,k,m,pl,S' _ _ e13,hm13.stay (.sub S'),hM,⟨as',g',D',depL_ok fun k hk=>?_⟩,hp0,fun po m' H2 P2 _ hmo O=>?_⟩
    ·obtain⟨x,_,rfl⟩:=List.mem_map.1 hk
     unfold kP; simp only [NK.dep,NK.depL]; omega
    ·exact⟨po,m',rfl,((Pu.refl ⟨_,e13⟩).sub S').trans P2,hmo,O⟩
   rintro σ H14 ⟨po,m',rfl,P14,hmo,O⟩
   have O1:isM m' = true:=O.1
   have sgO:sgn m' = sgn m:=O.2.2.1
   have hWo:isWid (sgn m') wi = true:=by rw [sgO]; exact hW
   have hq6:=P14.stay.tup _ _ hq6
   have wL6:=wL6.stay P14.stay
   have wR6:=wR6.stay P14.stay
   have wM6:=wM6.stay P14.stay
   have hko:=oth_kept hpm O hk6
   have Eo:=oth_lea hpm O C6 E6
   have Go:=oth_gi O G6
   have Co:=clo_of (m:=m') (n:=wi) c1 c2 c3 hko
   refine⟨m',hmo,O1,fun z=>(by rw [hWo] at z; cases z),fun _=>⟨fun H15 S15 hR=>?_,fun q l r ms wd L R Ms H15 S15 hq wL wR wM G b1 b2 b3 hk hwd E to1 to2 to3 _ _ _=>?_⟩⟩
   ·obtain⟨d,hd,he⟩:=hR
    exact (no_end Co hko hd he).elim
   obtain⟨x1,x2,x3⟩:=lea_one Co (clo_of b1 b2 b3 hk) Eo E
   obtain rfl:=srt_as (fun _ _=>wK_inj) so1 to1 x1
   obtain rfl:=srt_as (fun _ _=>wK_inj) so2 to2 x2
   obtain rfl:=srt_as (fun _ _=>mK_inj) so3 to3 x3
   obtain rfl:wd = wd6:=hwd.trans hwd6.symm
   refine⟨_,_,dPa_den hq wL wR wM,dPa_den (S15 _ _ hq6) (wL6.sub S15) (wR6.sub S15) (wM6.sub S15),dPa_dep _ _ _ _ _,?_⟩
   rw [eqD_refl]
   walk_at "w"
   refine ifB.yes rfl ?_
   refine⟨m',wi,_,_,_,hmo.stay (.sub S15),O1,(pas_of (OkM.of O1) hWo Go hwd6 hq6 wL6 wR6 wM6).sub S15,fun H16 S16=>?_⟩
   rw [shut_of hWo Go c1 c2 c3 hko]
   exact h _
  ·exact h.elim
end
theorem all_mk {l:PySem.W.OpenLaw} {w:World} {K:PySem.W.Frag} {h:Heap} {mg:Str→Option Value} {fa:Addr} {tk_MOST_ROWS tk_LEAST_SIGNS tk_MOST_SIGNS:Tok} {h0_MOST_WIDTHS:Int} {tk0_MOST_WIDTHS tv0_MOST_WIDTHS:Tok} {h1_MOST_WIDTHS:Int} {tk1_MOST_WIDTHS tv1_MOST_WIDTHS:Tok} {h2_MOST_WIDTHS:Int} {tk2_MOST_WIDTHS tv2_MOST_WIDTHS:Tok} {ep_MOST_WIDTHS:Nat} {xZ0 xZ1 xZ2 xZ3 xZ4 xZ5 xZ6 xZ7 xZ8 xZ9 xZ10 xZ11 xZ12 xZ13 xZ14 xZ15 xZ16 xZ17 xZ18 xZ19 xZ20 xZ21 xZ22 xZ23 xZ24 x_MillError x_NoMachine x_NoWidth x_MOST_WIDTHS:Addr} (X:K.In h) (G:h.Ns mainGlobals mg) (hfa:mg "law" = some (.ref fa))
  {odZ0 anZ0 odZ1 anZ1 odZ2 anZ2 odZ3 anZ3 odZ4 anZ4 odZ5 anZ5 odZ6 anZ6 odZ7 anZ7 odZ8 anZ8 odZ9 anZ9 odZ10 anZ10 odZ11 anZ11 odZ12 anZ12 odZ13 anZ13 odZ14 anZ14 odZ15 anZ15 odZ16 anZ16 odZ17 anZ17 odZ18 anZ18 odZ19 anZ19 odZ20 anZ20 odZ21 anZ21 odZ22 anZ22 odZ23 anZ23 odZ24 anZ24:Option Addr} {slZ0 slZ1 slZ2 slZ3 slZ4 slZ5 slZ6 slZ7 slZ8 slZ9 slZ10 slZ11 slZ12 slZ13 slZ14 slZ15 slZ16 slZ17 slZ18 slZ19 slZ20 slZ21 slZ22 slZ23 slZ24:Array (Option Value)} {ocZ0 kVZ0 dcZ0 pmZ0 cdZ0 ctZ0 ocZ1 kVZ1 dcZ1 pmZ1 cdZ1 ctZ1 ocZ2 kVZ2 dcZ2 pmZ2 cdZ2 ctZ2 ocZ3 kVZ3 dcZ3 pmZ3 cdZ3 ctZ3 ocZ4 kVZ4 dcZ4 pmZ4 cdZ4 ctZ4 ocZ5 kVZ5 dcZ5 pmZ5 cdZ5 ctZ5 ocZ6 kVZ6 dcZ6 pmZ6 cdZ6 ctZ6 ocZ7 kVZ7 dcZ7 pmZ7 cdZ7 ctZ7 ocZ8 kVZ8 dcZ8 pmZ8 cdZ8 ctZ8 ocZ9 kVZ9 dcZ9 pmZ9 cdZ9 ctZ9 ocZ10 kVZ10 dcZ10 pmZ10 cdZ10 ctZ10 ocZ11 kVZ11 dcZ11 pmZ11 cdZ11 ctZ11 ocZ12 kVZ12 dcZ12 pmZ12 cdZ12 ctZ12 ocZ13 kVZ13 dcZ13 pmZ13 cdZ13 ctZ13 ocZ14 kVZ14 dcZ14 pmZ14 cdZ14 ctZ14 ocZ15 kVZ15 dcZ15 pmZ15 cdZ15 ctZ15 ocZ16 kVZ16 dcZ16 pmZ16 cdZ16 ctZ16 ocZ17 kVZ17 dcZ17 pmZ17 cdZ17 ctZ17 ocZ18 kVZ18 dcZ18 pmZ18 cdZ18 ctZ18 ocZ19 kVZ19 dcZ19 pmZ19 cdZ19 ctZ19 ocZ20 kVZ20 dcZ20 pmZ20 cdZ20 ctZ20 ocZ21 kVZ21 dcZ21 pmZ21 cdZ21 ctZ21 ocZ22 kVZ22 dcZ22 pmZ22 cdZ22 ctZ22 ocZ23 kVZ23 dcZ23 pmZ23 cdZ23 ctZ23 ocZ24 kVZ24 dcZ24 pmZ24 cdZ24 ctZ24:Value}
  {cx_MillError cx_NoMachine cx_NoWidth:ClassData}
  (aZ0:PySem.W.nsIn K mainGlobals "_law_mixed" = some (some (.ref xZ0)))
  (lZ0:K.lookup xZ0 = some ⟨ocZ0,odZ0,.func (PySem.W.fnOf "_law_mixed" "_law_mixed" (defArgs s_l_mixed) (defBody s_l_mixed) (defScope s_l_mixed) .none kVZ0 dcZ0 pmZ0 anZ0 cdZ0 ctZ0),slZ0⟩)
  (cZ0:PySem.W.codeIn K cdZ0 "_law_mixed" = true)
  (kZ0:PySem.W.keepIn K (.ref xZ0) = true)
  (aZ1:PySem.W.nsIn K mainGlobals "_law_draw" = some (some (.ref xZ1)))
  (lZ1:K.lookup xZ1 = some ⟨ocZ1,odZ1,.func (PySem.W.fnOf "_law_draw" "_law_draw" (defArgs s_l_draw) (defBody s_l_draw) (defScope s_l_draw) .none kVZ1 dcZ1 pmZ1 anZ1 cdZ1 ctZ1),slZ1⟩)
  (cZ1:PySem.W.codeIn K cdZ1 "_law_draw" = true)
  (kZ1:PySem.W.keepIn K (.ref xZ1) = true)
  (aZ2:PySem.W.nsIn K mainGlobals "_law_purse" = some (some (.ref xZ2)))
  (lZ2:K.lookup xZ2 = some ⟨ocZ2,odZ2,.func (PySem.W.fnOf "_law_purse" "_law_purse" (defArgs s_l_purse) (defBody s_l_purse) (defScope s_l_purse) .none kVZ2 dcZ2 pmZ2 anZ2 cdZ2 ctZ2),slZ2⟩)
  (cZ2:PySem.W.codeIn K cdZ2 "_law_purse" = true)
  (kZ2:PySem.W.keepIn K (.ref xZ2) = true)
  (aZ3:PySem.W.nsIn K mainGlobals "is_entry" = some (some (.ref xZ3)))
  (lZ3:K.lookup xZ3 = some ⟨ocZ3,odZ3,.func (PySem.W.fnOf "is_entry" "is_entry" (defArgs s_is_entry) (defBody s_is_entry) (defScope s_is_entry) .none kVZ3 dcZ3 pmZ3 anZ3 cdZ3 ctZ3),slZ3⟩)
  (cZ3:PySem.W.codeIn K cdZ3 "is_entry" = true)
  (kZ3:PySem.W.keepIn K (.ref xZ3) = true)
  (aZ4:PySem.W.nsIn K mainGlobals "is_row" = some (some (.ref xZ4)))
  (lZ4:K.lookup xZ4 = some ⟨ocZ4,odZ4,.func (PySem.W.fnOf "is_row" "is_row" (defArgs s_is_row) (defBody s_is_row) (defScope s_is_row) .none kVZ4 dcZ4 pmZ4 anZ4 cdZ4 ctZ4),slZ4⟩)
  (cZ4:PySem.W.codeIn K cdZ4 "is_row" = true)
  (kZ4:PySem.W.keepIn K (.ref xZ4) = true)
  (aZ5:PySem.W.nsIn K mainGlobals "is_machine" = some (some (.ref xZ5)))
  (lZ5:K.lookup xZ5 = some ⟨ocZ5,odZ5,.func (PySem.W.fnOf "is_machine" "is_machine" (defArgs s_is_machine) (defBody s_is_machine) (defScope s_is_machine) .none kVZ5 dcZ5 pmZ5 anZ5 cdZ5 ctZ5),slZ5⟩)
  (cZ5:PySem.W.codeIn K cdZ5 "is_machine" = true)
  (kZ5:PySem.W.keepIn K (.ref xZ5) = true)
  (aZ6:PySem.W.nsIn K mainGlobals "must_machine" = some (some (.ref xZ6)))
  (lZ6:K.lookup xZ6 = some ⟨ocZ6,odZ6,.func (PySem.W.fnOf "must_machine" "must_machine" (defArgs s_must_machine) (defBody s_must_machine) (defScope s_must_machine) .none kVZ6 dcZ6 pmZ6 anZ6 cdZ6 ctZ6),slZ6⟩)
  (cZ6:PySem.W.codeIn K cdZ6 "must_machine" = true)
  (kZ6:PySem.W.keepIn K (.ref xZ6) = true)
  (aZ7:PySem.W.nsIn K mainGlobals "is_width" = some (some (.ref xZ7)))
  (lZ7:K.lookup xZ7 = some ⟨ocZ7,odZ7,.func (PySem.W.fnOf "is_width" "is_width" (defArgs s_is_width) (defBody s_is_width) (defScope s_is_width) .none kVZ7 dcZ7 pmZ7 anZ7 cdZ7 ctZ7),slZ7⟩)
  (cZ7:PySem.W.codeIn K cdZ7 "is_width" = true)
  (kZ7:PySem.W.keepIn K (.ref xZ7) = true)
  (aZ8:PySem.W.nsIn K mainGlobals "is_word" = some (some (.ref xZ8)))
  (lZ8:K.lookup xZ8 = some ⟨ocZ8,odZ8,.func (PySem.W.fnOf "is_word" "is_word" (defArgs s_is_word) (defBody s_is_word) (defScope s_is_word) .none kVZ8 dcZ8 pmZ8 anZ8 cdZ8 ctZ8),slZ8⟩)
  (cZ8:PySem.W.codeIn K cdZ8 "is_word" = true)
  (kZ8:PySem.W.keepIn K (.ref xZ8) = true)
  (aZ9:PySem.W.nsIn K mainGlobals "is_middle" = some (some (.ref xZ9)))
  (lZ9:K.lookup xZ9 = some ⟨ocZ9,odZ9,.func (PySem.W.fnOf "is_middle" "is_middle" (defArgs s_is_middle) (defBody s_is_middle) (defScope s_is_middle) .none kVZ9 dcZ9 pmZ9 anZ9 cdZ9 ctZ9),slZ9⟩)
  (cZ9:PySem.W.codeIn K cdZ9 "is_middle" = true)
  (kZ9:PySem.W.keepIn K (.ref xZ9) = true)
  (aZ10:PySem.W.nsIn K mainGlobals "ends_at" = some (some (.ref xZ10)))
  (lZ10:K.lookup xZ10 = some ⟨ocZ10,odZ10,.func (PySem.W.fnOf "ends_at" "ends_at" (defArgs s_ends_at) (defBody s_ends_at) (defScope s_ends_at) .none kVZ10 dcZ10 pmZ10 anZ10 cdZ10 ctZ10),slZ10⟩)
  (cZ10:PySem.W.codeIn K cdZ10 "ends_at" = true)
  (kZ10:PySem.W.keepIn K (.ref xZ10) = true)
  (aZ11:PySem.W.nsIn K mainGlobals "asked" = some (some (.ref xZ11)))
  (lZ11:K.lookup xZ11 = some ⟨ocZ11,odZ11,.func (PySem.W.fnOf "asked" "asked" (defArgs s_asked) (defBody s_asked) (defScope s_asked) .none kVZ11 dcZ11 pmZ11 anZ11 cdZ11 ctZ11),slZ11⟩)
  (cZ11:PySem.W.codeIn K cdZ11 "asked" = true)
  (kZ11:PySem.W.keepIn K (.ref xZ11) = true)
  (aZ12:PySem.W.nsIn K mainGlobals "is_kept" = some (some (.ref xZ12)))
  (lZ12:K.lookup xZ12 = some ⟨ocZ12,odZ12,.func (PySem.W.fnOf "is_kept" "is_kept" (defArgs s_is_kept) (defBody s_is_kept) (defScope s_is_kept) .none kVZ12 dcZ12 pmZ12 anZ12 cdZ12 ctZ12),slZ12⟩)
  (cZ12:PySem.W.codeIn K cdZ12 "is_kept" = true)
  (kZ12:PySem.W.keepIn K (.ref xZ12) = true)
  (aZ13:PySem.W.nsIn K mainGlobals "shows_shut" = some (some (.ref xZ13)))
  (lZ13:K.lookup xZ13 = some ⟨ocZ13,odZ13,.func (PySem.W.fnOf "shows_shut" "shows_shut" (defArgs s_shows_shut) (defBody s_shows_shut) (defScope s_shows_shut) .none kVZ13 dcZ13 pmZ13 anZ13 cdZ13 ctZ13),slZ13⟩)
  (cZ13:PySem.W.codeIn K cdZ13 "shows_shut" = true)
  (kZ13:PySem.W.keepIn K (.ref xZ13) = true)
  (aZ14:PySem.W.nsIn K mainGlobals "least_shut" = some (some (.ref xZ14)))
  (lZ14:K.lookup xZ14 = some ⟨ocZ14,odZ14,.func (PySem.W.fnOf "least_shut" "least_shut" (defArgs s_least_shut) (defBody s_least_shut) (defScope s_least_shut) .none kVZ14 dcZ14 pmZ14 anZ14 cdZ14 ctZ14),slZ14⟩)
  (cZ14:PySem.W.codeIn K cdZ14 "least_shut" = true)
  (kZ14:PySem.W.keepIn K (.ref xZ14) = true)
  (aZ15:PySem.W.nsIn K mainGlobals "_law_machine" = some (some (.ref xZ15)))
  (lZ15:K.lookup xZ15 = some ⟨ocZ15,odZ15,.func (PySem.W.fnOf "_law_machine" "_law_machine" (defArgs s_l_machine) (defBody s_l_machine) (defScope s_l_machine) .none kVZ15 dcZ15 pmZ15 anZ15 cdZ15 ctZ15),slZ15⟩)
  (cZ15:PySem.W.codeIn K cdZ15 "_law_machine" = true)
  (kZ15:PySem.W.keepIn K (.ref xZ15) = true)
  (aZ16:PySem.W.nsIn K mainGlobals "_law_asked_by" = some (some (.ref xZ16)))
  (lZ16:K.lookup xZ16 = some ⟨ocZ16,odZ16,.func (PySem.W.fnOf "_law_asked_by" "_law_asked_by" (defArgs s_l_asked_by) (defBody s_l_asked_by) (defScope s_l_asked_by) .none kVZ16 dcZ16 pmZ16 anZ16 cdZ16 ctZ16),slZ16⟩)
  (cZ16:PySem.W.codeIn K cdZ16 "_law_asked_by" = true)
  (kZ16:PySem.W.keepIn K (.ref xZ16) = true)
  (aZ17:PySem.W.nsIn K mainGlobals "_law_in" = some (some (.ref xZ17)))
  (lZ17:K.lookup xZ17 = some ⟨ocZ17,odZ17,.func (PySem.W.fnOf "_law_in" "_law_in" (defArgs s_l_in) (defBody s_l_in) (defScope s_l_in) .none kVZ17 dcZ17 pmZ17 anZ17 cdZ17 ctZ17),slZ17⟩)
  (cZ17:PySem.W.codeIn K cdZ17 "_law_in" = true)
  (kZ17:PySem.W.keepIn K (.ref xZ17) = true)
  (aZ18:PySem.W.nsIn K mainGlobals "_law_within" = some (some (.ref xZ18)))
  (lZ18:K.lookup xZ18 = some ⟨ocZ18,odZ18,.func (PySem.W.fnOf "_law_within" "_law_within" (defArgs s_l_within) (defBody s_l_within) (defScope s_l_within) .none kVZ18 dcZ18 pmZ18 anZ18 cdZ18 ctZ18),slZ18⟩)
  (cZ18:PySem.W.codeIn K cdZ18 "_law_within" = true)
  (kZ18:PySem.W.keepIn K (.ref xZ18) = true)
  (aZ19:PySem.W.nsIn K mainGlobals "_law_shared" = some (some (.ref xZ19)))
  (lZ19:K.lookup xZ19 = some ⟨ocZ19,odZ19,.func (PySem.W.fnOf "_law_shared" "_law_shared" (defArgs s_l_shared) (defBody s_l_shared) (defScope s_l_shared) .none kVZ19 dcZ19 pmZ19 anZ19 cdZ19 ctZ19),slZ19⟩)
  (cZ19:PySem.W.codeIn K cdZ19 "_law_shared" = true)
  (kZ19:PySem.W.keepIn K (.ref xZ19) = true)
  (aZ20:PySem.W.nsIn K mainGlobals "_law_word" = some (some (.ref xZ20)))
  (lZ20:K.lookup xZ20 = some ⟨ocZ20,odZ20,.func (PySem.W.fnOf "_law_word" "_law_word" (defArgs s_l_word) (defBody s_l_word) (defScope s_l_word) .none kVZ20 dcZ20 pmZ20 anZ20 cdZ20 ctZ20),slZ20⟩)
  (cZ20:PySem.W.codeIn K cdZ20 "_law_word" = true)
  (kZ20:PySem.W.keepIn K (.ref xZ20) = true)
  (aZ21:PySem.W.nsIn K mainGlobals "_law_begun" = some (some (.ref xZ21)))
  (lZ21:K.lookup xZ21 = some ⟨ocZ21,odZ21,.func (PySem.W.fnOf "_law_begun" "_law_begun" (defArgs s_l_begun) (defBody s_l_begun) (defScope s_l_begun) .none kVZ21 dcZ21 pmZ21 anZ21 cdZ21 ctZ21),slZ21⟩)
  (cZ21:PySem.W.codeIn K cdZ21 "_law_begun" = true)
  (kZ21:PySem.W.keepIn K (.ref xZ21) = true)
  (aZ22:PySem.W.nsIn K mainGlobals "_law_closed" = some (some (.ref xZ22)))
  (lZ22:K.lookup xZ22 = some ⟨ocZ22,odZ22,.func (PySem.W.fnOf "_law_closed" "_law_closed" (defArgs s_l_closed) (defBody s_l_closed) (defScope s_l_closed) .none kVZ22 dcZ22 pmZ22 anZ22 cdZ22 ctZ22),slZ22⟩)
  (cZ22:PySem.W.codeIn K cdZ22 "_law_closed" = true)
  (kZ22:PySem.W.keepIn K (.ref xZ22) = true)
  (aZ23:PySem.W.nsIn K mainGlobals "_law_other" = some (some (.ref xZ23)))
  (lZ23:K.lookup xZ23 = some ⟨ocZ23,odZ23,.func (PySem.W.fnOf "_law_other" "_law_other" (defArgs s_l_other) (defBody s_l_other) (defScope s_l_other) .none kVZ23 dcZ23 pmZ23 anZ23 cdZ23 ctZ23),slZ23⟩)
  (cZ23:PySem.W.codeIn K cdZ23 "_law_other" = true)
  (kZ23:PySem.W.keepIn K (.ref xZ23) = true)
  (aZ24:PySem.W.nsIn K mainGlobals "law" = some (some (.ref xZ24)))
  (lZ24:K.lookup xZ24 = some ⟨ocZ24,odZ24,.func (PySem.W.fnOf "law" "law" (defArgs s_law) (defBody s_law) (defScope s_law) .none kVZ24 dcZ24 pmZ24 anZ24 cdZ24 ctZ24),slZ24⟩)
  (cZ24:PySem.W.codeIn K cdZ24 "law" = true)
  (kZ24:PySem.W.keepIn K (.ref xZ24) = true)
  (gt:PySem.W.specialIn K (.builtin "object.__class__") "__get__" = some (some (.builtin "getset_descriptor.__get__")))
  (tk:PySem.W.takesIn K (.builtin "object.__class__") = some true)
  (a_MillError:PySem.W.nsIn K mainGlobals "MillError" = some (some (.ref x_MillError)))
  (i_MillError:PySem.W.excIn K x_MillError veMro "ValueError.__new__" = true)
  (k_MillError:PySem.W.keepIn K (.ref x_MillError) = true)
  (ga_MillError:PySem.W.findIn K (.ref x_MillError) "__getattribute__" = some (some (.builtin "BaseException.__getattribute__")))
  (na_MillError:PySem.W.findIn K (.ref x_MillError) "__getattr__" = some none)
  (cl_MillError:PySem.W.findIn K (.ref x_MillError) "__class__" = some (some (.builtin "object.__class__")))
  (mo_MillError:PySem.W.mroIn K x_MillError (.type "object") = some true)
  (mb_MillError:PySem.W.mroIn K x_MillError (.type "BaseException") = some true)
  (ci_MillError:PySem.W.clsIn K x_MillError = some cx_MillError)
  (mr_MillError:cx_MillError.mro = [.ref x_MillError] ++ veMro)
  (ty_MillError:PySem.W.typeIn K (.ref x_MillError) = some (.type "type"))
  (a_NoMachine:PySem.W.nsIn K mainGlobals "NoMachine" = some (some (.ref x_NoMachine)))
  (i_NoMachine:PySem.W.excIn K x_NoMachine veMro "ValueError.__new__" = true)
  (k_NoMachine:PySem.W.keepIn K (.ref x_NoMachine) = true)
  (ga_NoMachine:PySem.W.findIn K (.ref x_NoMachine) "__getattribute__" = some (some (.builtin "BaseException.__getattribute__")))
  (na_NoMachine:PySem.W.findIn K (.ref x_NoMachine) "__getattr__" = some none)
  (cl_NoMachine:PySem.W.findIn K (.ref x_NoMachine) "__class__" = some (some (.builtin "object.__class__")))
  (mo_NoMachine:PySem.W.mroIn K x_NoMachine (.type "object") = some true)
  (mb_NoMachine:PySem.W.mroIn K x_NoMachine (.type "BaseException") = some true)
  (ci_NoMachine:PySem.W.clsIn K x_NoMachine = some cx_NoMachine)
  (mr_NoMachine:cx_NoMachine.mro = [.ref x_NoMachine,.ref x_MillError] ++ veMro)
  (ty_NoMachine:PySem.W.typeIn K (.ref x_NoMachine) = some (.type "type"))
  (a_NoWidth:PySem.W.nsIn K mainGlobals "NoWidth" = some (some (.ref x_NoWidth)))
  (i_NoWidth:PySem.W.excIn K x_NoWidth veMro "ValueError.__new__" = true)
  (k_NoWidth:PySem.W.keepIn K (.ref x_NoWidth) = true)
  (ga_NoWidth:PySem.W.findIn K (.ref x_NoWidth) "__getattribute__" = some (some (.builtin "BaseException.__getattribute__")))
  (na_NoWidth:PySem.W.findIn K (.ref x_NoWidth) "__getattr__" = some none)
  (cl_NoWidth:PySem.W.findIn K (.ref x_NoWidth) "__class__" = some (some (.builtin "object.__class__")))
  (mo_NoWidth:PySem.W.mroIn K x_NoWidth (.type "object") = some true)
  (mb_NoWidth:PySem.W.mroIn K x_NoWidth (.type "BaseException") = some true)
  (ci_NoWidth:PySem.W.clsIn K x_NoWidth = some cx_NoWidth)
  (mr_NoWidth:cx_NoWidth.mro = [.ref x_NoWidth,.ref x_MillError] ++ veMro)
  (ty_NoWidth:PySem.W.typeIn K (.ref x_NoWidth) = some (.type "type"))
  (a_MOST_WIDTHS:PySem.W.nsIn K mainGlobals "MOST_WIDTHS" = some (some (.ref x_MOST_WIDTHS)))
  (l_MOST_WIDTHS:K.lookup x_MOST_WIDTHS = some ⟨.type "dict",none,.dict #[⟨h0_MOST_WIDTHS,.int (2) tk0_MOST_WIDTHS,.int (4) tv0_MOST_WIDTHS⟩,⟨h1_MOST_WIDTHS,.int (3) tk1_MOST_WIDTHS,.int (2) tv1_MOST_WIDTHS⟩,⟨h2_MOST_WIDTHS,.int (4) tk2_MOST_WIDTHS,.int (2) tv2_MOST_WIDTHS⟩] ep_MOST_WIDTHS,#[]⟩)
  (hh0_MOST_WIDTHS:h0_MOST_WIDTHS = hashInt (2))
  (hh1_MOST_WIDTHS:h1_MOST_WIDTHS = hashInt (3))
  (hh2_MOST_WIDTHS:h2_MOST_WIDTHS = hashInt (4))
  (z_ValueError:PySem.W.nsIn K mainGlobals "ValueError" = some none)
  (z_abs:PySem.W.nsIn K mainGlobals "abs" = some none)
  (z_all:PySem.W.nsIn K mainGlobals "all" = some none)
  (z_bool:PySem.W.nsIn K mainGlobals "bool" = some none)
  (z_dict:PySem.W.nsIn K mainGlobals "dict" = some none)
  (z_enumerate:PySem.W.nsIn K mainGlobals "enumerate" = some none)
  (z_int:PySem.W.nsIn K mainGlobals "int" = some none)
  (z_isinstance:PySem.W.nsIn K mainGlobals "isinstance" = some none)
  (z_len:PySem.W.nsIn K mainGlobals "len" = some none)
  (z_list:PySem.W.nsIn K mainGlobals "list" = some none)
  (z_max:PySem.W.nsIn K mainGlobals "max" = some none)
  (z_min:PySem.W.nsIn K mainGlobals "min" = some none)
  (z_range:PySem.W.nsIn K mainGlobals "range" = some none)
  (z_sorted:PySem.W.nsIn K mainGlobals "sorted" = some none)
  (z_str:PySem.W.nsIn K mainGlobals "str" = some none)
  (z_tuple:PySem.W.nsIn K mainGlobals "tuple" = some none)
  (z_zip:PySem.W.nsIn K mainGlobals "zip" = some none)
  (nd:[x_MillError,x_NoMachine,x_NoWidth].Nodup)
  (q_MOST_ROWS:PySem.W.nsIn K mainGlobals "MOST_ROWS" = some (some (.int 4 tk_MOST_ROWS)))
  (q_LEAST_SIGNS:PySem.W.nsIn K mainGlobals "LEAST_SIGNS" = some (some (.int 2 tk_LEAST_SIGNS)))
  (q_MOST_SIGNS:PySem.W.nsIn K mainGlobals "MOST_SIGNS" = some (some (.int 4 tk_MOST_SIGNS)))
  : ∃ fd:FuncData,(∀ (s:Shared) (v:Value),BindsTo s fd ⟨[v],[]⟩ [("_law_script",v)])∧∀ base:Heap,K.In base→base.Ns mainGlobals mg→FnOk l.prog w K mg base CX0 6 fa fd ["_law_script"] (sp_law K):=by
 have e:=hfa.symm.trans (PySem.W.mg_of X G aZ24)
 have e':xZ24 = fa:=by cases e; rfl
 subst e'
 have FZ0:=fun_mk (st:=s_l_mixed) lZ0 cZ0 kZ0
 have bZ0:=FZ0.binds (ps:=["_law_cell","_law_k"]) fun _ _ _ _ _ _=>us2 (fun _ _=>rfl)
 have FZ1:=fun_mk (st:=s_l_draw) lZ1 cZ1 kZ1
 have bZ1:=FZ1.binds (ps:=["_law_purse_here","_law_out_of"]) fun _ _ _ _ _ _=>us2 (fun _ _=>rfl)
 have FZ2:=fun_mk (st:=s_l_purse) lZ2 cZ2 kZ2
 have bZ2:=FZ2.binds (ps:=["_law_script"]) fun _ _ _ _ _ _=>us1 (fun _=>rfl)
 have FZ3:=fun_mk (st:=s_is_entry) lZ3 cZ3 kZ3
 have bZ3:=FZ3.binds (ps:=["entry","rows","signs"]) fun _ _ _ _ _ _=>us3 (fun _ _ _=>rfl)
 have FZ4:=fun_mk (st:=s_is_row) lZ4 cZ4 kZ4
 have bZ4:=FZ4.binds (ps:=["row","rows","signs"]) fun _ _ _ _ _ _=>us3 (fun _ _ _=>rfl)
 have FZ5:=fun_mk (st:=s_is_machine) lZ5 cZ5 kZ5
 have bZ5:=FZ5.binds (ps:=["machine"]) fun _ _ _ _ _ _=>us1 (fun _=>rfl)
 have FZ6:=fun_mk (st:=s_must_machine) lZ6 cZ6 kZ6
 have bZ6:=FZ6.binds (ps:=["machine"]) fun _ _ _ _ _ _=>us1 (fun _=>rfl)
 have FZ7:=fun_mk (st:=s_is_width) lZ7 cZ7 kZ7
 have bZ7:=FZ7.binds (ps:=["machine","width"]) fun _ _ _ _ _ _=>us2 (fun _ _=>rfl)
 have FZ8:=fun_mk (st:=s_is_word) lZ8 cZ8 kZ8
 have bZ8:=FZ8.binds (ps:=["machine","width","word"]) fun _ _ _ _ _ _=>us3 (fun _ _ _=>rfl)
 have FZ9:=fun_mk (st:=s_is_middle) lZ9 cZ9 kZ9
 have bZ9:=FZ9.binds (ps:=["machine","width","middle"]) fun _ _ _ _ _ _=>us3 (fun _ _ _=>rfl)
 have FZ10:=fun_mk (st:=s_ends_at) lZ10 cZ10 kZ10
 have bZ10:=FZ10.binds (ps:=["machine","middle"]) fun _ _ _ _ _ _=>us2 (fun _ _=>rfl)
 have FZ11:=fun_mk (st:=s_asked) lZ11 cZ11 kZ11
 have bZ11:=FZ11.binds (ps:=["machine","middle","lefts","rights"]) fun _ _ _ _ _ _=>us4 (fun _ _ _ _=>rfl)
 have FZ12:=fun_mk (st:=s_is_kept) lZ12 cZ12 kZ12
 have bZ12:=FZ12.binds (ps:=["machine","middle","lefts","rights","middles"]) fun _ _ _ _ _ _=>us5 (fun _ _ _ _ _=>rfl)
 have FZ13:=fun_mk (st:=s_shows_shut) lZ13 cZ13 kZ13
 have bZ13:=FZ13.binds (ps:=["machine","paper"]) fun _ _ _ _ _ _=>us2 (fun _ _=>rfl)
 have FZ14:=fun_mk (st:=s_least_shut) lZ14 cZ14 kZ14
 have bZ14:=FZ14.binds (ps:=["machine","width"]) fun _ _ _ _ _ _=>us2 (fun _ _=>rfl)
 have FZ15:=fun_mk (st:=s_l_machine) lZ15 cZ15 kZ15
 have bZ15:=FZ15.binds (ps:=["_law_purse_here","_law_rows","_law_signs"]) fun _ _ _ _ _ _=>us3 (fun _ _ _=>rfl)
 have FZ16:=fun_mk (st:=s_l_asked_by) lZ16 cZ16 kZ16
 have bZ16:=FZ16.binds (ps:=["_law_machine_here","_law_middle","_law_lefts","_law_rights"]) fun _ _ _ _ _ _=>us4 (fun _ _ _ _=>rfl)
 have FZ17:=fun_mk (st:=s_l_in) lZ17 cZ17 kZ17
 have bZ17:=FZ17.binds (ps:=["_law_some","_law_others"]) fun _ _ _ _ _ _=>us2 (fun _ _=>rfl)
 have FZ18:=fun_mk (st:=s_l_within) lZ18 cZ18 kZ18
 have bZ18:=FZ18.binds (ps:=["_law_wide","_law_narrow"]) fun _ _ _ _ _ _=>us2 (fun _ _=>rfl)
 have FZ19:=fun_mk (st:=s_l_shared) lZ19 cZ19 kZ19
 have bZ19:=FZ19.binds (ps:=["_law_one","_law_other_here"]) fun _ _ _ _ _ _=>us2 (fun _ _=>rfl)
 have FZ20:=fun_mk (st:=s_l_word) lZ20 cZ20 kZ20
 have bZ20:=FZ20.binds (ps:=["_law_purse_here","_law_signs","_law_width"]) fun _ _ _ _ _ _=>us3 (fun _ _ _=>rfl)
 have FZ21:=fun_mk (st:=s_l_begun) lZ21 cZ21 kZ21
 have bZ21:=FZ21.binds (ps:=["_law_purse_here","_law_machine_here","_law_width"]) fun _ _ _ _ _ _=>us3 (fun _ _ _=>rfl)
 have FZ22:=fun_mk (st:=s_l_closed) lZ22 cZ22 kZ22
 have bZ22:=FZ22.binds (ps:=["_law_machine_here","_law_width","_law_begun_here"]) fun _ _ _ _ _ _=>us3 (fun _ _ _=>rfl)
 have FZ23:=fun_mk (st:=s_l_other) lZ23 cZ23 kZ23
 have bZ23:=FZ23.binds (ps:=["_law_purse_here","_law_machine_here","_law_met"]) fun _ _ _ _ _ _=>us3 (fun _ _ _=>rfl)
 have FZ24:=fun_mk (st:=s_law) lZ24 cZ24 kZ24
 have bZ24:=FZ24.binds (ps:=["_law_script"]) fun _ _ _ _ _ _=>us1 (fun _=>rfl)
 have T:Tx K mg ⟨xZ0,_,xZ1,_,xZ2,_,xZ3,_,xZ4,_,xZ5,_,xZ6,_,xZ7,_,xZ8,_,xZ9,_,xZ10,_,xZ11,_,xZ12,_,xZ13,_,xZ14,_,xZ15,_,xZ16,_,xZ17,_,xZ18,_,xZ19,_,xZ20,_,xZ21,_,xZ22,_,xZ23,_,xZ24,_,x_MillError,x_NoMachine,x_NoWidth,x_MOST_WIDTHS⟩:=⟨FZ0,bZ0,PySem.W.mg_of X G aZ0,FZ1,bZ1,PySem.W.mg_of X G aZ1,FZ2,bZ2,PySem.W.mg_of X G aZ2,FZ3,bZ3,PySem.W.mg_of X G aZ3,FZ4,bZ4,PySem.W.mg_of X G aZ4,FZ5,bZ5,PySem.W.mg_of X G aZ5,FZ6,bZ6,PySem.W.mg_of X G aZ6,FZ7,bZ7,PySem.W.mg_of X G aZ7,FZ8,bZ8,PySem.W.mg_of X G aZ8,FZ9,bZ9,PySem.W.mg_of X G aZ9,FZ10,bZ10,PySem.W.mg_of X G aZ10,FZ11,bZ11,PySem.W.mg_of X G aZ11,FZ12,bZ12,PySem.W.mg_of X G aZ12,FZ13,bZ13,PySem.W.mg_of X G aZ13,FZ14,bZ14,PySem.W.mg_of X G aZ14,FZ15,bZ15,PySem.W.mg_of X G aZ15,FZ16,bZ16,PySem.W.mg_of X G aZ16,FZ17,bZ17,PySem.W.mg_of X G aZ17,FZ18,bZ18,PySem.W.mg_of X G aZ18,FZ19,bZ19,PySem.W.mg_of X G aZ19,FZ20,bZ20,PySem.W.mg_of X G aZ20,FZ21,bZ21,PySem.W.mg_of X G aZ21,FZ22,bZ22,PySem.W.mg_of X G aZ22,FZ23,bZ23,PySem.W.mg_of X G aZ23,FZ24,bZ24,PySem.W.mg_of X G aZ24,⟨i_MillError,k_MillError⟩,⟨ga_MillError,na_MillError,cl_MillError,gt,tk,mo_MillError,mb_MillError,by rw [ci_MillError]; rfl⟩,PySem.W.mg_of X G a_MillError,⟨⟨_,ci_MillError,mr_MillError⟩,ty_MillError⟩,⟨i_NoMachine,k_NoMachine⟩,⟨ga_NoMachine,na_NoMachine,cl_NoMachine,gt,tk,mo_NoMachine,mb_NoMachine,by rw [ci_NoMachine]; rfl⟩,PySem.W.mg_of X G a_NoMachine,⟨⟨_,ci_NoMachine,mr_NoMachine⟩,ty_NoMachine⟩,⟨i_NoWidth,k_NoWidth⟩,⟨ga_NoWidth,na_NoWidth,cl_NoWidth,gt,tk,mo_NoWidth,mb_NoWidth,by rw [ci_NoWidth]; rfl⟩,PySem.W.mg_of X G a_NoWidth,⟨⟨_,ci_NoWidth,mr_NoWidth⟩,ty_NoWidth⟩,⟨_,PySem.W.mg_of X G q_MOST_ROWS,⟨_,rfl⟩⟩,⟨_,PySem.W.mg_of X G q_LEAST_SIGNS,⟨_,rfl⟩⟩,⟨_,PySem.W.mg_of X G q_MOST_SIGNS,⟨_,rfl⟩⟩,PySem.W.mg_of X G a_MOST_WIDTHS,⟨_,_,_,l_MOST_WIDTHS,⟨rfl,rfl,rfl⟩,rfl,(.cons ⟨⟨_,rfl⟩,fun w=>hh0_MOST_WIDTHS.trans rfl,⟨_,rfl⟩⟩ (.cons ⟨⟨_,rfl⟩,fun w=>hh1_MOST_WIDTHS.trans rfl,⟨_,rfl⟩⟩ (.cons ⟨⟨_,rfl⟩,fun w=>hh2_MOST_WIDTHS.trans rfl,⟨_,rfl⟩⟩ .nil))),by decide⟩,PySem.W.mg_none_of X G z_ValueError,PySem.W.mg_none_of X G z_abs,PySem.W.mg_none_of X G z_all,PySem.W.mg_none_of X G z_bool,PySem.W.mg_none_of X G z_dict,PySem.W.mg_none_of X G z_enumerate,PySem.W.mg_none_of X G z_int,PySem.W.mg_none_of X G z_isinstance,PySem.W.mg_none_of X G z_len,PySem.W.mg_none_of X G z_list,PySem.W.mg_none_of X G z_max,PySem.W.mg_none_of X G z_min,PySem.W.mg_none_of X G z_range,PySem.W.mg_none_of X G z_sorted,PySem.W.mg_none_of X G z_str,PySem.W.mg_none_of X G z_tuple,PySem.W.mg_none_of X G z_zip,nd⟩
 exact⟨_,fun s v=>.of_eq rfl,fun base _ _=>ok_law T⟩
theorem walk {l:PySem.W.OpenLaw} {q:Program} {loose:List Str} {XP:(Str→Option Value)→Heap→Prop} {YP:World→Heap→Prop} {d:DefRec} {K:Params→PySem.W.Frag} (hn:l.most = some 63) (hdf:d.params.defaults = [])
  (hY:∀ (w:World) (h:Heap),YP w h→(K w.params).In h)
  (F:∀ (w:World) (mg:Str→Option Value) (fa:Addr) (h:Heap),(K w.params).In h→h.Ns mainGlobals mg→mg d.name = some (.ref fa) →
   ∃ fd:FuncData,(∀ (s:Shared) (u:Value),BindsTo s fd ⟨[u],[]⟩ [("_law_script",u)])∧∀ base:Heap,(K w.params).In base→base.Ns mainGlobals mg→FnOk l.prog w (K w.params) mg base CX0 6 fa fd ["_law_script"] (sp_law (K w.params))) :
  PySem.W.WalkO q loose XP YP l.row.toRowW d [] (fun f vs=>PySem.call f vs) :=
 L2.walk_of (n:=63) (k:=6) (x:="_law_script") (CX:=fun _=>CX0) (sp:=fun w=>sp_law (K w.params)) hn (by decide) hdf ⟨rfl,by decide,by decide⟩ hY F (fun _ _ a ns hl _ hS=>⟨ns,hS,hl,fun _=>rfl⟩) fun _ _ _ _ _ z=>z
end Law
def PySem.W.Fast.tw5569960879234161402:Unit:=()
def PySem.W.Fast.tw10672463594932260343:Unit:=()
def PySem.W.Fast.tw16638815309882752284:Unit:=()
def PySem.W.Fast.tw11506526486695819493:Unit:=()
def PySem.W.Fast.tw16952816028895488192:Unit:=()
def PySem.W.Fast.tw4789715291152743726:Unit:=()
def PySem.W.Fast.tw13745492055282670646:Unit:=()
def PySem.W.Fast.tw9056292674359101407:Unit:=()
def PySem.W.Fast.tw17536803172350607490:Unit:=()
def PySem.W.Fast.tw11554689584458016171:Unit:=()
def PySem.W.Fast.tw8008724809874515466:Unit:=()
def PySem.W.Fast.tw1341376486836322390:Unit:=()
def PySem.W.Fast.tw18046952365771390802:Unit:=()
def PySem.W.Fast.tw3449088894455313347:Unit:=()
def PySem.W.Fast.tw6171664402368913666:Unit:=()
def PySem.W.Fast.tw13652741835637857684:Unit:=()
def PySem.W.Fast.tw9949799881285625985:Unit:=()
def PySem.W.Fast.tw17312819000002149383:Unit:=()
def PySem.W.Fast.tw6707319867259437512:Unit:=()
def PySem.W.Fast.tw15559523829442119278:Unit:=()
def PySem.W.Fast.tw8934421424008991910:Unit:=()
def PySem.W.Fast.tw16342132970753955310:Unit:=()
def PySem.W.Fast.tw13862257811668278302:Unit:=()
def PySem.W.Fast.tw15199974879808606258:Unit:=()
def PySem.W.Fast.tw9074407371828586845:Unit:=()
def PySem.W.Fast.tw6372878431110946390:Unit:=()
def PySem.W.Fast.tw17484097072835855658:Unit:=()
def PySem.W.Fast.tw1038729318123930753:Unit:=()
def PySem.W.Fast.tw6375016265382297531:Unit:=()
def PySem.W.Fast.tw16050406812558348944:Unit:=()
def PySem.W.Fast.tw13997995724401283613:Unit:=()
def PySem.W.Fast.tw11241048971535988176:Unit:=()
def PySem.W.Fast.tw18027746057607127480:Unit:=()
def PySem.W.Fast.tw12201998818207762999:Unit:=()
def PySem.W.Fast.tw7817963018552570590:Unit:=()
def PySem.W.Fast.tw897438110192401988:Unit:=()
def PySem.W.Fast.tw16711182980454512198:Unit:=()
def PySem.W.Fast.tw5505274752059332017:Unit:=()
def PySem.W.Fast.tw12463986988590499032:Unit:=()
def PySem.W.Fast.tw5289665859945397281:Unit:=()
def PySem.W.Fast.tw12354621744343302895:Unit:=()
def PySem.W.Fast.tw8294208550670767513:Unit:=()
def PySem.W.Fast.tw7961561026844448644:Unit:=()
def PySem.W.Fast.tw18232630916705667277:Unit:=()
def PySem.W.Fast.tw14078405027721755869:Unit:=()
def PySem.W.Fast.tw13012016447550171821:Unit:=()
def PySem.W.Fast.tw5944579387826701780:Unit:=()
def PySem.W.Fast.tw17269879574003172076:Unit:=()
def PySem.W.Fast.tw845804727601754596:Unit:=()
def PySem.W.Fast.tw10435582426882133590:Unit:=()
def PySem.W.Fast.tw1444643034952757225:Unit:=()
def PySem.W.Fast.tw9545560712345180925:Unit:=()
def PySem.W.Fast.tw1215830383891553178:Unit:=()
def PySem.W.Fast.tw3959929760728345459:Unit:=()
def PySem.W.Fast.tw4806884110853401933:Unit:=()
def PySem.W.Fast.tw12156419876049225154:Unit:=()
def PySem.W.Fast.tw12670301609257506048:Unit:=()
def PySem.W.Fast.tw5915985003061974466:Unit:=()
def PySem.W.Fast.tw13600930420913481439:Unit:=()
def PySem.W.Fast.tw9943764240394469777:Unit:=()
def PySem.W.Fast.tw2220910474813719160:Unit:=()
def PySem.W.Fast.tw17534996643246095539:Unit:=()
def PySem.W.Fast.tw16562410038318557150:Unit:=()
def PySem.W.Fast.tw14745465660003083813:Unit:=()
def PySem.W.Fast.tw4396296896732975163:Unit:=()
def PySem.W.Fast.tw9024102014251516799:Unit:=()
def PySem.W.Fast.tw18102384497462545511:Unit:=()
def PySem.W.Fast.tw6009909887612537705:Unit:=()
def PySem.W.Fast.tw838440897720167394:Unit:=()
def PySem.W.Fast.tw12453128674171761061:Unit:=()
def PySem.W.Fast.tw9693072082959005172:Unit:=()
def PySem.W.Fast.tw10144724720112483249:Unit:=()
def PySem.W.Fast.tw10884440499959233755:Unit:=()
def PySem.W.Fast.tw7861843835542222533:Unit:=()
def PySem.W.Fast.tw12819278422628088533:Unit:=()
def PySem.W.Fast.tw12376435122530278325:Unit:=()
def PySem.W.Fast.tw12850155148771125794:Unit:=()
def PySem.W.Fast.tw13087004338754603360:Unit:=()
def PySem.W.Fast.tw9525122771893752650:Unit:=()
def PySem.W.Fast.tw10405717981944356560:Unit:=()
def PySem.W.Fast.tw18233549045827980919:Unit:=()
def PySem.W.Fast.tw8883032373836014640:Unit:=()
def PySem.W.Fast.tw18191729717058176244:Unit:=()
def PySem.W.Fast.tw2845293939571039186:Unit:=()
def PySem.W.Fast.tw2002075314864472448:Unit:=()
def PySem.W.Fast.tw3584130308417427000:Unit:=()
def PySem.W.Fast.tw14665988676350397532:Unit:=()
def PySem.W.Fast.tw874969104383585701:Unit:=()
def PySem.W.Fast.tw9607054995958278555:Unit:=()
def PySem.W.Fast.tw5369988122100063166:Unit:=()
def PySem.W.Fast.tw15336607329902133218:Unit:=()
def PySem.W.Fast.tw1666828112577647229:Unit:=()
def PySem.W.Fast.tw4703246768727229557:Unit:=()
def PySem.W.Fast.tw12894257472164780111:Unit:=()
def PySem.W.Fast.tw14793169231060667502:Unit:=()
def PySem.W.Fast.tw8404824022406758821:Unit:=()
def PySem.W.Fast.tw11844679275479747858:Unit:=()
def PySem.W.Fast.tw9513667473663574227:Unit:=()
def PySem.W.Fast.tw10436643112002113864:Unit:=()
def PySem.W.Fast.tw5810897956818075700:Unit:=()
def PySem.W.Fast.tw14951744015845242871:Unit:=()
def PySem.W.Fast.tw1033037609382982907:Unit:=()
def PySem.W.Fast.tw10352351118149928364:Unit:=()
def PySem.W.Fast.tw8932861686840864749:Unit:=()
def PySem.W.Fast.tw806900710194499796:Unit:=()
def PySem.W.Fast.tw10919377624976412451:Unit:=()
def PySem.W.Fast.tw14477928433970117376:Unit:=()
def PySem.W.Fast.tw10617375671211396974:Unit:=()
def PySem.W.Fast.tw4500321252457041552:Unit:=()
def PySem.W.Fast.tw5439093465954264049:Unit:=()
def PySem.W.Fast.tw8637793090829994665:Unit:=()
def PySem.W.Fast.tw9393596028789910997:Unit:=()
def PySem.W.Fast.tw6159309512593310341:Unit:=()
def PySem.W.Fast.tw3600448180531354289:Unit:=()
def PySem.W.Fast.tw5392054024585870242:Unit:=()
def PySem.W.Fast.tw12287822601292372553:Unit:=()
open PySem PySem.W PyProof.Rows
set_option maxRecDepth 100000 in
set_option maxHeartbeats 0 in
theorem PySem.Challenge.cw_endnever_k65_whole_shut_sets_within_holds : PySem.Challenge.rw_endnever_k65_whole_shut_sets_within.Holds := by
 w_on; o_law; k_head; (case hw=>w_witness2)
 k_fill
 refine Law.walk (l:=PySem.Challenge.rw_endnever_k65_whole_shut_sets_within) rfl rfl (fun w h Y=>PySem.W.kIn_of Y) ?F
 case F =>
  intro w mg fa h KX G hmg
  refine' Law.all_mk KX G hmg ?aZ0 ?lZ0 ?cZ0 ?kZ0 ?aZ1 ?lZ1 ?cZ1 ?kZ1 ?aZ2 ?lZ2 ?cZ2 ?kZ2 ?aZ3 ?lZ3 ?cZ3 ?kZ3 ?aZ4 ?lZ4 ?cZ4 ?kZ4 ?aZ5 ?lZ5 ?cZ5 ?kZ5 ?aZ6 ?lZ6 ?cZ6 ?kZ6 ?aZ7 ?lZ7 ?cZ7 ?kZ7 ?aZ8 ?lZ8 ?cZ8 ?kZ8 ?aZ9 ?lZ9 ?cZ9 ?kZ9 ?aZ10 ?lZ10 ?cZ10 ?kZ10 ?aZ11 ?lZ11 ?cZ11 ?kZ11 ?aZ12 ?lZ12 ?cZ12 ?kZ12 ?aZ13 ?lZ13 ?cZ13 ?kZ13 ?aZ14 ?lZ14 ?cZ14 ?kZ14 ?aZ15 ?lZ15 ?cZ15 ?kZ15 ?aZ16 ?lZ16 ?cZ16 ?kZ16 ?aZ17 ?lZ17 ?cZ17 ?kZ17 ?aZ18 ?lZ18 ?cZ18 ?kZ18 ?aZ19 ?lZ19 ?cZ19 ?kZ19 ?aZ20 ?lZ20 ?cZ20 ?kZ20 ?aZ21 ?lZ21 ?cZ21 ?kZ21 ?aZ22 ?lZ22 ?cZ22 ?kZ22 ?aZ23 ?lZ23 ?cZ23 ?kZ23 ?aZ24 ?lZ24 ?cZ24 ?kZ24 ?gt ?tk ?a_MillError ?i_MillError ?k_MillError ?ga_MillError ?na_MillError ?cl_MillError ?mo_MillError ?mb_MillError ?ci_MillError ?mr_MillError ?ty_MillError ?a_NoMachine ?i_NoMachine ?k_NoMachine ?ga_NoMachine ?na_NoMachine ?cl_NoMachine ?mo_NoMachine ?mb_NoMachine ?ci_NoMachine ?mr_NoMachine ?ty_NoMachine ?a_NoWidth ?i_NoWidth ?k_NoWidth ?ga_NoWidth ?na_NoWidth ?cl_NoWidth ?mo_NoWidth ?mb_NoWidth ?ci_NoWidth ?mr_NoWidth ?ty_NoWidth ?a_MOST_WIDTHS ?l_MOST_WIDTHS ?hh0_MOST_WIDTHS ?hh1_MOST_WIDTHS ?hh2_MOST_WIDTHS ?z_ValueError ?z_abs ?z_all ?z_bool ?z_dict ?z_enumerate ?z_int ?z_isinstance ?z_len ?z_list ?z_max ?z_min ?z_range ?z_sorted ?z_str ?z_tuple ?z_zip ?nd ?q_MOST_ROWS ?q_LEAST_SIGNS ?q_MOST_SIGNS
  (case aZ0=>k_is)
  (case lZ0=>k_is)
  (case cZ0=>k_is)
  (case kZ0=>k_is)
  (case aZ1=>k_is)
  (case lZ1=>k_is)
  (case cZ1=>k_is)
  (case kZ1=>k_is)
  (case aZ2=>k_is)
  (case lZ2=>k_is)
  (case cZ2=>k_is)
  (case kZ2=>k_is)
  (case aZ3=>k_is)
  (case lZ3=>k_is)
  (case cZ3=>k_is)
  (case kZ3=>k_is)
  (case aZ4=>k_is)
  (case lZ4=>k_is)
  (case cZ4=>k_is)
  (case kZ4=>k_is)
  (case aZ5=>k_is)
  (case lZ5=>k_is)
  (case cZ5=>k_is)
  (case kZ5=>k_is)
  (case aZ6=>k_is)
  (case lZ6=>k_is)
  (case cZ6=>k_is)
  (case kZ6=>k_is)
  (case aZ7=>k_is)
  (case lZ7=>k_is)
  (case cZ7=>k_is)
  (case kZ7=>k_is)
  (case aZ8=>k_is)
  (case lZ8=>k_is)
  (case cZ8=>k_is)
  (case kZ8=>k_is)
  (case aZ9=>k_is)
  (case lZ9=>k_is)
  (case cZ9=>k_is)
  (case kZ9=>k_is)
  (case aZ10=>k_is)
  (case lZ10=>k_is)
  (case cZ10=>k_is)
  (case kZ10=>k_is)
  (case aZ11=>k_is)
  (case lZ11=>k_is)
  (case cZ11=>k_is)
  (case kZ11=>k_is)
  (case aZ12=>k_is)
  (case lZ12=>k_is)
  (case cZ12=>k_is)
  (case kZ12=>k_is)
  (case aZ13=>k_is)
  (case lZ13=>k_is)
  (case cZ13=>k_is)
  (case kZ13=>k_is)
  (case aZ14=>k_is)
  (case lZ14=>k_is)
  (case cZ14=>k_is)
  (case kZ14=>k_is)
  (case aZ15=>k_is)
  (case lZ15=>k_is)
  (case cZ15=>k_is)
  (case kZ15=>k_is)
  (case aZ16=>k_is)
  (case lZ16=>k_is)
  (case cZ16=>k_is)
  (case kZ16=>k_is)
  (case aZ17=>k_is)
  (case lZ17=>k_is)
  (case cZ17=>k_is)
  (case kZ17=>k_is)
  (case aZ18=>k_is)
  (case lZ18=>k_is)
  (case cZ18=>k_is)
  (case kZ18=>k_is)
  (case aZ19=>k_is)
  (case lZ19=>k_is)
  (case cZ19=>k_is)
  (case kZ19=>k_is)
  (case aZ20=>k_is)
  (case lZ20=>k_is)
  (case cZ20=>k_is)
  (case kZ20=>k_is)
  (case aZ21=>k_is)
  (case lZ21=>k_is)
  (case cZ21=>k_is)
  (case kZ21=>k_is)
  (case aZ22=>k_is)
  (case lZ22=>k_is)
  (case cZ22=>k_is)
  (case kZ22=>k_is)
  (case aZ23=>k_is)
  (case lZ23=>k_is)
  (case cZ23=>k_is)
  (case kZ23=>k_is)
  (case aZ24=>k_is)
  (case lZ24=>k_is)
  (case cZ24=>k_is)
  (case kZ24=>k_is)
  (case gt=>k_is)
  (case tk=>k_is)
  (case a_MillError=>k_is)
  (case i_MillError=>k_exc)
  (case k_MillError=>k_is)
  (case ga_MillError=>k_is)
  (case na_MillError=>k_is)
  (case cl_MillError=>k_is)
  (case mo_MillError=>k_is)
  (case mb_MillError=>k_is)
  (case ci_MillError=>k_is)
  (case mr_MillError=>rfl)
  (case ty_MillError=>k_is)
  (case a_NoMachine=>k_is)
  (case i_NoMachine=>k_exc)
  (case k_NoMachine=>k_is)
  (case ga_NoMachine=>k_is)
  (case na_NoMachine=>k_is)
  (case cl_NoMachine=>k_is)
  (case mo_NoMachine=>k_is)
  (case mb_NoMachine=>k_is)
  (case ci_NoMachine=>k_is)
  (case mr_NoMachine=>rfl)
  (case ty_NoMachine=>k_is)
  (case a_NoWidth=>k_is)
  (case i_NoWidth=>k_exc)
  (case k_NoWidth=>k_is)
  (case ga_NoWidth=>k_is)
  (case na_NoWidth=>k_is)
  (case cl_NoWidth=>k_is)
  (case mo_NoWidth=>k_is)
  (case mb_NoWidth=>k_is)
  (case ci_NoWidth=>k_is)
  (case mr_NoWidth=>rfl)
  (case ty_NoWidth=>k_is)
  (case a_MOST_WIDTHS=>k_is)
  (case l_MOST_WIDTHS=>k_is)
  (case hh0_MOST_WIDTHS=>decide)
  (case hh1_MOST_WIDTHS=>decide)
  (case hh2_MOST_WIDTHS=>decide)
  (case z_ValueError=>k_is)
  (case z_abs=>k_is)
  (case z_all=>k_is)
  (case z_bool=>k_is)
  (case z_dict=>k_is)
  (case z_enumerate=>k_is)
  (case z_int=>k_is)
  (case z_isinstance=>k_is)
  (case z_len=>k_is)
  (case z_list=>k_is)
  (case z_max=>k_is)
  (case z_min=>k_is)
  (case z_range=>k_is)
  (case z_sorted=>k_is)
  (case z_str=>k_is)
  (case z_tuple=>k_is)
  (case z_zip=>k_is)
  (case nd=>decide)
  (case q_MOST_ROWS=>k_is)
  (case q_LEAST_SIGNS=>k_is)
  (case q_MOST_SIGNS=>k_is)
