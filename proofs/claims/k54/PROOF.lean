import PyProof.Rows.All
import Wide.All
import OpenK.AllK
import Wide.FinOn
import PyProof.EqAt
import PyProof.EqKinds
import PyProof.NeKinds
import PyProof.TupleCall
import PyProof.ExcArgsOwn
import PyProof.EnumFor
import PyProof.EnumStmt
import PyProof.EnumMake
import Lean
import KE.KDictList
import KE.KDictOf
import KE.KDictSum
import KE.KEqDict
import KE.KItemsList
import KE.KPairComp
import KE.KRevIter
import KE.KSortTup
import KE.KTupSum
import PyProof.AttrMiss
import PyProof.EnumFor
import PyProof.EnumMake
import PyProof.IsRules
import PyProof.IsiH_list
import PyProof.IsiH_tuple
import PyProof.Rows.ZipForRows
import PyProof.TupleIter
import PyProof.DictWalks
import PyProof.ListRange
import PyProof.Rows.SeqMore2
import PySem.Challenge.RW_endnever_k54_like_ones_and_groups
local macro_rules | `(tactic| omega) => `(tactic| first | with_reducible assumption | with_reducible exact Nat.le_of_lt (by assumption) | with_reducible exact Nat.lt_of_lt_of_le (by assumption) (by assumption) | with_reducible exact Nat.lt_of_le_of_lt (by assumption) (by assumption) | with_reducible exact Nat.le_trans (by assumption) (by assumption) | with_reducible exact Nat.zero_le _ | lia | omega (config := {}))
set_option genSizeOf false
set_option Elab.async false
set_option linter.all false
set_option maxRecDepth 100000
set_option maxHeartbeats 4000000
section
set_option Elab.async false
set_option linter.all false
set_option maxRecDepth 100000
namespace L2
open PySem PySem.Spec PyProof.Rows
abbrev Key:=Sum Int Str
def keyIs:Key→Value→Bool
 | .inl k,v=>Value.isInt k v
 | .inr x,v=>Value.isStrOf x v
def keyH (w:World):Key→Int
 | .inl k=>hashInt k
 | .inr x=>hashStr w x
theorem keyIs_shape:∀ {k:Key} {v:Value},keyIs k v = true→(∃ i t,k = Sum.inl i∧v = Value.int i t)∨(∃ x t,k = Sum.inr x∧v = Value.str x t)
 | .inl i,v,h=>by
  obtain⟨t,e⟩:=Value.isInt_shape (k:=i) (v:=v) h
  exact .inl ⟨i,t,rfl,e⟩
 | .inr x,v,h=>by
  obtain⟨t,e⟩:=Value.isStrOf_shape (x:=x) (v:=v) h
  exact .inr ⟨x,t,rfl,e⟩
theorem key_ll (a b:Int):decide ((Sum.inl a:Key) = Sum.inl b) = (a == b):=by
 by_cases e:a = b
 ·subst e; simp
 ·have h:¬ (Sum.inl a:Key) = Sum.inl b:=fun q=>e (Sum.inl.inj q)
  rw [decide_eq_false h]
  exact (beq_eq_false_iff_ne.mpr e).symm
theorem key_rr (a b:Str):decide ((Sum.inr a:Key) = Sum.inr b) = decide (a = b):=by
 by_cases e:a = b
 ·subst e; simp
 ·have h:¬ (Sum.inr a:Key) = Sum.inr b:=fun q=>e (Sum.inr.inj q)
  rw [decide_eq_false h,decide_eq_false e]
theorem key_lr (a:Int) (b:Str):decide ((Sum.inl a:Key) = Sum.inr b) = false:=decide_eq_false (fun q=>nomatch q)
theorem key_rl (a:Str) (b:Int):decide ((Sum.inr a:Key) = Sum.inl b) = false:=decide_eq_false (fun q=>nomatch q)
def mixKind (prog:Program) (w:World):PySem.KeyKind prog w Key where
 is:=keyIs
 hash:=keyH w
 inj:=fun v a b ha hb=>by
  rcases keyIs_shape ha with ⟨i,t,rfl,rfl⟩ | ⟨x,t,rfl,rfl⟩
  ·rcases keyIs_shape hb with ⟨j,u,rfl,e⟩ | ⟨y,u,rfl,e⟩
   ·injection e with e1 _; rw [e1]
   ·exact nomatch e
  ·rcases keyIs_shape hb with ⟨j,u,rfl,e⟩ | ⟨y,u,rfl,e⟩
   ·exact nomatch e
   ·injection e with e1 _; rw [e1]
 byValue:=fun k v h=>by
  rcases keyIs_shape h with ⟨i,t,rfl,rfl⟩ | ⟨x,t,rfl,rfl⟩ <;> rfl
 pyHash:=fun hv h=>by
  rcases keyIs_shape hv with ⟨i,t,rfl,rfl⟩ | ⟨x,t,rfl,rfl⟩
  ·exact wpAny_pyHash_int h
  ·exact wpAny_pyHash_str h
 eqBool:=fun hu hv h=>by
  rcases keyIs_shape hu with ⟨i,t,rfl,rfl⟩ | ⟨x,t,rfl,rfl⟩
  ·rcases keyIs_shape hv with ⟨j,u,rfl,rfl⟩ | ⟨y,u,rfl,rfl⟩
   ·rw [key_ll] at h; exact wpAny_eqBool_int h
   ·rw [key_lr] at h; exact SeqAt.EqAt.int_str i t y u _ _ _ _ h
  ·rcases keyIs_shape hv with ⟨j,u,rfl,rfl⟩ | ⟨y,u,rfl,rfl⟩
   ·rw [key_rl] at h; exact SeqAt.EqAt.str_int x t j u _ _ _ _ h
   ·rw [key_rr] at h; exact wpAny_eqBool_str h
 «strs»:=fun k x t v h=>by
  rcases keyIs_shape h with ⟨i,u,rfl,e⟩ | ⟨y,u,rfl,e⟩
  ·exact nomatch e
  ·injection e with e1 _
   subst e1
   cases v <;> rfl
end L2
namespace L2
open PySem PySem.Spec PyProof.Rows
inductive V where
 | non | bl (b:Bool) | int (i:Int) | str (x:Str) | byt (b:Array UInt8) | flt (b:UInt64) | ref (a:Addr) | ty (n:String)
 deriving DecidableEq
def RelV:V→Value→Prop
 | .non,u=>u = Value.none
 | .bl b,u=>u = Value.bool b
 | .int i,u=>∃ t,u = Value.int i t
 | .str x,u=>∃ t,u = Value.str x t
 | .byt b,u=>∃ t,u = Value.bytes b t
 | .flt b,u=>∃ t,u = Value.float b t
 | .ref a,u=>u = Value.ref a
 | .ty n,u=>u = Value.type n
abbrev Vals:List V→List Value→Prop:=Paired RelV
theorem Vals.length {xs:List V} {us:List Value} (r:Vals xs us):xs.length = us.length:=Paired.length r
theorem Vals.get:∀ {xs:List V} {us:List Value} {i:Nat} {x:V},Vals xs us→xs[i]? = some x→∃ u,us[i]? = some u∧RelV x u
 | _,_,_,_,.nil,e=>by simp at e
 | _,_,0,_,.cons r _,e=>by simp at e; subst e; exact⟨_,rfl,r⟩
 | _,_,i + 1,x,.cons _ t,e=>by
  obtain⟨u,h1,h2⟩:=Vals.get (i:=i) (x:=x) t (by simpa using e)
  exact⟨u,by simpa using h1,h2⟩
theorem Vals.set {x:V} {u:Value} (r:RelV x u):∀ {xs:List V} {us:List Value} (i:Nat),Vals xs us→Vals (xs.set i x) (us.set i u)
 | _,_,_,.nil=>.nil
 | _,_,0,.cons _ t=>.cons r t
 | _,_,i + 1,.cons q t=>.cons q (Vals.set r i t)
theorem Vals.append:∀ {xs ys:List V} {us ws:List Value},Vals xs us→Vals ys ws→Vals (xs ++ ys) (us ++ ws)
 | _,_,_,_,.nil,s=>s
 | _,_,_,_,.cons r t,s=>.cons r (Vals.append t s)
theorem Vals.take:∀ {xs:List V} {us:List Value} (n:Nat),Vals xs us→Vals (xs.take n) (us.take n)
 | _,_,0,_=>.nil
 | _,_,_ + 1,.nil=>.nil
 | _,_,n + 1,.cons r t=>.cons r (Vals.take n t)
theorem Vals.drop:∀ {xs:List V} {us:List Value} (n:Nat),Vals xs us→Vals (xs.drop n) (us.drop n)
 | _,_,0,r=>r
 | _,_,_ + 1,.nil=>.nil
 | _,_,n + 1,.cons _ t=>Vals.drop n t
def RelO:Option V→Option Value→Prop
 | some v,some u=>RelV v u
 | none,none=>True
 | _,_=>False
def KV {κ:Type}:List (κ × V)→List (κ × Value)→Prop:=Paired fun (p:κ × V) (q:κ × Value)=>p.1 = q.1∧RelV p.2 q.2
def kV:Key→V
 | .inl i=>.int i
 | .inr x=>.str x
inductive HO where
 | lst (xs:List V)
 | tup (xs:List V)
 | dK (kvs:List (Key × V)) | dT (kvs:List (List Key × V))
 | set (S:Int→Bool) (n:Nat)
 | ins (C dx:Addr) (fs:List (Str × V))
 | own (x:Addr)
 | xd (fs:List (Str × V))
 | met (f x:Addr)
 | rng (lo hi:Int)
 | frz (o:Obj) (u:HO)
 | tbl (ps:Array Value)
 | ext (φ:Heap→Prop)
abbrev Hp:=Addr→Option HO
def upd (H:Hp) (a:Addr) (o:HO):Hp:=fun b=>if b = a then some o else H b
theorem upd_same {H:Hp} {a:Addr} {o:HO}:upd H a o a = some o:=by unfold upd; rw [if_pos rfl]
theorem upd_ne {H:Hp} {a b:Addr} {o:HO} (h:b≠a):upd H a o b = H b:=by unfold upd; rw [if_neg h]
theorem upd_upd {H:Hp} {a:Addr} {o u:HO}:upd (upd H a o) a u = upd H a u:=by
 funext b; unfold upd; split <;> rfl
theorem ne_of_none {H:Hp} {a b:Addr} {o:HO} (h:H a = some o) (h':H b = none):a≠b:=by
 intro e; subst e; rw [h] at h'; cases h'
def IsTupN (h:Heap) (a:Addr) (items:Array Value):Prop:=∃ o,h.get? a = some o∧o.cls = .type "tuple"∧∃ n,o.data = .seq items n∧o = { cls:=.type "tuple",data:=.seq items n }
theorem IsTupN.tup {h:Heap} {a:Addr} {items:Array Value} (x:IsTupN h a items):IsTup h a items:=let ⟨o,e,c,n,d,_⟩:=x; ⟨o,e,c,n,d⟩
theorem IsTupN.lt {h:Heap} {a:Addr} {items:Array Value} (x:IsTupN h a items):a < h.objs.size:=x.tup.lt
theorem IsTupN.of {h:Heap} {a:Addr} {items:Array Value} {n:Nat} (x:h.get? a = some { cls:=.type "tuple",data:=.seq items n }):IsTupN h a items:=⟨_,x,rfl,n,rfl,rfl⟩
section
variable (P:Program) (w:World)
def ObjOk (H:Hp) (h:Heap) (a:Addr):HO→Prop
 | .lst xs=>xs.length≤sizeLine∧∃ (its:List Value) (n:Nat),Vals xs its∧h.get? a = some { cls:=.type "list",data:=.seq its.toArray n }
 | .tup xs=>xs.length≤sizeLine∧∃ its:List Value,Vals xs its∧IsTupN h a its.toArray
 | .dK kvs=>kvs.length≤sizeLine∧(a == sysModules) = false∧∃ vs,KV kvs vs∧h.DictOf (mixKind P w) a vs
 | .dT kvs=>kvs.length≤sizeLine∧(a == sysModules) = false∧∃ xs:List (List Key × Addr × Value),
   Paired (fun (p:List Key × V) (q:List Key × Addr × Value)=>p.1 = q.1∧H q.2.1 = some (.tup (p.1.map kV))∧RelV p.2 q.2.2) kvs xs ∧
   ∃ o es ep,h.get? a = some o∧o.ExactDict∧o.data = .dict es ep∧es.toList = xs.map (entryOfKey (tupleKind (mixKind P w)))∧(xs.map (·.1)).Nodup
 | .set S n=>h.SetOf (intKind P w) a S n
 | .ins C dx fs=>H dx = some (.own a)∧fs.length≤1000∧dx≠a∧h.get? a = some (PySem.W.instObj C dx) ∧
   ∃ mA,h.Ns1 dx mA∧(∀ f,RelO (fs.lookup f) (mA f))∧PySem.Within mA (fs.map (·.1))
 | .own _=>∃ o,h.get? a = some o
 | .xd fs=>∃ mA,h.Ns1 a mA∧∀ f,RelO (fs.lookup f) (mA f)
 | .rng lo hi=>∃ t u v,h.get? a = some { cls:=.type "range",data:=.fields #[.int lo t,.int hi u,.int 1 v] }
 | .frz o u=>h.get? a = some o∧ObjOk H h a u
 | .tbl ps=>h.get? a = some { cls:=.none,data:=.fields ps }
 | .met f x=>h.get? a = some (PySem.W.methodObj (.ref f) (.ref x))
 | .ext φ=>φ h∧(∃ o,h.get? a = some o)∧∀ h1 h2:Heap,φ h1→(∀ o,h1.get? a = some o→h2.get? a = some o)→φ h2
def HOk (H:Hp) (h:Heap):Prop:=∀ a o,H a = some o→ObjOk P w H h a o
end
section
variable {P:Program} {w:World} {H H':Hp} {h h':Heap} {a:Addr} {o:HO}
theorem ObjOk.lt (x:ObjOk P w H h a o):a < h.objs.size:=by
 cases o with
 | lst xs=>obtain⟨_,_,_,_,e⟩:=x; exact Heap.lt_size e
 | tup xs=>obtain⟨_,_,_,p⟩:=x; exact p.lt
 | dK kvs=>obtain⟨_,_,_,_,o,_,_,e,_⟩:=x; exact Heap.lt_size e
 | dT kvs=>obtain⟨_,_,_,_,o,_,_,e,_⟩:=x; exact Heap.lt_size e
 | set S n=>obtain⟨o,_,_,_,e,_⟩:=x; exact Heap.lt_size e
 | ins C dx fs=>obtain⟨_,_,_,e,_⟩:=x; exact Heap.lt_size e
 | own y=>obtain⟨_,e⟩:=x; exact Heap.lt_size e
 | xd fs=>obtain⟨_,⟨_,_,_,e,_⟩,_⟩:=x; exact Heap.lt_size e
 | rng lo hi=>obtain⟨_,_,_,e⟩:=x; exact Heap.lt_size e
 | frz ob u=>obtain⟨e,_⟩:=x; exact Heap.lt_size e
 | tbl ps=>exact Heap.lt_size (show h.get? a = some _ from x)
 | met f y=>exact Heap.lt_size (show h.get? a = some _ from x)
 | ext φ=>obtain⟨_,⟨_,e⟩,_⟩:=x; exact Heap.lt_size e
theorem Paired.mapP {α β:Type} {F G:α→β→Prop}:∀ {l₁:List α} {l₂:List β},Paired F l₁ l₂→(∀ a b,F a b→G a b)→Paired G l₁ l₂
 | _,_,.nil,_=>.nil
 | _,_,.cons r t,f=>.cons (f _ _ r) (Paired.mapP t f)
theorem ObjOk.stay (x:ObjOk P w H h a o) (k:∀ b u,(b = a∨H b = some (.own a))→h.get? b = some u→h'.get? b = some u)
  (ho:∀ b,H b = some (.own a)→H' b = some (.own a)) (ht:∀ b xs,H b = some (.tup xs)→H' b = some (.tup xs)):ObjOk P w H' h' a o:=by
 induction o with
 | lst xs=>obtain⟨z,its,n,r,e⟩:=x; exact⟨z,its,n,r,k _ _ (.inl rfl) e⟩
 | tup xs=>obtain⟨z,its,r,ob,e,c⟩:=x; exact⟨z,its,r,ob,k _ _ (.inl rfl) e,c⟩
 | dK kvs=>obtain⟨z,y,vs,r,ob,es,ep,e,c⟩:=x; exact⟨z,y,vs,r,ob,es,ep,k _ _ (.inl rfl) e,c⟩
 | dT kvs =>
  obtain⟨z,y,xs,r,ob,es,ep,e,c⟩:=x
  exact⟨z,y,xs,Paired.mapP r fun p q z=>⟨z.1,ht _ _ z.2.1,z.2.2⟩,ob,es,ep,k _ _ (.inl rfl) e,c⟩
 | set S n=>obtain⟨ob,es,ep,t,e,c⟩:=x; exact⟨ob,es,ep,t,k _ _ (.inl rfl) e,c⟩
 | ins C dx fs =>
  obtain⟨d,z,ne,e,mA,⟨od,es,ep,e2,c⟩,r⟩:=x
  exact⟨ho _ d,z,ne,k _ _ (.inl rfl) e,mA,⟨od,es,ep,k _ _ (.inr d) e2,c⟩,r⟩
 | own y=>obtain⟨ob,e⟩:=x; exact⟨ob,k _ _ (.inl rfl) e⟩
 | xd fs=>obtain⟨mA,⟨od,es,ep,e,c⟩,r⟩:=x; exact⟨mA,⟨od,es,ep,k _ _ (.inl rfl) e,c⟩,r⟩
 | rng lo hi=>obtain⟨t,u,v,e⟩:=x; exact⟨t,u,v,k _ _ (.inl rfl) e⟩
 | frz ob u ih=>obtain⟨e,q⟩:=x; exact⟨k _ _ (.inl rfl) e,ih q⟩
 | tbl ps =>
  have e:h.get? a = some { cls:=.none,data:=.fields ps }:=x
  show h'.get? a = some { cls:=.none,data:=.fields ps }
  exact k a _ (.inl rfl) e
 | met f y =>
  have e:h.get? a = some (PySem.W.methodObj (.ref f) (.ref y)):=x
  show h'.get? a = some (PySem.W.methodObj (.ref f) (.ref y))
  exact k a _ (.inl rfl) e
 | ext φ=>obtain⟨p,⟨o,e⟩,st⟩:=x; exact⟨st _ _ p fun o q=>k _ _ (.inl rfl) q,⟨o,k _ _ (.inl rfl) e⟩,st⟩
theorem HOk.lt (x:HOk P w H h) (e:H a = some o):a < h.objs.size:=(x a o e).lt
theorem HOk.fresh (x:HOk P w H h) (e:h.objs.size≤a):H a = none:=by
 cases q:H a with
 | none=>rfl
 | some u=>exact absurd (Nat.lt_of_lt_of_le (x.lt q) e) (Nat.lt_irrefl _)
theorem HOk.kept (x:HOk P w H h) (k:∀ b u,h.get? b = some u→h'.get? b = some u):HOk P w H h':=fun a o e =>
 (x a o e).stay (fun b u _ q=>k b u q) (fun _ q=>q) fun _ _ q=>q
theorem HOk.laid (x:HOk P w H h) (k:∀ b u,h.get? b = some u→h'.get? b = some u) (hp:h.objs.size≤a) (new:ObjOk P w (upd H a o) h' a o):HOk P w (upd H a o) h':=fun b u e=>by
 have hn:=x.fresh hp
 by_cases hb:b = a
 ·subst hb; rw [upd_same] at e; cases e; exact new
 ·rw [upd_ne hb] at e
  exact (x b u e).stay (fun c v _ q=>k c v q) (fun c q=>by rw [upd_ne (ne_of_none q hn)]; exact q) fun c xs q=>by rw [upd_ne (ne_of_none q hn)]; exact q
end
def Rd (H:Hp) (a:Addr) (u:HO):Prop:=H a = some u∨∃ o,H a = some (.frz o u)
theorem Rd.ok {P:Program} {w:World} {H:Hp} {h:Heap} {a:Addr} {u:HO} (r:Rd H a u) (x:HOk P w H h):ObjOk P w H h a u:=by
 rcases r with r | ⟨o,r⟩
 ·exact x a u r
 ·obtain⟨_,q⟩:=x a _ r
  exact q
def Mut:Option HO→Prop
 | some (.lst _)=>True
 | some (.dK _)=>True
 | some (.dT _)=>True
 | some (.set _ _)=>True
 | some (.ins _ _ _)=>True
 | some (.ext _)=>True
 | _=>False
section
variable {P:Program} {w:World} {H:Hp} {h h':Heap} {x e:Addr} {o':HO}
theorem HOk.write (ok:HOk P w H h) (mu:Mut (H x)) (he:e = x∨H e = some (.own x)) (k:∀ b u,b≠e→h.get? b = some u→h'.get? b = some u) (heo:∃ u,h'.get? e = some u)
  (new:ObjOk P w (upd H x o') h' x o'):HOk P w (upd H x o') h':=fun b u q=>by
 have nown:∀ c y,H c = some (.own y)→c≠x:=fun c y r z=>by subst z; rw [r] at mu; exact mu
 have ntup:∀ c xs,H c = some (.tup xs)→c≠x:=fun c xs r z=>by subst z; rw [r] at mu; exact mu
 by_cases hb:b = x
 ·subst hb; rw [upd_same] at q; cases q; exact new
 ·rw [upd_ne hb] at q
  by_cases hbe:b = e
  ·have q':H b = some (.own x):=by
    rcases he with z | z
    ·exact absurd (hbe.trans z) hb
    ·rw [hbe]; exact z
   rw [q] at q'; cases q'
   obtain⟨v,hv⟩:=heo
   exact⟨v,by rw [hbe]; exact hv⟩
  ·refine (ok b u q).stay (fun c v hc r=>k c v ?_ r) (fun c r=>by rw [upd_ne (nown c b r)]; exact r) fun c xs r=>by rw [upd_ne (ntup c xs r)]; exact r
   rcases hc with rfl | hc
   ·exact hbe
   ·rintro rfl
    rcases he with z | z
    ·exact nown c b hc z
    ·rw [hc] at z; cases z; exact hb rfl
end
structure Un (fs ex:List Addr) (H H':Hp) (h h':Heap):Prop where
 keep:∀ b o,h.get? b = some o→H b = none→b ∉ fs→b ∉ ex→h'.get? b = some o
 slot:∀ b o,h.get? b = some o→H b = none→b∈fs→b ∉ ex→∃ sl,h'.get? b = some { o with slots:=sl }
 free:∀ b o,h.get? b = some o→H b = none→b ∉ ex→H' b = none
 there:∀ b o,h.get? b = some o→b ∉ ex→∃ o',h'.get? b = some o'
 tups:∀ b xs,H b = some (.tup xs)→H' b = some (.tup xs)
 frzs:∀ b o u,H b = some (.frz o u)→H' b = some (.frz o u)
 tbls:∀ b ps,H b = some (.tbl ps)→∃ more,H' b = some (.tbl (ps ++ more))
section
variable {fs fs' ex ex':List Addr} {H H1 H2:Hp} {h h1 h2 h':Heap} {a x e:Addr} {o:HO}
theorem Un.any (u:Un fs ex H H1 h h1) {b:Addr} {ob:Obj} (q:h.get? b = some ob) (n:H b = none) (hx:b ∉ ex):∃ sl,h1.get? b = some { ob with slots:=sl }:=by
 by_cases hb:b∈fs
 ·exact u.slot b ob q n hb hx
 ·exact⟨ob.slots,u.keep b ob q n hb hx⟩
theorem Un.trans (a:Un fs ex H H1 h h1) (b:Un fs ex H1 H2 h1 h2):Un fs ex H H2 h h2 where
 keep:=fun c ob q n hc hx=>b.keep c ob (a.keep c ob q n hc hx) (a.free c ob q n hx) hc hx
 slot:=fun c ob q n hc hx=>by
  obtain⟨sl,e1⟩:=a.slot c ob q n hc hx
  obtain⟨sl',e2⟩:=b.slot c _ e1 (a.free c ob q n hx) hc hx
  exact⟨sl',e2⟩
 free:=fun c ob q n hx=>by
  obtain⟨o',e1⟩:=a.there c ob q hx
  exact b.free c o' e1 (a.free c ob q n hx) hx
 there:=fun c ob q hx=>by
  obtain⟨o',e1⟩:=a.there c ob q hx
  exact b.there c o' e1 hx
 tups:=fun c xs q=>b.tups c xs (a.tups c xs q)
 frzs:=fun c ob xs q=>b.frzs c ob xs (a.frzs c ob xs q)
 tbls:=fun c ps q=>by
  obtain⟨m1,e1⟩:=a.tbls c ps q
  obtain⟨m2,e2⟩:=b.tbls c _ e1
  exact⟨m1 ++ m2,by rw [e2,Array.append_assoc]⟩
theorem Un.kept (k:∀ b u,h.get? b = some u→h'.get? b = some u):Un fs ex H H h h' :=
 ⟨fun b ob q _ _ _=>k b ob q,fun b ob q _ _ _=>⟨ob.slots,k b ob q⟩,fun _ _ _ n _=>n,fun b ob q _=>⟨ob,k b ob q⟩,fun _ _ q=>q,fun _ _ _ q=>q,fun _ ps q=>⟨#[],by rw [q]; simp⟩⟩
theorem Un.refl:Un fs ex H H h h:=Un.kept fun _ _ q=>q
theorem Un.laid (k:∀ b u,h.get? b = some u→h'.get? b = some u) (hp:h.objs.size≤a) (hn:H a = none):Un fs ex H (upd H a o) h h' where
 keep:=fun b u q _ _ _=>k b u q
 slot:=fun b u q _ _ _=>⟨u.slots,k b u q⟩
 free:=fun b u q n _=>by rw [upd_ne (Nat.ne_of_lt (Nat.lt_of_lt_of_le (Heap.lt_size q) hp))]; exact n
 there:=fun b u q _=>⟨u,k b u q⟩
 tups:=fun b xs q=>by rw [upd_ne (ne_of_none q hn)]; exact q
 frzs:=fun b u xs q=>by rw [upd_ne (ne_of_none q hn)]; exact q
 tbls:=fun b ps q=>⟨#[],by rw [upd_ne (ne_of_none q hn),q]; simp⟩
theorem Un.write (mu:Mut (H x)) (he:e = x∨H e = some (.own x)) (k:∀ b u,b≠e→h.get? b = some u→h'.get? b = some u) (heo:∃ u,h'.get? e = some u):Un fs ex H (upd H x o) h h':=by
 have hx:∀ b,H b = none→b≠x:=fun b n z=>by subst z; rw [n] at mu; exact mu
 have hb:∀ b,H b = none→b≠e:=fun b n z=>by
  subst z
  rcases he with r | r
  ·exact hx b n r
  ·rw [n] at r; cases r
 have hm:∀ b u,H b = some u→¬ Mut (some u)→b≠x:=fun b u q nm z=>by subst z; rw [q] at mu; exact nm mu
 refine⟨fun b u q n _ _=>k b u (hb b n) q,fun b u q n _ _=>⟨u.slots,k b u (hb b n) q⟩,fun b u q n _=>by rw [upd_ne (hx b n)]; exact n,fun b u q _=>?_,
  fun b xs q=>by rw [upd_ne (hm b _ q fun z=>z)]; exact q,fun b u xs q=>by rw [upd_ne (hm b _ q fun z=>z)]; exact q,fun b ps q=>⟨#[],by rw [upd_ne (hm b _ q fun z=>z),q]; simp⟩⟩
 by_cases hbe:b = e
 ·subst hbe; exact heo
 ·exact⟨u,k b u hbe q⟩
end
def trk (h:Heap) (H:Hp):List Addr:=(List.range h.objs.size).filter fun a=>(H a).isSome
def hidT (h:Heap) (H:Hp):Heap:=PySem.W.hideAll h (trk h H)
theorem hidT_size (h:Heap) (H:Hp):(hidT h H).objs.size = h.objs.size:=PySem.W.hideAll_size _ _
theorem hidT_get {h:Heap} {H:Hp} {b:Addr} {o:Obj} (e:h.get? b = some o) (n:H b = none):(hidT h H).get? b = some o :=
 PySem.W.hideAll_get _ e fun hm=>by
  have q:(H b).isSome = true:=(List.mem_filter.mp hm).2
  rw [n] at q; simp at q
theorem of_hidT {h:Heap} {H:Hp} {b:Addr} {o:Obj} (e:(hidT h H).get? b = some o):h.get? b = some o∧H b = none:=by
 have e':h.get? b = some o:=PySem.W.of_hideAll (trk h H) e
 refine⟨e',?_⟩
 cases q:H b with
 | none=>rfl
 | some x =>
  have hm:b∈trk h H:=List.mem_filter.mpr ⟨List.mem_range.mpr (Heap.lt_size e'),by simp [q]⟩
  have z:(hidT h H).get? b = none:=PySem.W.hideAll_none (trk h H) hm
  rw [z] at e; cases e
end L2
namespace L2
open PySem PySem.Spec PyProof.Rows
structure Mod (K:PySem.W.Frag) (mg:Str→Option Value) (base:Heap):Prop where
 kin:K.In base
 glob:base.Ns mainGlobals mg
 blt:∃ mb,base.Ns builtinsNs mb∧∀ x:Str,x≠"__name__"→mb x = bootBuiltins x
 nolimit:base.NoLimit
structure Cx where
 prog:Program
 w:World
 K:PySem.W.Frag
 mg:Str→Option Value
 base:Heap
 A:Around
 N:List Str
 s₀:Shared
 H₀:Hp
 env:Env
 outer:List Env
 stack:List Env
 ex:List Addr
 fn:Str→Bool
 calm:Bool
 pn:List (Addr × Obj)
 xe:Value→Shared→Prop
def frs (l:List Env):List Addr:=l.filterMap (·.frame)
abbrev Cx.fs (X:Cx):List Addr:=frs X.outer
def Vis (sc:Scope) (x:Str):Prop:=sc.names.lookup x = some .local∨sc.names.lookup x = some .cell∨sc.names.lookup x = some .free
def Loc (sc:Scope) (x:Str):Prop:=sc.names.lookup x = some .local∨sc.names.lookup x = some .cell
def Look (env:Env) (h:Heap) (m:Str→Option Value) (x:Str) (u:Value):Prop :=
 (env.kindOf x = some .local∧m x = some u)∨((env.kindOf x = some .cell∨env.kindOf x = some .free)∧∃ c,env.cells.lookup x = some c∧h.IsCell c (some u))
structure Cx.Ok (X:Cx):Prop where
 mod:Mod X.K X.mg X.base
 kind:X.env.scope.kind = .function
 glob:X.env.globals = mainGlobals
 blt:X.env.builtins = builtinsNs
 above:X.s₀.heap.objs.size≤X.env.locals
 inj:∀ x y c,X.env.cells.lookup x = some c→X.env.cells.lookup y = some c→x = y
 has:∀ x,(X.env.kindOf x = some .cell∨X.env.kindOf x = some .free)→∃ c,X.env.cells.lookup x = some c
 cab:∀ x c,X.fn x = true→X.env.cells.lookup x = some c→X.s₀.heap.objs.size≤c
 hd:X.calm = true→X.A.handled = none
 frames:X.A.frames = some X.stack
 stk:X.stack = X.outer∨(X.stack = X.env :: X.outer∧X.env.frame = some X.env.locals)
 exf:∀ b∈X.ex,b≠X.env.locals∧∀ x c,X.env.cells.lookup x = some c→c≠b
 bs:∀ b o,X.base.get? b = some o→X.s₀.heap.get? b = some o∧X.H₀ b = none
 bsz:X.base.objs.size≤X.s₀.heap.objs.size
 noex:∀ b o,X.base.get? b = some o→b ∉ X.ex
 exfs:∀ b∈X.ex,b ∉ X.fs
 funs:X.s₀.heap.FunFrames X.base X.outer
 frf:∀ b∈X.fs,X.H₀ b = none
structure Inv (X:Cx) (pins:List (Addr × Obj)) (σ:List (Option V)) (H:Hp) (s:Shared):Prop where
 ok:X.Ok
 os:s.os = X.s₀.os
 bare:AllBare s.gens
 base:Un X.fs X.ex X.H₀ H X.s₀.heap s.heap
 loc:∃ m,s.heap.Ns X.env.locals m∧∀ (i:Nat) (x:Str) (v:V),X.N[i]? = some x→σ[i]? = some (some v)→Vis X.env.scope x→∃ u,RelV v u∧Look X.env s.heap m x u
 cell:∀ x c,X.env.cells.lookup x = some c→∃ v,s.heap.IsCell c v
 free:H X.env.locals = none
 freeC:∀ x c,X.env.cells.lookup x = some c→H c = none
 pin:∀ p∈X.pn ++ pins,s.heap.get? p.1 = some p.2∧H p.1 = none∧p.1≠X.env.locals∧p.1 ∉ X.fs∧∀ v,p.2.data≠.cell v
 hok:HOk X.prog X.w H s.heap
 len:σ.length = X.N.length
section
variable {X:Cx} {pins:List (Addr × Obj)} {σ:List (Option V)} {H H':Hp} {s:Shared} {h':Heap}
theorem Cx.Ok.nofr (ok:X.Ok) {b:Addr} {o:Obj} (e:X.base.get? b = some o):b ∉ X.fs:=fun hb=>by
 have:=(ok.funs.mem hb).1
 rw [e] at this; cases this
theorem Inv.bs (I:Inv X pins σ H s):∀ b o,X.base.get? b = some o→s.heap.get? b = some o∧H b = none:=fun b o e =>
 ⟨I.base.keep b o (I.ok.bs b o e).1 (I.ok.bs b o e).2 (I.ok.nofr e) (I.ok.noex b o e),I.base.free b o (I.ok.bs b o e).1 (I.ok.bs b o e).2 (I.ok.noex b o e)⟩
theorem Inv.bk (I:Inv X pins σ H s):∀ b o,X.base.get? b = some o→s.heap.get? b = some o:=fun b o e=>(I.bs b o e).1
theorem Inv.mod (I:Inv X pins σ H s):Mod X.K X.mg X.base:=I.ok.mod
theorem Inv.kIn (I:Inv X pins σ H s):X.K.In s.heap:=I.ok.mod.kin.keeps I.bk
theorem Inv.lt (I:Inv X pins σ H s):X.env.locals < s.heap.objs.size:=let ⟨_,hn,_⟩:=I.loc; hn.lt
theorem Inv.sz (I:Inv X pins σ H s):X.s₀.heap.objs.size≤s.heap.objs.size:=Nat.le_trans I.ok.above (Nat.le_of_lt I.lt)
theorem Inv.nofs (I:Inv X pins σ H s) {a:Addr} (h:s.heap.objs.size≤a):a ∉ X.fs:=fun hb=>by
 obtain⟨_,o,ho,_⟩:=I.ok.funs.mem hb
 exact absurd (Nat.lt_of_lt_of_le (Heap.lt_size ho) (Nat.le_trans I.sz h)) (Nat.lt_irrefl _)
theorem Inv.cne (I:Inv X pins σ H s):∀ x c,X.env.cells.lookup x = some c→c≠X.env.locals:=fun x c e z=>by
 obtain⟨v,o,ho,hd⟩:=I.cell x c e
 obtain⟨m,⟨o',es,ep,ho',hd',_⟩,_⟩:=I.loc
 rw [z,ho'] at ho; cases ho; rw [hd'] at hd; cases hd
theorem Inv.funs (I:Inv X pins σ H s):s.heap.FunFrames X.base X.outer:=by
 have all:∀ (l:List Env),(∀ b∈frs l,b∈X.fs)→X.s₀.heap.FunFrames X.base l→s.heap.FunFrames X.base l:=by
  intro l
  induction l with
  | nil=>intro _ _; trivial
  | cons env r ih =>
   intro hs hl
   obtain⟨hk,⟨L,o,hf,hn,ho,hd⟩,hr⟩:=hl
   have hL:L∈X.fs:=hs L (by unfold frs; rw [List.filterMap_cons,hf]; exact List.mem_cons_self)
   obtain⟨sl,e⟩:=I.base.slot L o ho (I.ok.frf L hL) hL fun z=>I.ok.exfs L z hL
   exact⟨hk,⟨L,_,hf,hn,e,hd⟩,ih (fun b hb=>hs b (by unfold frs; rw [List.filterMap_cons,hf]; exact List.mem_cons_of_mem _ hb)) hr⟩
 exact all X.outer (fun _ hb=>hb) I.ok.funs
theorem Inv.stack (I:Inv X pins σ H s):s.heap.FunFrames X.base X.stack:=by
 rcases I.ok.stk with e | ⟨e,hf⟩
 ·rw [e]; exact I.funs
 ·rw [e]
  obtain⟨m,hn,_⟩:=I.loc
  refine .cons (by rw [I.ok.kind]; decide) hf hn ?_ I.funs
  exact Heap.get?_none_of_le (Nat.le_trans I.ok.bsz I.ok.above)
theorem Inv.stkSub (I:Inv X pins σ H s):∀ b∈frs X.stack,b∈X.env.locals :: X.fs:=fun b hb=>by
 rcases I.ok.stk with e | ⟨e,hf⟩
 ·rw [e] at hb; exact List.mem_cons_of_mem _ hb
 ·rw [e] at hb
  unfold frs at hb
  rw [List.filterMap_cons,hf] at hb
  exact hb
theorem Inv.stkFree (I:Inv X pins σ H s):∀ b∈frs X.stack,H b = none:=fun b hb=>by
 rcases List.mem_cons.mp (I.stkSub b hb) with e | hb
 ·rw [e]; exact I.free
 ·obtain⟨_,o,ho,_⟩:=I.ok.funs.mem hb
  exact I.base.free b o ho (I.ok.frf b hb) fun z=>I.ok.exfs b z hb
theorem Inv.step {g':Array GenState} {t':Nat} {d':Drawn} {ch:List Addr} (I:Inv X pins σ H s)
  (hch:∀ b∈ch,(b∈X.ex∨X.s₀.heap.objs.size≤b)∧b≠X.env.locals∧(∀ x c,X.env.cells.lookup x = some c→c≠b)∧∀ p∈X.pn ++ pins,p.1≠b)
  (keep:∀ b o,b≠X.env.locals→b ∉ X.fs→b ∉ ch→s.heap.get? b = some o→H b = none→h'.get? b = some o)
  (slot:∀ b o,b≠X.env.locals→b∈X.fs→b ∉ ch→s.heap.get? b = some o→H b = none→∃ sl,h'.get? b = some { o with slots:=sl }) (free:∀ b o,b ∉ ch→s.heap.get? b = some o→H b = none→H' b = none)
  (there:∀ b o,b ∉ ch→s.heap.get? b = some o→∃ o',h'.get? b = some o')
  (tups:∀ b xs,H b = some (.tup xs)→H' b = some (.tup xs)) (frzs:∀ b o u,H b = some (.frz o u)→H' b = some (.frz o u)) (tbls:∀ b ps,H b = some (.tbl ps)→∃ more,H' b = some (.tbl (ps ++ more)))
  (ns:∀ m,s.heap.Ns X.env.locals m→h'.Ns X.env.locals m) (hok:HOk X.prog X.w H' h') (hg:AllBare g') :
  Inv X pins σ H' { s with heap:=h',gens:=g',drawn:=d',toks:=t' }:=by
 have neL:∀ b o,X.s₀.heap.get? b = some o→b≠X.env.locals:=fun b o e=>Nat.ne_of_lt (Nat.lt_of_lt_of_le (Heap.lt_size e) I.ok.above)
 have neC:∀ b o,X.s₀.heap.get? b = some o→b ∉ X.ex→b ∉ ch:=fun b o e hx hb=>by
  rcases (hch b hb).1 with z | z
  ·exact hx z
  ·exact absurd (Nat.lt_of_lt_of_le (Heap.lt_size e) z) (Nat.lt_irrefl _)
 have cellK:∀ x c,X.env.cells.lookup x = some c→∀ v,s.heap.IsCell c v→h'.IsCell c v:=fun x c e v ⟨o,ho,hd⟩=>by
  have nch:c ∉ ch:=fun z=>(hch c z).2.2.1 x c e rfl
  by_cases hc:c∈X.fs
  ·obtain⟨sl,q⟩:=slot c o (I.cne x c e) hc nch ho (I.freeC x c e)
   exact⟨_,q,hd⟩
  ·exact⟨o,keep c o (I.cne x c e) hc nch ho (I.freeC x c e),hd⟩
 refine⟨I.ok,I.os,hg,⟨fun b o e n hb hx=>?_,fun b o e n hb hx=>?_,fun b o e n hx=>?_,fun b o e hx=>?_,fun b xs e=>tups b xs (I.base.tups b xs e),fun b o xs e=>frzs b o xs (I.base.frzs b o xs e),fun b ps e=>?_⟩,?_,fun x c e=>?_,?_,fun x c e=>?_,fun p hp=>?_,hok,I.len⟩
 ·exact keep b o (neL b o e) hb (neC b o e hx) (I.base.keep b o e n hb hx) (I.base.free b o e n hx)
 ·obtain⟨sl,e1⟩:=I.base.slot b o e n hb hx
  obtain⟨sl',e2⟩:=slot b _ (neL b o e) hb (neC b o e hx) e1 (I.base.free b o e n hx)
  exact⟨sl',e2⟩
 ·obtain⟨o',e1⟩:=I.base.there b o e hx
  exact free b o' (neC b o e hx) e1 (I.base.free b o e n hx)
 ·obtain⟨o',e1⟩:=I.base.there b o e hx
  exact there b o' (neC b o e hx) e1
 ·obtain⟨m1,e1⟩:=I.base.tbls b ps e
  obtain⟨m2,e2⟩:=tbls b _ e1
  exact⟨m1 ++ m2,by rw [e2,Array.append_assoc]⟩
 ·obtain⟨m,hn,hl⟩:=I.loc
  refine⟨m,ns m hn,fun i x v e1 e2 e3=>?_⟩
  obtain⟨u,r,l⟩:=hl i x v e1 e2 e3
  refine⟨u,r,?_⟩
  rcases l with l | ⟨k,c,e,z⟩
  ·exact .inl l
  ·exact .inr ⟨k,c,e,cellK x c e _ z⟩
 ·obtain⟨v,z⟩:=I.cell x c e
  exact⟨v,cellK x c e v z⟩
 ·obtain⟨m,⟨o,_,_,ho,_⟩,_⟩:=I.loc
  exact free _ o (fun z=>(hch _ z).2.1 rfl) ho I.free
 ·obtain⟨v,o,ho,hd⟩:=I.cell x c e
  exact free c o (fun z=>(hch c z).2.2.1 x c e rfl) ho (I.freeC x c e)
 ·obtain⟨e,n,ne,nf,d⟩:=I.pin p hp
  have nch:p.1 ∉ ch:=fun z=>(hch p.1 z).2.2.2 p hp rfl
  exact⟨keep p.1 p.2 ne nf nch e n,free p.1 p.2 nch e n,ne,nf,d⟩
theorem Inv.un {t':Nat} (I:Inv X pins σ H s) (u:Un X.fs [] H H' s.heap h') (hok:HOk X.prog X.w H' h'):Inv X pins σ H' { s with heap:=h',toks:=t' }:=by
 obtain⟨m,⟨o,es,ep,ho,r⟩,_⟩:=id I.loc
 obtain⟨sl,hL⟩:=u.any ho I.free (by simp)
 exact I.step (g':=s.gens) (d':=s.drawn) (ch:=[]) (fun _ z=>nomatch z) (fun b o _ hb _ e n=>u.keep b o e n hb (by simp)) (fun b o _ hb _ e n=>u.slot b o e n hb (by simp)) (fun b o _ e n=>u.free b o e n (by simp)) (fun b o _ e=>u.there b o e (by simp)) u.tups u.frzs u.tbls (fun m' hm=>by
  obtain⟨o',es',ep',ho',r'⟩:=hm
  rw [ho] at ho'; cases ho'
  exact⟨_,es',ep',hL,r'⟩) hok I.bare
theorem Inv.call {g':Array GenState} {t':Nat} {d':Drawn} {ch:List Addr} (I:Inv X pins σ H s) (u:Un (frs X.stack) ch H H' s.heap h') (hok:HOk X.prog X.w H' h') (hg:AllBare g')
  (hch:∀ b∈ch,(b∈X.ex∨X.s₀.heap.objs.size≤b)∧b≠X.env.locals∧(∀ x c,X.env.cells.lookup x = some c→c≠b)∧∀ p∈X.pn ++ pins,p.1≠b) :
  Inv X pins σ H' { s with heap:=h',gens:=g',drawn:=d',toks:=t' }:=by
 obtain⟨m,⟨o,es,ep,ho,r⟩,_⟩:=id I.loc
 obtain⟨sl,hL⟩:=u.any ho I.free fun z=>(hch _ z).2.1 rfl
 exact I.step (ch:=ch) hch (fun b o hL hb hc e n=>u.keep b o e n (fun z=>(List.mem_cons.mp (I.stkSub b z)).elim hL hb) hc) (fun b o _ _ hc e n=>u.any e n hc) (fun b o hc e n=>u.free b o e n hc) (fun b o hc e=>u.there b o e hc) u.tups u.frzs u.tbls (fun m' hm=>by
  obtain⟨o',es',ep',ho',r'⟩:=hm
  rw [ho] at ho'; cases ho'
  exact⟨_,es',ep',hL,r'⟩) hok hg
theorem Inv.turned {t':Nat} {it:Addr} (I:Inv X pins σ H s) (k:∀ b o,b≠it→s.heap.get? b = some o→h'.get? b = some o) (hn:H it = none) (hL:it≠X.env.locals)
  (h1:it∈X.ex∨X.s₀.heap.objs.size≤it) (h2:∀ x c,X.env.cells.lookup x = some c→c≠it) (h3:∀ p∈X.pn ++ pins,p.1≠it):Inv X pins σ H { s with heap:=h',toks:=t' }:=by
 have nit:∀ b u,H b = some u→b≠it:=fun b u e z=>by rw [z,hn] at e; cases e
 refine I.step (g':=s.gens) (d':=s.drawn) (ch:=[it]) (fun b hb=>?_) (fun b o _ _ hc e _=>k b o (fun z=>hc (by simp [z])) e) (fun b o _ _ hc e _=>⟨o.slots,k b o (fun z=>hc (by simp [z])) e⟩) (fun _ _ _ _ n=>n)
  (fun b o hc e=>⟨o,k b o (fun z=>hc (by simp [z])) e⟩) (fun _ _ e=>e) (fun _ _ _ e=>e) (fun b ps e=>⟨#[],by rw [e]; simp⟩) (fun m hm=>?_) (fun b u e=>?_) I.bare
 ·have e:b = it:=by simpa using hb
  subst e
  exact⟨h1,hL,h2,h3⟩
 ·obtain⟨o,es,ep,ho,r⟩:=hm
  exact⟨o,es,ep,k _ o (Ne.symm hL) ho,r⟩
 ·refine (I.hok b u e).stay (fun c v hc q=>k c v ?_ q) (fun _ q=>q) fun _ _ q=>q
  rcases hc with z | z
  ·rw [z]; exact nit b u e
  ·exact nit c _ z
theorem Inv.tok (I:Inv X pins σ H s) (t:Nat):Inv X pins σ H { s with toks:=t }:=I.un (h':=s.heap) (t':=t) Un.refl I.hok
theorem Inv.kept {t':Nat} (I:Inv X pins σ H s) (k:∀ b u,s.heap.get? b = some u→h'.get? b = some u):Inv X pins σ H { s with heap:=h',toks:=t' }:=I.un (Un.kept k) (I.hok.kept k)
theorem Inv.laid {a:Addr} {o:HO} {t':Nat} (I:Inv X pins σ H s) (k:∀ b u,s.heap.get? b = some u→h'.get? b = some u) (hp:s.heap.objs.size≤a) (new:ObjOk X.prog X.w (upd H a o) h' a o) :
  Inv X pins σ (upd H a o) { s with heap:=h',toks:=t' }:=I.un (Un.laid k hp (I.hok.fresh hp)) (I.hok.laid k hp new)
theorem Inv.write {x e:Addr} {o:HO} {t':Nat} (I:Inv X pins σ H s) (mu:Mut (H x)) (he:e = x∨H e = some (.own x)) (k:∀ b u,b≠e→s.heap.get? b = some u→h'.get? b = some u) (heo:∃ u,h'.get? e = some u)
  (new:ObjOk X.prog X.w (upd H x o) h' x o):Inv X pins σ (upd H x o) { s with heap:=h',toks:=t' }:=I.un (Un.write mu he k heo) (I.hok.write mu he k heo new)
theorem Inv.weak {σ':List (Option V)} (I:Inv X pins σ H s) (hl:σ'.length = σ.length) (w:∀ (i:Nat) v,σ'[i]? = some (some v)→σ[i]? = some (some v)):Inv X pins σ' H s :=
 ⟨I.ok,I.os,I.bare,I.base,let ⟨m,hn,hl'⟩:=I.loc; ⟨m,hn,fun i x v e1 e2 e3=>hl' i x v e1 (w i v e2) e3⟩,I.cell,I.free,I.freeC,I.pin,I.hok,hl.trans I.len⟩
theorem Inv.pins_of {pins':List (Addr × Obj)} (I:Inv X pins σ H s) (h:∀ p∈pins',s.heap.get? p.1 = some p.2∧H p.1 = none∧p.1≠X.env.locals∧p.1 ∉ X.fs∧∀ v,p.2.data≠.cell v):Inv X pins' σ H s :=
 ⟨I.ok,I.os,I.bare,I.base,I.loc,I.cell,I.free,I.freeC,fun p hp=>(List.mem_append.mp hp).elim (fun z=>I.pin p (List.mem_append_left _ z)) (h p),I.hok,I.len⟩
theorem nodup_ix {N:List Str} (hN:N.Nodup) {i j:Nat} {x:Str} (a:N[i]? = some x) (b:N[j]? = some x):i = j:=by
 obtain⟨h1,e1⟩:=List.getElem?_eq_some_iff.mp a
 obtain⟨h2,e2⟩:=List.getElem?_eq_some_iff.mp b
 exact (List.getElem_inj hN).mp (e1.trans e2.symm)
theorem store_ok2 {M:Model} {A:Around} {E:Value→Shared→Prop} {i:Nat} {x:Str} {v:V} {u:Value} {Q:Unit→Shared→Prop} (I:Inv X pins σ H s) (hN:X.N.Nodup) (hi:X.N[i]? = some x) (hx:Loc X.env.scope x) (r:RelV v u)
  (h:∀ s',Inv X pins (σ.set i (some v)) H s'→(∃ a,Heap.SameBut a s.heap s'.heap∧(a = X.env.locals∨X.env.cells.lookup x = some a))→Q () s') (hf:X.fn x = true∨X.env.scope.names.lookup x = some .local:=by first | exact .inl rfl | exact .inr rfl | assumption):wpAny M A (storeName X.env x u) Q E s:=by
 obtain⟨m,hn,hl⟩:=id I.loc
 have hcls:(X.env.scope.kind == .class || (X.env.scope.kind == .module && X.env.locals != X.env.globals)) = false:=by rw [I.ok.kind]; rfl
 have hiσ:i < σ.length:=by rw [I.len]; exact (List.getElem?_eq_some_iff.mp hi).1
 have cne:=I.cne
 have tracked:∀ {a:Addr} {h':Heap},(∃ o,s.heap.get? a = some o∧H a = none)→Heap.SameBut a s.heap h'→HOk X.prog X.w H h':=fun {a h'} ha hs b ob e=>by
  obtain⟨_,_,hfree⟩:=ha
  refine (I.hok b ob e).stay (fun c w' hc q=>(hs.2 c ?_).trans q) (fun _ q=>q) fun _ _ q=>q
  rintro rfl
  rcases hc with rfl | hc
  ·rw [hfree] at e; cases e
  ·rw [hfree] at hc; cases hc
 rcases hx with hk | hk
 ·refine wpAny_storeName_local hk hn (fun h' hn' hs=>?_) hcls
  obtain⟨oL,_,_,hoL,_⟩:=id hn
  refine h _ ⟨I.ok,I.os,I.bare,⟨fun b o e n hb hx=>?_,fun b o e n hb hx=>?_,I.base.free,fun b o e hx=>?_,I.base.tups,I.base.frzs,I.base.tbls⟩,⟨_,hn',fun j y v' e1 e2 e3=>?_⟩,fun y c e=>?_,I.free,I.freeC,fun p hp=>?_,tracked ⟨oL,hoL,I.free⟩ hs,by simpa using I.len⟩ ⟨_,hs,.inl rfl⟩
  ·exact (hs.2 b (Nat.ne_of_lt (Nat.lt_of_lt_of_le (Heap.lt_size e) I.ok.above))).trans (I.base.keep b o e n hb hx)
  ·obtain⟨sl,e1⟩:=I.base.slot b o e n hb hx
   exact⟨sl,(hs.2 b (Nat.ne_of_lt (Nat.lt_of_lt_of_le (Heap.lt_size e) I.ok.above))).trans e1⟩
  ·obtain⟨o',e1⟩:=I.base.there b o e hx
   exact⟨o',(hs.2 b (Nat.ne_of_lt (Nat.lt_of_lt_of_le (Heap.lt_size e) I.ok.above))).trans e1⟩
  ·by_cases hj:j = i
   ·subst hj
    rw [hi] at e1; cases e1
    rw [List.getElem?_set_self hiσ] at e2
    cases e2
    exact⟨u,r,.inl ⟨hk,by simp⟩⟩
   ·rw [List.getElem?_set_ne (Ne.symm hj)] at e2
    obtain⟨u',r',q⟩:=hl j y v' e1 e2 e3
    refine⟨u',r',?_⟩
    rcases q with ⟨k,e⟩ | ⟨k,c,e,z⟩
    ·refine .inl ⟨k,?_⟩
     have:y≠x:=fun e=>hj (nodup_ix hN e1 (e ▸ hi))
     simp [this,e]
    ·exact .inr ⟨k,c,e,z.sameBut hs (cne y c e)⟩
  ·obtain⟨w',z⟩:=I.cell y c e
   exact⟨w',z.sameBut hs (cne y c e)⟩
  ·obtain⟨e,n,ne,nf,d⟩:=I.pin p hp
   exact⟨(hs.2 p.1 ne).trans e,n,ne,nf,d⟩
 ·have hfn:X.fn x = true:=by
   rcases hf with z | z
   ·exact z
   ·rw [z] at hk; cases hk
  obtain⟨c,hc⟩:=I.ok.has x (.inl hk)
  obtain⟨w',z⟩:=I.cell x c hc
  refine wpAny_storeName_cell I.ok.kind hk hc z (fun h' hc' hs=>?_)
  obtain⟨oc,hoc,hocd⟩:=id z
  refine h { s with heap:=h' } ⟨I.ok,I.os,I.bare,⟨fun b o e n hb hx=>?_,fun b o e n hb hx=>?_,I.base.free,fun b o e hx=>?_,I.base.tups,I.base.frzs,I.base.tbls⟩,⟨m,hn.sameBut hs (Ne.symm (cne x c hc)),fun j y v' e1 e2 e3=>?_⟩,fun y c' e=>?_,I.free,I.freeC,fun p hp=>?_,tracked ⟨oc,hoc,I.freeC x c hc⟩ hs,by simpa using I.len⟩ ⟨c,hs,.inr hc⟩
  ·exact (hs.2 b (Nat.ne_of_lt (Nat.lt_of_lt_of_le (Heap.lt_size e) (I.ok.cab x c hfn hc)))).trans (I.base.keep b o e n hb hx)
  ·obtain⟨sl,e1⟩:=I.base.slot b o e n hb hx
   exact⟨sl,(hs.2 b (Nat.ne_of_lt (Nat.lt_of_lt_of_le (Heap.lt_size e) (I.ok.cab x c hfn hc)))).trans e1⟩
  ·obtain⟨o',e1⟩:=I.base.there b o e hx
   exact⟨o',(hs.2 b (Nat.ne_of_lt (Nat.lt_of_lt_of_le (Heap.lt_size e) (I.ok.cab x c hfn hc)))).trans e1⟩
  ·by_cases hj:j = i
   ·subst hj
    rw [hi] at e1; cases e1
    rw [List.getElem?_set_self hiσ] at e2
    cases e2
    exact⟨u,r,.inr ⟨.inl hk,c,hc,hc'⟩⟩
   ·rw [List.getElem?_set_ne (Ne.symm hj)] at e2
    obtain⟨u',r',q⟩:=hl j y v' e1 e2 e3
    refine⟨u',r',?_⟩
    rcases q with q | ⟨k,c',e,z'⟩
    ·exact .inl q
    ·refine .inr ⟨k,c',e,z'.sameBut hs ?_⟩
     rintro rfl
     exact hj (nodup_ix hN e1 (I.ok.inj _ _ _ e hc ▸ hi))
  ·by_cases hcc:c' = c
   ·subst hcc; exact⟨_,hc'⟩
   ·obtain⟨w2,z2⟩:=I.cell y c' e
    exact⟨w2,z2.sameBut hs hcc⟩
  ·obtain⟨e,n,ne,nf,d⟩:=I.pin p hp
   refine⟨(hs.2 p.1 ?_).trans e,n,ne,nf,d⟩
   intro q
   rw [q,hoc] at e
   have q':oc = p.2:=Option.some.inj e
   exact d w' (by rw [← q']; exact hocd)
theorem store_ok {M:Model} {A:Around} {E:Value→Shared→Prop} {i:Nat} {x:Str} {v:V} {u:Value} {Q:Unit→Shared→Prop} (I:Inv X pins σ H s) (hN:X.N.Nodup) (hi:X.N[i]? = some x) (hx:Loc X.env.scope x) (r:RelV v u)
  (h:∀ s',Inv X pins (σ.set i (some v)) H s'→Q () s') (hf:X.fn x = true∨X.env.scope.names.lookup x = some .local:=by first | exact .inl rfl | exact .inr rfl | assumption):wpAny M A (storeName X.env x u) Q E s :=
 store_ok2 I hN hi hx r (fun s' I' _=>h s' I') hf
theorem Inv.call' {s':Shared} {ch:List Addr} (I:Inv X pins σ H s) (ho:s'.os = s.os) (u:Un (frs X.stack) ch H H' s.heap s'.heap) (hok:HOk X.prog X.w H' s'.heap) (hg:AllBare s'.gens)
  (hch:∀ b∈ch,(b∈X.ex∨X.s₀.heap.objs.size≤b)∧b≠X.env.locals∧(∀ x c,X.env.cells.lookup x = some c→c≠b)∧∀ p∈X.pn ++ pins,p.1≠b):Inv X pins σ H' s':=by
 obtain⟨h',g',d',t',o'⟩:=s'
 have e:o' = s.os:=ho
 subst e
 exact I.call (g':=g') (t':=t') (d':=d') u hok hg hch
end
abbrev XK:=Value→Option Addr→Hp→Prop
abbrev St:=List (Option V)
abbrev VK:=V→Hp→Prop
abbrev TE:=St→Hp→VK→Prop
abbrev TT:=St→Hp→(Bool→Hp→Prop)→Prop
abbrev TA:=St→Hp→(List V→Hp→Prop)→Prop
structure Ends where
 nx:St→Hp→Prop
 rt:VK
 bk:St→Hp→Prop:=fun _ _=>False
 ct:St→Hp→Prop:=fun _ _=>False
abbrev TS:=Ends→St→Hp→Prop
def EP (X:Cx) (pins:List (Addr × Obj)) (σ:St) (Q:VK) (u:Value) (s':Shared):Prop:=∃ v H',Inv X pins σ H' s'∧RelV v u∧Q v H'
def TP (X:Cx) (pins:List (Addr × Obj)) (σ:St) (Q:Bool→Hp→Prop) (b:Bool) (s':Shared):Prop:=∃ H',Inv X pins σ H' s'∧Q b H'
def AP (X:Cx) (pins:List (Addr × Obj)) (σ:St) (Q:List V→Hp→Prop) (us:List Value) (s':Shared):Prop:=∃ vs H',Inv X pins σ H' s'∧Vals vs us∧Q vs H'
def SP (X:Cx) (pins:List (Addr × Obj)) (D:Ends) (f:Flow) (s':Shared):Prop :=
 match f with
 | .next=>∃ σ' H',Inv X pins σ' H' s'∧D.nx σ' H'
 | .brk=>∃ σ' H',Inv X pins σ' H' s'∧D.bk σ' H'
 | .cont=>∃ σ' H',Inv X pins σ' H' s'∧D.ct σ' H'
 | .ret u=>∃ v σ' H',Inv X pins σ' H' s'∧RelV v u∧D.rt v H'
def PE (X:Cx) (e:Expr) (t:TE):Prop :=
 ∀ (pins:List (Addr × Obj)) (s:Shared) (σ:St) (H:Hp) (Q:VK),Inv X pins σ H s→t σ H Q→wpAny (model X.prog X.w) X.A (eval e X.env) (EP X pins σ Q) X.xe s
def PT (X:Cx) (e:Expr) (t:TT):Prop :=
 ∀ (pins:List (Addr × Obj)) (s:Shared) (σ:St) (H:Hp) (Q:Bool→Hp→Prop),Inv X pins σ H s→t σ H Q→wpAny (model X.prog X.w) X.A (isTrue e X.env (eval e X.env)) (TP X pins σ Q) X.xe s
def PW (X:Cx) (e:Expr) (t:TT):Prop :=
 ∀ (whole:Sem Value) (pins:List (Addr × Obj)) (s:Shared) (σ:St) (H:Hp) (Q:Bool→Hp→Prop),Inv X pins σ H s→t σ H Q→wpAny (model X.prog X.w) X.A (isTrue e X.env whole) (TP X pins σ Q) X.xe s
theorem PW.pt {X:Cx} {e:Expr} {t:TT} (h:PW X e t):PT X e t:=h _
def PA (X:Cx) (es:List Expr) (t:TA):Prop :=
 ∀ (pos:Pos) (pins:List (Addr × Obj)) (s:Shared) (σ:St) (H:Hp) (Q:List V→Hp→Prop),Inv X pins σ H s→t σ H Q→wpAny (model X.prog X.w) X.A (spliced (backTo pos (starEach es X.env))) (AP X pins σ Q) X.xe s
def PS (X:Cx) (st:Stmt) (t:TS):Prop :=
 ∀ (pins:List (Addr × Obj)) (s:Shared) (σ:St) (H:Hp) (D:Ends),Inv X pins σ H s→t D σ H→wpAny (model X.prog X.w) X.A (exec st X.env) (SP X pins D) X.xe s
def PSs (X:Cx) (st:List Stmt) (t:TS):Prop :=
 ∀ (pins:List (Addr × Obj)) (s:Shared) (σ:St) (H:Hp) (D:Ends),Inv X pins σ H s→t D σ H→wpAny (model X.prog X.w) X.A (execs st X.env) (SP X pins D) X.xe s
theorem thn {α:Type} {t:Sem α} {Q Q':α→Shared→Prop} {M:Model} {A:Around} {E:Value→Shared→Prop} {s:Shared} (h:wpAny M A t Q E s) (hQ:∀ a s,Q a s→Q' a s):wpAny M A t Q' E s:=wpAny_mono h hQ fun _ _ x=>x
end L2
namespace L2
open PySem PySem.Spec PyProof.Rows
section
variable {X:Cx}
def tVar (i:Nat):TE:=fun σ H Q=>∃ v,σ[i]? = some (some v)∧Q v H
def tC (v:V):TE:=fun _ H Q=>Q v H
theorem pe_var {i:Nat} {x:Str} {pos:Pos} (hN:X.N[i]? = some x) (hv:Vis X.env.scope x) (hd:(x == ("__debug__":Str)) = false:=by decide) (hcd:(x == ("__classdict__":Str)) = false:=by decide):PE X (.Name x pos) (tVar i):=by
 intro pins s σ H Q I h
 obtain⟨v,e,h⟩:=h
 obtain⟨m,hn,hl⟩:=I.loc
 obtain⟨u,r,l⟩:=hl i x v hN e hv
 have fin:EP X pins σ Q u s:=⟨v,H,I,r,h⟩
 rcases l with ⟨hk,hm⟩ | ⟨hk,c,hc,hcell⟩
 ·exact wpAny_Name (wpAny_loadName_local I.ok.kind hk hn hm fin) hd
 ·rcases hk with hk | hk
  ·exact wpAny_Name (wpAny_loadName_cell I.ok.kind hk hc hcell fin) hd
  ·exact wpAny_Name (wpAny_loadName_free I.ok.kind hk hc hcell fin hcd) hd
theorem pe_int {i j pos}:PE X (.Constant (.int i) j pos) (tC (.int i)):=fun _ _ _ H _ I h=>wpAny_Constant_int ⟨.int i,H,I.tok _,⟨_,rfl⟩,h⟩
theorem pe_bl {b j pos}:PE X (.Constant (.bool b) j pos) (tC (.bl b)):=fun _ _ _ H _ I h=>Constant_bool ⟨.bl b,H,I,rfl,h⟩
theorem pe_non {j pos}:PE X (.Constant .none j pos) (tC .non):=fun _ _ _ H _ I h=>Constant_none ⟨.non,H,I,rfl,h⟩
theorem pe_str {x j pos}:PE X (.Constant (.str x) j pos) (tC (.str x)):=fun _ _ _ H _ I h=>Calls.Constant_str ⟨.str x,H,I.tok _,⟨_,rfl⟩,h⟩
def Gl (X:Cx) (x:Str):Prop:=X.env.kindOf x = some .globalImplicit
theorem ld_glob {E:Value→Shared→Prop} {pins:List (Addr × Obj)} {s:Shared} {σ:St} {H:Hp} {x:Str} {u:Value} {pos:Pos} {Q:Value→Shared→Prop} (I:Inv X pins σ H s) (hg:Gl X x) (hm:X.mg x = some u) (h:Q u s)
  (hd:(x == ("__debug__":Str)) = false:=by decide):wpAny (model X.prog X.w) X.A (eval (.Name x pos) X.env) Q E s :=
 Calls.Name_function_global I.ok.kind hg (Calls.loadGlobal_global (by rw [I.ok.glob]; exact I.mod.glob.keeps I.bk) hm h) hd
theorem ld_blt {E:Value→Shared→Prop} {pins:List (Addr × Obj)} {s:Shared} {σ:St} {H:Hp} {x:Str} {u:Value} {pos:Pos} {Q:Value→Shared→Prop} (I:Inv X pins σ H s) (hg:Gl X x) (hm:X.mg x = none) (hv:bootBuiltins x = some u) (h:Q u s)
  (hn:x≠"__name__":=by decide) (hd:(x == ("__debug__":Str)) = false:=by decide):wpAny (model X.prog X.w) X.A (eval (.Name x pos) X.env) Q E s:=by
 obtain⟨mb,h1,h2⟩:=I.mod.blt
 exact Calls.Name_function_global I.ok.kind hg (Calls.loadGlobal_builtin (by rw [I.ok.glob]; exact I.mod.glob.keeps I.bk) hm (by rw [I.ok.blt]; exact h1.keeps I.bk) ((h2 x hn).trans hv) h) hd
theorem pe_glob {x:Str} {v:V} {u:Value} {pos:Pos} (hg:Gl X x) (hm:X.mg x = some u) (r:RelV v u) (hd:(x == ("__debug__":Str)) = false:=by decide):PE X (.Name x pos) (tC v) :=
 fun _ _ _ H _ I h=>ld_glob I hg hm ⟨v,H,I,r,h⟩ hd
theorem pe_bltn {x:Str} {v:V} {u:Value} {pos:Pos} (hg:Gl X x) (hm:X.mg x = none) (hv:bootBuiltins x = some u) (r:RelV v u) (hn:x≠"__name__":=by decide) (hd:(x == ("__debug__":Str)) = false:=by decide):PE X (.Name x pos) (tC v) :=
 fun _ _ _ H _ I h=>ld_blt I hg hm hv ⟨v,H,I,r,h⟩ hn hd
variable {a b:Expr} {ta tb:TE} {pos:Pos}
variable {tA tB':TT} {rest:List Expr}
def tOr (t u:TT):TT:=fun σ H Q=>t σ H fun c H1=>if c = true then Q true H1 else u σ H1 Q
def tNot (t:TT):TT:=fun σ H Q=>t σ H fun c H1=>Q (!c) H1
theorem pw_or1 (ha:PT X a tA):PW X (.BoolOp .Or [a] pos) tA:=by
 intro wh pins s σ H Q I h
 refine isTrue_or (thn (ha pins s σ H Q I h) fun c s1 e=>?_)
 cases c with
 | false=>exact isTrue_or_nil e
 | true=>exact e
theorem pw_or (ha:PT X a tA) (hb:PW X (.BoolOp .Or (b :: rest) pos) tB'):PW X (.BoolOp .Or (a :: b :: rest) pos) (tOr tA tB'):=by
 intro wh pins s σ H Q I h
 refine isTrue_or (thn (ha pins s σ H _ I h) fun c s1 ⟨H1,I1,q1⟩=>?_)
 cases c with
 | true=>exact⟨H1,I1,q1⟩
 | false=>exact hb wh pins s1 σ H1 Q I1 q1
theorem pt_not (ha:PT X a tA):PT X (.UnaryOp .Not a pos) (tNot tA):=by
 intro pins s σ H Q I h
 exact isTrue_not (ha pins s σ H (fun c H1=>Q (!c) H1) I h)
theorem pe_one {op} {t:TE} (h:PE X a t):PE X (.BoolOp op [a] pos) t:=fun pins s σ H Q I hw=>BoolOp_one (h pins s σ H Q I hw)
end
end L2
namespace L2
open PySem PySem.Spec PyProof.Rows
def SqL (K:PySem.W.Frag) (H:Hp) (a:Addr) (xs:List V):Prop :=
 Rd H a (.lst xs) ∨
  ∃ (o:Obj) (its:Array Value) (n:Nat),K.lookup a = some o∧o.cls = .type "list"∧o.dict = none∧o.data = .seq its n∧its.size≤sizeLine∧Vals xs its.toList
def SqT (K:PySem.W.Frag) (H:Hp) (a:Addr) (xs:List V):Prop :=
 Rd H a (.tup xs) ∨
  ∃ (o:Obj) (its:Array Value) (n:Nat),K.lookup a = some o∧o.cls = .type "tuple"∧o.data = .seq its n∧its.size≤sizeLine∧Vals xs its.toList
def absV:Value→Option V
 | .none=>some .non
 | .bool b=>some (.bl b)
 | .int i _=>some (.int i)
 | .str x _=>some (.str x)
 | .bytes b _=>some (.byt b)
 | .float b _=>some (.flt b)
 | .ref a=>some (.ref a)
 | .type n=>some (.ty n)
 | _=>none
theorem RelV.abs {x:V} {u:Value} (r:RelV x u):absV u = some x:=by
 cases x with
 | non=>cases r; rfl
 | bl _=>cases r; rfl
 | int _=>obtain⟨t,rfl⟩:=r; rfl
 | str _=>obtain⟨t,rfl⟩:=r; rfl
 | byt _=>obtain⟨t,rfl⟩:=r; rfl
 | flt _=>obtain⟨t,rfl⟩:=r; rfl
 | ref _=>cases r; rfl
 | ty _=>cases r; rfl
theorem RelV.inj {x y:V} {u:Value} (r:RelV x u) (q:RelV y u):x = y:=Option.some.inj (r.abs.symm.trans q.abs)
theorem Vals.inj:∀ {xs ys:List V} {us:List Value},Vals xs us→Vals ys us→xs = ys
 | _,_,_,.nil,.nil=>rfl
 | _,_,_,.cons r t,.cons r' t'=>by rw [r.inj r',Vals.inj t t']
section
variable {X:Cx} {pins:List (Addr × Obj)} {σ:St} {H:Hp} {s:Shared} {a:Addr} {xs ys:List V}
theorem SqL.of {K:PySem.W.Frag} (h:H a = some (.lst xs)):SqL K H a xs:=.inl (.inl h)
theorem SqT.of {K:PySem.W.Frag} (h:H a = some (.tup xs)):SqT K H a xs:=.inl (.inl h)
theorem Inv.list (I:Inv X pins σ H s) (h:SqL X.K H a xs):∃ its:List Value,Vals xs its∧PlainL s.heap a its.toArray∧xs.length≤sizeLine:=by
 rcases h with h | ⟨o,its,n,hk,hc,hd,hs,hz,r⟩
 ·obtain⟨z,its,n,r,e⟩:=h.ok I.hok
  exact⟨its,r,⟨_,n,e,rfl,rfl,rfl⟩,z⟩
 ·refine⟨its.toList,r,⟨o,n,I.kIn a o hk,hc,hd,by simpa using hs⟩,?_⟩
  have e:=r.length
  simp only [Array.length_toList] at e
  omega
theorem Inv.tuple (I:Inv X pins σ H s) (h:SqT X.K H a xs):∃ its:List Value,Vals xs its∧IsTup s.heap a its.toArray∧xs.length≤sizeLine:=by
 rcases h with h | ⟨o,its,n,hk,hc,hs,hz,r⟩
 ·obtain⟨z,its,r,p⟩:=h.ok I.hok
  exact⟨its,r,p.tup,z⟩
 ·refine⟨its.toList,r,⟨o,I.kIn a o hk,hc,n,by simpa using hs⟩,?_⟩
  have e:=r.length
  simp only [Array.length_toList] at e
  omega
theorem Inv.list_inj (I:Inv X pins σ H s) (h:SqL X.K H a xs) (h':SqL X.K H a ys):xs = ys:=by
 obtain⟨its,r,⟨o,n,e,_,_,d⟩,_⟩:=I.list h
 obtain⟨its',r',⟨o',n',e',_,_,d'⟩,_⟩:=I.list h'
 rw [e] at e'; cases e'
 rw [d] at d'
 injection d' with d1 _
 have:its = its':=by simpa using congrArg Array.toList d1
 subst this
 exact r.inj r'
theorem Inv.tuple_inj (I:Inv X pins σ H s) (h:SqT X.K H a xs) (h':SqT X.K H a ys):xs = ys:=by
 obtain⟨its,r,⟨o,e,_,n,d⟩,_⟩:=I.tuple h
 obtain⟨its',r',⟨o',e',_,n',d'⟩,_⟩:=I.tuple h'
 rw [e] at e'; cases e'
 rw [d] at d'
 injection d' with d1 _
 have:its = its':=by simpa using congrArg Array.toList d1
 subst this
 exact r.inj r'
end
abbrev Cx.wish (X:Cx) (E:Value→Shared→Prop):Cx:={ X with xe:=E }
abbrev Cx.nox (X:Cx):Cx:=X.wish fun _ _=>False
theorem Cx.Ok.wish {X:Cx} (ok:X.Ok) (E:Value→Shared→Prop):(X.wish E).Ok :=
 ⟨ok.mod,ok.kind,ok.glob,ok.blt,ok.above,ok.inj,ok.has,ok.cab,ok.hd,ok.frames,ok.stk,ok.exf,ok.bs,ok.bsz,ok.noex,ok.exfs,ok.funs,ok.frf⟩
theorem Cx.Ok.unwish {X:Cx} {E:Value→Shared→Prop} (ok:(X.wish E).Ok):X.Ok :=
 ⟨ok.mod,ok.kind,ok.glob,ok.blt,ok.above,ok.inj,ok.has,ok.cab,ok.hd,ok.frames,ok.stk,ok.exf,ok.bs,ok.bsz,ok.noex,ok.exfs,ok.funs,ok.frf⟩
section
variable {X:Cx} {pins:List (Addr × Obj)} {σ:St} {H:Hp} {s:Shared} {E:Value→Shared→Prop}
theorem Inv.wish (I:Inv X pins σ H s) (E:Value→Shared→Prop):Inv (X.wish E) pins σ H s:=⟨I.ok.wish E,I.os,I.bare,I.base,I.loc,I.cell,I.free,I.freeC,I.pin,I.hok,I.len⟩
theorem Inv.unwish (I:Inv (X.wish E) pins σ H s):Inv X pins σ H s:=⟨I.ok.unwish,I.os,I.bare,I.base,I.loc,I.cell,I.free,I.freeC,I.pin,I.hok,I.len⟩
theorem SP.unwish {D:Ends} {f:Flow} {s':Shared} (h:SP (X.wish E) pins D f s'):SP X pins D f s':=by
 cases f with
 | next=>obtain⟨σ',H',I,q⟩:=h; exact⟨σ',H',I.unwish,q⟩
 | brk=>obtain⟨σ',H',I,q⟩:=h; exact⟨σ',H',I.unwish,q⟩
 | cont=>obtain⟨σ',H',I,q⟩:=h; exact⟨σ',H',I.unwish,q⟩
 | ret u=>obtain⟨v,σ',H',I,r,q⟩:=h; exact⟨v,σ',H',I.unwish,r,q⟩
theorem PSs.nox {st:List Stmt} {t:TS} (h:PSs X.nox st t):PSs X st t:=fun pins s σ H D I hw =>
 wpAny_mono (h pins s σ H D (I.wish _) hw) (fun _ _ q=>q.unwish) fun _ _ z=>False.elim z
end
section
variable {X:Cx} {st:Stmt} {rest:List Stmt} {t u:TS} {e:Expr} {te:TE} {pos:Pos}
def tNext:TS:=fun D σ H=>D.nx σ H
def tSeq (t u:TS):TS:=fun D σ H=>t { D with nx:=u D } σ H
theorem pss_nil:PSs X [] tNext:=fun _ _ σ H _ I h=>wpAny_execs_nil ⟨σ,H,I,h⟩
theorem pss_cons (h1:PS X st t) (h2:PSs X rest u):PSs X (st :: rest) (tSeq t u):=by
 intro pins s σ H D I h
 refine wpAny_execs_cons (thn (h1 pins s σ H { D with nx:=u D } I h) fun f s1 q=>?_)
 cases f with
 | next =>
  obtain⟨σ',H',I',q⟩:=q
  exact h2 pins s1 σ' H' D I' q
 | ret v=>exact q
 | brk=>exact q
 | cont=>exact q
theorem pss_one (h1:PS X st t):PSs X [st] t:=by
 intro pins s σ H D I h
 refine wpAny_execs_cons (thn (h1 pins s σ H D I h) fun f s1 q=>?_)
 cases f with
 | next=>exact wpAny_execs_nil q
 | ret v=>exact q
 | brk=>exact q
 | cont=>exact q
theorem Inv.quiet {pins:List (Addr × Obj)} {σ:St} {H:Hp} {s:Shared} (I:Inv X pins σ H s):interactive X.env = false:=by simp [interactive,I.ok.kind]
def tDrop (te:TE):TS:=fun D σ H=>te σ H fun _ H1=>D.nx σ H1
theorem ps_expr (he:PE X e te) (hs:swapsWith e none pos.line X.env = pure false:=by rfl):PS X (.Expr e pos) (tDrop te):=by
 intro pins s σ H D I h
 exact wpAny_Expr_any (thn (he pins s σ H _ I h) fun v s1 ⟨x,H1,I1,r1,q1⟩=>⟨σ,H1,I1,q1⟩) I.quiet hs
def tRet (te:TE):TS:=fun D σ H=>te σ H D.rt
theorem ps_ret (he:PE X e te):PS X (.Return (some e) pos) (tRet te):=by
 intro pins s σ H D I h
 exact wpAny_Return_some (thn (he pins s σ H _ I h) fun v s1 ⟨x,H1,I1,r1,q1⟩=>⟨x,σ,H1,I1,r1,q1⟩)
def tNever:TS:=fun _ _ _=>False
theorem pss_never {sts:List Stmt}:PSs X sts tNever:=fun _ _ _ _ _ _ h=>h.elim
end
abbrev TG:=V→St→Hp→(St→Hp→Prop)→Prop
abbrev TGs:=List V→St→Hp→(St→Hp→Prop)→Prop
def PG (X:Cx) (target:Expr) (t:TG):Prop :=
 ∀ (pins:List (Addr × Obj)) (s:Shared) (σ:St) (H:Hp) (v:V) (u:Value) (Q:St→Hp→Prop),Inv X pins σ H s→RelV v u→t v σ H Q →
  wpAny (model X.prog X.w) X.A (assign target X.env u) (fun _ s'=>∃ σ' H',Inv X pins σ' H' s'∧Q σ' H') X.xe s
def PGs (X:Cx) (ts:List Expr) (t:TGs):Prop :=
 ∀ (pins:List (Addr × Obj)) (s:Shared) (σ:St) (H:Hp) (vs:List V) (us:List Value) (Q:St→Hp→Prop),Inv X pins σ H s→Vals vs us→t vs σ H Q →
  wpAny (model X.prog X.w) X.A (assignInOrder ((assignEach ts X.env).map (·.2)) us) (fun _ s'=>∃ σ' H',Inv X pins σ' H' s'∧Q σ' H') X.xe s
abbrev TSet:=V→V→V→Hp→(Hp→Prop)→Prop
def PSet (X:Cx) (t:TSet):Prop :=
 ∀ (pins:List (Addr × Obj)) (s:Shared) (σ:St) (H:Hp) (o i v:V) (ov iv u:Value) (Q:Hp→Prop),Inv X pins σ H s→RelV o ov→RelV i iv→RelV v u→t o i v H Q →
  wpAny (model X.prog X.w) X.A (setItem ov iv u) (fun _ s'=>∃ H',Inv X pins σ H' s'∧Q H') X.xe s
abbrev TIp:=V→V→Hp→VK→Prop
def PIp (X:Cx) (op:Operator) (t:TIp):Prop :=
 ∀ (pins:List (Addr × Obj)) (s:Shared) (σ:St) (H:Hp) (x y:V) (v u:Value) (Q:VK),Inv X pins σ H s→RelV x v→RelV y u→t x y H Q →
  wpAny (model X.prog X.w) X.A (inplaceOp op v u) (EP X pins σ Q) X.xe s
section
variable {X:Cx} {pos:Pos}
def gName (i:Nat):TG:=fun v σ H Q=>Q (σ.set i (some v)) H
theorem pg_name {i:Nat} {x:Str} (hN:X.N.Nodup) (hi:X.N[i]? = some x) (hx:Loc X.env.scope x) (hf:X.fn x = true∨X.env.scope.names.lookup x = some .local:=by first | exact .inl rfl | exact .inr rfl | assumption):PG X (.Name x pos) (gName i):=by
 intro pins s σ H v u Q I r h
 exact wpAny_assign_Name (store_ok I hN hi hx r (fun s' I'=>⟨_,H,I',h⟩) hf)
def gNil:TGs:=fun vs σ H Q=>vs = []∧Q σ H
def gCons (t:TG) (u:TGs):TGs:=fun vs σ H Q=>∃ v r,vs = v :: r∧t v σ H fun σ' H'=>u r σ' H' Q
theorem pgs_nil:PGs X [] gNil:=by
 intro pins s σ H vs us Q I r h
 obtain⟨e,h⟩:=h
 subst e
 cases r
 exact assignInOrder_nil ⟨σ,H,I,h⟩
theorem pgs_cons {e:Expr} {es:List Expr} {t:TG} {u:TGs} (h1:PG X e t) (h2:PGs X es u)
  (hs:(assignEach (e :: es) X.env).map (·.2) = assign e X.env :: (assignEach es X.env).map (·.2):=by rfl):PGs X (e :: es) (gCons t u):=by
 intro pins s σ H vs us Q I r h
 obtain⟨v,vr,e1,h⟩:=h
 subst e1
 cases r with
 | cons r rr =>
  rw [hs]
  refine assignInOrder_cons (thn (h1 pins s σ H _ _ _ I r h) fun _ s1 ⟨σ1,H1,I1,q1⟩=>?_)
  exact h2 pins s1 σ1 H1 _ _ Q I1 rr q1
def gTup (K:PySem.W.Frag) (n:Nat) (t:TGs):TG:=fun v σ H Q=>∃ a xs,v = .ref a∧SqT K H a xs∧xs.length = n∧t xs σ H Q
theorem pg_tup {es:List Expr} {k:Nat} {t:TGs} {n:Nat} (hc:X.calm = true) (h:PGs X es t)
  (hn:(assignEach es X.env).length = n:=by rfl) (hst:(assignEach es X.env).findIdx? (·.1) = none:=by rfl):PG X (.Tuple es k pos) (gTup X.K n t):=by
 intro pins s σ H v u Q I r hw
 obtain⟨a,xs,e1,hq,hl,hw⟩:=hw
 subst e1
 cases r
 obtain⟨its,rv,ht,hz⟩:=I.tuple hq
 refine assign_Tuple_tuple (I.ok.hd hc) ht (by simp [hn,← hl,rv.length]) hst fun h' hx=>?_
 have I1:Inv X pins σ H { s with heap:=h' }:=I.kept (t':=s.toks) fun b o e=>hx b o (Nat.ne_of_lt (Heap.lt_size e)) e
 exact h pins _ σ H xs _ Q I1 (by simpa using rv) hw
def gSub (to ti:TE) (t:TSet):TG:=fun v σ H Q=>to σ H fun o H1=>ti σ H1 fun i H2=>t o i v H2 fun H3=>Q σ H3
theorem pg_sub {o i:Expr} {to ti:TE} {t:TSet} (ho:PE X o to) (hi:PE X i ti) (hs:PSet X t)
  (ha:∀ v,assign (.Subscript o i pos) X.env v = (do
   let ov ← holding [v] (eval o X.env)
   let iv ← holding [v,ov] (eval i X.env)
   standAt pos
   holding [v,ov,iv] (setItem ov iv v)
   release [v,ov,iv] []):=by intro _; rfl):PG X (.Subscript o i pos) (gSub to ti t):=by
 intro pins s σ H v u Q I r h
 rw [ha]
 refine wpAny_bind (wpAny_holding (thn (ho pins s σ H _ I h) fun ov s1 ⟨x,H1,I1,r1,q1⟩=>?_))
 refine wpAny_bind (wpAny_holding (thn (hi pins s1 σ H1 _ I1 q1) fun iv s2 ⟨y,H2,I2,r2,q2⟩=>?_))
 refine wpAny_bind (wpAny_standAt (wpAny_bind (wpAny_holding (thn (hs pins s2 σ H2 x y v ov iv u _ I2 r1 r2 r q2) fun _ s3 ⟨H3,I3,q3⟩=>?_))))
 exact wpAny_release ⟨σ,H3,I3,q3⟩
def tAsg (te:TE) (g:TG):TS:=fun D σ H=>te σ H fun x H1=>g x σ H1 D.nx
theorem ps_asg {tg e:Expr} {te:TE} {g:TG} (he:PE X e te) (hg:PG X tg g) (hs:swapsWithSole [tg] e pos.line X.env = pure false:=by rfl) (hw:swappedStores [tg] e X.env = pure none:=by rfl)
  (h1:(assignEach [tg] X.env).map (·.2) = [assign tg X.env]:=by rfl):PS X (.Assign [tg] e pos) (tAsg te g):=by
 intro pins s σ H D I h
 refine wpAny_Assign_stores (thn (he pins s σ H _ I h) fun v s1 ⟨x,H1,I1,r1,q1⟩=>?_) hs hw
 rw [h1]
 exact thn (hg pins s1 σ H1 x v _ I1 r1 q1) fun _ s2 q=>q
theorem ps_set {i:Nat} {x:Str} {e:Expr} {te:TE} {pos':Pos} (hN:X.N.Nodup) (hi:X.N[i]? = some x) (hx:Loc X.env.scope x) (he:PE X e te) (hs:swapsWith e (some (.Name x pos')) pos.line X.env = pure false:=by rfl) (hf:X.fn x = true∨X.env.scope.names.lookup x = some .local:=by first | exact .inl rfl | exact .inr rfl | assumption) :
  PS X (.Assign [.Name x pos'] e pos) (tAsg te (gName i)):=by
 intro pins s σ H D I h
 refine wpAny_Assign_Name (thn (he pins s σ H _ I h) fun v s1 ⟨y,H1,I1,r1,q1⟩=>?_) hs
 exact store_ok I1 hN hi hx r1 (fun s2 I2=>⟨_,H1,I2,q1⟩) hf
def tAug (i:Nat) (te:TE) (ti:TIp):TS:=fun D σ H=>∃ x,σ[i]? = some (some x)∧te σ H fun y H1=>ti x y H1 fun z H2=>D.nx (σ.set i (some z)) H2
theorem ps_aug {i:Nat} {x:Str} {e:Expr} {te:TE} {op:Operator} {ti:TIp} {pos':Pos} (hN:X.N.Nodup) (hi:X.N[i]? = some x) (hx:Loc X.env.scope x) (he:PE X e te) (ho:PIp X op ti) (hf:X.fn x = true∨X.env.scope.names.lookup x = some .local:=by first | exact .inl rfl | exact .inr rfl | assumption) :
  PS X (.AugAssign (.Name x pos') op e pos) (tAug i te ti):=by
 intro pins s σ H D I h
 obtain⟨v,e1,h⟩:=h
 obtain⟨m,hn,hl⟩:=I.loc
 have vis:Vis X.env.scope x:=by rcases hx with k | k; exact .inl k; exact .inr (.inl k)
 obtain⟨u,r,l⟩:=hl i x v hi e1 vis
 refine wpAny_AugAssign_Name ?_
 have go:wpAny (model X.prog X.w) X.A (eval e X.env) (fun w s₂=>wpAny (model X.prog X.w) X.A (inplaceOp op u w) (fun r s₃=>wpAny (model X.prog X.w) X.A (storeName X.env x r) (fun _=>SP X pins D .next) X.xe s₃) X.xe s₂) X.xe s:=by
  refine thn (he pins s σ H _ I h) fun w s1 ⟨y,H1,I1,r1,q1⟩=>?_
  refine thn (ho pins s1 σ H1 v y u w _ I1 r r1 q1) fun z s2 ⟨zv,H2,I2,r2,q2⟩=>?_
  exact store_ok I2 hN hi hx r2 (fun s3 I3=>⟨_,H2,I3,q2⟩) hf
 rcases l with ⟨hk,hm⟩ | ⟨hk,c,hc,hcell⟩
 ·exact wpAny_loadName_local I.ok.kind hk hn hm go
 ·rcases hk with hk | hk
  ·exact wpAny_loadName_cell I.ok.kind hk hc hcell go
  ·rcases hx with k | k
   ·have:X.env.scope.names.lookup x = some .free:=hk
    rw [k] at this; cases this
   ·have:X.env.scope.names.lookup x = some .free:=hk
    rw [k] at this; cases this
end
section
variable {X:Cx} {pos:Pos}
end
structure It where
 go:Nat→Hp→Prop
 yld:Nat→Hp→V→Hp→Prop
 stop:Nat→Hp→Prop
def FpOk (X:Cx) (pins:List (Addr × Obj)) (H:Hp) (b:Addr):Prop :=
 H b = none∧b≠X.env.locals∧b ∉ X.fs∧(b∈X.ex∨X.s₀.heap.objs.size≤b)∧(∀ x c,X.env.cells.lookup x = some c→c≠b)∧∀ p∈X.pn ++ pins,p.1≠b
theorem Inv.fpOk {X:Cx} {pins:List (Addr × Obj)} {σ:St} {H H':Hp} {s:Shared} {b:Addr} (I:Inv X pins σ H s) (hb:s.heap.objs.size≤b) (hn:H' b = none):FpOk X pins H' b:=by
 refine⟨hn,Nat.ne_of_gt (Nat.lt_of_lt_of_le I.lt hb),I.nofs hb,.inr (Nat.le_trans I.sz hb),fun x c e z=>?_,fun p hp z=>?_⟩
 ·obtain⟨v,q⟩:=I.cell x c e
  exact absurd (Nat.lt_of_lt_of_le q.lt (by rw [z]; exact hb)) (Nat.lt_irrefl _)
 ·exact absurd (Nat.lt_of_lt_of_le (Heap.lt_size (I.pin p hp).1) (by rw [z]; exact hb)) (Nat.lt_irrefl _)
structure Turn (P:Program) (w:World) (K:PySem.W.Frag) (tg:Expr) (J:It) (fp:List Addr) (it:Addr) (tn:Nat→Heap→Prop):Prop where
 mem:it∈fp
 obj:∀ i h,tn i h→∀ b∈fp,∃ o,h.get? b = some o∧∀ v,o.data≠.cell v
 keep:∀ i h h',tn i h→(∀ b∈fp,∀ o,h.get? b = some o→h'.get? b = some o)→tn i h'
 item:∀ (X:Cx),X.prog = P→X.w = w→X.K = K→X.calm = true→∀ (i:Nat) (pins:List (Addr × Obj)) (s:Shared) (σ:St) (H:Hp) (E:Value→Shared→Prop),Inv X pins σ H s→(∀ b∈fp,FpOk X pins H b)→tn i s.heap→J.go i H →
  wpAny (model P w) X.A (pyNext (.ref it)) (fun r s1=>∃ u,r = some u ∧
   wpAny (model P w) X.A (letOwnedTupleGo tg (.ref it) u) (fun _ s2=>∃ x H',Inv X pins σ H' s2∧RelV x u∧J.yld i H x H'∧tn (i + 1) s2.heap∧∀ b∈fp,H' b = none) E s1) E s
 done:∀ (X:Cx),X.prog = P→X.w = w→X.K = K→X.calm = true→∀ (i:Nat) (pins:List (Addr × Obj)) (s:Shared) (σ:St) (H:Hp) (E:Value→Shared→Prop),Inv X pins σ H s→(∀ b∈fp,FpOk X pins H b)→tn i s.heap→J.stop i H →
  wpAny (model P w) X.A (pyNext (.ref it)) (fun r s1=>r = none∧Inv X pins σ H s1) E s
 self:∀ (A:Around) (i:Nat) (s:Shared) (Q:Value→Shared→Prop) (E:Value→Shared→Prop),tn i s.heap→Q (.ref it) s→wpAny (model P w) A (pyIter (.ref it)) Q E s
abbrev TI:=St→Hp→(It→Hp→Prop)→Prop
def PIE (X:Cx) (pins:List (Addr × Obj)) (σ:St) (tg:Expr) (R:It→Hp→Prop) (itv:Value) (s2:Shared):Prop :=
 ∃ (it:Addr) (fp:List Addr) (tn:Nat→Heap→Prop) (J:It) (H':Hp),itv = .ref it∧Inv X pins σ H' s2∧Turn X.prog X.w X.K tg J fp it tn∧tn 0 s2.heap∧(∀ b∈fp,FpOk X pins H' b)∧R J H'
def PI (X:Cx) (tg iter:Expr) (wi:TI):Prop :=
 ∀ (pins:List (Addr × Obj)) (s:Shared) (σ:St) (H:Hp) (R:It→Hp→Prop),Inv X pins σ H s→wi σ H R →
  wpAny (model X.prog X.w) X.A (eval iter X.env) (fun v s1=>wpAny (model X.prog X.w) X.A (pyIter v) (PIE X pins σ tg R) X.xe s1) X.xe s
theorem go_of {M:Model} {A:Around} {E:Value→Shared→Prop} {s:Shared} {tg:Expr} {it:Addr} {u:Value} {o:Obj} {n:String} {vs:Array Value} {Q:Unit→Shared→Prop} (ho:s.heap.get? it = some o) (hc:o.cls = .type n) (hd:o.data = .fields vs)
  (hn:["enumerate","zip","dict_itemiterator","dict_reverseitemiterator","odict_iterator","itertools.zip_longest","itertools.pairwise"].contains n = false) (hQ:Q () s):wpAny M A (letOwnedTupleGo tg (.ref it) u) Q E s:=by
 unfold letOwnedTupleGo
 cases tg <;> first
  | exact wpAny_pure hQ
  | (cases u <;> first
    | exact wpAny_pure hQ
    | (refine wpAny_bind (wpAny_load ho ?_);rw [hc,hd];show wpAny M A (if (["enumerate","zip","dict_itemiterator","dict_reverseitemiterator","odict_iterator","itertools.zip_longest","itertools.pairwise"].contains n && vs[0]? == some (rawInt _)) = true then _ else _) Q E s;rw [if_neg (by intro h; rw [hn,Bool.false_and] at h; cases h)];exact wpAny_pure hQ))
def Itl (K:PySem.W.Frag) (a:Addr):It :=
 ⟨fun i H=>∃ xs x,SqL K H a xs∧xs[i]? = some x,fun i H x H'=>H' = H∧∀ xs,SqL K H a xs→xs[i]? = some x,fun i H=>∃ xs,SqL K H a xs∧xs.length≤i⟩
def Itt (K:PySem.W.Frag) (a:Addr):It :=
 ⟨fun i H=>∃ xs x,SqT K H a xs∧xs[i]? = some x,fun i H x H'=>H' = H∧∀ xs,SqT K H a xs→xs[i]? = some x,fun i H=>∃ xs,SqT K H a xs∧xs.length≤i⟩
def Itr (lo:Int) (n:Nat):It:=⟨fun i _=>i < n,fun i H x H'=>H' = H∧x = .int (lo + i),fun i _=>n≤i⟩
theorem turn_list {P:Program} {w:World} {K:PySem.W.Frag} {tg:Expr} (a it:Addr):Turn P w K tg (Itl K a) [it] it (fun i h=>h.IsListIter it a i) where
 mem:=by simp
 obj:=fun i h st b hb=>by
  have e:b = it:=by simpa using hb
  subst e
  obtain⟨o,e,c,d⟩:=st
  exact⟨o,e,fun v z=>by rw [d] at z; cases z⟩
 keep:=fun i h h' st k=>st.at fun o e=>k it (by simp) o e
 item:=by
  intro X hP hw hK hc i pins s σ H E I hf st hg
  subst hP hw hK
  obtain⟨xs,x,hq,hx⟩:=hg
  obtain⟨its,rv,p,hz⟩:=I.list hq
  obtain⟨u,hu,ru⟩:=rv.get hx
  obtain⟨f0,f1,f2,f3,f4,f5⟩:=hf it (by simp)
  refine wpAny_pyNext_list_item st p.isList (x:=u) (by simpa using hu) fun h' st' sb=>?_
  have I1:Inv X pins σ H { s with heap:=h' }:=I.turned (t':=s.toks) (fun b o hb e=>(sb.2 b hb).trans e) f0 f1 f3 f4 f5
  obtain⟨o,e,c,d⟩:=id st'
  exact⟨u,rfl,go_of (s:={ s with heap:=h' }) e c d (by decide) ⟨x,H,I1,ru,⟨rfl,fun ys hy=>by rw [I.list_inj hy hq]; exact hx⟩,st',fun b hb=>(hf b hb).1⟩⟩
 done:=by
  intro X hP hw hK hc i pins s σ H E I hf st hg
  subst hP hw hK
  obtain⟨xs,hq,hx⟩:=hg
  obtain⟨its,rv,p,hz⟩:=I.list hq
  obtain⟨f0,f1,f2,f3,f4,f5⟩:=hf it (by simp)
  have hl:=rv.length
  exact wpAny_pyNext_list_end (I.ok.hd hc) st p.isList (by simp; omega) fun h' eb=>⟨rfl,I.turned (t':=s.toks) (fun b o hb e=>eb b o hb e) f0 f1 f3 f4 f5⟩
 self:=fun _ _ _ _ _ st h=>wpAny_pyIter_listiter st h
theorem turn_tuple {P:Program} {w:World} {K:PySem.W.Frag} {tg:Expr} (a it:Addr):Turn P w K tg (Itt K a) [it] it (fun i h=>h.IsTupleIter it a i) where
 mem:=by simp
 obj:=fun i h st b hb=>by
  have e:b = it:=by simpa using hb
  subst e
  obtain⟨o,e,c,d⟩:=st
  exact⟨o,e,fun v z=>by rw [d] at z; cases z⟩
 keep:=fun i h h' st k=>st.at fun o e=>k it (by simp) o e
 item:=by
  intro X hP hw hK hc i pins s σ H E I hf st hg
  subst hP hw hK
  obtain⟨xs,x,hq,hx⟩:=hg
  obtain⟨its,rv,p,hz⟩:=I.tuple hq
  obtain⟨u,hu,ru⟩:=rv.get hx
  obtain⟨f0,f1,f2,f3,f4,f5⟩:=hf it (by simp)
  refine wpAny_pyNext_tuple_item st (show s.heap.IsTuple a its.toArray from p) (x:=u) (by simpa using hu) fun h' st' sb=>?_
  have I1:Inv X pins σ H { s with heap:=h' }:=I.turned (t':=s.toks) (fun b o hb e=>(sb.2 b hb).trans e) f0 f1 f3 f4 f5
  obtain⟨o,e,c,d⟩:=id st'
  exact⟨u,rfl,go_of (s:={ s with heap:=h' }) e c d (by decide) ⟨x,H,I1,ru,⟨rfl,fun ys hy=>by rw [I.tuple_inj hy hq]; exact hx⟩,st',fun b hb=>(hf b hb).1⟩⟩
 done:=by
  intro X hP hw hK hc i pins s σ H E I hf st hg
  subst hP hw hK
  obtain⟨xs,hq,hx⟩:=hg
  obtain⟨its,rv,p,hz⟩:=I.tuple hq
  obtain⟨f0,f1,f2,f3,f4,f5⟩:=hf it (by simp)
  have hl:=rv.length
  exact wpAny_pyNext_tuple_end (I.ok.hd hc) st (show s.heap.IsTuple a its.toArray from p) (by simp; omega) fun h' eb=>⟨rfl,I.turned (t':=s.toks) (fun b o hb e=>eb b o hb e) f0 f1 f3 f4 f5⟩
 self:=fun _ _ _ _ _ st h=>wpAny_pyIter_tupleiter st h
theorem turn_range {P:Program} {w:World} {K:PySem.W.Frag} {tg:Expr} (it:Addr) (lo:Int) (n:Nat):Turn P w K tg (Itr lo n) [it] it (fun i h=>IsRangeIter h it (lo + (i:Nat) * 1) ((n:Int) - (i:Nat)) 1) where
 mem:=by simp
 obj:=fun i h st b hb=>by
  have e:b = it:=by simpa using hb
  subst e
  exact⟨_,st,fun v z=>by
   have z':Data.fields _ = Data.cell v:=z
   cases z'⟩
 keep:=fun i h h' st k=>k it (by simp) _ st
 item:=by
  intro X hP hw hK hc i pins s σ H E I hf st hg
  subst hP hw hK
  obtain⟨f0,f1,f2,f3,f4,f5⟩:=hf it (by simp)
  have W:=Walks.range (prog:=X.prog) (w:=X.w) (I.ok.hd hc) it lo 1 n
  refine W.item i s _ _ hg st fun v h' tk hv st' kk=>?_
  obtain⟨t,rfl⟩:=hv
  have I1:Inv X pins σ H { s with heap:=h',toks:=tk }:=I.turned (fun b o hb e=>kk b o (by simpa using hb) e) f0 f1 f3 f4 f5
  refine⟨_,rfl,go_of (s:={ s with heap:=h',toks:=tk }) (n:="range_iterator") st' rfl rfl (by decide) ⟨.int (lo + i),H,I1,⟨t,?_⟩,⟨rfl,rfl⟩,st',fun b hb=>(hf b hb).1⟩⟩
  rw [Int.mul_one]
 done:=by
  intro X hP hw hK hc i pins s σ H E I hf st hg
  subst hP hw hK
  obtain⟨f0,f1,f2,f3,f4,f5⟩:=hf it (by simp)
  exact wpAny_pyNext_range_end (I.ok.hd hc) st (by have:n≤i:=hg; omega) fun h' eb=>⟨rfl,I.turned (t':=s.toks) (fun b o hb e=>eb b o hb e) f0 f1 f3 f4 f5⟩
 self:=fun _ _ _ _ _ st h=>wpAny_pyIter_rangeiter st h
end L2
namespace L2
open PySem PySem.Spec PyProof.Rows
section
variable {X:Cx} {tg:Expr}
theorem range_it {pins:List (Addr × Obj)} {σ:St} {H:Hp} {s:Shared} {R:It→Hp→Prop} {E:Value→Shared→Prop} {lo hi:Int} {t u v:Tok} {tk:Nat} (I:Inv X pins σ H s) (h1:-(2 ^ 62)≤lo) (h2:lo < 2 ^ 62) (h3:-(2 ^ 62)≤hi) (h4:hi < 2 ^ 62)
  (q:R (Itr lo (hi - lo).toNat) H):wpAny (model X.prog X.w) X.A (pyIter (.ref s.heap.objs.size)) (PIE X pins σ tg R) E { s with heap:=s.heap.push { cls:=.type "range",data:=.fields #[.int lo t,.int hi u,.int 1 v] },toks:=tk }:=by
 refine wpAny_pyIter_range (IsRange.new ..) (small_one h1 h2 h3 h4) ?_
 have I1:Inv X pins σ H { s with heap:=s.heap.push { cls:=.type "range",data:=.fields #[.int lo t,.int hi u,.int 1 v] },toks:=tk }:=I.kept fun b o e=>Heap.get?_push_of_some _ e
 refine⟨(s.heap.push { cls:=.type "range",data:=.fields #[.int lo t,.int hi u,.int 1 v] }).objs.size,[(s.heap.push { cls:=.type "range",data:=.fields #[.int lo t,.int hi u,.int 1 v] }).objs.size],_,_,H,rfl,
  I1.kept (t':=tk) fun b o e=>Heap.get?_push_of_some _ e,turn_range _ lo (hi - lo).toNat,?_,fun b hb=>?_,q⟩
 ·have e1:lo + ((0:Nat):Int) * 1 = lo:=by simp
  have e2:(((hi - lo).toNat:Nat):Int) - ((0:Nat):Int) = Builtin.Range.rangeSize lo hi 1:=by rw [rangeSize_one]; split <;> omega
  show IsRangeIter _ _ (lo + ((0:Nat):Int) * 1) ((((hi - lo).toNat:Nat):Int) - ((0:Nat):Int)) 1
  rw [e1,e2]
  exact Heap.get?_push_size _ rfl
 ·have e:b = (s.heap.push { cls:=.type "range",data:=.fields #[.int lo t,.int hi u,.int 1 v] }).objs.size:=by simpa using hb
  subst e
  exact I1.fpOk (Nat.le_refl _) (I1.hok.fresh (Nat.le_refl _))
def tFor (wi:TI) (g:TG) (tb:TS):TS:=fun D σ H=>wi σ H fun J H1=>∃ W:Nat→Nat→St→Hp→Prop,(∃ m,W 0 m σ H1)∧∀ i m σ H,W i m σ H →
 (J.stop i H∧D.nx σ H)∨(J.go i H∧∃ N:St→Hp→Prop,(∀ σ' H',N σ' H'→∃ m',m' < m∧W (i + 1) m' σ' H')∧∀ x H',J.yld i H x H'→g x σ H' fun σ2 H2=>tb { D with nx:=N,ct:=N,bk:=D.nx } σ2 H2)
def pinsAt (fp:List Addr) (h:Heap):List (Addr × Obj):=fp.filterMap fun b=>(h.get? b).map fun o=>(b,o)
theorem mem_pinsAt {fp:List Addr} {h:Heap} {b:Addr} {o:Obj} (hb:b∈fp) (e:h.get? b = some o):(b,o)∈pinsAt fp h:=List.mem_filterMap.mpr ⟨b,hb,by rw [e]; rfl⟩
theorem of_pinsAt {fp:List Addr} {h:Heap} {p:Addr × Obj} (hp:p∈pinsAt fp h):p.1∈fp∧h.get? p.1 = some p.2:=by
 obtain⟨b,hb,e⟩:=List.mem_filterMap.mp hp
 cases q:h.get? b with
 | none=>rw [q] at e; cases e
 | some o =>
  rw [q] at e
  have e':(b,o) = p:=Option.some.inj e
  subst e'
  exact⟨hb,q⟩
theorem Inv.pinned {pins:List (Addr × Obj)} {σ:St} {H:Hp} {s:Shared} {fp:List Addr} (I:Inv X pins σ H s) (hf:∀ b∈fp,FpOk X pins H b) (ho:∀ b∈fp,∃ o,s.heap.get? b = some o∧∀ v,o.data≠.cell v):Inv X (pins ++ pinsAt fp s.heap) σ H s :=
 I.pins_of fun p hp=>(List.mem_append.mp hp).elim (fun z=>I.pin p (List.mem_append_right _ z)) fun z=>by
  obtain⟨hb,e⟩:=of_pinsAt z
  obtain⟨f0,f1,f2,_⟩:=hf p.1 hb
  obtain⟨o,e',d⟩:=ho p.1 hb
  rw [e] at e'; cases e'
  exact⟨e,f0,f1,f2,d⟩
theorem Inv.unpinned {pins pl:List (Addr × Obj)} {σ:St} {H:Hp} {s:Shared} (I:Inv X (pins ++ pl) σ H s):Inv X pins σ H s:=I.pins_of fun p hp=>I.pin p (List.mem_append_right _ (List.mem_append_left _ hp))
theorem ps_for {iter:Expr} {body:List Stmt} {wi:TI} {g:TG} {tb:TS} {pos:Pos} (hp:PassesOwn (model X.prog X.w) X.A X.env X.xe) (hc:X.calm = true) (hi:PI X tg iter wi) (hg:PG X tg g) (hb:PSs X body tb)
  (hs:∀ x,foldedSetIterable iter X.env x = pure x:=by intro _; rfl):PS X (.For tg iter body [] pos) (tFor wi g tb):=by
 intro pins s σ H D I h
 refine wpAny_For (thn (hi pins s σ H _ I h) fun v s1 h1=>thn h1 fun itv s2 h2=>?_) hs
 obtain⟨it,fp,tn,J,H2,e,I2,T,st2,f2,W,⟨m0,w0⟩,turn⟩:=h2
 subst e
 have stat:∀ {H':Hp},(∀ b∈fp,H' b = none)→∀ b∈fp,FpOk X pins H' b:=fun hn b hb=>⟨hn b hb,(f2 b hb).2⟩
 refine codeAny_forLoop_any (fun n s'=>∃ i σ' H',Inv X pins σ' H' s'∧tn i s'.heap∧(∀ b∈fp,H' b = none)∧W i n σ' H') ?_ m0 ⟨0,σ,H2,I2,st2,fun b hb=>(f2 b hb).1,w0⟩
 rintro n s3 ⟨i,σ3,H3,I3,st3,fr3,w3⟩
 rcases turn i n σ3 H3 w3 with ⟨stop,qn⟩ | ⟨go,N,hN,step⟩
 ·refine wpAny_passesOwn hp (thn (T.done X rfl rfl rfl hc i pins s3 σ3 H3 X.xe I3 (stat fr3) st3 stop) fun r s4 ⟨hr,I4⟩=>?_)
  subst hr
  exact wpAny_execs_nil ⟨σ3,H3,I4,qn⟩
 ·refine wpAny_passesOwn hp (thn (T.item X rfl rfl rfl hc i pins s3 σ3 H3 X.xe I3 (stat fr3) st3 go) fun r s4 ⟨u,hr,h4⟩=>?_)
  subst hr
  refine wpAny_passesOwn hp (thn h4 fun _ s5 ⟨x,H5,I5,r5,y5,st5,fr5⟩=>?_)
  have I5':=I5.pinned (stat fr5) (T.obj _ _ st5)
  refine wpAny_passesOwn hp (thn (hg _ s5 σ3 H5 x u _ I5' r5 (step x H5 y5)) fun _ s6 ⟨σ6,H6,I6,q6⟩=>?_)
  refine wpAny_passesOwn hp (thn (hb _ s6 σ6 H6 _ I6 q6) fun f s7 q7=>?_)
  have again:∀ {σ7:St} {H7:Hp},Inv X (pins ++ pinsAt fp s5.heap) σ7 H7 s7→N σ7 H7→∃ m,m < n∧∃ i σ' H',Inv X pins σ' H' s7∧tn i s7.heap∧(∀ b∈fp,H' b = none)∧W i m σ' H':=fun {σ7 H7} I7 n7=>by
   obtain⟨m',hm,w7⟩:=hN σ7 H7 n7
   refine⟨m',hm,i + 1,σ7,H7,I7.unpinned,T.keep _ _ _ st5 fun b hb o e=>(I7.pin (b,o) (List.mem_append_right _ (List.mem_append_right _ (mem_pinsAt hb e)))).1,fun b hb=>?_,w7⟩
   obtain⟨o,e,d⟩:=T.obj _ _ st5 b hb
   exact (I7.pin (b,o) (List.mem_append_right _ (List.mem_append_right _ (mem_pinsAt hb e)))).2.1
  cases f with
  | next=>obtain⟨σ7,H7,I7,n7⟩:=q7; exact again I7 n7
  | cont=>obtain⟨σ7,H7,I7,n7⟩:=q7; exact again I7 n7
  | brk=>obtain⟨σ7,H7,I7,q7⟩:=q7; exact⟨σ7,H7,I7.unpinned,q7⟩
  | ret v=>obtain⟨x7,σ7,H7,I7,r7,q7⟩:=q7; exact⟨x7,σ7,H7,I7.unpinned,r7,q7⟩
end
theorem for_list {K:PySem.W.Frag} {a:Addr} {xs:List V} {g:TG} {tb:TS} {D:Ends} {σ:St} {H:Hp} (Pv:Nat→St→Hp→Prop) (h0:Pv 0 σ H) (hl:∀ i σ H,i≤xs.length→Pv i σ H→SqL K H a xs)
  (hs:∀ i x σ H,xs[i]? = some x→Pv i σ H→g x σ H fun σ2 H2=>tb { D with nx:=Pv (i + 1),ct:=Pv (i + 1),bk:=D.nx } σ2 H2) (hd:∀ σ H,Pv xs.length σ H→D.nx σ H) :
  ∃ W:Nat→Nat→St→Hp→Prop,(∃ m,W 0 m σ H)∧∀ i m σ H,W i m σ H →
   ((Itl K a).stop i H∧D.nx σ H)∨((Itl K a).go i H∧∃ N:St→Hp→Prop,(∀ σ' H',N σ' H'→∃ m',m' < m∧W (i + 1) m' σ' H')∧∀ x H',(Itl K a).yld i H x H'→g x σ H' fun σ2 H2=>tb { D with nx:=N,ct:=N,bk:=D.nx } σ2 H2):=by
 refine⟨fun i m σ H=>m = xs.length - i∧i≤xs.length∧Pv i σ H,⟨xs.length,by simp,Nat.zero_le _,h0⟩,?_⟩
 rintro i m σ H ⟨rfl,hi,p⟩
 have q:=hl i σ H hi p
 by_cases hlt:i < xs.length
 ·refine .inr ⟨⟨xs,xs[i],q,by simp [hlt]⟩,Pv (i + 1),fun σ' H' p'=>⟨xs.length - (i + 1),by omega,rfl,hlt,p'⟩,fun x H' y=>?_⟩
  obtain⟨e,y⟩:=y
  subst e
  exact hs i x σ _ (y xs q) p
 ·have e:i = xs.length:=by omega
  subst e
  exact .inl ⟨⟨xs,q,Nat.le_refl _⟩,hd σ H p⟩
theorem for_range {lo:Int} {n:Nat} {g:TG} {tb:TS} {D:Ends} {σ:St} {H:Hp} (Pv:Nat→St→Hp→Prop) (h0:Pv 0 σ H)
  (hs:∀ i σ H,i < n→Pv i σ H→g (.int (lo + i)) σ H fun σ2 H2=>tb { D with nx:=Pv (i + 1),ct:=Pv (i + 1),bk:=D.nx } σ2 H2) (hd:∀ σ H,Pv n σ H→D.nx σ H) :
  ∃ W:Nat→Nat→St→Hp→Prop,(∃ m,W 0 m σ H)∧∀ i m σ H,W i m σ H →
   ((Itr lo n).stop i H∧D.nx σ H)∨((Itr lo n).go i H∧∃ N:St→Hp→Prop,(∀ σ' H',N σ' H'→∃ m',m' < m∧W (i + 1) m' σ' H')∧∀ x H',(Itr lo n).yld i H x H'→g x σ H' fun σ2 H2=>tb { D with nx:=N,ct:=N,bk:=D.nx } σ2 H2):=by
 refine⟨fun i m σ H=>m = n - i∧i≤n∧Pv i σ H,⟨n,by simp,Nat.zero_le _,h0⟩,?_⟩
 rintro i m σ H ⟨rfl,hi,p⟩
 by_cases hlt:i < n
 ·refine .inr ⟨hlt,Pv (i + 1),fun σ' H' p'=>⟨n - (i + 1),by omega,rfl,hlt,p'⟩,fun x H' y=>?_⟩
  obtain⟨e,y⟩:=y
  subst e y
  exact hs i σ _ hlt p
 ·have e:i = n:=by omega
  subst e
  exact .inl ⟨Nat.le_refl _,hd σ H p⟩
end L2
namespace L2
open PySem PySem.Spec PyProof.Rows
abbrev R2:=V→V→Hp→VK→Prop
def OpR (X:Cx) (f:Value→Value→Sem Value) (r:R2):Prop :=
 ∀ (pins:List (Addr × Obj)) (s:Shared) (σ:St) (H:Hp) (x y:V) (v u:Value) (Q:VK),Inv X pins σ H s→RelV x v→RelV y u→r x y H Q →
  wpAny (model X.prog X.w) X.A (f v u) (EP X pins σ Q) X.xe s
def UnR (X:Cx) (f:Value→Sem Value) (r:V→Hp→VK→Prop):Prop :=
 ∀ (pins:List (Addr × Obj)) (s:Shared) (σ:St) (H:Hp) (x:V) (v:Value) (Q:VK),Inv X pins σ H s→RelV x v→r x H Q →
  wpAny (model X.prog X.w) X.A (f v) (EP X pins σ Q) X.xe s
def CallR (X:Cx) (f:Value) (r:List V→Hp→VK→Prop):Prop :=
 ∀ (pins:List (Addr × Obj)) (s:Shared) (σ:St) (H:Hp) (xs:List V) (us:List Value) (Q:VK),Inv X pins σ H s→Vals xs us→r xs H Q →
  wpAny (model X.prog X.w) X.A (call f us) (EP X pins σ Q) X.xe s
def tOp (r:R2) (ta tb:TE):TE:=fun σ H Q=>ta σ H fun x H1=>tb σ H1 fun y H2=>r x y H2 Q
def tUn (r:V→Hp→VK→Prop) (ta:TE):TE:=fun σ H Q=>ta σ H fun x H1=>r x H1 Q
def rI (C:Int→Int→Prop) (g:Int→Int→V):R2:=fun x y H Q=>∃ i j,x = .int i∧y = .int j∧C i j∧Q (g i j) H
def rI0 (g:Int→Int→V):R2:=fun x y H Q=>∃ i j,x = .int i∧y = .int j∧Q (g i j) H
def rU (g:Int→V):V→Hp→VK→Prop:=fun x H Q=>∃ i,x = .int i∧Q (g i) H
section
variable {X:Cx} {a b c:Expr} {ta tb tc:TE} {pos:Pos}
theorem binT (ha:PE X a ta) (hb:PE X b tb) {pins:List (Addr × Obj)} {s:Shared} {σ:St} {H:Hp} {R:V→V→Hp→Prop} (I:Inv X pins σ H s)
  (h:ta σ H fun x H1=>tb σ H1 fun y H2=>R x y H2) {Q:Value→Shared→Prop} {f:Value→Value→Sem Value}
  (hf:∀ v u s2 x y H2,Inv X pins σ H2 s2→RelV x v→RelV y u→R x y H2→wpAny (model X.prog X.w) X.A (f v u) Q X.xe s2) :
  wpAny (model X.prog X.w) X.A (eval a X.env) (fun v s₁=>wpAny (model X.prog X.w) X.A (eval b X.env) (fun u s₂=>wpAny (model X.prog X.w) X.A (f v u) Q X.xe s₂) X.xe s₁) X.xe s:=by
 refine thn (ha pins s σ H _ I h) fun v s1 ⟨x,H1,I1,r1,q1⟩=>?_
 refine thn (hb pins s1 σ H1 _ I1 q1) fun u s2 ⟨y,H2,I2,r2,q2⟩=>?_
 exact hf v u s2 x y H2 I2 r1 r2 q2
theorem pe_op {op:Operator} {r:R2} (ho:OpR X (binaryOp op) r) (ha:PE X a ta) (hb:PE X b tb):PE X (.BinOp a op b pos) (tOp r ta tb):=by
 intro pins s σ H Q I h
 exact wpAny_BinOp (binT ha hb I h fun v u s2 x y H2 I2 rx ry q=>ho pins s2 σ H2 x y v u Q I2 rx ry q)
theorem pe_un {op:UnaryOp} {r:V→Hp→VK→Prop} (ho:UnR X (unaryOp op) r) (ha:PE X a ta):PE X (.UnaryOp op a pos) (tUn r ta):=by
 intro pins s σ H Q I h
 exact UnaryOp_ (thn (ha pins s σ H _ I h) fun v s1 ⟨x,H1,I1,r1,q1⟩=>ho pins s1 σ H1 x v Q I1 r1 q1)
theorem opI {f:Value→Value→Sem Value} {C:Int→Int→Prop} {g:Int→Int→Int}
  (rule:∀ (i j:Int) (t u:Tok) (s:Shared) (Q:Value→Shared→Prop) (E:Value→Shared→Prop),C i j→Q (.int (g i j) s.toks) { s with toks:=s.toks + 1 }→wpAny (model X.prog X.w) X.A (f (.int i t) (.int j u)) Q E s) :
  OpR X f (rI C fun i j=>.int (g i j)):=by
 intro pins s σ H x y v u Q I rx ry h
 obtain⟨i,j,rfl,rfl,hc,q⟩:=h
 obtain⟨t,rfl⟩:=rx
 obtain⟨t',rfl⟩:=ry
 exact rule i j t t' s _ _ hc ⟨.int (g i j),H,I.tok _,⟨_,rfl⟩,q⟩
theorem opI0 {f:Value→Value→Sem Value} {g:Int→Int→Int}
  (rule:∀ (i j:Int) (t u:Tok) (s:Shared) (Q:Value→Shared→Prop) (E:Value→Shared→Prop),Q (.int (g i j) s.toks) { s with toks:=s.toks + 1 }→wpAny (model X.prog X.w) X.A (f (.int i t) (.int j u)) Q E s) :
  OpR X f (rI0 fun i j=>.int (g i j)):=by
 intro pins s σ H x y v u Q I rx ry h
 obtain⟨i,j,rfl,rfl,q⟩:=h
 obtain⟨t,rfl⟩:=rx
 obtain⟨t',rfl⟩:=ry
 exact rule i j t t' s _ _ ⟨.int (g i j),H,I.tok _,⟨_,rfl⟩,q⟩
theorem opB0 {f:Value→Value→Sem Value} {g:Int→Int→Bool}
  (rule:∀ (i j:Int) (t u:Tok) (s:Shared) (Q:Value→Shared→Prop) (E:Value→Shared→Prop),Q (.bool (g i j)) s→wpAny (model X.prog X.w) X.A (f (.int i t) (.int j u)) Q E s) :
  OpR X f (rI0 fun i j=>.bl (g i j)):=by
 intro pins s σ H x y v u Q I rx ry h
 obtain⟨i,j,rfl,rfl,q⟩:=h
 obtain⟨t,rfl⟩:=rx
 obtain⟨t',rfl⟩:=ry
 exact rule i j t t' s _ _ ⟨.bl (g i j),H,I,rfl,q⟩
def CPow (i j:Int):Prop:=0≤j∧j≤1000000∧i.natAbs < 2 ^ 64
def CMul (i j:Int):Prop:=(-(2 ^ 64) < i∧i < 2 ^ 64)∨(-(2 ^ 64) < j∧j < 2 ^ 64)
theorem CMul.ok {i j:Int} (h:CMul i j):IntMulOk i j:=by
 rcases h with ⟨h1,h2⟩ | ⟨h1,h2⟩
 ·exact .of_left (intBits_le_64 h1 h2)
 ·exact .of_right (intBits_le_64 h1 h2)
theorem op_add:OpR X (binaryOp .Add) (rI0 fun i j=>.int (i + j)):=opI0 fun _ _ _ _ _ _ _ q=>add_int q
theorem op_sub:OpR X (binaryOp .Sub) (rI0 fun i j=>.int (i - j)):=opI0 fun _ _ _ _ _ _ _ q=>sub_int q
theorem op_mul:OpR X (binaryOp .Mult) (rI CMul fun i j=>.int (i * j)):=opI fun _ _ _ _ _ _ _ hc q=>mul_int q hc.ok
theorem op_mod:OpR X (binaryOp .Mod) (rI (fun _ j=>0 < j) fun i j=>.int (i % j)):=opI fun i j _ _ _ _ _ hc q=>by
 have h1:(0:Int) < j:=hc
 exact mod_int' (by omega) (by rw [Int.fmod_eq_emod_of_nonneg i (by omega)]; exact q)
theorem op_pow:OpR X (binaryOp .Pow) (rI CPow fun i j=>.int (i ^ j.toNat)):=opI fun _ _ _ _ _ _ _ hc q=>pow_int_small hc.1 hc.2.1 hc.2.2 q
theorem unI {f:Value→Sem Value} {g:Int→Int}
  (rule:∀ (i:Int) (t:Tok) (s:Shared) (Q:Value→Shared→Prop) (E:Value→Shared→Prop),Q (.int (g i) s.toks) { s with toks:=s.toks + 1 }→wpAny (model X.prog X.w) X.A (f (.int i t)) Q E s) :
  UnR X f (rU fun i=>.int (g i)):=by
 intro pins s σ H x v Q I rx h
 obtain⟨i,rfl,q⟩:=h
 obtain⟨t,rfl⟩:=rx
 exact rule i t s _ _ ⟨.int (g i),H,I.tok _,⟨_,rfl⟩,q⟩
theorem un_neg:UnR X (unaryOp .USub) (rU fun i=>.int (-i)):=unI fun _ _ _ _ _ q=>neg_int q
end
section
variable {X:Cx} {a b c:Expr} {ta tb tc:TE} {pos:Pos}
theorem fin_bl {pins:List (Addr × Obj)} {σ:St} {H:Hp} {s:Shared} {Q:VK} {k k':Bool} (I:Inv X pins σ H s) (q:Q (.bl k) H) (e:k = k'):EP X pins σ Q (.bool k') s:=by
 subst e
 exact⟨.bl k,H,I,rfl,q⟩
theorem op_lt:OpR X (compareOp .Lt) (rI0 fun i j=>.bl (decide (i < j))):=opB0 fun _ _ _ _ _ _ _ q=>lt_int q
theorem op_le:OpR X (compareOp .LtE) (rI0 fun i j=>.bl (decide (i≤j))):=opB0 fun _ _ _ _ _ _ _ q=>le_int q
theorem op_ge:OpR X (compareOp .GtE) (rI0 fun i j=>.bl (decide (j≤i))):=opB0 fun _ _ _ _ _ _ _ q=>ge_int q
theorem op_isN:OpR X (compareOp .Is) (fun x y H Q=>y = .non∧Q (.bl (decide (x = .non))) H):=by
 intro pins s σ H x y v u Q I rx ry h
 obtain⟨rfl,q⟩:=h
 cases ry
 refine is_none_gen (fin_bl I q ?_)
 cases x <;> first
  | (cases rx; rfl)
  | (obtain⟨t,rfl⟩:=rx; rfl)
theorem nomark (b:Expr) {op:CmpOp} (h:op≠.In:=by decide) (h2:op≠.NotIn:=by decide):behindInMarks op b = false:=by
 have e1:(op == CmpOp.In) = false:=by cases op <;> first | rfl | exact absurd rfl h
 have e2:(op == CmpOp.NotIn) = false:=by cases op <;> first | rfl | exact absurd rfl h2
 cases b <;> simp [behindInMarks,e1,e2]
theorem pe_cmpR {op:CmpOp} {r:R2} (ho:OpR X (compareOp op) r) (ha:PE X a ta) (hb:PE X b tb) (hm:behindInMarks op b = false):PE X (.Compare a [op] [b] pos) (tOp r ta tb):=by
 intro pins s σ H Q I h
 exact wpAny_Compare1 (binT ha hb I h fun v u s2 x y H2 I2 rx ry q=>ho pins s2 σ H2 x y v u Q I2 rx ry q) hm
theorem line63:(sizeLine:Nat) < 2 ^ 63:=by rw [sizeLine_eq]; decide
theorem vals1 {x:V} {us:List Value} (r:Vals [x] us):∃ u,us = [u]∧RelV x u:=by
 cases r with
 | cons r1 r2=>cases r2; exact⟨_,rfl,r1⟩
end
end L2
namespace L2
open PySem PySem.Spec PyProof.Rows
structure ObjM (h:Heap) (x dx C:Addr) (mA:Str→Option Value):Prop where
 obj:h.get? x = some (PySem.W.instObj C dx)
 ns:h.Ns1 dx mA
 ne:dx≠x
theorem lookIn_ns {h:Heap} {dx:Addr} {mA:Str→Option Value} (n:h.Ns1 dx mA):∃ od,h.get? dx = some od∧∀ name,PySem.W.lookIn name od = some (mA name):=by
 obtain⟨o,es,ep,ho,hd,hk,_,hm⟩:=n
 refine⟨o,ho,fun name=>?_⟩
 have e:=hm name
 unfold nsFind findBy at e
 rw [← Array.find?_toList] at e
 unfold PySem.W.lookIn
 rw [hd]
 dsimp only
 split
 ·rename_i y q
  rw [q] at e
  exact congrArg some e
 ·rename_i q
  rw [q] at e
  have a:es.toList.any (·.refKey) = false:=by
   rw [List.any_eq_false]
   intro y hy
   obtain⟨z,t,hkey⟩:=hk y (Array.mem_toList_iff.mp hy)
   simp [DictEntry.refKey,hkey]
  have a':¬ es.toList.any (·.refKey) = true:=by rw [a]; exact Bool.false_ne_true
  rw [if_neg a']
  exact congrArg some e
theorem ObjM.look {h:Heap} {x dx C:Addr} {mA:Str→Option Value} (I:ObjM h x dx C mA):∃ od,PySem.W.InstAt h x (PySem.W.instObj C dx) C (some od)∧∀ name,PySem.W.lookIn name od = some (mA name) :=
 let ⟨od,ho,hl⟩:=lookIn_ns I.ns
 ⟨od,⟨I.obj,rfl,rfl,ho⟩,hl⟩
section
variable {prog:Program} {w:World} {A:Around} {E:Value→Shared→Prop} {s:Shared} {K:PySem.W.Frag} {x dx C f:Addr} {mA:Str→Option Value} {name:Str} {v:Value}
end
section
variable {P:Program} {w:World} {H H':Hp} {h h':Heap} {a C dx:Addr} {fs fs':List (Str × V)}
theorem ins_get (hok:HOk P w H h) (e:H a = some (.ins C dx fs)):∃ mA,ObjM h a dx C mA∧(∀ f,RelO (fs.lookup f) (mA f))∧PySem.Within mA (fs.map (·.1))∧fs.length≤1000∧H dx = some (.own a):=by
 obtain⟨d,z,ne,ob,mA,n,r,q⟩:=(show ObjOk P w H h a (.ins C dx fs) from hok a _ e)
 exact⟨mA,⟨ob,n,ne⟩,r,q,z,d⟩
end
structure Cls (K:PySem.W.Frag) (C:Addr):Prop where
 pg:PySem.W.plainGet K C Str.empty = true
 hd:PySem.W.hasDictIn K C = true
 po:PySem.W.plainOver K C = true
 sa:PySem.W.findIn K (.ref C) "__setattr__" = some (some (.builtin "object.__setattr__"))
theorem Cls.get {K:PySem.W.Frag} {C:Addr} (c:Cls K C) (f:Str):PySem.W.plainGet K C f = true:=c.pg
section
variable {X:Cx} {pins:List (Addr × Obj)} {σ:St} {H:Hp} {s:Shared} {a C dx:Addr} {fs:List (Str × V)} {f:Str} {v:V} {A:Around} {E:Value→Shared→Prop}
end
section
variable {X:Cx} {o e value:Expr} {f:Str} {pos pos' tpos:Pos} {ta tv:TE}
end
section
variable {X:Cx} {pins:List (Addr × Obj)} {σ:St} {H:Hp} {s:Shared} {A:Around} {E:Value→Shared→Prop} {Q:Value→Shared→Prop} {c:Value} {b:Bool}
inductive TyOf (K:PySem.W.Frag) (H:Hp):V→Value→Prop where
 | non:TyOf K H .non (.type "NoneType")
 | bl (x:Bool):TyOf K H (.bl x) (.type "bool")
 | int (i:Int):TyOf K H (.int i) (.type "int")
 | str (x:Str):TyOf K H (.str x) (.type "str")
 | flt (x:UInt64):TyOf K H (.flt x) (.type "float")
 | lst {a:Addr} {xs:List V} (e:H a = some (.lst xs)):TyOf K H (.ref a) (.type "list")
 | frz {a:Addr} {o:Obj} {xs:List V} (e:H a = some (.frz o (.lst xs))):TyOf K H (.ref a) (.type "list")
 | tup {a:Addr} {xs:List V} (e:H a = some (.tup xs)):TyOf K H (.ref a) (.type "tuple")
 | dK {a:Addr} {kvs:List (Key × V)} (e:H a = some (.dK kvs)):TyOf K H (.ref a) (.type "dict")
 | dT {a:Addr} {kvs:List (List Key × V)} (e:H a = some (.dT kvs)):TyOf K H (.ref a) (.type "dict")
 | ins {a C dx:Addr} {fs:List (Str × V)} (e:H a = some (.ins C dx fs)) (cl:Cls K C) (ha:PySem.W.findIn K (.ref C) "__class__" = some (some (.builtin "object.__class__")))
   (hn:PySem.W.specialIn K (.builtin "object.__class__") "__get__" = some (some (.builtin "getset_descriptor.__get__"))) (htk:PySem.W.takesIn K (.builtin "object.__class__") = some true)
   (hm:PySem.W.mroIn K C (.type "object") = some true):TyOf K H (.ref a) (.ref C)
theorem isinst_ok {x:V} {u t:Value} (I:Inv X pins σ H s) (rx:RelV x u) (ty:TyOf X.K H x t) (e:PySem.W.kitOne X.K t c = some b) (h:∀ tk,Q (.bool b) { s with toks:=tk }) :
  wpAny (model X.prog X.w) A (call (.builtin "isinstance") [u,c]) Q E s:=by
 cases ty with
 | non=>cases (show u = Value.none from rx); exact PySem.W.kia_one PySem.W.kitx_none I.kIn True.intro e (fun z=>nomatch z) h
 | bl y=>cases (show u = Value.bool y from rx); exact PySem.W.kia_one PySem.W.kitx_bool I.kIn True.intro e (fun z=>nomatch z) h
 | int i=>obtain⟨t,q⟩:=(show ∃ t,u = Value.int i t from rx); cases q; exact PySem.W.kia_one PySem.W.kitx_int I.kIn True.intro e (fun z=>nomatch z) h
 | str y=>obtain⟨t,q⟩:=(show ∃ t,u = Value.str y t from rx); cases q; exact PySem.W.kia_one PySem.W.kitx_str I.kIn True.intro e (fun z=>nomatch z) h
 | flt y=>obtain⟨t,q⟩:=(show ∃ t,u = Value.float y t from rx); cases q; exact PySem.W.kia_one PySem.W.kitx_float I.kIn True.intro e (fun z=>nomatch z) h
 | @lst a xs ea =>
  cases (show u = Value.ref a from rx)
  obtain⟨_,_,n,_,h1⟩:=(show ObjOk X.prog X.w H s.heap a (.lst xs) from I.hok a _ ea)
  exact PySem.W.kia_one PySem.W.kitx_list I.kIn ⟨_,h1,rfl⟩ e (fun z=>nomatch z) h
 | @frz a ob xs ea =>
  cases (show u = Value.ref a from rx)
  obtain⟨_,_,_,n,_,h1⟩:=(show ObjOk X.prog X.w H s.heap a (.frz ob (.lst xs)) from I.hok a _ ea)
  exact PySem.W.kia_one PySem.W.kitx_list I.kIn ⟨_,h1,rfl⟩ e (fun z=>nomatch z) h
 | @tup a xs ea =>
  cases (show u = Value.ref a from rx)
  obtain⟨_,_,_,p⟩:=(show ObjOk X.prog X.w H s.heap a (.tup xs) from I.hok a _ ea)
  obtain⟨o,h1,h2,_⟩:=p
  exact PySem.W.kia_one PySem.W.kitx_tuple I.kIn ⟨o,h1,h2⟩ e (fun z=>nomatch z) h
 | @dK a kvs ea =>
  cases (show u = Value.ref a from rx)
  obtain⟨_,_,vs,_,p⟩:=(show ObjOk X.prog X.w H s.heap a (.dK kvs) from I.hok a _ ea)
  obtain⟨o,es,ep,h1,h2,_⟩:=p
  exact PySem.W.kia_one PySem.W.kitx_dict I.kIn ⟨o,h1,h2.1⟩ e (fun z=>nomatch z) h
 | @dT a kvs ea =>
  cases (show u = Value.ref a from rx)
  obtain⟨_,_,xs,_,o,es,ep,h1,h2,_⟩:=(show ObjOk X.prog X.w H s.heap a (.dT kvs) from I.hok a _ ea)
  exact PySem.W.kia_one PySem.W.kitx_dict I.kIn ⟨o,h1,h2.1⟩ e (fun z=>nomatch z) h
 | @ins a C dx fs ea cl ha hn htk hm =>
  cases (show u = Value.ref a from rx)
  obtain⟨mA,O,_⟩:=ins_get I.hok ea
  obtain⟨od,J,_⟩:=O.look
  exact PySem.W.kia_one (PySem.W.kitx_own (cl.get _) cl.hd ha hn htk hm) I.kIn J e (fun z=>nomatch z) h
end
end L2
namespace L2
open PySem PySem.Spec PyProof.Rows
structure Room (k:Nat) (A:Around):Prop where
 hd:A.handled = none
 dp:A.depth + 3 * k + 5 < recursionLimit
 un:A.units + 16 * k + 200 < cLine
theorem Room.mono {j k:Nat} {A:Around} (r:Room k A) (h:j≤k):Room j A:=⟨r.hd,by have:=r.dp; omega,by have:=r.un; omega⟩
theorem Room.deeper {k:Nat} {A:Around} (r:Room (k + 1) A) (env:Env):Room k (A.deeper env) :=
 ⟨r.hd,by have:=r.dp; show A.depth + 1 + 3 * k + 5 < _; omega,by have:=r.un; show A.units + 3 + 16 * k + 200 < _; omega⟩
theorem Room.depth {k:Nat} {A:Around} (r:Room k A):A.depth < recursionLimit:=by have:=r.dp; omega
theorem Room.units {k:Nat} {A:Around} (r:Room k A):A.units + 64 < cLine:=by have:=r.un; omega
def tNil:TA:=fun _ H Q=>Q [] H
def tCons (ta:TE) (tr:TA):TA:=fun σ H Q=>ta σ H fun x H1=>tr σ H1 fun xs H2=>Q (x :: xs) H2
section
variable {X:Cx} {e:Expr} {es:List Expr} {te:TE} {t:TA} {pos:Pos}
theorem pa_nil:PA X [] tNil:=fun _ _ _ _ H Q I h=>Calls.spliced_nil ⟨[],H,I,.nil,h⟩
theorem pa_cons (ha:PE X e te) (hr:PA X es t) (hs:starEach (e :: es) X.env = (false,eval e X.env) :: starEach es X.env:=by rfl):PA X (e :: es) (tCons te t):=by
 intro pos pins s σ H Q I h
 rw [hs]
 show wpAny _ _ (spliced ((false,eval e X.env) :: backTo pos (starEach es X.env))) _ _ s
 refine Calls.spliced_cons (thn (ha pins s σ H _ I h) fun u s1 ⟨x,H1,I1,r1,q1⟩=>?_)
 exact thn (hr pos pins s1 σ H1 _ I1 q1) fun us s2 ⟨xs,H2,I2,r2,q2⟩=>⟨x :: xs,H2,I2,.cons r1 r2,q2⟩
def tTup (t:TA):TE:=fun σ H Q=>t σ H fun xs H1=>xs.length≤sizeLine∧∀ p,H1 p = none→Q (.ref p) (upd H1 p (.tup xs))
def tLst (t:TA):TE:=fun σ H Q=>t σ H fun xs H1=>xs.length≤sizeLine∧∀ p,H1 p = none→Q (.ref p) (upd H1 p (.lst xs))
theorem pe_tup {x1} (h:PA X es t):PE X (.Tuple es x1 pos) (tTup t):=by
 intro pins s σ H Q I hq
 refine wpAny_Tuple_spliced (thn (h pos pins s σ H _ I hq) fun us s1 ⟨xs,H1,I1,r,z,q⟩=>⟨by rw [← r.length]; exact z,?_⟩)
 have hf:H1 s1.heap.objs.size = none:=I1.hok.fresh (Nat.le_refl _)
 refine⟨.ref s1.heap.objs.size,upd H1 s1.heap.objs.size (.tup xs),I1.laid (t':=s1.toks) (fun b u e=>Heap.get?_push_of_some _ e) (Nat.le_refl _) ?_,rfl,q _ hf⟩
 exact⟨z,us,r,.of (Heap.get?_push_size _ rfl)⟩
theorem pe_lst (h:PA X es t):PE X (.List es pos) (tLst t):=by
 intro pins s σ H Q I hq
 refine wpAny_List_spliced (thn (h pos pins s σ H _ I hq) fun us s1 ⟨xs,H1,I1,r,z,q⟩=>⟨by rw [← r.length]; exact z,?_⟩)
 have hf:H1 s1.heap.objs.size = none:=I1.hok.fresh (Nat.le_refl _)
 refine⟨.ref s1.heap.objs.size,upd H1 s1.heap.objs.size (.lst xs),I1.laid (t':=s1.toks) (fun b u e=>Heap.get?_push_of_some _ e) (Nat.le_refl _) ?_,rfl,q _ hf⟩
 exact⟨z,us,0,r,Heap.get?_push_size _ rfl⟩
end
abbrev Sp:=List V→Hp→VK→XK→Prop
abbrev CXT:=List Env→Hp→Shared→XK→Value→Shared→Prop
structure Env0 (P:Program) (w:World) (K:PySem.W.Frag) (mg:Str→Option Value) (base:Heap) (A:Around) (outer:List Env) (s:Shared) (H:Hp):Prop where
 frames:A.frames = some outer
 mod:Mod K mg base
 bs:∀ b o,base.get? b = some o→s.heap.get? b = some o∧H b = none
 bsz:base.objs.size≤s.heap.objs.size
 funs:s.heap.FunFrames base outer
 frf:∀ b∈frs outer,H b = none
 hok:HOk P w H s.heap
 bare:AllBare s.gens
def CE (outer:List Env) (P:Program) (w:World) (H:Hp) (s:Shared) (Q:VK) (u:Value) (s':Shared):Prop :=
 ∃ v H',s'.os = s.os∧AllBare s'.gens∧Un (frs outer) [] H H' s.heap s'.heap∧HOk P w H' s'.heap∧RelV v u∧Q v H'
def CR (CX:CXT) (outer:List Env) (P:Program) (w:World) (H:Hp) (s:Shared) (Q:VK) (E:XK) (r:Result) (s':Shared):Prop :=
 match r with
 | .ok (.ret u)=>CE outer P w H s Q u s'
 | .ok _=>False
 | .error e=>CX outer H s E e s'
structure FnOk (P:Program) (w:World) (K:PySem.W.Frag) (mg:Str→Option Value) (base:Heap) (CX:CXT) (k:Nat) (f:Addr) (fd:FuncData) (ps:List Str) (sp:Sp):Prop where
 len:∀ vs H Q E,sp vs H Q E→vs.length = ps.length
 run:∀ (A:Around) (outer:List Env) (s:Shared) (H:Hp) (args:Args) (us:List Value) (vs:List V) (Q:VK) (E:XK),Room k A→Env0 P w K mg base A outer s H→BindsTo s fd args (ps.zip us)→Vals vs us→sp vs H Q E →
  codeAny (model P w) A (.call (.ref f) args) (CR CX outer P w H s Q E) s
section
variable {X:Cx} {pins:List (Addr × Obj)} {σ:St} {H:Hp} {s s':Shared}
theorem Inv.env0 (I:Inv X pins σ H s):Env0 X.prog X.w X.K X.mg X.base X.A X.stack s H :=
 ⟨I.ok.frames,I.ok.mod,I.bs,Nat.le_trans I.ok.bsz I.sz,I.stack,I.stkFree,I.hok,I.bare⟩
theorem Inv.after {Q:VK} {u:Value} (I:Inv X pins σ H s) (h:CE X.stack X.prog X.w H s Q u s'):EP X pins σ Q u s':=by
 obtain⟨v,H',os,bare,un,hok,r,q⟩:=h
 obtain⟨hh,g,d,t,os'⟩:=s'
 obtain rfl:os' = s.os:=os
 exact⟨v,H',I.call (h':=hh) (g':=g) (d':=d) (t':=t) (ch:=[]) un hok bare (fun b z=>absurd z (by simp)),r,q⟩
end
def tCall (sp:Sp) (dvs:List V) (E:XK) (t:TA):TE:=fun σ H Q=>t σ H fun vs H1=>sp (vs ++ dvs) H1 Q E
def Binds (K:PySem.W.Frag) (fd:FuncData) (ps:List Str) (ds:List Value):Prop :=
 ∀ (s:Shared) (us:List Value),K.In s.heap→(us ++ ds).length = ps.length→BindsTo s fd ⟨us,[]⟩ (ps.zip (us ++ ds))
theorem Binds.all {K:PySem.W.Frag} {fd:FuncData} {ps:List Str} (h:∀ us:List Value,us.length = ps.length→bindArgs fd ⟨us,[]⟩ = pure (ps.zip us)):Binds K fd ps []:=fun s us _ hl=>by
 rw [List.append_nil] at hl ⊢
 exact .of_eq (h us hl)
def Passes (CX:CXT) (X:Cx) (E:XK):Prop:=∀ (pins:List (Addr × Obj)) (σ:St) (H:Hp) (s:Shared) (e:Value) (s':Shared),Inv X pins σ H s→CX X.stack H s E e s'→X.xe e s'
section
variable {X:Cx} {CX:CXT} {k:Nat} {f C:Addr} {fd:FuncData} {ps:List Str} {sp:Sp} {dvs:List V} {ds:List Value} {E:XK} {x m:Str} {p pos apos:Pos} {e o:Expr} {es:List Expr} {ta:TE} {t:TA}
theorem run_fn {pins:List (Addr × Obj)} {σ:St} {H:Hp} {s:Shared} {Q:VK} {us:List Value} {vs:List V} (F:FnOk X.prog X.w X.K X.mg X.base CX k f fd ps sp) (hr:Room k X.A) (hb:Binds X.K fd ps ds) (hd:Vals dvs ds) (hx:Passes CX X E)
  (I:Inv X pins σ H s) (r:Vals vs us) (h:sp (vs ++ dvs) H Q E):wpAny (model X.prog X.w) X.A (call (.ref f) us) (EP X pins σ Q) X.xe s:=by
 have r2:Vals (vs ++ dvs) (us ++ ds):=r.append hd
 have hl:(us ++ ds).length = ps.length:=by rw [← r2.length]; exact F.len _ _ _ _ h
 refine wpAny_call (codeAny_mono (F.run X.A X.stack s H ⟨us,[]⟩ (us ++ ds) (vs ++ dvs) Q E hr I.env0 (hb s us I.kIn hl) r2 h) fun r s' hq=>?_)
 cases r with
 | error e=>exact hx pins σ H s e s' I hq
 | ok fl =>
  cases fl with
  | ret u=>exact I.after hq
  | next=>exact False.elim hq
  | brk=>exact False.elim hq
  | cont=>exact False.elim hq
theorem pe_call (F:FnOk X.prog X.w X.K X.mg X.base CX k f fd ps sp) (hr:Room k X.A) (hg:Gl X x) (hm:X.mg x = some (.ref f)) (hk:PySem.W.keepIn X.K (.ref f) = true) (hb:Binds X.K fd ps ds) (hd:Vals dvs ds) (hx:Passes CX X E)
  (ha:PA X (e :: es) t) (hdb:(x == ("__debug__":Str)) = false:=by decide) (he:starEach (e :: es) X.env = (false,eval e X.env) :: starEach es X.env:=by rfl) (hpl:(backTo pos (starEach es X.env)).any (·.1) = false:=by rfl) :
  PE X (.Call (.Name x p) (e :: es) [] pos) (tCall sp dvs E t):=by
 intro pins s σ H Q I h
 refine wpAny_Call_Name_kw (ld_glob I hg hm ?_ hdb)
 refine PySem.W.callWith_K (h₀:=X.base) I.ok.mod.kin hk (thn (ha pos pins s σ H _ I h) fun us s1 ⟨vs,H1,I1,r,q⟩=>⟨I1.kIn,?_⟩) he hpl
 exact run_fn F hr hb hd hx I1 r q
end
section
variable {X:Cx} {CX:CXT} {k:Nat} {f C:Addr} {fd:FuncData} {ps ks:List Str} {sp:Sp} {E:XK} {x m:Str} {p pos apos kpos:Pos} {e o:Expr} {es:List Expr} {kws:List Keyword} {te ta:TE} {t tk:TA} {nm:Option Str}
variable {g:List Value→List Value→List Value} {gV:List V→List V→List V}
end
structure FnScope (N P:List Str) (sc:Scope):Prop where
 kind:sc.kind = .function
 co:sc.isCoroutine = false
 gen:sc.isGenerator = false
 nd:N.Nodup
 pre:N.take P.length = P
 par:∀ x∈P,sc.names.lookup x = some .local∨sc.names.lookup x = some .cell
 nofree:∀ y∈sc.names,y.2≠.free
theorem bindL_out {kindOf:Str→Option NameKind} {x:Str}:∀ {binds:List (Str × Value)} {m:Str→Option Value},(∀ v,(x,v) ∉ binds)→bindL kindOf binds m x = m x
 | [],_,_=>rfl
 | (n,v) :: r,m,h=>by
  unfold bindL
  rw [bindL_out fun w hw=>h w (List.mem_cons_of_mem _ hw)]
  split
  ·have:x≠n:=by rintro rfl; exact h v List.mem_cons_self
   simp [this]
  ·rfl
theorem bindC_out {kindOf:Str→Option NameKind} {x:Str}:∀ {binds:List (Str × Value)} {m:Str→Option Value},(∀ v,(x,v) ∉ binds)→bindC kindOf binds m x = m x
 | [],_,_=>rfl
 | (n,v) :: r,m,h=>by
  unfold bindC
  rw [bindC_out fun w hw=>h w (List.mem_cons_of_mem _ hw)]
  split
  ·rfl
  ·have:x≠n:=by rintro rfl; exact h v List.mem_cons_self
   simp [this]
theorem bindL_get {kindOf:Str→Option NameKind} {x:Str} {v:Value}:∀ {P:List Str} {vs:List Value} {i:Nat} {m:Str→Option Value},P.Nodup→P[i]? = some x→vs[i]? = some v→kindOf x = some .local →
  bindL kindOf (P.zip vs) m x = some v
 | [],_,_,_,_,h,_,_=>by simp at h
 | _ :: _,[],_,_,_,_,h,_=>by simp at h
 | p :: P,w :: vs,0,m,nd,h1,h2,hk=>by
  simp at h1 h2; subst h1; subst h2
  show bindL kindOf ((p,w) :: P.zip vs) m p = _
  unfold bindL
  rw [bindL_out fun v hv=>(List.nodup_cons.mp nd).1 (List.of_mem_zip hv).1,if_pos hk]
  simp
 | p :: P,w :: vs,i + 1,m,nd,h1,h2,hk=>by
  show bindL kindOf ((p,w) :: P.zip vs) m x = _
  unfold bindL
  exact bindL_get (i:=i) (List.nodup_cons.mp nd).2 (by simpa using h1) (by simpa using h2) hk
theorem bindC_get {kindOf:Str→Option NameKind} {x:Str} {v:Value}:∀ {P:List Str} {vs:List Value} {i:Nat} {m:Str→Option Value},P.Nodup→P[i]? = some x→vs[i]? = some v→kindOf x≠some .local →
  bindC kindOf (P.zip vs) m x = some v
 | [],_,_,_,_,h,_,_=>by simp at h
 | _ :: _,[],_,_,_,_,h,_=>by simp at h
 | p :: P,w :: vs,0,m,nd,h1,h2,hk=>by
  simp at h1 h2; subst h1; subst h2
  show bindC kindOf ((p,w) :: P.zip vs) m p = _
  unfold bindC
  rw [bindC_out fun v hv=>(List.nodup_cons.mp nd).1 (List.of_mem_zip hv).1,if_neg hk]
  simp
 | p :: P,w :: vs,i + 1,m,nd,h1,h2,hk=>by
  show bindC kindOf ((p,w) :: P.zip vs) m x = _
  unfold bindC
  exact bindC_get (i:=i) (List.nodup_cons.mp nd).2 (by simpa using h1) (by simpa using h2) hk
def start (N:List Str) (vs:List V):St:=vs.map some ++ List.replicate (N.length - vs.length) none
def cxOf (CX:CXT) (P:Program) (w:World) (K:PySem.W.Frag) (mg:Str→Option Value) (base:Heap) (N:List Str) (qual:Str) (scope:Scope) (f:Addr) (cd:Value) (A:Around) (outer:List Env) (s:Shared) (H:Hp) (E:XK):Cx where
 prog:=P
 w:=w
 K:=K
 mg:=mg
 base:=base
 A:=A.deeper (envOfC qual scope s.heap.objs.size f cd)
 N:=N
 s₀:=s
 H₀:=H
 env:=envOfC qual scope s.heap.objs.size f cd
 outer:=outer
 stack:=envOfC qual scope s.heap.objs.size f cd :: outer
 ex:=[]
 calm:=true
 fn:=fun _=>true
 pn:=[]
 xe:=fun e s'=>wpAny (model P w) (A.deeper (envOfC qual scope s.heap.objs.size f cd)) (leaving (envOfC qual scope s.heap.objs.size f cd) e) (fun _ s''=>CX outer H s E e s'') (fun e' s''=>CX outer H s E e' s'') s'
theorem cell_has {sc:Scope} {n:Nat} {x:Str} (h:sc.names.lookup x = some .cell):∃ c,(cellsFrom n sc.names []).lookup x = some c:=by
 have q:=PySem.W.cellsFrom_some sc.names n [] (.inl h)
 exact Option.isSome_iff_exists.mp q
theorem inv_start {CX:CXT} {P:Program} {w:World} {K:PySem.W.Frag} {mg:Str→Option Value} {base:Heap} {N ps:List Str} {qual:Str} {scope:Scope} {f:Addr} {cd:Value} {A:Around} {outer:List Env} {s s1:Shared} {H:Hp} {E:XK} {us:List Value} {vs:List V}
  (S:FnScope N ps scope) (hd:A.handled = none) (e0:Env0 P w K mg base A outer s H) (hl:vs.length = ps.length) (r:Vals vs us)
  (x:InCallC s s.heap.objs.size (bindL (envOfC qual scope s.heap.objs.size f cd).kindOf (ps.zip us) fun _=>none) (cellsFrom (s.heap.objs.size + 1) scope.names []) (bindC (envOfC qual scope s.heap.objs.size f cd).kindOf (ps.zip us) fun _=>none) s1) :
  Inv (cxOf CX P w K mg base N qual scope f cd A outer s H E) [] (start N vs) H s1:=by
 have hpl:ps.length≤N.length:=by have:=congrArg List.length S.pre; rw [List.length_take] at this; omega
 obtain⟨h1,tk,rfl,hk⟩:=x.done
 have noA:∀ b:Addr,b ∉ (cxOf CX P w K mg base N qual scope f cd A outer s H E).ex:=fun b z=>absurd (show b∈([]:List Addr) from z) (by simp)
 refine⟨⟨e0.mod,S.kind,rfl,rfl,Nat.le_refl _,fun y z c h1 h2=>?_,fun y hy=>?_,fun y c _ h=>?_,fun _=>hd,Around.frames_deeper e0.frames,.inr ⟨rfl,rfl⟩,fun b z=>absurd z (noA b),e0.bs,e0.bsz,fun b _ _=>noA b,fun b z=>absurd z (noA b),e0.funs,e0.frf⟩,
  rfl,e0.bare,Un.kept hk,⟨_,x.toInCall.ns,fun i y v h1 h2 h3=>?_⟩,fun y c h=>⟨_,x.cell y c h⟩,e0.hok.fresh (Nat.le_refl _),fun y c h=>?_,fun p hp=>absurd (show p∈([]:List (Addr × Obj)) from hp) (by simp),e0.hok.kept hk,?_⟩
 ·exact name_of_addr x.apart (PySem.mem_of_lookup h1) (PySem.mem_of_lookup h2)
 ·have hy:scope.names.lookup y = some .cell∨scope.names.lookup y = some .free:=hy
  rcases hy with hy | hy
  ·exact cell_has hy
  ·exact absurd rfl (S.nofree _ (PySem.mem_of_lookup hy))
 ·exact Nat.le_of_lt (x.above y c (PySem.mem_of_lookup h))
 ·have hi:i < vs.length:=by
   unfold start at h2
   by_cases hi:i < vs.length
   ·exact hi
   ·rw [List.getElem?_append_right (by simpa using hi)] at h2
    rw [List.getElem?_replicate] at h2
    split at h2 <;> cases h2
  have ha:vs[i]? = some v:=by
   unfold start at h2
   rw [List.getElem?_append_left (by simpa using hi),List.getElem?_map] at h2
   cases e:vs[i]? with
   | none=>rw [e] at h2; cases h2
   | some a=>rw [e] at h2; cases h2; rfl
  obtain⟨u,hu,rv⟩:=r.get ha
  have hp:ps[i]? = some y:=by
   rw [← S.pre,List.getElem?_take_of_lt (by omega)]; exact h1
  have ndP:ps.Nodup:=by rw [← S.pre]; exact S.nd.sublist (List.take_sublist _ _)
  refine⟨u,rv,?_⟩
  rcases S.par y (List.mem_of_getElem? hp) with k | k
  ·exact .inl ⟨k,bindL_get ndP hp hu k⟩
  ·obtain⟨c,e⟩:=cell_has (n:=s.heap.objs.size + 1) k
   refine .inr ⟨.inl k,c,e,?_⟩
   have q:=x.cell y c e
   rw [bindC_get ndP hp hu (by show scope.names.lookup y≠_; rw [k]; decide)] at q
   exact q
 ·exact e0.hok.fresh (Nat.le_of_lt (x.above y c (PySem.mem_of_lookup h)))
 ·unfold start
  show _ = N.length
  rw [List.length_append,List.length_map,List.length_replicate]
  omega
theorem fn_of {CX:CXT} {P:Program} {w:World} {K:PySem.W.Frag} {mg:Str→Option Value} {base:Heap} {k:Nat} {f:Addr} {name qual:Str} {params:Arguments} {body:List Stmt} {scope:Scope} {dV kV doc pm cdv ct oc:Value} {an od:Option Addr}
  {osl:Array (Option Value)} {N ps:List Str} {sp:Sp} (lk:K.lookup f = some ⟨oc,od,.func (PySem.W.fnOf name qual params body scope dV kV doc pm an cdv ct),osl⟩) (hcd:PySem.W.codeIn K cdv qual = true) (S:FnScope N ps scope)
  (len:∀ vs H Q E,sp vs H Q E→vs.length = ps.length)
  (hbody:∀ (A:Around) (outer:List Env) (s:Shared) (H:Hp) (vs:List V) (Q:VK) (E:XK),Room k (A.deeper (envOfC qual scope s.heap.objs.size f cdv))→sp vs H Q E →
   ∃ t,PSs (cxOf CX P w K mg base N qual scope f cdv A outer s H E) body t∧t { nx:=fun _ H'=>Q .non H',rt:=Q } (start N vs) H) :
  FnOk P w K mg base CX (k + 1) f (PySem.W.fnOf name qual params body scope dV kV doc pm an cdv ct) ps sp:=by
 refine⟨len,fun A outer s H args us vs Q E hr e0 hb r hsp=>?_⟩
 have hl:=len _ _ _ _ hsp
 have KX:K.In s.heap:=e0.mod.kin.keeps fun b o e=>(e0.bs b o e).1
 have lim:s.heap.NoLimit:=e0.mod.nolimit.keeps fun b o e=>(e0.bs b o e).1
 have hkind:∀ y∈ps.zip us,scope.names.lookup y.1 = some .local∨(scope.names.lookup y.1 = some .cell∧((cellsFrom (s.heap.objs.size + 1) scope.names []).lookup y.1).isSome = true):=fun ⟨n,v⟩ hy=>by
  rcases S.par n (List.of_mem_zip hy).1 with q | q
  ·exact .inl q
  ·exact .inr ⟨q,PySem.W.cellsFrom_some _ _ _ (.inl q)⟩
 refine codeAny_call_function hr.depth (KX _ _ lk) rfl S.co S.gen rfl (PySem.W.codeRec_of KX hcd) (hb _ _ _ _ ?_)
 refine wpAny_newFunctionEnv_cells S.kind hkind fun env he s1 x=>?_
 subst he
 refine⟨lim.keeps x.toInCall.keep,codeAny_func ?_⟩
 obtain⟨t,ht,hq⟩:=hbody A outer s H vs Q E (hr.deeper _) hsp
 have I:Inv (cxOf CX P w K mg base N qual scope f cdv A outer s H E) [] (start N vs) H s1:=inv_start S hr.hd e0 hl r x
 refine wpAny_mono (ht [] s1 (start N vs) H _ I hq) (fun fl s' hs=>?_) fun e s' hs=>hs
 have fin:∀ {σ':St} {H':Hp} {v:V} {u:Value},Inv (cxOf CX P w K mg base N qual scope f cdv A outer s H E) [] σ' H' s'→RelV v u→Q v H'→CE outer P w H s Q u s' :=
  fun {σ' H' v u} J rv q=>⟨v,H',J.os,J.bare,J.base,J.hok,rv,q⟩
 cases fl with
 | ret u =>
  obtain⟨v,σ',H',J,rv,q⟩:=hs
  exact fin J rv q
 | next =>
  obtain⟨σ',H',J,q⟩:=hs
  exact fin (v:=V.non) (u:=Value.none) J rfl q
 | brk =>
  obtain⟨_,_,_,q⟩:=hs
  exact False.elim q
 | cont =>
  obtain⟨_,_,_,q⟩:=hs
  exact False.elim q
end L2
namespace L2
open PySem PySem.Spec PyProof.Rows
section
variable {X:Cx} {x:Str} {p pos:Pos} {e:Expr} {es:List Expr} {t:TA} {id T:String} {r:List V→Hp→VK→Prop}
def tCB (r:List V→Hp→VK→Prop) (t:TA):TE:=fun σ H Q=>t σ H fun vs H1=>r vs H1 Q
theorem pe_callB (hc:CallR X (.builtin id) r) (hg:Gl X x) (hm:X.mg x = none) (hv:bootBuiltins x = some (.builtin id)) (ha:PA X (e :: es) t) (hn:x≠"__name__":=by decide) (hdb:(x == ("__debug__":Str)) = false:=by decide)
  (he:starEach (e :: es) X.env = (false,eval e X.env) :: starEach es X.env:=by rfl) (hpl:(backTo pos (starEach es X.env)).any (·.1) = false:=by rfl):PE X (.Call (.Name x p) (e :: es) [] pos) (tCB r t):=by
 intro pins s σ H Q I h
 refine wpAny_Call_Name_kw (ld_blt I hg hm hv ?_ hn hdb)
 exact PyProof.Rows.callWith_builtin1 (thn (ha pos pins s σ H _ I h) fun us s1 ⟨vs,H1,I1,r1,q1⟩=>hc pins s1 σ H1 vs us Q I1 r1 q1) he hpl
theorem pe_callTy (hc:CallR X (.type T) r) (hg:Gl X x) (hm:X.mg x = none) (hv:bootBuiltins x = some (.type T)) (ha:PA X (e :: es) t) (hn:x≠"__name__":=by decide) (hdb:(x == ("__debug__":Str)) = false:=by decide)
  (he:starEach (e :: es) X.env = (false,eval e X.env) :: starEach es X.env:=by rfl) (hpl:(backTo pos (starEach es X.env)).any (·.1) = false:=by rfl):PE X (.Call (.Name x p) (e :: es) [] pos) (tCB r t):=by
 intro pins s σ H Q I h
 refine wpAny_Call_Name_kw (ld_blt I hg hm hv ?_ hn hdb)
 exact PyProof.Rows.callWith_type1 (thn (ha pos pins s σ H _ I h) fun us s1 ⟨vs,H1,I1,r1,q1⟩=>hc pins s1 σ H1 vs us Q I1 r1 q1) he hpl
end
end L2
namespace HT
open PySem PyProof.Rows
theorem rcLt_int (A:Around) (s:Shared) (a:Int) (t:Tok) (c:Int) (u:Tok) (prog:Program) (w:World) (E:Value→Shared→Prop) (Q:Value→Shared→Prop) (h:Q (.bool (decide (a < c))) s) :
  wpAny (model prog w) A (richCompare .Lt (.int a t) (.int c u)) Q E s :=
 (PyProof.Rows.lt_int h:wpAny (model prog w) A (compareOp .Lt (.int a t) (.int c u)) Q E s)
section
open PySem.SeqAt
open PySem.AutoSeq1 (wpAny_loadPart')
open PySem.MeetsSeq PySem.MeetsSeq2 PySem.MeetsSeq3
end
section
variable {prog:Program} {w:World} {A:Around} {E:Value→Shared→Prop} {s:Shared}
def sIx (n d:Nat):Option Int→Nat
 | none=>d
 | some v=>if v < 0 then (v + (n:Int)).toNat else min v.toNat n
theorem sIx_none (n d:Nat):sIx n d none = d:=rfl
theorem sIx_nat (n d k:Nat):sIx n d (some (k:Int)) = min k n:=by
 show (if (k:Int) < 0 then ((k:Int) + (n:Int)).toNat else min (k:Int).toNat n) = min k n
 rw [if_neg (by omega),Int.toNat_natCast]
end
end HT
namespace L2
open PySem PySem.Spec PyProof.Rows
abbrev TO:=St→Hp→(Option Int→Hp→Prop)→Prop
def PO (X:Cx) (e:Option Expr) (t:TO):Prop :=
 ∀ (pins:List (Addr × Obj)) (s:Shared) (σ:St) (H:Hp) (Q:Option Int→Hp→Prop),Inv X pins σ H s→t σ H Q →
  wpAny (model X.prog X.w) X.A (evalPart e X.env) (fun u s'=>∃ o H',Inv X pins σ H' s'∧IsPart u o∧Q o H') X.xe s
def tNoPart:TO:=fun _ H Q=>Q none H
section
variable {X:Cx} {e:Expr} {te:TE} {lo hi:Option Expr} {tl th:TO} {pos p2:Pos}
theorem po_none:PO X none tNoPart:=by
 intro pins s σ H Q I h
 rw [evalPart_none]
 exact wpAny_pure ⟨none,H,I,.none,h⟩
def SlR (X:Cx) (r:V→Option Int→Option Int→Hp→VK→Prop):Prop :=
 ∀ (pins:List (Addr × Obj)) (s:Shared) (σ:St) (H:Hp) (x:V) (v vl vu:Value) (lo hi:Option Int) (sl:Addr) (Q:VK),Inv X pins σ H s→RelV x v→s.heap.IsSliceOf sl vl vu .none→IsPart vl lo→IsPart vu hi→r x lo hi H Q →
  ∃ T id,typeLookup (.type T) "__getitem__" = pure (some (.builtin id))∧s.TypeIs v T∧wpAny (model X.prog X.w) X.A (getItem v (.ref sl)) (EP X pins σ Q) X.xe s
def tSl (r:V→Option Int→Option Int→Hp→VK→Prop) (te:TE) (tl th:TO):TE:=fun σ H Q=>te σ H fun x H1=>tl σ H1 fun l H2=>th σ H2 fun u H3=>r x l u H3 Q
theorem pe_slice {r:V→Option Int→Option Int→Hp→VK→Prop} (hr:SlR X r) (he:PE X e te) (hl:PO X lo tl) (hu:PO X hi th):PE X (.Subscript e (.Slice lo hi none p2) pos) (tSl r te tl th):=by
 intro pins s σ H Q I h
 refine Subscript_ (thn (he pins s σ H _ I h) fun v s1 ⟨x,H1,I1,r1,q1⟩=>?_)
 refine wpAny_Slice (thn (hl pins s1 σ H1 _ I1 q1) fun vl s2 ⟨l,H2,I2,pl,q2⟩=>thn (hu pins s2 σ H2 _ I2 q2) fun vu s3 ⟨u,H3,I3,pu,q3⟩=>?_)
 rw [evalPart_none]
 refine wpAny_pure ?_
 have I4:Inv X pins σ H3 { s3 with heap:=s3.heap.push { cls:=.type "slice",data:=.fields #[vl,vu,.none] } }:=I3.kept (t':=s3.toks) fun b ob q=>Heap.get?_push_of_some _ q
 obtain⟨T,id,hT,ht,hg⟩:=hr pins { s3 with heap:=s3.heap.push { cls:=.type "slice",data:=.fields #[vl,vu,.none] } } σ H3 x v vl vu l u s3.heap.objs.size Q I4 r1 (Heap.IsSliceOf.new ..) pl pu q3
 show wpAny (model X.prog X.w) X.A (subscriptTail e (.Slice lo hi none p2) v (.ref s3.heap.objs.size)) (EP X pins σ Q) X.xe { s3 with heap:=s3.heap.push { cls:=.type "slice",data:=.fields #[vl,vu,.none] } }
 exact tail_any (ops:=[.ref s3.heap.objs.size,v]) ht hT hg (by with_unfolding_all rfl)
def cutV (xs:List V) (lo hi:Option Int):List V:=(xs.drop (HT.sIx xs.length 0 lo)).take (HT.sIx xs.length xs.length hi - HT.sIx xs.length 0 lo)
theorem cutV_length (xs:List V) (lo hi:Option Int):(cutV xs lo hi).length≤xs.length:=by
 unfold cutV
 rw [List.length_take,List.length_drop]
 omega
end
end L2
namespace L2
open PySem PySem.Spec PyProof.Rows
def ixN (n:Nat) (i:Int):Option Nat:=if 0≤i then (if i < n then some i.toNat else none) else if -(n:Int)≤i then some (i + n).toNat else none
def atI {α:Type} (xs:List α) (i:Int):Option α:=(ixN xs.length i).bind fun j=>xs[j]?
theorem ixN_seq {n:Nat} {i:Int} {j:Nat} (h:ixN n i = some j):seqIndex? i n = some j∧j < n∧-(n:Int)≤i∧i < n:=by
 unfold ixN at h
 by_cases h0:0≤i
 ·rw [if_pos h0] at h
  by_cases h1:i < n
  ·rw [if_pos h1] at h
   have e:i.toNat = j:=Option.some.inj h
   exact⟨by rw [seqIndex_of h0 h1,e],by omega,by omega,h1⟩
  ·rw [if_neg h1] at h; cases h
 ·rw [if_neg h0] at h
  by_cases h1:-(n:Int)≤i
  ·rw [if_pos h1] at h
   have e:(i + n).toNat = j:=Option.some.inj h
   exact⟨by rw [seqIndex_neg (by omega) h1,e],by omega,h1,by omega⟩
  ·rw [if_neg h1] at h; cases h
theorem atI_get {α:Type} {xs:List α} {i:Int} {v:α} (h:atI xs i = some v):∃ j,seqIndex? i xs.length = some j∧xs[j]? = some v∧j < xs.length∧-(xs.length:Int)≤i∧i < xs.length:=by
 unfold atI at h
 cases e:ixN xs.length i with
 | none=>rw [e] at h; cases h
 | some j =>
  rw [e] at h
  obtain⟨h1,h2,h3,h4⟩:=ixN_seq e
  exact⟨j,h1,h,h2,h3,h4⟩
theorem atI_nat {α:Type} {xs:List α} {j:Nat} {v:α} (h:xs[j]? = some v):atI xs (j:Int) = some v:=by
 have hj:j < xs.length:=(List.getElem?_eq_some_iff.mp h).1
 have e:ixN xs.length (j:Int) = some j:=by
  unfold ixN
  rw [if_pos (by omega),if_pos (by omega)]; simp
 unfold atI; rw [e]; exact h
def PlainIx (b:Expr):Prop:=∀ o i,subscripted b false o i = operate [o,i] (getItem o i)
def IxR (X:Cx) (r:R2):Prop :=
 ∀ (value slice:Expr) (pins:List (Addr × Obj)) (s:Shared) (σ:St) (H:Hp) (x y:V) (v u:Value) (Q:VK),Inv X pins σ H s→RelV x v→RelV y u→r x y H Q →
  subscripted slice false v u = operate [v,u] (getItem v u)→wpAny (model X.prog X.w) X.A (subscriptTail value slice v u) (EP X pins σ Q) X.xe s
def MtR (X:Cx) (id:String) (r:V→List V→Hp→VK→Prop):Prop :=
 ∀ (pins:List (Addr × Obj)) (s:Shared) (σ:St) (H:Hp) (x:V) (xs:List V) (v:Value) (us:List Value) (Q:VK),Inv X pins σ H s→RelV x v→Vals xs us→r x xs H Q →
  wpAny (model X.prog X.w) X.A (call (.builtin id) (v :: us)) (EP X pins σ Q) X.xe s
section
variable {X:Cx} {a b:Expr} {ta tb:TE} {pos:Pos}
theorem pe_ix {r:R2} (hr:IxR X r) (ha:PE X a ta) (hb:PE X b tb) (hs:PlainIx b):PE X (.Subscript a b pos) (tOp r ta tb):=by
 intro pins s σ H Q I h
 exact Subscript_ (binT ha hb I h fun v u s2 x y H2 I2 rx ry q=>hr a b pins s2 σ H2 x y v u Q I2 rx ry q (hs _ _))
def rIxL (K:PySem.W.Frag):R2:=fun x y H Q=>∃ p xs i v,x = .ref p∧y = .int i∧SqL K H p xs∧atI xs i = some v∧Q v H
def rIxT (K:PySem.W.Frag):R2:=fun x y H Q=>∃ p xs i v,x = .ref p∧y = .int i∧SqT K H p xs∧atI xs i = some v∧Q v H
theorem ix_list:IxR X (rIxL X.K):=by
 intro value slice pins s σ H x y v u Q I rx ry h hs
 obtain⟨p,xs,i,z,rfl,rfl,hq,he,q⟩:=h
 cases rx
 obtain⟨t,rfl⟩:=ry
 obtain⟨its,r,pl,hz⟩:=I.list hq
 obtain⟨j,h1,h2,h3,h4,h5⟩:=atI_get he
 obtain⟨w,ew,rw'⟩:=r.get h2
 have hl:=r.length
 have hn:=line63
 have fin:EP X pins σ Q w s:=⟨z,H,I,rw',q⟩
 by_cases h0:0≤i
 ·have hj:i.toNat = j:=by
   rw [seqIndex_of h0 h5] at h1
   exact Option.some.inj h1
  exact item_listR pl.isList h0 (by omega) (by rw [hj]; simpa using ew) fin hs
 ·have hj:(i + (its.toArray.size:Int)).toNat = j:=by
   rw [seqIndex_neg (by omega) h4] at h1
   rw [List.size_toArray,← hl]
   exact Option.some.inj h1
  exact subscriptTail_builtinR (x:=w) pl.isList.typeIs slot_list_getitem.lookup
   (wpAny_getItem_list_neg (Q:=fun r s'=>r = w∧EP X pins σ Q r s') pl.isList (by omega) (by rw [List.size_toArray] <;> omega) (by omega) (by rw [hj]; simpa using ew) ⟨rfl,fin⟩) hs
theorem ix_tup:IxR X (rIxT X.K):=by
 intro value slice pins s σ H x y v u Q I rx ry h hs
 obtain⟨p,xs,i,z,rfl,rfl,hq,he,q⟩:=h
 cases rx
 obtain⟨t,rfl⟩:=ry
 obtain⟨its,r,pl,hz⟩:=I.tuple hq
 obtain⟨j,h1,h2,h3,h4,h5⟩:=atI_get he
 obtain⟨w,ew,rw'⟩:=r.get h2
 have hl:=r.length
 have hn:=line63
 have fin:EP X pins σ Q w s:=⟨z,H,I,rw',q⟩
 exact subscriptTail_builtinR (x:=w) pl.typeIs slot_tuple_getitem.lookup
  (getItem_tuple (j:=j) (Q:=fun r s'=>r = w∧EP X pins σ Q r s') pl (by omega) (by omega) (by rw [List.size_toArray,← hl]; exact h1) (by simpa using ew) ⟨rfl,fin⟩) hs
theorem mapSeq_set (its:List Value) (n j:Nat) (u:Value):Obj.mapSeq (·.setIfInBounds j u) { cls:=.type "list",data:=.seq its.toArray n } = { cls:=.type "list",data:=.seq (its.set j u).toArray n }:=by
 simp [Obj.mapSeq]
theorem Inv.lst {pins:List (Addr × Obj)} {σ:St} {H:Hp} {s:Shared} {p:Addr} {xs:List V} (I:Inv X pins σ H s) (h:H p = some (.lst xs)) :
  ∃ (its:List Value) (n:Nat),Vals xs its∧s.heap.get? p = some { cls:=.type "list",data:=.seq its.toArray n }∧xs.length≤sizeLine:=by
 obtain⟨z,its,n,r,e⟩:=I.hok p _ h
 exact⟨its,n,r,e,z⟩
theorem Inv.lstUpd {pins:List (Addr × Obj)} {σ:St} {H:Hp} {s:Shared} {p:Addr} {xs ys:List V} {its its':List Value} {n n':Nat} {f:Obj→Obj} (I:Inv X pins σ H s) (h:H p = some (.lst xs))
  (ho:s.heap.get? p = some { cls:=.type "list",data:=.seq its.toArray n }) (hf:f { cls:=.type "list",data:=.seq its.toArray n } = { cls:=.type "list",data:=.seq its'.toArray n' }) (r:Vals ys its') (hz:ys.length≤sizeLine) (t:Nat) :
  Inv X pins σ (upd H p (.lst ys)) { s with heap:=s.heap.update p f,toks:=t }:=by
 have e:(s.heap.update p f).get? p = some { cls:=.type "list",data:=.seq its'.toArray n' }:=by
  rw [Heap.get?_update_self f ho (by rw [hf] <;> rfl),hf]
 refine I.write (x:=p) (e:=p) (by rw [h]; trivial) (.inl rfl) (fun b u hb q=>(Heap.get?_update_other _ _ (Ne.symm hb)).trans q) ⟨_,e⟩ ?_
 exact⟨hz,its',n',r,e⟩
def rSetL:V→V→V→Hp→(Hp→Prop)→Prop:=fun o i v H Q=>∃ p xs k j,o = .ref p∧i = .int k∧H p = some (.lst xs)∧ixN xs.length k = some j∧Q (upd H p (.lst (xs.set j v)))
theorem set_list:PSet X rSetL:=by
 intro pins s σ H o i v ov iv u Q I ro ri rv h
 obtain⟨p,xs,k,j,rfl,rfl,hp,hj,q⟩:=h
 cases ro
 obtain⟨t,rfl⟩:=ri
 obtain⟨its,n,r,ho,hz⟩:=I.lst hp
 obtain⟨h1,h2,h3,h4⟩:=ixN_seq hj
 have hl:=r.length
 have hn:=line63
 have I':Inv X pins σ (upd H p (.lst (xs.set j v))) { s with heap:=s.heap.update p (Obj.mapSeq (·.setIfInBounds j u)) } :=
  I.lstUpd hp ho (mapSeq_set its n j u) (r.set rv j) (by rw [List.length_set]; exact hz) s.toks
 by_cases h0:0≤k
 ·have hk:k.toNat = j:=by
   rw [seqIndex_of h0 h4] at h1
   exact Option.some.inj h1
  exact PySem.W.ki_setAt ho h0 (by omega) (by rw [List.size_toArray,← hl]; exact h4) (by rw [hk]; exact⟨_,I',q⟩)
 ·have hk:(k + (its.toArray.size:Int)).toNat = j:=by
   rw [seqIndex_neg (by omega) h3] at h1
   rw [List.size_toArray,← hl]
   exact Option.some.inj h1
  exact PySem.W.ki_setBack ho (by omega) (by rw [List.size_toArray,← hl]; exact h3) (by omega) (by rw [hk]; exact⟨_,I',q⟩)
theorem slice_bounds (lo hi:Option Int) (n:Nat):(sliceBounds lo hi none n).1 = ((HT.sIx n 0 lo:Nat):Int)∧(sliceBounds lo hi none n).2.1 = ((HT.sIx n n hi:Nat):Int)∧(sliceBounds lo hi none n).2.2 = 1:=by
 refine⟨?_,?_,rfl⟩
 ·cases lo with
  | none=>simp [sliceBounds,HT.sIx]
  | some i =>
   simp only [sliceBounds,HT.sIx,Option.getD_none,show (1:Int) > 0 by decide,if_true]
   by_cases h:i < 0
   ·simp only [h,if_true] <;> omega
   ·simp only [h,if_false] <;> omega
 ·cases hi with
  | none=>simp [sliceBounds,HT.sIx]
  | some i =>
   simp only [sliceBounds,HT.sIx,Option.getD_none,show (1:Int) > 0 by decide,if_true]
   by_cases h:i < 0
   ·simp only [h,if_true] <;> omega
   ·simp only [h,if_false] <;> omega
theorem slicePick_cut (its:List Value) (lo hi:Option Int):slicePick its.toArray lo hi none = ((its.drop (HT.sIx its.length 0 lo)).take (HT.sIx its.length its.length hi - HT.sIx its.length 0 lo)).toArray:=by
 obtain⟨h1,h2,h3⟩:=slice_bounds lo hi its.toArray.size
 unfold slicePick
 rw [h1,h2,h3]
 simp only [sliceRange_one,pick_run,List.size_toArray] <;> rfl
def rSlL (K:PySem.W.Frag):V→Option Int→Option Int→Hp→VK→Prop:=fun x lo hi H Q=>∃ a xs,x = .ref a∧SqL K H a xs∧∀ p,H p = none→Q (.ref p) (upd H p (.lst (cutV xs lo hi)))
theorem sl_list:SlR X (rSlL X.K):=by
 intro pins s σ H x v vl vu lo hi sl Q I rx hs pl pu h
 obtain⟨a,xs,rfl,hx,q⟩:=h
 cases rx
 obtain⟨its,r,ht,hz⟩:=I.list hx
 have hlen:=r.length
 refine⟨"list",_,slot_list_getitem.lookup,ht.isList.typeIs,?_⟩
 refine wpAny_getItem_list_slice ht.isList hs pl pu .none (by simp) ?_ (by rw [List.size_toArray] <;> omega)
 rw [slicePick_cut,← hlen]
 refine⟨.ref s.heap.objs.size,_,I.laid (t':=s.toks) (o:=.lst (cutV xs lo hi)) (fun b ob q=>Heap.get?_push_of_some _ q) (Nat.le_refl _) ?_,rfl,q _ (I.hok.fresh (Nat.le_refl _))⟩
 exact⟨Nat.le_trans (cutV_length xs lo hi) hz,_,0,(r.drop (HT.sIx xs.length 0 lo)).take (HT.sIx xs.length xs.length hi - HT.sIx xs.length 0 lo),Heap.get?_push_size _ rfl⟩
def flatV:V→Bool
 | .non=>true
 | .bl _=>true
 | .int _=>true
 | .str _=>true
 | _=>false
def eqV:V→V→Bool
 | .non,.non=>true
 | .bl a,.bl b=>a == b
 | .bl a,.int b=>(if a then 1 else 0) == b
 | .int a,.bl b=>a == (if b then 1 else 0)
 | .int a,.int b=>a == b
 | .str a,.str b=>a == b
 | _,_=>false
theorem eqAt_V {A:Around} {s:Shared} {y x:V} {u v:Value} (ry:RelV y u) (rx:RelV x v) (fy:flatV y = true) (fx:flatV x = true):SeqAt.EqAt A s u v (eqV y x):=by
 cases y with
 | non =>
  cases ry
  cases x with
  | non=>cases rx; exact SeqAt.EqAt.same _
  | bl b=>cases rx; exact SeqAt.EqAt.none_bool b
  | int b=>obtain⟨t,rfl⟩:=rx; exact SeqAt.EqAt.none_int b t
  | str b=>obtain⟨t,rfl⟩:=rx; exact SeqAt.EqAt.none_str b t
  | _=>exact absurd (show false = true from fx) Bool.false_ne_true
 | bl a =>
  cases ry
  cases x with
  | non=>cases rx; exact SeqAt.EqAt.bool_none a
  | bl b=>cases rx; exact SeqAt.EqAt.bool_bool a b
  | int b=>obtain⟨t,rfl⟩:=rx; exact SeqAt.EqAt.bool_int a b t
  | str b=>obtain⟨t,rfl⟩:=rx; exact SeqAt.EqAt.bool_str a b t
  | _=>exact absurd (show false = true from fx) Bool.false_ne_true
 | int a =>
  obtain⟨t',rfl⟩:=ry
  cases x with
  | non=>cases rx; exact SeqAt.EqAt.int_none a t'
  | bl b=>cases rx; exact SeqAt.EqAt.int_bool a t' b
  | int b=>obtain⟨t,rfl⟩:=rx; exact SeqAt.EqAt.int_int a t' b t
  | str b=>obtain⟨t,rfl⟩:=rx; exact SeqAt.EqAt.int_str a t' b t
  | _=>exact absurd (show false = true from fx) Bool.false_ne_true
 | str a =>
  obtain⟨t',rfl⟩:=ry
  cases x with
  | non=>cases rx; exact SeqAt.EqAt.str_none a t'
  | bl b=>cases rx; exact SeqAt.EqAt.str_bool a t' b
  | int b=>obtain⟨t,rfl⟩:=rx; exact SeqAt.EqAt.str_int a t' b t
  | str b=>obtain⟨t,rfl⟩:=rx; exact SeqAt.EqAt.str_str a t' b t
  | _=>exact absurd (show false = true from fx) Bool.false_ne_true
 | _=>exact absurd (show false = true from fy) Bool.false_ne_true
def eqU (x:V) (u:Value):Bool:=match u with
 | .none=>eqV .non x
 | .bool b=>eqV (.bl b) x
 | .int i _=>eqV (.int i) x
 | .str z _=>eqV (.str z) x
 | _=>false
theorem eqU_of {x y:V} {u:Value} (r:RelV y u) (f:flatV y = true):eqU x u = eqV y x:=by
 cases y with
 | non=>cases r; rfl
 | bl b=>cases r; rfl
 | int i=>obtain⟨t,rfl⟩:=r; rfl
 | str z=>obtain⟨t,rfl⟩:=r; rfl
 | _=>exact absurd (show false = true from f) Bool.false_ne_true
theorem any_eqU {x:V}:∀ {xs:List V} {us:List Value},Vals xs us→xs.all flatV = true→us.any (eqU x) = xs.any fun y=>eqV y x
 | _,_,.nil,_=>rfl
 | y :: xs,u :: us,.cons r t,f=>by
  rw [List.all_cons,Bool.and_eq_true] at f
  rw [List.any_cons,List.any_cons,eqU_of r f.1,any_eqU t f.2]
theorem mem_eqAt {A:Around} {s:Shared} {x:V} {v:Value} (rx:RelV x v) (fx:flatV x = true):∀ {xs:List V} {us:List Value},Vals xs us→xs.all flatV = true→∀ u∈us,SeqAt.EqAt A s u v (eqU x u)
 | _,_,.nil,_=>fun u hu=>by cases hu
 | y :: xs,u :: us,.cons r t,f=>fun u' hu=>by
  rw [List.all_cons,Bool.and_eq_true] at f
  rcases List.mem_cons.mp hu with rfl | hu
  ·rw [eqU_of r f.1]; exact eqAt_V r rx f.1 fx
  ·exact mem_eqAt rx fx t f.2 u' hu
def inV (x:V) (xs:List V):Bool:=xs.any fun y=>eqV y x
def rIn (K:PySem.W.Frag) (neg:Bool):R2:=fun x y H Q=>∃ p xs,y = .ref p∧(SqL K H p xs∨SqT K H p xs)∧flatV x = true∧xs.all flatV = true∧Q (.bl (if neg then !inV x xs else inV x xs)) H
theorem op_in_seq:OpR X (compareOp .In) (rIn X.K false):=by
 intro pins s σ H x y v u Q I rx ry h
 obtain⟨p,xs,rfl,hq,fx,fs,q⟩:=h
 cases ry
 rcases hq with hq | hq
 ·obtain⟨its,r,pl,hz⟩:=I.list hq
  refine SeqAt.in_listAt (eqU x) pl.isList (fun w hw=>mem_eqAt rx fx r fs w (by simpa using hw)) ⟨.bl _,H,I,rfl,?_⟩
  rw [show its.toArray.any (eqU x) = its.any (eqU x) by simp,any_eqU r fs]
  exact q
 ·obtain⟨its,r,pl,hz⟩:=I.tuple hq
  refine SeqAt.in_tupleAt (eqU x) pl (fun w hw=>mem_eqAt rx fx r fs w (by simpa using hw)) ⟨.bl _,H,I,rfl,?_⟩
  rw [show its.toArray.any (eqU x) = its.any (eqU x) by simp,any_eqU r fs]
  exact q
theorem call_len_seq:CallR X (.builtin "len") (fun xs H Q=>∃ p ys,xs = [.ref p]∧(SqL X.K H p ys∨SqT X.K H p ys)∧Q (.int ys.length) H):=by
 intro pins s σ H xs us Q I r h
 obtain⟨p,ys,rfl,hq,q⟩:=h
 obtain⟨u,rfl,rx⟩:=vals1 r
 cases rx
 have hn:=line63
 rcases hq with hq | hq
 ·obtain⟨its,r',pl,hz⟩:=I.list hq
  have hlen:=r'.length
  exact Calls.call_len_list pl.isList (by simp only [List.size_toArray] <;> omega) ⟨.int ys.length,H,I.tok _,⟨s.toks + 1,by rw [List.size_toArray,hlen]⟩,q⟩
 ·obtain⟨its,r',pl,hz⟩:=I.tuple hq
  have hlen:=r'.length
  exact len_tuple pl (by simp only [List.size_toArray] <;> omega) ⟨.int ys.length,H,I.tok _,⟨s.toks + 1,by rw [List.size_toArray,hlen]⟩,q⟩
theorem call_list_of:CallR X (.type "list") (fun xs H Q=>∃ p ys,xs = [.ref p]∧(SqL X.K H p ys∨SqT X.K H p ys)∧∀ l,H l = none→Q (.ref l) (upd H l (.lst ys))):=by
 intro pins s σ H xs us Q I r h
 obtain⟨p,ys,rfl,hq,q⟩:=h
 obtain⟨u,rfl,rx⟩:=vals1 r
 cases rx
 have fin:∀ (its:List Value),Vals ys its→ys.length≤sizeLine→∀ (h':Heap) (c':Nat),(∀ b o',s.heap.get? b = some o'→h'.get? b = some o') →
   h'.get? s.heap.objs.size = some { cls:=.type "list",dict:=none,data:=.seq its.toArray c',slots:=#[] }→EP X pins σ Q (.ref s.heap.objs.size) { s with heap:=h' }:=fun its r' hz h' c' kp e =>
  ⟨.ref s.heap.objs.size,_,I.laid (t':=s.toks) kp (Nat.le_refl _) (show ObjOk X.prog X.w _ h' _ (.lst ys) from ⟨hz,its,c',r',e⟩),rfl,q _ (I.hok.fresh (Nat.le_refl _))⟩
 rcases hq with hq | hq
 ·obtain⟨its,r',pl,hz⟩:=I.list hq
  have hlen:=r'.length
  obtain⟨o,ho,hc,n,hd⟩:=pl.isList
  exact call_list_seq p (.inl rfl) ho hc hd (fun h' c' kp e=>fin its r' hz h' c' kp e) (by simp only [List.size_toArray] <;> omega)
 ·obtain⟨its,r',pl,hz⟩:=I.tuple hq
  have hlen:=r'.length
  obtain⟨o,ho,hc,n,hd⟩:=pl
  exact call_list_seq p (.inr rfl) ho hc hd (fun h' c' kp e=>fin its r' hz h' c' kp e) (by simp only [List.size_toArray] <;> omega)
def tyV (K:PySem.W.Frag) (T:String) (x:V) (H:Hp):Prop:=match x with
 | .str _=>T = "str"
 | .int _=>T = "int"
 | .ref p=>(T = "list"∧∃ xs,SqL K H p xs)∨(T = "tuple"∧∃ o,K.lookup p = some o∧o.cls = .type "tuple"∧o.dict = none) ∨
   (T = "dict"∧((∃ kvs,H p = some (.dK kvs))∨∃ kvs,H p = some (.dT kvs)))∨(T = "set"∧∃ S n,H p = some (.set S n))
 | _=>False
theorem tyV_is {pins:List (Addr × Obj)} {σ:St} {H:Hp} {s:Shared} {T:String} {x:V} {v:Value} (I:Inv X pins σ H s) (r:RelV x v) (ty:tyV X.K T x H) :
  s.TypeIs v T∧∀ a,v = .ref a→∃ ob,s.heap.get? a = some ob∧ob.dict = none:=by
 cases x with
 | str z =>
  obtain⟨t,rfl⟩:=r
  cases (show T = "str" from ty)
  exact⟨typeIs_str s z t,fun _ e=>nomatch e⟩
 | int i =>
  obtain⟨t,rfl⟩:=r
  cases (show T = "int" from ty)
  exact⟨typeIs_int s i t,fun _ e=>nomatch e⟩
 | ref p =>
  cases r
  rcases ty with ⟨rfl,xs,hq⟩ | ⟨rfl,o,hk,hc,hd⟩ | ⟨rfl,hk⟩ | ⟨rfl,S,n,hk⟩
  ·obtain⟨its,_,pl,_⟩:=I.list hq
   refine⟨pl.isList.typeIs,fun a e=>?_⟩
   cases e
   obtain⟨o,n,e,c,hd,_⟩:=pl
   exact⟨o,e,hd⟩
  ·refine⟨⟨o,I.kIn p o hk,hc⟩,fun a e=>?_⟩
   cases e
   exact⟨o,I.kIn _ o hk,hd⟩
  ·have z:∃ o,s.heap.get? p = some o∧o.ExactDict:=by
    rcases hk with ⟨kvs,hk⟩ | ⟨kvs,hk⟩
    ·obtain⟨_,_,_,_,o,_,_,e,ex,_⟩:=I.hok p _ hk
     exact⟨o,e,ex⟩
    ·obtain⟨_,_,_,_,o,_,_,e,ex,_⟩:=I.hok p _ hk
     exact⟨o,e,ex⟩
   obtain⟨o,e,ex⟩:=z
   refine⟨⟨o,e,ex.1⟩,fun a e2=>?_⟩
   cases e2
   exact⟨o,e,ex.2.1⟩
  ·obtain⟨o,_,_,_,e,ex,_⟩:=I.hok p _ hk
   refine⟨⟨o,e,ex.1⟩,fun a e2=>?_⟩
   cases e2
   exact⟨o,e,ex.2.1⟩
 | _=>exact False.elim ty
def tBM (K:PySem.W.Frag) (T:String) (r:V→List V→Hp→VK→Prop) (to:TE) (t:TA):TE:=fun σ H Q=>to σ H fun x H1=>tyV K T x H1∧t σ H1 fun xs H2=>r x xs H2 Q
variable {o e:Expr} {es:List Expr} {to:TE} {t:TA} {name:Str} {apos cpos:Pos} {T id:String} {r:V→List V→Hp→VK→Prop}
theorem pe_bm (pa:PlainAttrs T) (slot:Slot T name id) (hty:typeOf (.builtin id) = pure (.type "method_descriptor")) (hm:MtR X id r) (ho:PE X o to) (ha:PA X (e :: es) t)
  (hbase:attributeBase o name X.env (eval o X.env) = eval o X.env:=by rfl)
  (hfew:((backTo cpos (starEach (e :: es) X.env)).all (fun x=>!x.1) && (backToKw cpos (keywordEach [] X.env)).all (fun x=>x.1.isSome)
   && decide ((e :: es).length + ([]:List Keyword).length + (if ([]:List Keyword).isEmpty then 0 else 1) < 30)) = true:=by rfl)
  (hline:(apos.endLine == cpos.line) = true:=by rfl) (hs:starEach (e :: es) X.env = (false,eval e X.env) :: starEach es X.env:=by rfl) (hplain:(backTo cpos (starEach es X.env)).any (·.1) = false:=by rfl) :
  PE X (.Call (.Attribute o name apos) (e :: es) [] cpos) (tBM X.K T r to t):=by
 intro pins s σ H Q I h
 refine wpAny_Call_method_late hbase hfew hline rfl (thn (ho pins s σ H _ I h) fun v s1 ⟨x,H1,I1,r1,ty,q1⟩=>?_)
 obtain⟨h1,h2⟩:=tyV_is I1 r1 ty
 refine⟨T,id,pa,slot,hty,h1,h2,?_⟩
 have hA:=ha cpos pins s1 σ H1 _ I1 q1
 rw [hs] at hA ⊢
 refine Calls.callWith_builtin (by show (false || (backTo cpos (starEach es X.env)).any (·.1)) = false; rw [hplain] <;> rfl) (Calls.evalArgs_plain ?_)
 exact thn hA fun us s2 ⟨vs,H2,I2,r2,q2⟩=>hm pins s2 σ H2 x vs v us Q I2 r1 r2 q2
end
end L2
namespace L2
open PySem PySem.Spec PyProof.Rows
def MtM (X:Cx) (id:String) (r:V→List V→Hp→VK→Prop):Prop :=
 ∀ (pins:List (Addr × Obj)) (s:Shared) (σ:St) (H:Hp) (x:V) (xs:List V) (v:Value) (us:List Value) (Q:VK),Inv X pins σ H s→RelV x v→Vals xs us→r x xs H Q →
  wpAny (model X.prog X.w) X.A (call (.builtin id) (v :: us)) (EP X pins σ Q) X.xe s
theorem Vals.one:∀ {x:V} {us:List Value},Vals [x] us→∃ u,us = [u]∧RelV x u
 | _,_,.cons r .nil=>⟨_,rfl,r⟩
theorem Vals.eraseIdx:∀ {xs:List V} {us:List Value} (i:Nat),Vals xs us→Vals (xs.eraseIdx i) (us.eraseIdx i)
 | _,_,_,.nil=>.nil
 | _,_,0,.cons _ t=>t
 | _,_,i + 1,.cons r t=>.cons r (Vals.eraseIdx i t)
theorem len_erase {α:Type}:∀ (l:List α) (i:Nat),(l.eraseIdx i).length≤l.length
 | [],_=>Nat.le_refl _
 | _ :: _,0=>Nat.le_succ _
 | _ :: r,i + 1=>Nat.succ_le_succ (len_erase r i)
section
variable {X:Cx} {pins:List (Addr × Obj)} {σ:St} {H:Hp} {s:Shared} {l b:Addr} {xs ys zs:List V}
theorem Inv.lset {its its':List Value} {n:Nat} {f:Array Value→Array Value} {t':Nat} (I:Inv X pins σ H s) (hH:H l = some (.lst xs))
  (e:s.heap.get? l = some { cls:=.type "list",data:=.seq its.toArray n }) (hf:f its.toArray = its'.toArray) (hv:Vals ys its') (hz:ys.length≤sizeLine) :
  Inv X pins σ (upd H l (.lst ys)) { s with heap:=s.heap.update l (Obj.mapSeq f),toks:=t' }:=by
 have q:=PySem.IsL.update e f
 rw [hf] at q
 refine I.write (x:=l) (e:=l) (by rw [hH]; exact trivial) (.inl rfl) (fun b' u hb hu=>(Heap.get?_update_other s.heap (Obj.mapSeq f) (Ne.symm hb)).trans hu) ⟨_,q⟩ ?_
 exact⟨hz,its',_,hv,q⟩
theorem Inv.lnew {its:List Value} {t':Nat} (I:Inv X pins σ H s) (hv:Vals ys its) (hz:ys.length≤sizeLine) :
  Inv X pins σ (upd H s.heap.objs.size (.lst ys)) { s with heap:=s.heap.push { cls:=.type "list",data:=.seq its.toArray },toks:=t' } :=
 I.laid (fun _ _ q=>Heap.get?_push_of_some _ q) (Nat.le_refl _) ⟨hz,its,0,hv,Heap.get?_push_size _ rfl⟩
theorem Inv.fresh (I:Inv X pins σ H s):H s.heap.objs.size = none:=I.hok.fresh (Nat.le_refl _)
theorem Inv.lstM (I:Inv X pins σ H s) (hH:H l = some (.lst xs)):xs.length≤sizeLine∧∃ (its:List Value) (n:Nat),Vals xs its∧xs.length = its.length∧s.heap.get? l = some { cls:=.type "list",data:=.seq its.toArray n }:=by
 obtain⟨z,its,n,r,e⟩:=I.hok l _ hH
 exact⟨z,its,n,r,r.length,e⟩
theorem notLongL {n:Nat} (h:n≤sizeLine):Builtin.List.listTooLong n = false:=by
 unfold Builtin.List.listTooLong
 exact decide_eq_false (by omega)
end
section
variable {X:Cx}
def rAppend:V→List V→Hp→VK→Prop:=fun x vs H Q=>∃ l xs y,x = .ref l∧vs = [y]∧H l = some (.lst xs)∧xs.length < sizeLine∧Q .non (upd H l (.lst (xs ++ [y])))
theorem mt_append:MtM X "list.append" rAppend:=by
 intro pins s σ H x vs v us Q I rx rv h
 obtain⟨l,xs,y,rfl,rfl,hH,hz,q⟩:=h
 cases rx
 obtain⟨u,rfl,ru⟩:=rv.one
 obtain⟨z,its,n,r,hl,e⟩:=I.lstM hH
 refine call_meets F.slot_list_append ⟨_,e,rfl⟩ F.entry_list_append (F.args_list_append_2 _ _) (PySem.list_append l its.toArray n u (by rw [List.size_toArray]; omega)) ⟨e,?_⟩
 refine⟨.non,_,I.lset (its':=its ++ [u]) hH e (by simp) (r.append (.cons ru .nil)) ?_,rfl,q⟩
 rw [List.length_append,List.length_singleton]
 omega
def rPopAt:V→List V→Hp→VK→Prop:=fun x vs H Q=>∃ l xs i k y,x = .ref l∧vs = [.int i]∧H l = some (.lst xs)∧-(2 ^ 63)≤i∧i < 2 ^ 63∧seqIndex? i xs.length = some k∧xs[k]? = some y∧Q y (upd H l (.lst (xs.eraseIdx k)))
theorem mt_popAt:MtM X "list.pop" rPopAt:=by
 intro pins s σ H x vs v us Q I rx rv h
 obtain⟨l,xs,i,k,y,rfl,rfl,hH,h1,h2,hk,hy,q⟩:=h
 cases rx
 obtain⟨u,rfl,ru⟩:=rv.one
 obtain⟨t,rfl⟩:=ru
 obtain⟨z,its,n,r,hl,e⟩:=I.lstM hH
 obtain⟨w,hw,rw'⟩:=r.get hy
 refine call_meets F.slot_list_pop ⟨_,e,rfl⟩ F.entry_list_pop (F.args_list_pop_2 _ _)
  (MeetsSeq.list_pop_at l its.toArray n i t k w (fitsIndex_both h1 h2) (by rw [List.size_toArray,← hl]; exact hk) (by rw [← Array.getElem?_toList]; exact hw) (by rw [List.size_toArray]; omega)) ⟨e,?_⟩
 refine⟨y,_,I.lset (its':=its.eraseIdx k) hH e ?_ (r.eraseIdx k) ?_,rw',q⟩
 ·show its.toArray.eraseIdxIfInBounds k = (its.eraseIdx k).toArray
  rw [List.eraseIdxIfInBounds_toArray]
 ·have:=len_erase xs k
  omega
def rCat:R2:=fun x y H Q=>∃ l b xs zs,x = .ref l∧y = .ref b∧H l = some (.lst xs)∧H b = some (.lst zs)∧xs.length + zs.length≤sizeLine∧∀ p,H p = none→Q (.ref p) (upd H p (.lst (xs ++ zs)))
theorem op_cat:OpR X (binaryOp .Add) rCat:=by
 intro pins s σ H x y v u Q I rx ry h
 obtain⟨l,b,xs,zs,rfl,rfl,hH,hB,hz,q⟩:=h
 cases rx
 cases ry
 obtain⟨z,its,n,r,hl,e⟩:=I.lstM hH
 obtain⟨z2,its2,n2,r2,hl2,e2⟩:=I.lstM hB
 refine PySem.P.add_list e e2 ?_ (by rw [List.size_toArray,List.size_toArray]; omega)
 have ea:its.toArray ++ its2.toArray = (its ++ its2).toArray:=by simp
 rw [ea]
 exact⟨.ref _,_,I.lnew (t':=s.toks) (r.append r2) (by rw [List.length_append]; omega),rfl,q _ I.fresh⟩
end
section
variable {prog:Program} {w:World} {A:Around} {E:Value→Shared→Prop} {s:Shared}
end
section
variable {X:Cx}
end
end L2
namespace L2
open PySem PySem.Spec PyProof.Rows
section
variable {κ:Type} [DecidableEq κ]
end
section
variable {P:Program} {w:World} {H:Hp} {h:Heap} {a:Addr}
end
section
variable {X:Cx} {pins:List (Addr × Obj)} {σ:St} {H:Hp} {s:Shared} {a:Addr} {y v:V} {u r:Value} {o:Option V} {A:Around} {E:Value→Shared→Prop}
end
section
variable {X:Cx} {pins:List (Addr × Obj)} {σ:St} {H:Hp} {s:Shared} {a:Addr} {kvs:List (Key × V)} {k:Key} {u:Value} {A:Around} {E:Value→Shared→Prop}
end
section
variable {X:Cx} {o i e value:Expr} {pos pos' tpos:Pos} {td ty tv:TE}
end
section
variable {X:Cx} {pos:Pos}
end
section
variable {X:Cx} {pins:List (Addr × Obj)} {σ:St} {H:Hp} {s:Shared} {a:Addr} {y d:V} {u r:Value} {o:Option V} {A:Around} {E:Value→Shared→Prop}
end
section
variable {X:Cx} {o e f:Expr} {apos cpos:Pos} {td ty tx:TE}
end
section
variable {X:Cx} {pins:List (Addr × Obj)} {σ:St} {H:Hp} {s:Shared} {a:Addr} {kvs:List (Key × V)} {A:Around} {E:Value→Shared→Prop}
end
section
variable {X:Cx} {pins:List (Addr × Obj)} {σ:St} {H:Hp} {s:Shared} {a:Addr} {y:V} {u:Value} {A:Around} {E:Value→Shared→Prop}
end
end L2
namespace Att
open PySem PySem.W PySem.Calls PyProof.Rows
theorem ints_of_wellAll {P:Params} {h:Heap}:∀ (ns:List Int) (vs:List Value),WellAll P h vs (ns.map WData.int)→IntsAre vs ns:=by
 intro ns
 induction ns with
 | nil =>
  intro vs w
  rw [List.map_nil] at w
  cases w
  exact .nil
 | cons n ns ih =>
  intro vs w
  rw [List.map_cons] at w
  cases w with
  | cons a b =>
   cases a
   exact .cons _ _ (ih _ b)
theorem script_of {l:OpenLaw} {n:Nat} (hn:l.most = some n) {P:Params} {h:Heap} {args:List WData} {vals:List Value}
  (hpre:l.row.toRowW.claim.pre args = true) (hwl:WellAll P h vals args) :
  ∃ a vs ns,vals = [Value.ref a]∧args = [WData.list (ns.map WData.int)]∧h.get? a = some { cls:=.type "list",data:=.seq vs.toArray }∧IntsAre vs ns∧ns.length≤n:=by
 have hsh:WShape.hasAll [] args [.list .int] = true:=(pre_splitW hpre).1
 have hc:l.pre.holds [] { args:=args } = true:=(pre_splitW hpre).2
 obtain⟨d,r,rfl,h1,h2⟩:=hasAllW_cons hsh
 obtain rfl:=hasAllW_nil h2
 obtain⟨xs,rfl,h3⟩:=hasW_list h1
 obtain⟨ns,rfl⟩:=items_int h3
 have hlen:ns.length≤n:=by
  unfold OpenLaw.pre at hc
  have h4:(WTm.not (.lt (.lit (.int (n:Int))) (.len (.arg 0)))).holds [] { args:=[.list (ns.map .int)] } = true:=by
   have h4:=(holds_andW hc).1
   rw [hn] at h4
   exact h4
  have h5:=condW_of h4 (w_not (w_lt w_lit (w_len_list (w_arg rfl))))
  rw [List.length_map] at h5
  refine Nat.le_of_not_lt fun q=>?_
  have q':(n:Int) < ((ns.length:Nat):Int):=by omega
  first
   | (rw [decide_eq_true q'] at h5; exact absurd h5 (by decide))
   | (simp at h5; omega)
 cases hwl with
 | cons w1 w2 =>
  cases w2
  cases w1 with
  | list ho hall=>exact⟨_,_,ns,rfl,rfl,ho,ints_of_wellAll ns _ hall,hlen⟩
theorem post_true (l:OpenLaw) (args:List WData):l.row.toRowW.claim.post args (.bool true) args = true :=
 postW_of (r:=l.row.toRowW) (X:=(true == true))
  (show WShape.has [] (.bool true) .bool = true by first | rfl | decide | simp [WShape.has,WShape.arms,WShape.armsAll])
  (show (WTm.eq .res (.lit (.bool true))).value [] { args:=args,res:=some (.bool true),after:=args } = some (.bool (true == true)) from w_eq_bool (w_res rfl) w_lit) rfl
theorem attach_call {l:OpenLaw} {n:Nat} {q:Program} {loose:List Str} {XP:(Str→Option Value)→Heap→Prop} {YP:World→Heap→Prop} {d:DefRec}
  (hn:l.most = some n) (hdf:d.params.defaults = [])
  (call:∀ (w:World) (s₀ s₁:Shared) (mg mb:Str→Option Value) (fa:Addr) (o:Obj) (pm cd doc:Value) (a:Addr) (vs:List Value) (ns:List Int),
   Ground q loose [] XP w s₀ mg mb s₁.heap→YP w s₁.heap →
   s₁.heap.get? fa = some o→o.data = .func (docDef d.name d.params d.body d.scope pm cd doc)→s₁.heap.CodeRec cd d.name→mg d.name = some (.ref fa) →
   s₁.heap.get? a = some { cls:=.type "list",data:=.seq vs.toArray }→IntsAre vs ns→ns.length≤n→s₁.gens = #[] →
   codeAny (model l.prog w) callerA (.call (.ref fa) ⟨[.ref a],[]⟩) (fun r s'=>r = .ok (.ret (.bool true))∧OldK s₁.heap s'.heap∧s'.os = s₁.os∧AllBare s'.gens) s₁) :
  WalkO q loose XP YP l.row.toRowW d [] (fun f vs=>PySem.call f vs):=by
 intro w s₀ s₁ mg mb G Y fa o pm cd doc dV kV ho hd hcd hD hmg hg args vals as hpre hlay hrd hwl hlo
 obtain rfl:dV = .none:=Dflts.none hD hdf
 obtain rfl:kV = .none:=Dflts.noKw hD
 obtain⟨a,vs,ns,rfl,rfl,hobj,hints,hlen⟩:=script_of hn hpre hwl
 refine enter_call (codeAny_mono (call w s₀ s₁ mg mb fa o pm cd doc a vs ns G Y ho (fd_plain hd) hcd hmg hobj hints hlen hg) fun r s' hq=>?_)
 obtain⟨rfl,h2,h3,h4⟩:=hq
 exact⟨.inl ⟨.bool true,.bool true,[],rfl,fun _=>rfl,.bool true,post_true l _,fun _=>⟨List.Pairwise.nil,fun _ hm=>(nomatch hm)⟩⟩,h2,h3,h4⟩
section
variable {prog:Program} {w:World} {A:Around} {E:Value→Shared→Prop} {s:Shared} {K:Frag}
end
end Att
namespace L2
open PySem PySem.Spec PyProof.Rows
theorem vals_ints:∀ {vs:List Value} {ns:List Int},IntsAre vs ns→Vals (ns.map V.int) vs
 | _,_,.nil=>.nil
 | _,_,.cons n t h=>.cons ⟨t,rfl⟩ (vals_ints h)
def Only (H:Hp):Prop:=∀ b,H b = none∨∃ o xs,H b = some (.frz o (.lst xs))
theorem law_call {P:Program} {w:World} {K:PySem.W.Frag} {mg mb:Str→Option Value} {CX:CXT} {k:Nat} {fa a:Addr} {fd:FuncData} {x:Str} {sp:Sp} {s₁:Shared} {vs:List Value} {ns:List Int}
  (KX:K.In s₁.heap) (hns:s₁.heap.Ns mainGlobals mg) (hb:s₁.heap.Ns builtinsNs mb) (hbb:∀ x:Str,x≠"__name__"→mb x = bootBuiltins x) (hlim:s₁.heap.NoLimit) (hg:s₁.gens = #[])
  (ha:s₁.heap.get? a = some { cls:=.type "list",data:=.seq vs.toArray }) (hi:IntsAre vs ns) (hl:ns.length≤sizeLine) (hr:Room k callerA)
  (F:∀ base:Heap,K.In base→base.Ns mainGlobals mg→FnOk P w K mg base CX k fa fd [x] sp) (hbind:∀ (s:Shared) (u:Value),BindsTo s fd ⟨[u],[]⟩ [(x,u)])
  (hsp:∀ H:Hp,Only H→SqL K H a (ns.map V.int)→sp [.ref a] H (fun v _=>v = .bl true) fun _ _ _=>False)
  (hCX:∀ H e s',CX [] H s₁ (fun _ _ _=>False) e s'→False) :
  codeAny (model P w) callerA (.call (.ref fa) ⟨[.ref a],[]⟩) (fun r s'=>r = .ok (.ret (.bool true))∧OldK s₁.heap s'.heap∧s'.os = s₁.os∧AllBare s'.gens) s₁:=by
 have rv:=vals_ints hi
 have lenV:=hi.length
 have core:∀ H:Hp,Only H→SqL K H a (ns.map V.int)→HOk P w H s₁.heap→(∀ b,H b≠none→b = a)→(H a≠none→K.lookup a = none) →
   codeAny (model P w) callerA (.call (.ref fa) ⟨[.ref a],[]⟩) (fun r s'=>r = .ok (.ret (.bool true))∧OldK s₁.heap s'.heap∧s'.os = s₁.os∧AllBare s'.gens) s₁:=by
  intro H hO hS hok hA hK
  have base_of:∀ {b:Addr} {o:Obj},s₁.heap.get? b = some o→H b = none→(hidT s₁.heap H).get? b = some o:=fun e n=>hidT_get e n
  have noA:∀ {b:Addr} {o:Obj} {es:Array DictEntry} {ep:Nat},s₁.heap.get? b = some o→o.data = .dict es ep→H b = none:=fun {b o es ep} e d=>by
   cases q:H b with
   | none=>rfl
   | some u =>
    have e':b = a:=hA b (by rw [q]; simp)
    subst e'
    rw [ha] at e; cases e
    have d':Data.seq vs.toArray _ = Data.dict es ep:=d
    cases d'
  have nsK:∀ {b:Addr} {m:Str→Option Value},s₁.heap.Ns b m→(hidT s₁.heap H).Ns b m:=fun {b m} ⟨o,es,ep,e,d,r⟩=>⟨o,es,ep,base_of e (noA e d),d,r⟩
  have hKb:K.In (hidT s₁.heap H):=fun b o e=>base_of (KX b o e) (by
   cases q:H b with
   | none=>rfl
   | some u =>
    have e':b = a:=hA b (by rw [q]; simp)
    subst e'
    rw [hK (by rw [q]; simp)] at e; cases e)
  have hM:Mod K mg (hidT s₁.heap H):=⟨hKb,nsK hns,⟨mb,nsK hb,hbb⟩,let ⟨mc,h1,h2⟩:=hlim; ⟨mc,nsK h1,h2⟩⟩
  have e0:Env0 P w K mg (hidT s₁.heap H) callerA [] s₁ H:=⟨rfl,hM,fun b o e=>of_hidT e,Nat.le_of_eq (hidT_size _ _),trivial,fun b hb=>absurd (show b∈([]:List Addr) from hb) (by simp),hok,.of_eq hg⟩
  refine codeAny_mono ((F _ hKb (nsK hns)).run callerA [] s₁ H ⟨[.ref a],[]⟩ [.ref a] [.ref a] _ _ hr e0 (hbind s₁ (.ref a)) (.cons rfl .nil) (hsp H hO hS)) fun r s' h=>?_
  cases r with
  | error e=>exact (hCX H e s' h).elim
  | ok fl =>
   cases fl with
   | next=>exact False.elim h
   | brk=>exact False.elim h
   | cont=>exact False.elim h
   | ret u =>
    obtain⟨v,H',os,bare,un,hok',r',q⟩:=h
    have q':v = .bl true:=q
    subst q'
    obtain rfl:u = Value.bool true:=r'
    refine⟨rfl,OldK.of_keep fun b o e=>?_,os,bare⟩
    cases q:H b with
    | none=>exact un.keep b o e q (by intro z; exact absurd (show b∈([]:List Addr) from z) (by simp)) (by simp)
    | some u =>
     rcases hO b with z | ⟨ob,xs,z⟩
     ·rw [q] at z; cases z
     ·have z2:=un.frzs b ob _ z
      obtain⟨e1,_⟩:=hok b _ z
      obtain⟨e2,_⟩:=hok' b _ z2
      rw [e] at e1; cases e1
      exact e2
 cases hk:K.lookup a with
 | some o =>
  have e:=KX a o hk
  rw [ha] at e
  cases e
  refine core (fun _=>none) (fun _=>.inl rfl) (.inr ⟨_,vs.toArray,_,hk,rfl,rfl,rfl,by rw [List.size_toArray,lenV]; exact hl,by simpa using rv⟩) (fun b u z=>by have z':(none:Option HO) = some u:=z; cases z') (fun b z=>absurd rfl z) fun z=>absurd rfl z
 | none =>
  refine core (fun b=>if b = a then some (.frz { cls:=.type "list",data:=.seq vs.toArray } (.lst (ns.map V.int))) else none) (fun b=>?_) (.inl (.inr ⟨{ cls:=.type "list",data:=.seq vs.toArray },if_pos rfl⟩)) (fun b u z=>?_) (fun b z=>?_) fun _=>hk
  ·by_cases hb:b = a
   ·exact .inr ⟨_,_,if_pos hb⟩
   ·exact .inl (if_neg hb)
  ·by_cases hb:b = a
   ·have z':=(if_pos hb).symm.trans z
    cases z'
    subst hb
    exact⟨ha,by rw [List.length_map]; exact hl,vs,_,rv,ha⟩
   ·have z':=(if_neg hb).symm.trans z
    cases z'
  ·by_cases hb:b = a
   ·exact hb
   ·exact absurd (if_neg hb) z
end L2
namespace L2
open PySem PySem.Spec PyProof.Rows
theorem walk_of {l:PySem.W.OpenLaw} {n k:Nat} {q:Program} {loose:List Str} {XP:(Str→Option Value)→Heap→Prop} {YP:World→Heap→Prop} {d:DefRec} {K:Params→PySem.W.Frag} {CX:World→CXT} {sp:World→Sp} {x:Str}
  (hn:l.most = some n) (hn2:n≤sizeLine) (hdf:d.params.defaults = []) (hr:Room k callerA)
  (hY:∀ (w:World) (h:Heap),YP w h→(K w.params).In h)
  (F:∀ (w:World) (mg:Str→Option Value) (fa:Addr) (h:Heap),(K w.params).In h→h.Ns mainGlobals mg→mg d.name = some (.ref fa) →
   ∃ fd:FuncData,(∀ (s:Shared) (u:Value),BindsTo s fd ⟨[u],[]⟩ [(x,u)]) ∧
    ∀ base:Heap,(K w.params).In base→base.Ns mainGlobals mg→FnOk l.prog w (K w.params) mg base (CX w) k fa fd [x] (sp w))
  (hsp:∀ (w:World) (H:Hp) (a:Addr) (ns:List Int),ns.length≤n→Only H→SqL (K w.params) H a (ns.map V.int)→sp w [.ref a] H (fun v _=>v = .bl true) fun _ _ _=>False)
  (hCX:∀ (w:World) (H:Hp) (s:Shared) (e:Value) (s':Shared),CX w [] H s (fun _ _ _=>False) e s'→False) :
  PySem.W.WalkO q loose XP YP l.row.toRowW d [] (fun f vs=>PySem.call f vs):=by
 refine Att.attach_call hn hdf fun w s₀ s₁ mg mb fa o pm cd doc a vs ns G Y ho hd hcd hmg hobj hints hlen hg=>?_
 have KX:=hY w _ Y
 obtain⟨fd,hb,hF⟩:=F w mg fa _ KX G.T.g hmg
 exact law_call KX G.T.g G.T.b G.T.builtins G.T.nolimit hg hobj hints (Nat.le_trans hlen hn2) hr hF hb (fun H hO hS=>hsp w H a ns hlen hO hS) fun H e s'=>hCX w H s₁ e s'
end L2
namespace L2
open PySem PySem.Spec PyProof.Rows
def defArgs (s:Stmt):Arguments:=match s with
 | .FunctionDef _ a _ _ _ _ _ _ _ _=>a
 | _=>{ posonlyargs:=[],args:=[],vararg:=none,kwonlyargs:=[],kw_defaults:=[],kwarg:=none,defaults:=[] }
def defBody (s:Stmt):List Stmt:=match s with
 | .FunctionDef _ _ b _ _ _ _ _ _ _=>b
 | _=>[]
def defScope (s:Stmt):Scope:=match s with
 | .FunctionDef _ _ _ _ _ _ sc _ _ _=>sc
 | _=>{ kind:=.function,names:=[],isGenerator:=false,isCoroutine:=false }
abbrev CX0:CXT:=fun _ _ _ _ _ _=>False
abbrev E0:XK:=fun _ _ _=>False
theorem pass0 {X:Cx}:Passes CX0 X E0:=fun _ _ _ _ _ _ _ h=>h.elim
structure Fun (K:PySem.W.Frag) (x qual:Str) (st:Stmt) (f:Addr) (fd:FuncData):Prop where
 ex:∃ (oc:Value) (od:Option Addr) (kV doc pm:Value) (an:Option Addr) (cdv ct:Value) (osl:Array (Option Value)),
  fd = PySem.W.fnOf x qual (defArgs st) (defBody st) (defScope st) .none kV doc pm an cdv ct∧K.lookup f = some ⟨oc,od,.func fd,osl⟩∧PySem.W.codeIn K cdv qual = true
 kp:PySem.W.keepIn K (.ref f) = true
section
variable {P:Program} {w:World} {K:PySem.W.Frag} {mg:Str→Option Value} {base:Heap}
theorem Fun.ok {x qual:Str} {st:Stmt} {f:Addr} {fd:FuncData} {N ps:List Str} {k:Nat} {sp:Sp} (F:Fun K x qual st f fd) (S:FnScope N ps (defScope st)) (len:∀ vs H Q E,sp vs H Q E→vs.length = ps.length)
  (hbody:∀ (cdv:Value) (A:Around) (outer:List Env) (s:Shared) (H:Hp) (vs:List V) (Q:VK) (E:XK),Room k (A.deeper (envOfC qual (defScope st) s.heap.objs.size f cdv))→sp vs H Q E →
   ∃ t,PSs (cxOf CX0 P w K mg base N qual (defScope st) f cdv A outer s H E).nox (defBody st) t∧t { nx:=fun _ H'=>Q .non H',rt:=Q } (start N vs) H):FnOk P w K mg base CX0 (k + 1) f fd ps sp:=by
 obtain⟨oc,od,kV,doc,pm,an,cdv,ct,osl,rfl,lk,hcd⟩:=F.ex
 refine fn_of lk hcd S len fun A outer s H vs Q E hr hsp=>?_
 obtain⟨t,h,q⟩:=hbody cdv A outer s H vs Q E hr hsp
 exact⟨t,h.nox,q⟩
theorem Fun.binds {x qual:Str} {st:Stmt} {f:Addr} {fd:FuncData} {ps:List Str} (F:Fun K x qual st f fd)
  (h:∀ (kV doc pm:Value) (an:Option Addr) (cdv ct:Value) (us:List Value),us.length = ps.length→bindArgs (PySem.W.fnOf x qual (defArgs st) (defBody st) (defScope st) .none kV doc pm an cdv ct) ⟨us,[]⟩ = pure (ps.zip us)):Binds K fd ps []:=by
 obtain⟨oc,od,kV,doc,pm,an,cdv,ct,osl,rfl,lk,hcd⟩:=F.ex
 exact .all (h kV doc pm an cdv ct)
theorem fun_mk {x qual:Str} {st:Stmt} {f:Addr} {oc:Value} {od an:Option Addr} {osl:Array (Option Value)} {kV doc pm cdv ct:Value} (l:K.lookup f = some ⟨oc,od,.func (PySem.W.fnOf x qual (defArgs st) (defBody st) (defScope st) .none kV doc pm an cdv ct),osl⟩)
  (c:PySem.W.codeIn K cdv qual = true) (k:PySem.W.keepIn K (.ref f) = true):Fun K x qual st f (PySem.W.fnOf x qual (defArgs st) (defBody st) (defScope st) .none kV doc pm an cdv ct):=⟨⟨oc,od,kV,doc,pm,an,cdv,ct,osl,rfl,l,c⟩,k⟩
end
theorem hu_of {A:Around} {k:Nat} (hr:Room k A):A.units + 1 < cLine:=Nat.lt_of_le_of_lt (Nat.add_le_add_left (by decide:1≤64) _) hr.units
section
variable {X:Cx}
end
section
variable {κ:Type} [DecidableEq κ]
end
end L2
end
section
set_option Elab.async false
set_option linter.all false
set_option maxRecDepth 100000
set_option maxHeartbeats 4000000
namespace L2
open PySem PySem.Spec PyProof.Rows
def freeNames (sc:Scope):List Str:=(sc.names.filter fun x=>x.2 == .free).map (·.1)
def closOf (sc:Scope) (env:Env):List (Str × Addr):=((freeNames sc).reverse).map fun n=>(n,(env.cells.lookup n).getD 0)
theorem closureFor_of {sc:Scope} {env:Env} (h:∀ n∈freeNames sc,∃ c,env.cells.lookup n = some c):closureFor sc env = pure (closOf sc env):=by
 have key:∀ (l:List (Str × NameKind)) (cs:List (Str × Addr)),(∀ x∈l,x.2 = .free→∃ c,env.cells.lookup x.1 = some c) →
   (forIn l cs fun (x:Str × NameKind) (r:List (Str × Addr))=>(if (x.2 == NameKind.free) = true then (do let a ← cellOf env x.1; pure (ForInStep.yield ((x.1,a) :: r))) else pure (ForInStep.yield r):Sem (ForInStep (List (Str × Addr)))))
    = pure ((((l.filter fun x=>x.2 == .free).map (·.1)).reverse).map (fun n=>(n,(env.cells.lookup n).getD 0)) ++ cs):=by
  intro l
  induction l with
  | nil=>intro cs _; rfl
  | cons x r ih =>
   intro cs hx
   rw [List.forIn_cons]
   by_cases hk:x.2 = .free
   ·obtain⟨c,hc⟩:=hx x List.mem_cons_self hk
    have e1:(x.2 == NameKind.free) = true:=by rw [hk]; rfl
    have e2:cellOf env x.1 = pure c:=by unfold cellOf; rw [hc]
    rw [if_pos e1,e2]
    show (forIn r ((x.1,c) :: cs) _:Sem _) = _
    rw [ih _ fun y hy=>hx y (List.mem_cons_of_mem _ hy)]
    rw [List.filter_cons,if_pos e1,List.map_cons,List.reverse_cons,List.map_append,List.append_assoc]
    simp [hc]
   ·have e1:(x.2 == NameKind.free) = false:=by simpa using hk
    rw [if_neg (by rw [e1]; decide)]
    show (forIn r cs _:Sem _) = _
    rw [ih _ fun y hy=>hx y (List.mem_cons_of_mem _ hy)]
    rw [List.filter_cons,if_neg (by rw [e1]; decide)]
 unfold closureFor closOf freeNames
 have:=key sc.names [] fun x hx hf=>h x.1 (by
  unfold freeNames
  exact List.mem_map.mpr ⟨x,List.mem_filter.mpr ⟨hx,by rw [hf]; rfl⟩,rfl⟩)
 rw [List.append_nil] at this
 show (forIn sc.names [] _ >>= pure:Sem _) = _
 refine Eq.trans (congrArg (· >>= pure) (Eq.trans (congrArg (fun f=>(forIn sc.names [] f:Sem (List (Str × Addr)))) (funext fun x=>funext fun r=>?_)) this)) rfl
 obtain⟨n,k⟩:=x
 rfl
theorem lookup_tab {f:Str→Addr} {x:Str}:∀ {l:List Str} {c:Addr},(l.map fun n=>(n,f n)).lookup x = some c→x∈l∧c = f x
 | [],_,h=>by simp at h
 | n :: r,c,h=>by
  simp only [List.map_cons,List.lookup_cons] at h
  cases hx:x == n with
  | true =>
   rw [hx] at h
   have e:x = n:=by simpa using hx
   subst e
   exact⟨List.mem_cons_self,(Option.some.inj h).symm⟩
  | false =>
   rw [hx] at h
   obtain⟨a,b⟩:=lookup_tab h
   exact⟨List.mem_cons_of_mem _ a,b⟩
theorem tab_lookup {f:Str→Addr} {x:Str}:∀ {l:List Str},x∈l→(l.map fun n=>(n,f n)).lookup x = some (f x)
 | n :: r,h=>by
  simp only [List.map_cons,List.lookup_cons]
  cases hx:x == n with
  | true =>
   have e:x = n:=by simpa using hx
   subst e
   rfl
  | false =>
   rcases List.mem_cons.mp h with e | e
   ·subst e; simp at hx
   ·exact tab_lookup e
theorem lookup_relabel_free {env:Env}:∀ {names:List (Str × NameKind)} {x:Str},names.lookup x = some .free →
  (names.map fun (n,k)=>if (k == NameKind.free && env.scope.kind == .function && env.kindOf n == some .cell) then (n,NameKind.cell) else (n,k)).lookup x = some .cell ∨
  (names.map fun (n,k)=>if (k == NameKind.free && env.scope.kind == .function && env.kindOf n == some .cell) then (n,NameKind.cell) else (n,k)).lookup x = some .free
 | [],_,h=>by simp at h
 | (n,k) :: r,x,h=>by
  have ih:=@lookup_relabel_free env r x
  show List.lookup x ((if (k == NameKind.free && env.scope.kind == .function && env.kindOf n == some .cell) = true then (n,NameKind.cell) else (n,k)) :: _) = _ ∨
   List.lookup x ((if (k == NameKind.free && env.scope.kind == .function && env.kindOf n == some .cell) = true then (n,NameKind.cell) else (n,k)) :: _) = _
  cases hx:x == n with
  | true =>
   simp only [List.lookup_cons,hx] at h
   by_cases hc:(k == NameKind.free && env.scope.kind == .function && env.kindOf n == some .cell) = true
   ·rw [if_pos hc]; simp only [List.lookup_cons,hx]; exact .inl trivial
   ·rw [if_neg hc]; simp only [List.lookup_cons,hx]; exact .inr h
  | false =>
   simp only [List.lookup_cons,hx] at h
   by_cases hc:(k == NameKind.free && env.scope.kind == .function && env.kindOf n == some .cell) = true
   ·rw [if_pos hc]; simp only [List.lookup_cons,hx]; exact ih h
   ·rw [if_neg hc]; simp only [List.lookup_cons,hx]; exact ih h
theorem relabel_back {env:Env}:∀ {names:List (Str × NameKind)} {x:Str},(∀ y∈names,y.2≠.cell) →
  ((names.map fun (n,k)=>if (k == NameKind.free && env.scope.kind == .function && env.kindOf n == some .cell) then (n,NameKind.cell) else (n,k)).lookup x = some .cell ∨
  (names.map fun (n,k)=>if (k == NameKind.free && env.scope.kind == .function && env.kindOf n == some .cell) then (n,NameKind.cell) else (n,k)).lookup x = some .free)→(x,NameKind.free)∈names
 | [],_,_,h=>by simp at h
 | (n,k) :: r,x,nc,h=>by
  have ih:=@relabel_back env r x fun y hy=>nc y (List.mem_cons_of_mem _ hy)
  change (List.lookup x ((if (k == NameKind.free && env.scope.kind == .function && env.kindOf n == some .cell) = true then (n,NameKind.cell) else (n,k)) :: _) = _ ∨
   List.lookup x ((if (k == NameKind.free && env.scope.kind == .function && env.kindOf n == some .cell) = true then (n,NameKind.cell) else (n,k)) :: _) = _) at h
  cases hx:x == n with
  | true =>
   have e:x = n:=by simpa using hx
   subst e
   by_cases hc:(k == NameKind.free && env.scope.kind == .function && env.kindOf x == some .cell) = true
   ·have:k = .free:=by
     have:=(Bool.and_eq_true_iff.mp (Bool.and_eq_true_iff.mp hc).1).1
     simpa using this
    rw [this]; exact List.mem_cons_self
   ·rw [if_neg hc] at h
    simp only [List.lookup_cons,hx] at h
    rcases h with h | h
    ·exact absurd (Option.some.inj h) (nc (x,k) List.mem_cons_self)
    ·rw [Option.some.inj h]; exact List.mem_cons_self
  | false =>
   refine List.mem_cons_of_mem _ (ih ?_)
   by_cases hc:(k == NameKind.free && env.scope.kind == .function && env.kindOf n == some .cell) = true
   ·rw [if_pos hc] at h; simpa only [List.lookup_cons,hx] using h
   ·rw [if_neg hc] at h; simpa only [List.lookup_cons,hx] using h
def compN (X:Cx) (own:List Str) (fr:List Nat):List Str:=own ++ fr.map fun k=>X.N.getD k Str.empty
def compSt (n:Nat) (fr:List Nat) (σ:St):St:=List.replicate n none ++ fr.map fun k=>(σ[k]?).join
def compCx (X:Cx) (sc:Scope) (own:List Str) (fr:List Nat) (C:Addr) (s₀:Shared) (H₀:Hp) (ex:List Addr):Cx where
 prog:=X.prog
 w:=X.w
 K:=X.K
 mg:=X.mg
 base:=X.base
 A:=X.A
 N:=compN X own fr
 s₀:=s₀
 H₀:=H₀
 env:=compEnvC sc (closOf sc X.env) C X.env
 outer:=X.stack
 stack:=X.stack
 ex:=ex
 fn:=fun _=>false
 calm:=X.calm
 pn:=[]
 xe:=fun _ _=>False
def FrOk (X:Cx) (sc:Scope):List Nat→Prop
 | []=>True
 | k :: r=>(sc.names.lookup (X.N.getD k Str.empty) = some .free∧(X.env.scope.names.lookup (X.N.getD k Str.empty) = some .cell∨X.env.scope.names.lookup (X.N.getD k Str.empty) = some .free))∧FrOk X sc r
theorem FrOk.mem {X:Cx} {sc:Scope}:∀ {fr:List Nat},FrOk X sc fr→∀ k∈fr,sc.names.lookup (X.N.getD k Str.empty) = some .free∧(X.env.scope.names.lookup (X.N.getD k Str.empty) = some .cell∨X.env.scope.names.lookup (X.N.getD k Str.empty) = some .free)
 | _ :: _,h,k,hk=>by
  rcases List.mem_cons.mp hk with e | e
  ·subst e; exact h.1
  ·exact FrOk.mem h.2 k e
def FreesOk (X:Cx):List Str→Prop
 | []=>True
 | n :: r=>(X.env.scope.names.lookup n = some .cell∨X.env.scope.names.lookup n = some .free)∧FreesOk X r
theorem FreesOk.mem {X:Cx}:∀ {l:List Str},FreesOk X l→∀ n∈l,X.env.scope.names.lookup n = some .cell∨X.env.scope.names.lookup n = some .free
 | _ :: _,h,n,hn=>by
  rcases List.mem_cons.mp hn with e | e
  ·subst e; exact h.1
  ·exact FreesOk.mem h.2 n e
structure CompScope (X:Cx) (sc:Scope) (fr:List Nat):Prop where
 kind:sc.kind = .function
 nocell:∀ y∈sc.names,y.2≠.cell
 names:∀ y∈sc.names,y.2 = .local→sc.names.lookup y.1 = some .local
 frees:FreesOk X (freeNames sc)
 fr:FrOk X sc fr
section
variable {X:Cx} {sc:Scope} {own:List Str} {fr:List Nat} {pins:List (Addr × Obj)} {σ:St} {H:Hp} {s:Shared}
theorem CompScope.cells (S:CompScope X sc fr) (I:Inv X pins σ H s):∀ n∈freeNames sc,∃ c,X.env.cells.lookup n = some c:=fun n hn=>I.ok.has n (S.frees.mem n hn)
theorem CompScope.look (S:CompScope X sc fr) (I:Inv X pins σ H s) {x:Str} {c:Addr} (h:(closOf sc X.env).lookup x = some c):X.env.cells.lookup x = some c:=by
 obtain⟨a,b⟩:=lookup_tab h
 obtain⟨d,e⟩:=S.cells I x (List.mem_reverse.mp a)
 rw [e] at b
 rw [e,b]
 rfl
theorem mem_freeNames {x:Str} (h:(x,NameKind.free)∈sc.names):x∈freeNames sc:=List.mem_map.mpr ⟨_,List.mem_filter.mpr ⟨h,rfl⟩,rfl⟩
theorem CompScope.back (S:CompScope X sc fr) (I:Inv X pins σ H s) {x:Str} (hx:x∈freeNames sc):∃ c,(closOf sc X.env).lookup x = some c∧X.env.cells.lookup x = some c:=by
 obtain⟨c,e⟩:=S.cells I x hx
 refine⟨c,?_,e⟩
 unfold closOf
 rw [tab_lookup (List.mem_reverse.mpr hx),e]
 rfl
theorem inv_comp (S:CompScope X sc fr) {fp:List Addr} (I:Inv X pins σ H s) (hf:∀ b∈fp,FpOk X pins H b) (ho:∀ b∈fp,∃ o,s.heap.get? b = some o) {h₁:Heap} {t:Nat}
  (hns:h₁.Ns s.heap.objs.size (fun _=>none)) (hk:∀ b o,s.heap.get? b = some o→h₁.get? b = some o) :
  Inv (compCx X sc own fr s.heap.objs.size s H fp) [] (compSt own.length fr σ) H { s with heap:=h₁,toks:=t }:=by
 have ltC:∀ b o,s.heap.get? b = some o→b≠s.heap.objs.size:=fun b o e=>Nat.ne_of_lt (Heap.lt_size e)
 have cellOld:∀ x c,(closOf sc X.env).lookup x = some c→∃ v,s.heap.IsCell c v:=fun x c e=>I.cell x c (S.look I e)
 refine⟨⟨I.ok.mod,S.kind,I.ok.glob,I.ok.blt,Nat.le_refl _,fun x y c h1 h2=>I.ok.inj x y c (S.look I h1) (S.look I h2),fun x hx=>?_,fun x c z=>absurd z (by simp [compCx]),I.ok.hd,I.ok.frames,.inl rfl,fun b hb=>?_,I.bs,Nat.le_trans I.ok.bsz I.sz,fun b o e hb=>?_,fun b hb=>?_,I.stack,I.stkFree⟩,
  rfl,I.bare,Un.kept hk,⟨_,hns,fun i x v e1 e2 e3=>?_⟩,fun x c e=>?_,I.hok.fresh (Nat.le_refl _),fun x c e=>I.freeC x c (S.look I e),fun p hp=>absurd (show p∈([]:List (Addr × Obj)) from hp) (by simp),I.hok.kept hk,?_⟩
 ·have:=relabel_back (env:=X.env) S.nocell hx
  obtain⟨c,e,_⟩:=S.back I (mem_freeNames this)
  exact⟨c,e⟩
 ·obtain⟨o,e⟩:=ho b hb
  obtain⟨_,_,_,_,f4,_⟩:=hf b hb
  exact⟨ltC b o e,fun x c e'=>f4 x c (S.look I e')⟩
 ·obtain⟨_,_,_,f3,_⟩:=hf b hb
  rcases f3 with z | z
  ·exact I.ok.noex b o e z
  ·exact absurd (Nat.lt_of_lt_of_le (Heap.lt_size e) (Nat.le_trans I.ok.bsz z)) (Nat.lt_irrefl _)
 ·obtain⟨_,f1,f2,_⟩:=hf b hb
  intro z
  rcases List.mem_cons.mp (I.stkSub b z) with q | q
  ·exact f1 q
  ·exact f2 q
 ·
  have hi:own.length≤i:=by
   rcases Nat.lt_or_ge i own.length with z | z
   ·exfalso
    change (List.replicate own.length none ++ fr.map fun k=>(σ[k]?).join)[i]? = some (some v) at e2
    rw [List.getElem?_append_left (by simpa using z),List.getElem?_replicate,if_pos z] at e2
    cases e2
   ·exact z
  change (List.replicate own.length none ++ fr.map fun k=>(σ[k]?).join)[i]? = some (some v) at e2
  rw [List.getElem?_append_right (by simpa using hi),List.length_replicate,List.getElem?_map] at e2
  change (own ++ fr.map fun k=>X.N.getD k Str.empty)[i]? = some x at e1
  rw [List.getElem?_append_right hi,List.getElem?_map] at e1
  cases e:fr[i - own.length]? with
  | none=>rw [e] at e1; cases e1
  | some k =>
   rw [e] at e1 e2
   have e1:X.N.getD k Str.empty = x:=Option.some.inj e1
   have e2:(σ[k]?).join = some v:=Option.some.inj e2
   have e2':σ[k]? = some (some v):=by
    cases q:σ[k]? with
    | none=>rw [q] at e2; cases e2
    | some z=>rw [q] at e2; cases z with
     | none=>cases e2
     | some z=>rw [show z = v from Option.some.inj e2]
   have hkl:k < X.N.length:=by
    have:=(List.getElem?_eq_some_iff.mp e2').1
    rw [I.len] at this
    exact this
   have e1':X.N[k]? = some x:=by
    rw [List.getElem?_eq_getElem hkl,← e1]
    simp [List.getD,hkl]
   obtain⟨q1,q2⟩:=S.fr.mem k (List.mem_of_getElem? e)
   rw [e1] at q1 q2
   have hvis:Vis X.env.scope x:=by
    rcases q2 with z | z
    ·exact .inr (.inl z)
    ·exact .inr (.inr z)
   obtain⟨m,hn,hl⟩:=I.loc
   obtain⟨u,r,l⟩:=hl k x v e1' e2' hvis
   refine⟨u,r,.inr ⟨?_,?_⟩⟩
   ·exact lookup_relabel_free (env:=X.env) q1
   ·rcases l with ⟨z,_⟩ | ⟨_,c,hc,z⟩
    ·exfalso
     have z:X.env.scope.names.lookup x = some .local:=z
     rcases q2 with y | y
     ·rw [z] at y; cases y
     ·rw [z] at y; cases y
    ·obtain⟨c',h1,h2⟩:=S.back I (mem_freeNames (PySem.mem_of_lookup q1))
     rw [hc] at h2
     cases h2
     obtain⟨o,ho',hd⟩:=z
     exact⟨c,h1,o,hk c o ho',hd⟩
 ·obtain⟨v,o,ho',hd⟩:=cellOld x c e
  exact⟨v,o,hk c o ho',hd⟩
 ·show (List.replicate own.length none ++ fr.map fun k=>(σ[k]?).join).length = (own ++ fr.map fun k=>X.N.getD k Str.empty).length
  simp
end
def PTs (X:Cx) (ifs:List Expr) (t:TT):Prop :=
 ∀ (pins:List (Addr × Obj)) (s:Shared) (σ:St) (H:Hp) (Q:Bool→Hp→Prop),Inv X pins σ H s→t σ H Q →
  wpAny (model X.prog X.w) X.A (forIn ifs true fun c r=>if r = true then do let ok ← isTrue c X.env (eval c X.env); pure (ForInStep.yield ok) else pure (ForInStep.yield r)) (TP X pins σ Q) X.xe s
def tYes:TT:=fun _ H Q=>Q true H
theorem pts_nil {X:Cx}:PTs X [] tYes:=fun pins s σ H Q I h=>wpAny_tests_nil ⟨H,I,h⟩
theorem pts_one {X:Cx} {c:Expr} {t:TT} (hc:PT X c t):PTs X [c] t:=fun pins s σ H Q I h=>wpAny_tests_one (hc pins s σ H Q I h)
abbrev TM:=Addr→St→Hp→(Hp→Prop)→Prop
def PM (X:Cx) (emit:Env→Addr→Sem Unit) (t:TM):Prop :=
 ∀ (pins:List (Addr × Obj)) (s:Shared) (σ:St) (H:Hp) (D:Addr) (Q:Hp→Prop),Inv X pins σ H s→t D σ H Q →
  wpAny (model X.prog X.w) X.A (emit X.env D) (fun _ s'=>∃ H',Inv X pins σ H' s'∧Q H') X.xe s
def tCompB (acc:HO) (wi:TI) (n:Nat) (fr:List Nat) (g:TG) (tc:TT) (tm:TM):St→Hp→(Addr→Hp→Prop)→Prop:=fun σ H Q =>
 wi σ H fun J H1=>∀ p,H1 p = none→∃ W:Nat→Nat→St→Hp→Prop,(∃ m,W 0 m (compSt n fr σ) (upd H1 p acc)) ∧
  ∀ i m σ' H',W i m σ' H'→(J.stop i H'∧Q p H')∨(J.go i H'∧∃ N:St→Hp→Prop,(∀ σ2 H2,N σ2 H2→∃ m',m' < m∧W (i + 1) m' σ2 H2)∧∀ x H2,J.yld i H' x H2→g x σ' H2 fun σ3 H3=>tc σ3 H3 fun b H4 =>
   if b = true then tm p σ3 H4 (N σ3) else N σ3 H4)
structure CompForm (e:Expr) (tg iter:Expr) (ifs:List Expr) (emit:Env→Addr→Sem Unit):Prop where
 cl:∃ gs,clausesOf e = ⟨tg,iter,ifs,0⟩ :: gs
 under:∀ (A:Around) it acc env,A.under (.compLoop e 0 it acc env) = A
 den:∀ (prog:Program) (w:World) it acc env,(model prog w).den (.compLoop e 0 it acc env) = ((compTurn e 0 it acc env).onRaise (fun x=>do noteFrame x env; theTreesLotGoes x))
 turn:∀ it D env,compTurn e 0 it (.ref D) env = (do
   standAt iter.pos
   match ← pyNext it with
   | none=>pure (.done .next)
   | some v =>
    letOwnedTupleGo tg it v
    assign tg env v
    let mut ok:=true
    for c in ifs do
     if ok then ok ← isTrue c env (eval c env)
    if ok then
     emit env D
    again (.compLoop e 0 it (.ref D) env))
 start:∀ (prog:Program) (w:World) (A:Around) (R:Result→Shared→Prop) (s:Shared) it acc env,codeAny (model prog w) A (.compLoop e 0 it acc env) R s →
  wpAny (model prog w) A (pyIter it) (fun it' s'=>codeAny (model prog w) A (.compLoop e 0 it' acc env) R s') (notedBy (model prog w) A env fun x s'=>R (.error x) s') s →
  codeAny (model prog w) A (.compStart e 0 it acc env) R s
section
variable {X:Cx} {sc:Scope} {own:List Str} {fr:List Nat} {e tg iter:Expr} {ifs:List Expr} {emit:Env→Addr→Sem Unit} {wi:TI} {g:TG} {tc:TT} {tm:TM} {acc:HO}
theorem comp_loop (F:CompForm e tg iter ifs emit) (hc:X.calm = true) {C:Addr} {s₀:Shared} {H₀:Hp} {fp:List Addr} {it D:Addr} {tn:Nat→Heap→Prop} {J:It} {R:Result→Shared→Prop} {s:Shared}
  (hg:PG (compCx X sc own fr C s₀ H₀ fp) tg g) (ht:PTs (compCx X sc own fr C s₀ H₀ fp) ifs tc) (hm:PM (compCx X sc own fr C s₀ H₀ fp) emit tm)
  (T:Turn X.prog X.w X.K tg J fp it tn) (hfp:∀ b∈fp,b≠C∧b ∉ frs X.stack∧∀ x c,(closOf sc X.env).lookup x = some c→c≠b)
  (W:Nat→Nat→St→Hp→Prop) {Q:Hp→Prop} (turn:∀ i m σ' H',W i m σ' H'→(J.stop i H'∧Q H')∨(J.go i H'∧∃ N:St→Hp→Prop,(∀ σ2 H2,N σ2 H2→∃ m',m' < m∧W (i + 1) m' σ2 H2)∧∀ x H2,J.yld i H' x H2→g x σ' H2 fun σ3 H3=>tc σ3 H3 fun b H4 =>
   if b = true then tm D σ3 H4 (N σ3) else N σ3 H4))
  (hR:∀ σ' H' s',Inv (compCx X sc own fr C s₀ H₀ fp) [] σ' H' s'→Q H'→R (.ok .next) s')
  {m0:Nat} {σ0:St} {H0:Hp} (I0:Inv (compCx X sc own fr C s₀ H₀ fp) [] σ0 H0 s) (st0:tn 0 s.heap) (fr0:∀ b∈fp,H0 b = none) (w0:W 0 m0 σ0 H0) :
  codeAny (model X.prog X.w) X.A (.compLoop e 0 (.ref it) (.ref D) (compEnvC sc (closOf sc X.env) C X.env)) R s:=by
 have stat:∀ {H':Hp},(∀ b∈fp,H' b = none)→∀ b∈fp,FpOk (compCx X sc own fr C s₀ H₀ fp) [] H' b:=fun hn b hb =>
  ⟨hn b hb,(hfp b hb).1,(hfp b hb).2.1,.inl hb,(hfp b hb).2.2,fun p hp=>absurd (show p∈([]:List (Addr × Obj)) from hp) (by simp)⟩
 refine codeAny_loop rfl (fun n s'=>∃ i σ' H',Inv (compCx X sc own fr C s₀ H₀ fp) [] σ' H' s'∧tn i s'.heap∧(∀ b∈fp,H' b = none)∧W i n σ' H') (fun n s hI=>?_) m0 ⟨0,σ0,H0,I0,st0,fr0,w0⟩
 rw [F.under,F.den]
 refine wpAny_noted ?_
 rw [F.turn]
 obtain⟨i,σ3,H3,I3,st3,fr3,w3⟩:=hI
 have lift:∀ {α:Type} {t:Sem α} {Q':α→Shared→Prop} {E:Value→Shared→Prop} {s:Shared},wpAny (model X.prog X.w) X.A t Q' (fun _ _=>False) s→wpAny (model X.prog X.w) X.A t Q' E s:=fun h=>wpAny_mono h (fun _ _ q=>q) fun _ _ z=>z.elim
 refine wpAny_bind (wpAny_standAt (wpAny_bind ?_))
 rcases turn i n σ3 H3 w3 with ⟨stop,qn⟩ | ⟨go,N,hN,step⟩
 ·refine lift (thn (T.done (compCx X sc own fr C s₀ H₀ fp) rfl rfl rfl hc i [] s σ3 H3 (fun _ _=>False) I3 (stat fr3) st3 stop) fun r s4 ⟨hr,I4⟩=>?_)
  subst hr
  exact wpAny_pure (hR σ3 H3 s4 I4 qn)
 ·refine lift (thn (T.item (compCx X sc own fr C s₀ H₀ fp) rfl rfl rfl hc i [] s σ3 H3 (fun _ _=>False) I3 (stat fr3) st3 go) fun r s4 ⟨u,hr,h4⟩=>?_)
  subst hr
  refine wpAny_bind (lift (thn h4 fun _ s5 ⟨x,H5,I5,r5,y5,st5,fr5⟩=>?_))
  have I5':=I5.pinned (stat fr5) (T.obj _ _ st5)
  refine wpAny_bind (lift (thn (hg _ s5 σ3 H5 x u _ I5' r5 (step x H5 y5)) fun _ s6 ⟨σ6,H6,I6,q6⟩=>?_))
  refine wpAny_bind (lift (thn (ht _ s6 σ6 H6 _ I6 q6) fun ok s7 ⟨H7,I7,q7⟩=>?_))
  have again:∀ {σ8:St} {H8:Hp} {s8:Shared},Inv (compCx X sc own fr C s₀ H₀ fp) ([] ++ pinsAt fp s5.heap) σ8 H8 s8→(∃ m',m' < n∧W (i + 1) m' σ8 H8)→∃ m,m < n∧∃ i σ' H',Inv (compCx X sc own fr C s₀ H₀ fp) [] σ' H' s8∧tn i s8.heap∧(∀ b∈fp,H' b = none)∧W i m σ' H':=fun {σ8 H8 s8} I8 ⟨m',hm',w8⟩=>by
   refine⟨m',hm',i + 1,σ8,H8,I8.unpinned,T.keep _ _ _ st5 fun b hb o e=>(I8.pin (b,o) (List.mem_append_right _ (List.mem_append_right _ (mem_pinsAt hb e)))).1,fun b hb=>?_,w8⟩
   obtain⟨o,e,d⟩:=T.obj _ _ st5 b hb
   exact (I8.pin (b,o) (List.mem_append_right _ (List.mem_append_right _ (mem_pinsAt hb e)))).2.1
  cases ok with
  | false=>exact wpAny_pure ⟨rfl,again I7 (hN _ _ q7)⟩
  | true =>
   refine wpAny_bind (lift (thn (hm _ s7 σ6 H7 D _ I7 q7) fun _ s8 ⟨H8,I8,q8⟩=>?_))
   exact wpAny_pure ⟨rfl,again I8 (hN _ _ q8)⟩
end
def PNew (X:Cx) (newAcc:Sem Value) (acc:HO):Prop :=
 ∀ (pins:List (Addr × Obj)) (s:Shared) (σ:St) (H:Hp) (E:Value→Shared→Prop) (Q:Value→Shared→Prop),Inv X pins σ H s →
  (∀ p s',H p = none→p = s.heap.objs.size→(∀ b o,s.heap.get? b = some o→s'.heap.get? b = some o)→s'.os = s.os→Inv X pins σ (upd H p acc) s'→Q (.ref p) s')→wpAny (model X.prog X.w) X.A newAcc Q E s
theorem pnew_list {X:Cx}:PNew X (newList []) (.lst []):=by
 intro pins s σ H E Q I h
 refine wpAny_newObj_type ?_
 exact h _ _ (I.hok.fresh (Nat.le_refl _)) rfl (fun b o e=>Heap.get?_push_of_some _ e) rfl (I.lnew (its:=[]) (t':=s.toks) .nil (Nat.zero_le _))
section
variable {X:Cx} {sc:Scope} {own:List Str} {fr:List Nat} {e tg iter:Expr} {ifs:List Expr} {emit:Env→Addr→Sem Unit} {wi:TI} {g:TG} {tc:TT} {tm:TM} {acc:HO} {newAcc:Sem Value} {pos:Pos}
theorem comp_any (F:CompForm e tg iter ifs emit) (hc:X.calm = true) (S:CompScope X sc fr) (hi:PI X tg iter wi) (hnew:PNew X newAcc acc)
  (hg:∀ C s₀ H₀ fp,PG (compCx X sc own fr C s₀ H₀ fp) tg g) (ht:∀ C s₀ H₀ fp,PTs (compCx X sc own fr C s₀ H₀ fp) ifs tc) (hm:∀ C s₀ H₀ fp,PM (compCx X sc own fr C s₀ H₀ fp) emit tm)
  (hs:∀ x,foldedSetIterable iter X.env x = pure x) {use:Option (Value→Sem Unit)} {pins:List (Addr × Obj)} {s:Shared} {σ:St} {H:Hp} {Q:Addr→Hp→Prop} {Q':Value→Shared→Prop} (I:Inv X pins σ H s)
  (h:tCompB acc wi own.length fr g tc tm σ H Q)
  (hq:∀ (p C:Addr) (H':Hp) (s':Shared) (m:Str→Option Value),Inv X pins σ H' s'→Q p H'→s'.heap.Ns C m→H' C = none→C≠X.env.locals→X.s₀.heap.objs.size≤C→(∀ x c,X.env.cells.lookup x = some c→c≠C)→(∀ q∈X.pn ++ pins,q.1≠C) →
   compPost (model X.prog X.w) X.A X.xe use Q' (.ref p) C (.ok .next) s') :
  wpAny (model X.prog X.w) X.A (comprehension e sc X.env pos newAcc false (eval iter X.env) use) Q' X.xe s:=by
 obtain⟨gs,hcl⟩:=F.cl
 refine wpAny_comprehension_free hcl hs (closureFor_of (S.cells I)) S.kind S.names (thn (hi pins s σ H _ I h) fun v s1 h1=>thn h1 fun itv s2 h2=>?_)
 obtain⟨it,fp,tn,J,H2,e2,I2,T,st2,f2,q2⟩:=h2
 subst e2
 refine hnew pins s2 σ H2 _ _ I2 fun p s3 np hp k3 os3 I3=>?_
 obtain⟨W,⟨m0,w0⟩,turn⟩:=q2 p np
 refine wpAny_newFunctionEnv S.nocell (by intro x hx; simp at hx) (fun h₁ hns hsb=>?_) S.kind
 have hk:∀ b o,s3.heap.get? b = some o→h₁.get? b = some o:=fun b o eb=>hsb.extBut b o (Nat.ne_of_lt (Heap.lt_size eb)) (Heap.get?_push_of_some _ eb)
 have ob2:∀ b∈fp,∃ o,s2.heap.get? b = some o:=fun b hb=>let ⟨o,eo,_⟩:=T.obj _ _ st2 b hb; ⟨o,eo⟩
 have fpn:∀ b∈fp,b≠p:=fun b hb z=>by
  obtain⟨o,eo⟩:=ob2 b hb
  rw [z,hp] at eo
  exact absurd (Heap.lt_size eo) (Nat.lt_irrefl _)
 have f3:∀ b∈fp,FpOk X pins (upd H2 p acc) b:=fun b hb=>by
  obtain⟨a1,a2⟩:=f2 b hb
  exact⟨by rw [upd_ne (fpn b hb)]; exact a1,a2⟩
 have ob3:∀ b∈fp,∃ o,s3.heap.get? b = some o:=fun b hb=>let ⟨o,eo⟩:=ob2 b hb; ⟨o,k3 b o eo⟩
 have I4:=inv_comp (own:=own) (t:=s3.toks + ([]:List (Str × Value)).length) S I3 f3 ob3 (h₁:=h₁) hns hk
 have st4:tn 0 h₁:=T.keep _ _ _ st2 fun b hb o eo=>hk b o (k3 b o eo)
 have hfp:∀ b∈fp,b≠s3.heap.objs.size∧b ∉ frs X.stack∧∀ x c,(closOf sc X.env).lookup x = some c→c≠b:=fun b hb=>by
  obtain⟨_,f1,f2',_,f4,_⟩:=f3 b hb
  obtain⟨o,eo⟩:=ob3 b hb
  refine⟨Nat.ne_of_lt (Heap.lt_size eo),fun z=>?_,fun x c ec=>f4 x c (S.look I3 ec)⟩
  rcases List.mem_cons.mp (I3.stkSub b z) with q | q
  ·exact f1 q
  ·exact f2' q
 have loop:codeAny (model X.prog X.w) X.A (.compLoop e 0 (.ref it) (.ref p) (compEnvC sc (closOf sc X.env) s3.heap.objs.size X.env)) (compPost (model X.prog X.w) X.A X.xe use Q' (.ref p) s3.heap.objs.size) { s3 with heap:=h₁,toks:=s3.toks + ([]:List (Str × Value)).length }:=by
  refine comp_loop (s₀:=s3) (H₀:=upd H2 p acc) (own:=own) (fr:=fr) (Q:=fun H'=>Q p H') F hc (hg _ _ _ _) (ht _ _ _ _) (hm _ _ _ _) T hfp W turn (fun σ' H' s' J' qq=>?_) I4 st4 (fun b hb=>(f3 b hb).1) w0
  obtain⟨m,hn,_⟩:=J'.loc
  have un:Un (frs X.stack) fp H2 H' s2.heap s'.heap:=(Un.laid (o:=acc) k3 (by rw [hp]; exact Nat.le_refl _) np).trans J'.base
  have IX:Inv X pins σ H' s':=I2.call' (ch:=fp) (J'.os.trans os3) un J'.hok J'.bare fun b hb=>by
   obtain⟨_,f1,_,f3',f4,f5⟩:=f2 b hb
   exact⟨f3',f1,f4,f5⟩
  refine hq p s3.heap.objs.size H' s' m IX qq hn J'.free (Ne.symm (Nat.ne_of_lt I3.lt)) I3.sz (fun x c ec=>?_) fun q hq'=>?_
  ·obtain⟨v,o,eo,_⟩:=I3.cell x c ec
   exact Nat.ne_of_lt (Heap.lt_size eo)
  ·exact Nat.ne_of_lt (Heap.lt_size (I3.pin q hq').1)
 exact F.start _ _ _ _ _ _ _ _ loop (T.self _ _ _ _ _ st4 loop)
theorem comp_value (F:CompForm e tg iter ifs emit) (hc:X.calm = true) (S:CompScope X sc fr) (hi:PI X tg iter wi) (hnew:PNew X newAcc acc)
  (hg:∀ C s₀ H₀ fp,PG (compCx X sc own fr C s₀ H₀ fp) tg g) (ht:∀ C s₀ H₀ fp,PTs (compCx X sc own fr C s₀ H₀ fp) ifs tc) (hm:∀ C s₀ H₀ fp,PM (compCx X sc own fr C s₀ H₀ fp) emit tm)
  (hs:∀ x,foldedSetIterable iter X.env x = pure x) {pins:List (Addr × Obj)} {s:Shared} {σ:St} {H:Hp} {Q:VK} (I:Inv X pins σ H s)
  (h:tCompB acc wi own.length fr g tc tm σ H fun p H'=>Q (.ref p) H') :
  wpAny (model X.prog X.w) X.A (comprehension e sc X.env pos newAcc false (eval iter X.env) none) (EP X pins σ Q) X.xe s:=by
 refine comp_any F hc S hi hnew hg ht hm hs I h fun p C H' s' m I' q hn h1 h2 h3 h4 h5=>⟨m,hn,fun h' hb=>?_⟩
 exact⟨.ref p,H',I'.turned (t':=s'.toks) (fun b o hne eo=>hb.extBut b o hne eo) h1 h2 (.inr h3) h4 h5,rfl,q⟩
theorem comp_store (F:CompForm e tg iter ifs emit) (hc:X.calm = true) (S:CompScope X sc fr) (hi:PI X tg iter wi) (hnew:PNew X newAcc acc)
  (hg:∀ C s₀ H₀ fp,PG (compCx X sc own fr C s₀ H₀ fp) tg g) (ht:∀ C s₀ H₀ fp,PTs (compCx X sc own fr C s₀ H₀ fp) ifs tc) (hm:∀ C s₀ H₀ fp,PM (compCx X sc own fr C s₀ H₀ fp) emit tm)
  (hs:∀ x,foldedSetIterable iter X.env x = pure x) {pins:List (Addr × Obj)} {s:Shared} {σ:St} {H:Hp} {D:Ends} {j:Nat} {y:Str} {py:Pos} (hN:X.N.Nodup) (hj:X.N[j]? = some y) (hy:Loc X.env.scope y)
  (hf:X.fn y = true∨X.env.scope.names.lookup y = some .local) (I:Inv X pins σ H s)
  (h:tCompB acc wi own.length fr g tc tm σ H fun p H'=>D.nx (σ.set j (some (.ref p))) H') :
  wpAny (model X.prog X.w) X.A (comprehension e sc X.env pos newAcc false (eval iter X.env) (some (assign (.Name y py) X.env))) (fun _ s'=>SP X pins D .next s') X.xe s:=by
 refine comp_any F hc S hi hnew hg ht hm hs I h fun p C H' s' m I' q hn h1 h2 h3 h4 h5=>?_
 show wpAny _ _ (assign (.Name y py) X.env (.ref p)) _ _ s'
 refine wpAny_assign_Name (store_ok2 I' hN hj hy (show RelV (V.ref p) (Value.ref p) from rfl) (fun s2 I2 ⟨a,sb,ha⟩=>?_) hf)
 have hCa:C≠a:=by
  rcases ha with z | z
  ·rw [z]; exact h2
  ·exact fun w=>h4 y a z w.symm
 refine⟨m,hn.sameBut sb hCa,fun h' hb=>?_⟩
 exact⟨_,H',I2.turned (t':=s2.toks) (fun b o hne eo=>hb.extBut b o hne eo) h1 h2 (.inr h3) h4 h5,q⟩
end
def emitL (elt:Expr):Env→Addr→Sem Unit:=fun env D=>do let _ ← call (.builtin "list.append") [.ref D,← eval elt env]
theorem form_list {elt tg iter:Expr} {ifs:List Expr} {sc:Scope} {pos:Pos}:CompForm (.ListComp elt [⟨tg,iter,ifs,0⟩] sc pos) tg iter ifs (emitL elt) :=
 ⟨⟨_,rfl⟩,fun _ _ _ _=>rfl,fun _ _ _ _ _=>rfl,fun _ _ _=>rfl,fun _ _ _ _ _ _ _ _ h0 h=>codeAny_compStart_list h0 h⟩
def mApp (te:TE):TM:=fun p σ H Q=>te σ H fun y H1=>∃ ys,H1 p = some (.lst ys)∧ys.length < sizeLine∧Q (upd H1 p (.lst (ys ++ [y])))
theorem pm_list {X:Cx} {elt:Expr} {te:TE} (h:PE X elt te):PM X (emitL elt) (mApp te):=by
 intro pins s σ H D Q I hw
 unfold emitL
 refine wpAny_bind (thn (h pins s σ H _ I hw) fun u s1 ⟨y,H1,I1,r1,ys,e1,l1,q1⟩=>wpAny_bind ?_)
 obtain⟨z,its,n,r,hl,e⟩:=I1.lstM e1
 refine call_meets F.slot_list_append ⟨_,e,rfl⟩ F.entry_list_append (F.args_list_append_2 _ _) (PySem.list_append D its.toArray n u (by rw [List.size_toArray]; omega)) ⟨e,?_⟩
 refine wpAny_pure ⟨_,I1.lset (its':=its ++ [u]) e1 e (by simp) (r.append (.cons r1 .nil)) ?_,q1⟩
 rw [List.length_append,List.length_singleton]
 omega
def tLC (wi:TI) (n:Nat) (fr:List Nat) (g:TG) (tc:TT) (te:TE):TE:=fun σ H Q=>tCompB (.lst []) wi n fr g tc (mApp te) σ H fun p H'=>Q (.ref p) H'
section
variable {X:Cx} {sc:Scope} {own:List Str} {fr:List Nat} {elt tg iter:Expr} {ifs:List Expr} {wi:TI} {g:TG} {tc:TT} {te:TE} {pos:Pos}
theorem pe_lc (hc:X.calm = true) (S:CompScope X sc fr) (hi:PI X tg iter wi)
  (hg:∀ C s₀ H₀ fp,PG (compCx X sc own fr C s₀ H₀ fp) tg g) (ht:∀ C s₀ H₀ fp,PTs (compCx X sc own fr C s₀ H₀ fp) ifs tc) (he:∀ C s₀ H₀ fp,PE (compCx X sc own fr C s₀ H₀ fp) elt te)
  (hs:∀ x,foldedSetIterable iter X.env x = pure x:=by intro _; rfl):PE X (.ListComp elt [⟨tg,iter,ifs,0⟩] sc pos) (tLC wi own.length fr g tc te):=by
 intro pins s σ H Q I h
 rw [eval_ListComp]
 exact comp_value form_list hc S hi pnew_list hg ht (fun _ _ _ _=>pm_list (he _ _ _ _)) hs I h
theorem ps_lc {j:Nat} {y:Str} {py spos:Pos} (hc:X.calm = true) (hN:X.N.Nodup) (hj:X.N[j]? = some y) (hy:Loc X.env.scope y) (S:CompScope X sc fr) (hi:PI X tg iter wi)
  (hg:∀ C s₀ H₀ fp,PG (compCx X sc own fr C s₀ H₀ fp) tg g) (ht:∀ C s₀ H₀ fp,PTs (compCx X sc own fr C s₀ H₀ fp) ifs tc) (he:∀ C s₀ H₀ fp,PE (compCx X sc own fr C s₀ H₀ fp) elt te)
  (hsw:swapsWith (.ListComp elt [⟨tg,iter,ifs,0⟩] sc pos) (some (.Name y py)) spos.line X.env = pure true:=by rfl)
  (hf:X.fn y = true∨X.env.scope.names.lookup y = some .local:=by first | exact .inl rfl | exact .inr rfl | assumption)
  (hs:∀ x,foldedSetIterable iter X.env x = pure x:=by intro _; rfl):PS X (.Assign [.Name y py] (.ListComp elt [⟨tg,iter,ifs,0⟩] sc pos) spos) (tAsg (tLC wi own.length fr g tc te) (gName j)):=by
 intro pins s σ H D I h
 rw [exec_Assign_Name_used _ _ _ _ hsw]
 refine wpAny_bind (wpAny_standAt (wpAny_bind ?_))
 show wpAny _ _ (do let _ ← comprehension (.ListComp elt [⟨tg,iter,ifs,0⟩] sc pos) sc X.env _ (newList []) false (eval iter X.env) (some (assign (.Name y py) X.env))) _ _ s
 refine wpAny_bind (thn (comp_store form_list hc S hi pnew_list hg ht (fun _ _ _ _=>pm_list (he _ _ _ _)) hs hN hj hy hf I h) fun _ s' q=>wpAny_pure (wpAny_pure q))
end
section
variable {X:Cx} {sc:Scope} {own:List Str} {fr:List Nat} {kx vx tg iter:Expr} {ifs:List Expr} {wi:TI} {g:TG} {tc:TT} {tk tv:TE} {pos:Pos}
end
theorem comp_list {K:PySem.W.Frag} {a:Addr} {xs:List V} {g:TG} {tc:TT} {tm:TM} {σ:St} {H:Hp} {p:Addr} {Q:Hp→Prop} (Pv:Nat→St→Hp→Prop) (h0:Pv 0 σ H)
  (hl:∀ i σ H,i≤xs.length→Pv i σ H→SqL K H a xs)
  (hs:∀ i x σ H,xs[i]? = some x→Pv i σ H→g x σ H fun σ3 H3=>tc σ3 H3 fun b H4=>if b = true then tm p σ3 H4 (Pv (i + 1) σ3) else Pv (i + 1) σ3 H4) (hd:∀ σ H,Pv xs.length σ H→Q H) :
  ∃ W:Nat→Nat→St→Hp→Prop,(∃ m,W 0 m σ H) ∧
  ∀ i m σ' H',W i m σ' H'→((Itl K a).stop i H'∧Q H')∨((Itl K a).go i H'∧∃ N:St→Hp→Prop,(∀ σ2 H2,N σ2 H2→∃ m',m' < m∧W (i + 1) m' σ2 H2)∧∀ x H2,(Itl K a).yld i H' x H2→g x σ' H2 fun σ3 H3=>tc σ3 H3 fun b H4 =>
   if b = true then tm p σ3 H4 (N σ3) else N σ3 H4):=by
 refine⟨fun i m σ H=>m = xs.length - i∧i≤xs.length∧Pv i σ H,⟨xs.length,by simp,Nat.zero_le _,h0⟩,?_⟩
 rintro i m σ H ⟨rfl,hi,pv⟩
 have q:=hl i σ H hi pv
 by_cases hlt:i < xs.length
 ·refine .inr ⟨⟨xs,xs[i],q,by simp [hlt]⟩,Pv (i + 1),fun σ' H' p'=>⟨xs.length - (i + 1),by omega,rfl,hlt,p'⟩,fun x H' y=>?_⟩
  obtain⟨e,y⟩:=y
  subst e
  exact hs i x σ _ (y xs q) pv
 ·have e:i = xs.length:=by omega
  subst e
  exact .inl ⟨⟨xs,q,Nat.le_refl _⟩,hd σ H pv⟩
theorem comp_tup {K:PySem.W.Frag} {a:Addr} {xs:List V} {g:TG} {tc:TT} {tm:TM} {σ:St} {H:Hp} {p:Addr} {Q:Hp→Prop} (Pv:Nat→St→Hp→Prop) (h0:Pv 0 σ H)
  (hl:∀ i σ H,i≤xs.length→Pv i σ H→SqT K H a xs)
  (hs:∀ i x σ H,xs[i]? = some x→Pv i σ H→g x σ H fun σ3 H3=>tc σ3 H3 fun b H4=>if b = true then tm p σ3 H4 (Pv (i + 1) σ3) else Pv (i + 1) σ3 H4) (hd:∀ σ H,Pv xs.length σ H→Q H) :
  ∃ W:Nat→Nat→St→Hp→Prop,(∃ m,W 0 m σ H) ∧
  ∀ i m σ' H',W i m σ' H'→((Itt K a).stop i H'∧Q H')∨((Itt K a).go i H'∧∃ N:St→Hp→Prop,(∀ σ2 H2,N σ2 H2→∃ m',m' < m∧W (i + 1) m' σ2 H2)∧∀ x H2,(Itt K a).yld i H' x H2→g x σ' H2 fun σ3 H3=>tc σ3 H3 fun b H4 =>
   if b = true then tm p σ3 H4 (N σ3) else N σ3 H4):=by
 refine⟨fun i m σ H=>m = xs.length - i∧i≤xs.length∧Pv i σ H,⟨xs.length,by simp,Nat.zero_le _,h0⟩,?_⟩
 rintro i m σ H ⟨rfl,hi,pv⟩
 have q:=hl i σ H hi pv
 by_cases hlt:i < xs.length
 ·refine .inr ⟨⟨xs,xs[i],q,by simp [hlt]⟩,Pv (i + 1),fun σ' H' p'=>⟨xs.length - (i + 1),by omega,rfl,hlt,p'⟩,fun x H' y=>?_⟩
  obtain⟨e,y⟩:=y
  subst e
  exact hs i x σ _ (y xs q) pv
 ·have e:i = xs.length:=by omega
  subst e
  exact .inl ⟨⟨xs,q,Nat.le_refl _⟩,hd σ H pv⟩
theorem comp_range {lo:Int} {n:Nat} {g:TG} {tc:TT} {tm:TM} {σ:St} {H:Hp} {p:Addr} {Q:Hp→Prop} (Pv:Nat→St→Hp→Prop) (h0:Pv 0 σ H)
  (hs:∀ i σ H,i < n→Pv i σ H→g (.int (lo + i)) σ H fun σ3 H3=>tc σ3 H3 fun b H4=>if b = true then tm p σ3 H4 (Pv (i + 1) σ3) else Pv (i + 1) σ3 H4) (hd:∀ σ H,Pv n σ H→Q H) :
  ∃ W:Nat→Nat→St→Hp→Prop,(∃ m,W 0 m σ H) ∧
  ∀ i m σ' H',W i m σ' H'→((Itr lo n).stop i H'∧Q H')∨((Itr lo n).go i H'∧∃ N:St→Hp→Prop,(∀ σ2 H2,N σ2 H2→∃ m',m' < m∧W (i + 1) m' σ2 H2)∧∀ x H2,(Itr lo n).yld i H' x H2→g x σ' H2 fun σ3 H3=>tc σ3 H3 fun b H4 =>
   if b = true then tm p σ3 H4 (N σ3) else N σ3 H4):=by
 refine⟨fun i m σ H=>m = n - i∧i≤n∧Pv i σ H,⟨n,by simp,Nat.zero_le _,h0⟩,?_⟩
 rintro i m σ H ⟨rfl,hi,pv⟩
 by_cases hlt:i < n
 ·refine .inr ⟨hlt,Pv (i + 1),fun σ' H' p'=>⟨n - (i + 1),by omega,rfl,hlt,p'⟩,fun x H' y=>?_⟩
  obtain⟨e,y⟩:=y
  subst e y
  exact hs i σ _ hlt pv
 ·have e:i = n:=by omega
  subst e
  exact .inl ⟨Nat.le_refl _,hd σ H pv⟩
end L2
end
section
set_option Elab.async false
set_option linter.all false
set_option maxRecDepth 100000
set_option maxHeartbeats 4000000
namespace L2
open PySem PySem.Spec PyProof.Rows
inductive DD where
 | non | bl (b:Bool) | int (i:Int) | str (x:Str) | lst (ds:List DD) | tup (ds:List DD)
mutual
def dep:DD→Nat
 | .lst ds=>depL ds + 1
 | .tup ds=>depL ds + 1
 | _=>0
def depL:List DD→Nat
 | []=>0
 | d :: ds=>max (dep d) (depL ds)
end
mutual
def eqD:DD→DD→Bool
 | .non,.non=>true
 | .bl a,.bl b=>a == b
 | .bl a,.int b=>(if a then 1 else 0) == b
 | .int a,.bl b=>a == (if b then 1 else 0)
 | .int a,.int b=>a == b
 | .str a,.str b=>a == b
 | .lst as,.lst bs=>eqDs as bs
 | .tup as,.tup bs=>eqDs as bs
 | _,_=>false
def eqDs:List DD→List DD→Bool
 | [],[]=>true
 | a :: as,b :: bs=>eqD a b && eqDs as bs
 | _,_=>false
end
mutual
def Den (H:Hp) (v:V):DD→Prop
 | .non=>v = .non
 | .bl b=>v = .bl b
 | .int i=>v = .int i
 | .str x=>v = .str x
 | .lst ds=>∃ a xs,v = .ref a∧H a = some (.lst xs)∧Dens H xs ds
 | .tup ds=>∃ a xs,v = .ref a∧H a = some (.tup xs)∧Dens H xs ds
def Dens (H:Hp) (xs:List V):List DD→Prop
 | []=>xs = []
 | d :: ds=>∃ x r,xs = x :: r∧Den H x d∧Dens H r ds
end
theorem depL_mem:∀ {ds:List DD} {d:DD},d∈ds→dep d≤depL ds
 | d :: ds,e,h=>by
  rw [depL]
  rcases List.mem_cons.mp h with rfl | h
  ·omega
  ·have:=depL_mem h
   omega
theorem Dens.length:∀ {H:Hp} {xs:List V} {ds:List DD},Dens H xs ds→xs.length = ds.length
 | _,_,[],h=>by rw [Dens] at h; subst h; rfl
 | _,_,d :: ds,h=>by
  rw [Dens] at h
  obtain⟨x,r,rfl,_,h⟩:=h
  simp [Dens.length h]
theorem Dens.get {H:Hp}:∀ {xs:List V} {ds:List DD} {i:Nat} {d:DD},Dens H xs ds→ds[i]? = some d→∃ x,xs[i]? = some x∧Den H x d
 | _,[],_,_,_,e=>by simp at e
 | _,d :: ds,i,c,h,e=>by
  rw [Dens] at h
  obtain⟨x,r,rfl,h1,h⟩:=h
  cases i with
  | zero=>simp at e; subst e; exact⟨x,rfl,h1⟩
  | succ i =>
   obtain⟨y,e1,e2⟩:=Dens.get (i:=i) h (by simpa using e)
   exact⟨y,by simpa using e1,e2⟩
theorem Dens.get' {H:Hp} {xs:List V} {ds:List DD} {i:Nat} {x:V} (h:Dens H xs ds) (e:xs[i]? = some x):∃ d,ds[i]? = some d∧Den H x d:=by
 have hi:i < ds.length:=by rw [← h.length]; exact (List.getElem?_eq_some_iff.mp e).1
 obtain⟨y,e1,e2⟩:=h.get (List.getElem?_eq_getElem hi)
 rw [e] at e1
 cases e1
 exact⟨_,List.getElem?_eq_getElem hi,e2⟩
theorem Dens.ints {H:Hp}:∀ {ns:List Int},Dens H (ns.map V.int) (ns.map DD.int)
 | []=>rfl
 | n :: ns=>⟨_,_,rfl,rfl,Dens.ints⟩
def Sub (G H:Hp):Prop:=∀ a o,G a = some o→H a = some o
theorem Sub.refl {H:Hp}:Sub H H:=fun _ _ h=>h
theorem Sub.trans {A B C:Hp} (h:Sub A B) (h':Sub B C):Sub A C:=fun a o e=>h' a o (h a o e)
theorem Sub.upd {G H:Hp} {p:Addr} {o:HO} (h:Sub G H) (n:G p = none):Sub G (upd H p o):=fun a u e=>by
 rw [upd_ne (ne_of_none e n)]
 exact h a u e
theorem Sub.new {H:Hp} {p:Addr} {o:HO} (n:H p = none):Sub H (L2.upd H p o):=Sub.upd Sub.refl n
theorem Sub.free {G H:Hp} {p:Addr} (h:Sub G H) (n:H p = none):G p = none:=by
 cases e:G p with
 | none=>rfl
 | some o=>rw [h p o e] at n; cases n
mutual
theorem Den.inj {H:Hp}:∀ {v:V} (d e:DD),Den H v d→Den H v e→d = e
 | v,.non,e,h,h'=>by
  rw [Den] at h
  subst h
  cases e <;> rw [Den] at h' <;> first | rfl | (cases h'; done) | (obtain⟨_,_,z,_⟩:=h'; cases z)
 | v,.bl b,e,h,h'=>by
  rw [Den] at h
  subst h
  cases e <;> rw [Den] at h' <;> first | (cases h'; rfl) | (cases h'; done) | (obtain⟨_,_,z,_⟩:=h'; cases z)
 | v,.int b,e,h,h'=>by
  rw [Den] at h
  subst h
  cases e <;> rw [Den] at h' <;> first | (cases h'; rfl) | (cases h'; done) | (obtain⟨_,_,z,_⟩:=h'; cases z)
 | v,.str b,e,h,h'=>by
  rw [Den] at h
  subst h
  cases e <;> rw [Den] at h' <;> first | (cases h'; rfl) | (cases h'; done) | (obtain⟨_,_,z,_⟩:=h'; cases z)
 | v,.lst ds,e,h,h'=>by
  rw [Den] at h
  obtain⟨a,xs,rfl,h1,h2⟩:=h
  cases e <;> rw [Den] at h' <;> first | (cases h'; done) | (obtain⟨b,ys,z,h3,h4⟩:=h'; cases z; rw [h1] at h3; cases h3; done) | (obtain⟨b,ys,z,h3,h4⟩:=h'; cases z; rw [h1] at h3; cases h3; rw [Dens.inj ds _ h2 h4])
 | v,.tup ds,e,h,h'=>by
  rw [Den] at h
  obtain⟨a,xs,rfl,h1,h2⟩:=h
  cases e <;> rw [Den] at h' <;> first | (cases h'; done) | (obtain⟨b,ys,z,h3,h4⟩:=h'; cases z; rw [h1] at h3; cases h3; done) | (obtain⟨b,ys,z,h3,h4⟩:=h'; cases z; rw [h1] at h3; cases h3; rw [Dens.inj ds _ h2 h4])
theorem Dens.inj {H:Hp}:∀ {xs:List V} (ds es:List DD),Dens H xs ds→Dens H xs es→ds = es
 | _,[],es,h,h'=>by
  rw [Dens] at h
  subst h
  cases es with
  | nil=>rfl
  | cons e es=>obtain⟨_,_,z,_⟩:=h'; cases z
 | _,d :: ds,es,h,h'=>by
  rw [Dens] at h
  obtain⟨x,r,rfl,h1,h2⟩:=h
  cases es with
  | nil=>cases h'
  | cons e es =>
   obtain⟨y,q,z,h3,h4⟩:=h'
   cases z
   rw [Den.inj d e h1 h3,Dens.inj ds es h2 h4]
end
mutual
theorem eqD_refl:∀ d:DD,eqD d d = true
 | .non=>by simp [eqD]
 | .bl b=>by simp [eqD]
 | .int b=>by simp [eqD]
 | .str b=>by simp [eqD]
 | .lst ds=>by rw [eqD]; exact eqDs_refl ds
 | .tup ds=>by rw [eqD]; exact eqDs_refl ds
theorem eqDs_refl:∀ ds:List DD,eqDs ds ds = true
 | []=>by simp [eqDs]
 | d :: ds=>by rw [eqDs,eqD_refl d,eqDs_refl ds]; rfl
end
theorem eqDs_all:∀ as bs:List DD,eqDs as bs = ((List.range (min as.length bs.length)).all (fun j=>eqD (as.getD j .non) (bs.getD j .non)) && as.length == bs.length)
 | [],[]=>by simp [eqDs]
 | [],b :: bs=>by simp [eqDs]
 | a :: as,[]=>by simp [eqDs]
 | a :: as,b :: bs=>by
  rw [eqDs,eqDs_all as bs]
  rw [show min (a :: as).length (b :: bs).length = min as.length bs.length + 1 by simp only [List.length_cons]; omega]
  rw [List.range_succ_eq_map,List.all_cons,List.all_map]
  simp only [List.getD_cons_zero,List.length_cons,Bool.and_assoc]
  congr 1
  congr 1
  have:∀ (m n:Nat),(m + 1 == n + 1) = (m == n):=fun m n=>by
   by_cases h:m = n
   ·subst h; simp
   ·rw [beq_eq_false_iff_ne.mpr h,beq_eq_false_iff_ne.mpr (by omega)]
  rw [this]
section
variable {X:Cx} {pins:List (Addr × Obj)} {σ:St} {H:Hp} {s:Shared}
open PySem.SeqAt
def EqAll (A:Around) (s:Shared) (u v:Value) (b:Bool):Prop:=EqAt A s u v b∧RcAt A s u v b∧RcNeAt A s u v (!b)
theorem vals_getD {H:Hp} {xs:List V} {ds:List DD} {us:List Value} (h:Dens H xs ds) (r:Vals xs us) {j:Nat} (hj:j < us.toArray.size):∃ x d,Den H x d∧RelV x (us.toArray[j])∧ds.getD j .non = d∧d∈ds:=by
 rw [List.size_toArray] at hj
 have hj':j < xs.length:=by rw [r.length]; exact hj
 obtain⟨u,e1,e2⟩:=r.get (List.getElem?_eq_getElem hj')
 obtain⟨d,e3,e4⟩:=h.get' (List.getElem?_eq_getElem hj')
 refine⟨_,d,e4,?_,?_,List.mem_of_getElem? e3⟩
 ·rw [List.getElem?_eq_getElem hj] at e1
  cases e1
  simpa using e2
 ·rw [List.getD_eq_getElem?_getD,e3]; rfl
theorem eq_all (I:Inv X pins σ H s):∀ (n:Nat) (d e:DD) (A:Around) (x y:V) (u v:Value),dep d≤n→Den H x d→Den H y e→RelV x u→RelV y v→A.units + n < cLine→EqAll A s u v (eqD d e):=by
 intro n
 induction n with
 | zero =>
  intro d e A x y u v hd hx hy rx ry hu
  cases d with
  | lst ds=>simp [dep] at hd
  | tup ds=>simp [dep] at hd
  | non =>
   rw [Den] at hx; subst hx; cases rx
   cases e with
   | non=>rw [Den] at hy; subst hy; cases ry; exact⟨EqAt.same _,RcAt.none_none,RcNeAt.none_none⟩
   | bl b=>rw [Den] at hy; subst hy; cases ry; exact⟨EqAt.none_bool b,RcAt.none_bool b,RcNeAt.none_bool b⟩
   | int b=>rw [Den] at hy; subst hy; obtain⟨t,rfl⟩:=ry; exact⟨EqAt.none_int b t,RcAt.none_int b t,RcNeAt.none_int b t⟩
   | str b=>rw [Den] at hy; subst hy; obtain⟨t,rfl⟩:=ry; exact⟨EqAt.none_str b t,RcAt.none_str b t,RcNeAt.none_str b t⟩
   | lst es=>rw [Den] at hy; obtain⟨a,xs,rfl,h1,h2⟩:=hy; cases ry; obtain⟨its,_,p,_⟩:=I.list (SqL.of h1); exact⟨EqAt.none_list p.isList hu,RcAt.none_list p.isList hu,RcNeAt.none_list p.isList hu⟩
   | tup es=>rw [Den] at hy; obtain⟨a,xs,rfl,h1,h2⟩:=hy; cases ry; obtain⟨its,_,p,_⟩:=I.tuple (SqT.of h1); exact⟨EqAt.none_tuple p hu,RcAt.none_tuple p hu,RcNeAt.none_tuple p hu⟩
  | bl a =>
   rw [Den] at hx; subst hx; cases rx
   cases e with
   | non=>rw [Den] at hy; subst hy; cases ry; exact⟨EqAt.bool_none a,RcAt.bool_none a,RcNeAt.bool_none a⟩
   | bl b=>rw [Den] at hy; subst hy; cases ry; exact⟨EqAt.bool_bool a b,RcAt.bool_bool a b,RcNeAt.bool_bool a b⟩
   | int b=>rw [Den] at hy; subst hy; obtain⟨t,rfl⟩:=ry; exact⟨EqAt.bool_int a b t,RcAt.bool_int a b t,RcNeAt.bool_int a b t⟩
   | str b=>rw [Den] at hy; subst hy; obtain⟨t,rfl⟩:=ry; exact⟨EqAt.bool_str a b t,RcAt.bool_str a b t,RcNeAt.bool_str a b t⟩
   | lst es=>rw [Den] at hy; obtain⟨b,xs,rfl,h1,h2⟩:=hy; cases ry; obtain⟨its,_,p,_⟩:=I.list (SqL.of h1); exact⟨EqAt.bool_list a p.isList hu,RcAt.bool_list a p.isList hu,RcNeAt.bool_list a p.isList hu⟩
   | tup es=>rw [Den] at hy; obtain⟨b,xs,rfl,h1,h2⟩:=hy; cases ry; obtain⟨its,_,p,_⟩:=I.tuple (SqT.of h1); exact⟨EqAt.bool_tuple a p hu,RcAt.bool_tuple a p hu,RcNeAt.bool_tuple a p hu⟩
  | int a =>
   rw [Den] at hx; subst hx; obtain⟨t',rfl⟩:=rx
   cases e with
   | non=>rw [Den] at hy; subst hy; cases ry; exact⟨EqAt.int_none a t',RcAt.int_none a t',RcNeAt.int_none a t'⟩
   | bl b=>rw [Den] at hy; subst hy; cases ry; exact⟨EqAt.int_bool a t' b,RcAt.int_bool a t' b,RcNeAt.int_bool a t' b⟩
   | int b=>rw [Den] at hy; subst hy; obtain⟨t,rfl⟩:=ry; exact⟨EqAt.int_int a t' b t,RcAt.int_int a t' b t,RcNeAt.int_int a t' b t⟩
   | str b=>rw [Den] at hy; subst hy; obtain⟨t,rfl⟩:=ry; exact⟨EqAt.int_str a t' b t,RcAt.int_str a t' b t,RcNeAt.int_str a t' b t⟩
   | lst es=>rw [Den] at hy; obtain⟨b,xs,rfl,h1,h2⟩:=hy; cases ry; obtain⟨its,_,p,_⟩:=I.list (SqL.of h1); exact⟨EqAt.int_list a t' p.isList hu,RcAt.int_list a t' p.isList hu,RcNeAt.int_list a t' p.isList hu⟩
   | tup es=>rw [Den] at hy; obtain⟨b,xs,rfl,h1,h2⟩:=hy; cases ry; obtain⟨its,_,p,_⟩:=I.tuple (SqT.of h1); exact⟨EqAt.int_tuple a t' p hu,RcAt.int_tuple a t' p hu,RcNeAt.int_tuple a t' p hu⟩
  | str a =>
   rw [Den] at hx; subst hx; obtain⟨t',rfl⟩:=rx
   cases e with
   | non=>rw [Den] at hy; subst hy; cases ry; exact⟨EqAt.str_none a t',RcAt.str_none a t',RcNeAt.str_none a t'⟩
   | bl b=>rw [Den] at hy; subst hy; cases ry; exact⟨EqAt.str_bool a t' b,RcAt.str_bool a t' b,RcNeAt.str_bool a t' b⟩
   | int b=>rw [Den] at hy; subst hy; obtain⟨t,rfl⟩:=ry; exact⟨EqAt.str_int a t' b t,RcAt.str_int a t' b t,RcNeAt.str_int a t' b t⟩
   | str b=>rw [Den] at hy; subst hy; obtain⟨t,rfl⟩:=ry; exact⟨EqAt.str_str a t' b t,RcAt.str_str a t' b t,RcNeAt.str_str a t' b t⟩
   | lst es=>rw [Den] at hy; obtain⟨b,xs,rfl,h1,h2⟩:=hy; cases ry; obtain⟨its,_,p,_⟩:=I.list (SqL.of h1); exact⟨EqAt.str_list a t' p.isList hu,RcAt.str_list a t' p.isList hu,RcNeAt.str_list a t' p.isList hu⟩
   | tup es=>rw [Den] at hy; obtain⟨b,xs,rfl,h1,h2⟩:=hy; cases ry; obtain⟨its,_,p,_⟩:=I.tuple (SqT.of h1); exact⟨EqAt.str_tuple a t' p hu,RcAt.str_tuple a t' p hu,RcNeAt.str_tuple a t' p hu⟩
 | succ n ih =>
  intro d e A x y u v hd hx hy rx ry hu
  have hu0:A.units < cLine:=by omega
  cases d with
  | lst ds =>
   have hdl:∀ c∈ds,dep c≤n:=fun c hc=>by have:=depL_mem hc; rw [dep] at hd; omega
   have hxd:=hx
   rw [Den] at hx; obtain⟨a,xs,rfl,h1,h2⟩:=hx; cases rx
   obtain⟨its,r,p,_⟩:=I.list (SqL.of h1)
   cases e with
   | non=>rw [Den] at hy; subst hy; cases ry; exact⟨EqAt.list_none p.isList hu0,RcAt.list_none p.isList hu0,RcNeAt.list_none p.isList hu0⟩
   | bl b=>rw [Den] at hy; subst hy; cases ry; exact⟨EqAt.list_bool b p.isList hu0,RcAt.list_bool b p.isList hu0,RcNeAt.list_bool b p.isList hu0⟩
   | int b=>rw [Den] at hy; subst hy; obtain⟨t,rfl⟩:=ry; exact⟨EqAt.list_int b t p.isList hu0,RcAt.list_int b t p.isList hu0,RcNeAt.list_int b t p.isList hu0⟩
   | str b=>rw [Den] at hy; subst hy; obtain⟨t,rfl⟩:=ry; exact⟨EqAt.list_str b t p.isList hu0,RcAt.list_str b t p.isList hu0,RcNeAt.list_str b t p.isList hu0⟩
   | tup es=>rw [Den] at hy; obtain⟨b,ys,rfl,h3,h4⟩:=hy; cases ry; obtain⟨its',_,p',_⟩:=I.tuple (SqT.of h3); exact⟨EqAt.list_tuple p.isList p' hu0,RcAt.list_tuple p.isList p' hu0,RcNeAt.list_tuple p.isList p' hu0⟩
   | lst es =>
    have hyd:=hy
    rw [Den] at hy; obtain⟨b,ys,rfl,h3,h4⟩:=hy; cases ry
    obtain⟨its',r',p',_⟩:=I.list (SqL.of h3)
    have l1:=h2.length; have l2:=h4.length; have l3:=r.length; have l4:=r'.length
    have ch:∀ j (g1:j < its.toArray.size) (g2:j < its'.toArray.size),EqAt A.in1 s its.toArray[j] its'.toArray[j] (eqD (ds.getD j .non) (es.getD j .non)):=fun j g1 g2=>by
     obtain⟨x1,d1,a1,a2,a3,a4⟩:=vals_getD h2 r g1
     obtain⟨x2,d2,b1,b2,b3,b4⟩:=vals_getD h4 r' g2
     rw [a3,b3]
     exact (ih d1 d2 A.in1 x1 x2 _ _ (hdl d1 a4) a1 b1 a2 b2 (by show A.units + 1 + n < _; omega)).1
    have main:RcAt A s (.ref a) (.ref b) (eqD (.lst ds) (.lst es))∧RcNeAt A s (.ref a) (.ref b) (!eqD (.lst ds) (.lst es)):=by
     rw [eqD,eqDs_all]
     by_cases hl:ds.length = es.length
     ·have hs:its.toArray.size = its'.toArray.size:=by simp; omega
      have e1:min ds.length es.length = its.toArray.size:=by simp; omega
      have e2:(ds.length == es.length) = true:=by simpa using hl
      rw [e1,e2,Bool.and_true]
      exact⟨RcAt.lists p.isList p'.isList hs hu0 ch,RcNeAt.lists p.isList p'.isList hs hu0 ch⟩
     ·have hs:(its.toArray.size != its'.toArray.size) = true:=by simp; omega
      have e2:(ds.length == es.length) = false:=by simpa using hl
      rw [e2,Bool.and_false]
      exact⟨RcAt.lists_lengths p.isList p'.isList hs hu0,RcNeAt.lists_lengths p.isList p'.isList hs hu0⟩
    refine⟨?_,main⟩
    by_cases hab:a = b
    ·subst hab
     have:=Den.inj _ _ hxd hyd
     rw [this,eqD_refl]
     exact EqAt.same _
    ·exact EqAt.of_refs hab main.1
  | tup ds =>
   have hdl:∀ c∈ds,dep c≤n:=fun c hc=>by have:=depL_mem hc; rw [dep] at hd; omega
   have hxd:=hx
   rw [Den] at hx; obtain⟨a,xs,rfl,h1,h2⟩:=hx; cases rx
   obtain⟨its,r,p,_⟩:=I.tuple (SqT.of h1)
   cases e with
   | non=>rw [Den] at hy; subst hy; cases ry; exact⟨EqAt.tuple_none p hu0,RcAt.tuple_none p hu0,RcNeAt.tuple_none p hu0⟩
   | bl b=>rw [Den] at hy; subst hy; cases ry; exact⟨EqAt.tuple_bool b p hu0,RcAt.tuple_bool b p hu0,RcNeAt.tuple_bool b p hu0⟩
   | int b=>rw [Den] at hy; subst hy; obtain⟨t,rfl⟩:=ry; exact⟨EqAt.tuple_int b t p hu0,RcAt.tuple_int b t p hu0,RcNeAt.tuple_int b t p hu0⟩
   | str b=>rw [Den] at hy; subst hy; obtain⟨t,rfl⟩:=ry; exact⟨EqAt.tuple_str b t p hu0,RcAt.tuple_str b t p hu0,RcNeAt.tuple_str b t p hu0⟩
   | lst es=>rw [Den] at hy; obtain⟨b,ys,rfl,h3,h4⟩:=hy; cases ry; obtain⟨its',_,p',_⟩:=I.list (SqL.of h3); exact⟨EqAt.tuple_list p p'.isList hu0,RcAt.tuple_list p p'.isList hu0,RcNeAt.tuple_list p p'.isList hu0⟩
   | tup es =>
    have hyd:=hy
    rw [Den] at hy; obtain⟨b,ys,rfl,h3,h4⟩:=hy; cases ry
    obtain⟨its',r',p',_⟩:=I.tuple (SqT.of h3)
    have l1:=h2.length; have l2:=h4.length; have l3:=r.length; have l4:=r'.length
    have ch:∀ j (g1:j < its.toArray.size) (g2:j < its'.toArray.size),EqAt A.in1 s its.toArray[j] its'.toArray[j] (eqD (ds.getD j .non) (es.getD j .non)):=fun j g1 g2=>by
     obtain⟨x1,d1,a1,a2,a3,a4⟩:=vals_getD h2 r g1
     obtain⟨x2,d2,b1,b2,b3,b4⟩:=vals_getD h4 r' g2
     rw [a3,b3]
     exact (ih d1 d2 A.in1 x1 x2 _ _ (hdl d1 a4) a1 b1 a2 b2 (by show A.units + 1 + n < _; omega)).1
    have main:RcAt A s (.ref a) (.ref b) (eqD (.tup ds) (.tup es))∧RcNeAt A s (.ref a) (.ref b) (!eqD (.tup ds) (.tup es)):=by
     rw [eqD,eqDs_all]
     have e1:min ds.length es.length = min its.toArray.size its'.toArray.size:=by simp; omega
     have e2:(ds.length == es.length) = (its.toArray.size == its'.toArray.size):=by
      rw [List.size_toArray,List.size_toArray,← l1,← l2,l3,l4]
     rw [e1,e2]
     exact⟨RcAt.tuples p p' hu0 ch,RcNeAt.tuples p p' hu0 ch⟩
    refine⟨?_,main⟩
    by_cases hab:a = b
    ·subst hab
     have:=Den.inj _ _ hxd hyd
     rw [this,eqD_refl]
     exact EqAt.same _
    ·exact EqAt.of_refs hab main.1
  | non=>exact ih .non e A x y u v (by simp [dep]) hx hy rx ry (by omega)
  | bl b=>exact ih (.bl b) e A x y u v (by simp [dep]) hx hy rx ry (by omega)
  | int b=>exact ih (.int b) e A x y u v (by simp [dep]) hx hy rx ry (by omega)
  | str b=>exact ih (.str b) e A x y u v (by simp [dep]) hx hy rx ry (by omega)
def rEqD:R2:=fun x y H Q=>∃ d e,Den H x d∧Den H y e∧dep d≤60∧Q (.bl (eqD d e)) H
def rNeD:R2:=fun x y H Q=>∃ d e,Den H x d∧Den H y e∧dep d≤60∧Q (.bl (!eqD d e)) H
theorem op_eqD {k:Nat} (hr:Room k X.A):OpR X (compareOp .Eq) rEqD:=by
 intro pins s σ H x y v u Q I rx ry h
 obtain⟨d,e,h1,h2,h3,q⟩:=h
 have hu:=hr.units
 exact (eq_all I 60 d e X.A x y _ _ h3 h1 h2 rx ry (by omega)).2.1 _ _ _ _ ⟨.bl _,H,I,rfl,q⟩
theorem op_neD {k:Nat} (hr:Room k X.A):OpR X (compareOp .NotEq) rNeD:=by
 intro pins s σ H x y v u Q I rx ry h
 obtain⟨d,e,h1,h2,h3,q⟩:=h
 have hu:=hr.units
 exact (eq_all I 60 d e X.A x y _ _ h3 h1 h2 rx ry (by omega)).2.2 _ _ _ _ ⟨.bl _,H,I,rfl,q⟩
end
end L2
end
section
set_option Elab.async false
set_option linter.all false
set_option maxRecDepth 100000
set_option maxHeartbeats 4000000
namespace L2
open PySem PySem.Spec PyProof.Rows
structure ExC (K:PySem.W.Frag) (C:Addr):Prop where
 ga:PySem.W.findIn K (.ref C) "__getattribute__" = some (some (.builtin "BaseException.__getattribute__"))
 na:PySem.W.findIn K (.ref C) "__getattr__" = some none
 cl:PySem.W.findIn K (.ref C) "__class__" = some (some (.builtin "object.__class__"))
 gt:PySem.W.specialIn K (.builtin "object.__class__") "__get__" = some (some (.builtin "getset_descriptor.__get__"))
 tk:PySem.W.takesIn K (.builtin "object.__class__") = some true
 mo:PySem.W.mroIn K C (.type "object") = some true
 mb:PySem.W.mroIn K C (.type "BaseException") = some true
 ci:(PySem.W.clsIn K C).isSome = true
def IsExc (x C:Addr) (h:Heap):Prop:=∃ o,h.get? x = some o∧o.cls = .ref C
theorem IsExc.type {x C:Addr} {h:Heap} {M:Model} (e:IsExc x C h):PySem.W.Looks M h (typeOf (.ref x)) (.ref C):=by
 obtain⟨o,h1,h2⟩:=e
 exact h2 ▸ (PySem.W.Looks.ld h1).andThen .now
section
variable {prog:Program} {w:World} {A:Around} {E:Value→Shared→Prop} {s:Shared} {K:PySem.W.Frag} {x C:Addr}
open PySem.W PySem.Builtin PySem.Builtin.ObjectAttr PySem.Builtin.Getset_descriptor
theorem exc_check {nameV:Value} {Q:Unit→Shared→Prop} {M:Model} (T:ExC K C) (X:K.In s.heap) (I:IsExc x C s.heap) (hq:Q () s):wpAny M A (checkBuiltinCall "BaseException.__getattribute__" ⟨[.ref x,nameV],[]⟩) Q E s:=by
 have hk:builtinKind "BaseException.__getattribute__" = some .slot:=by decide +kernel
 have hsplit:splitId "BaseException.__getattribute__" = some ("BaseException","__getattribute__"):=by decide +kernel
 have ha:=PySem.F.args_bexc_ga (.ref x) nameV
 obtain⟨hh,g,d,t,os⟩:=s
 have L0:=I.type (M:=M)
 have L1:=looks_mroIn (M:=M) X T.mb
 simp only [checkBuiltinCall,hk,hsplit]
 refine wpAny_bind ?_
 unfold isInstance
 refine wpAny_bind (L0.at (L1.at ?_))
 repeat (first | wp_step)
 exact hq
theorem exc_get {R:Result→Shared→Prop} {tp:Value} (X:K.In s.heap) (I:IsExc x C s.heap) (hm:mroIn K C (.type "object") = some true)
  (h:R (.ok (.ret (.ref C))) s):codeAny (model prog w) A (.call (.builtin "getset_descriptor.__get__") ⟨[.builtin "object.__class__",.ref x,tp],[]⟩) R s:=by
 obtain⟨hh,g,dr,t,os⟩:=s
 have L0:=I.type (M:=model prog w)
 have L1:=looks_mroIn (M:=model prog w) X hm
 refine codeAny_call_builtin KF.slot_gs.plain KF.entry_gs (KF.slot_gs.check _ _ _ _ _ _ _ _ KF.type_class (KF.args_gs _ _ _) ?_)
 unfold Builtin.«getset_descriptor.__get__» descrGet
 rw [dga_obj]
 refine wpAny_bind (wpAny_pure ?_)
 unfold descrGetter descrCheckInstance descrNameAndClass isInstance
 simp only [KF.owner_class]
 repeat lk
 refine⟨Code.quiet_builtin _ (by decide +kernel),codeAny_builtin KF.entry_class ?_⟩
 unfold Builtin.«object.__class__» shownTypeOf
 repeat lk
 exact h
theorem exc_entry {tk:Tok} {Q:Fin→Shared→Prop} (T:ExC K C) (X:K.In s.heap) (I:IsExc x C s.heap) (hq:Q (.done (.ret (.ref C))) s) :
  wpAny (model prog w) A (Builtin.«object.__getattribute__» ⟨[.ref x,.str "__class__" tk],[]⟩) Q E s:=by
 obtain⟨hh,g,d,t,os⟩:=s
 have L0:=I.type (M:=model prog w)
 have L1:Looks (model prog w) hh (Builtin.ObjectAttr.find (.ref x) (.ref C) "__class__") (.bind (.builtin "getset_descriptor.__get__") (.builtin "object.__class__")):=by
  refine (looks_findIn (M:=model prog w) X T.cl).andThen (Looks.andThen (looks_specialIn (M:=model prog w) X T.gt) ?_)
  have L3:=looks_takesIn (M:=model prog w) X T.tk
  exact (show Looks (model prog w) hh (Builtin.ObjectAttr.dataDescriptor? (some (.builtin "object.__class__")) (some (.builtin "getset_descriptor.__get__"))) (some (.builtin "getset_descriptor.__get__",.builtin "object.__class__")) from L3.andThen .now).andThen (Looks.tag .now)
 unfold Builtin.«object.__getattribute__»
 refine wpAny_bind (wpAny_pure (wpAny_bind (wpAny_pure (wpAny_bind (L0.at (wpAny_bind (L1.at ?_)))))))
 show wpAny _ _ (Builtin.ObjectAttr.bindTo _ _ _ _) _ _ _
 refine wpAny_bind (m:=holding [Value.builtin "object.__class__"] (call (.builtin "getset_descriptor.__get__") [.builtin "object.__class__",.ref x,.ref C])) (wpAny_holding (wpAny_call (exc_get X I T.mo ?_)))
 exact wpAny_pure hq
theorem exc_class {Q:Option Value→Shared→Prop} (T:ExC K C) (X:K.In s.heap) (I:IsExc x C s.heap) (h:Q (some (.ref C)) { s with toks:=s.toks + 1 }):wpAny (model prog w) A (getAttr? (.ref x) "__class__") Q E s:=by
 obtain⟨hh,g,d,t,os⟩:=s
 have L0:=I.type (M:=model prog w)
 have L1:=looks_findIn (M:=model prog w) X T.ga
 have L2:=looks_findIn (M:=model prog w) X T.na
 have f3:=PySem.F.excAttr_ValueError.ga.bind (.ref x)
 unfold getAttr? getAttrBy? getAttrBy
 refine wpAny_bind (wpAny_mkText (wpAny_bind (wpAny_attempt (wpAny_holding (wpAny_bind (L0.at (wpAny_bind (L1.at ?_))))))))
 show wpAny _ _ (getAttrByItsOwn _ _ _ _ _ _) _ _ _
 unfold getAttrByItsOwn
 refine wpAny_bind (L2.at ?_)
 refine wpAny_bind (wpAny_attempt (wpAny_holding ?_))
 show wpAny _ _ (boundAndCalled _ _ _) _ _ _
 unfold boundAndCalled
 refine wpAny_bind (wpAny_of_eq f3 ?_)
 refine wpAny_call (codeAny_call_builtin PySem.F.excAttr_ValueError.ga.plain PySem.F.entry_bexc_ga (exc_check T X I (exc_entry T X I ?_)))
 repeat (any_goals (first | assumption | wp_step))
theorem kitx_exc (T:ExC K C):KitX K (.ref x) (.ref C) (IsExc x C) where
 ty:=fun M h X I=>I.type
 it:=fun _ _ X _=>by
  obtain⟨cd,hcD⟩:=Option.isSome_iff_exists.mp T.ci
  unfold clsIn at hcD
  split at hcD
  ·rename_i c' d' cd' sl' ho
   intro A' Q' E' s' k q
   unfold isType loadHead
   exact wpAny_bind (wpAny_loadPart (k _ _ (X _ _ ho)) (wpAny_pure q))
  ·cases hcD
 ne:=fun h tp dd its n sl X htp=>by
  obtain⟨cd,hcD⟩:=Option.isSome_iff_exists.mp T.ci
  refine Bool.eq_false_iff.mpr fun q=>?_
  have e:C = tp:=Value.ref.inj (beq_iff_eq.mp q)
  subst e
  unfold clsIn at hcD
  split at hcD
  ·rename_i c' d' cd' sl' ho
   have z:=(X _ _ ho).symm.trans htp
   cases z
  ·cases hcD
 ca:=fun X I k=>exc_class T X I k
end
abbrev HO.exc (x C:Addr):HO:=.ext (IsExc x C)
inductive TyX (K:PySem.W.Frag) (H:Hp):V→Value→Prop where
 | of {x:V} {t:Value} (h:TyOf K H x t):TyX K H x t
 | exc {a C:Addr} (e:H a = some (HO.exc a C)) (T:ExC K C):TyX K H (.ref a) (.ref C)
def clsV:V→Value
 | .ref a=>.ref a
 | .ty n=>.type n
 | _=>.none
def isClsV:V→Bool
 | .ref _=>true
 | .ty _=>true
 | _=>false
theorem clsV_of {v:V} {u:Value} (r:RelV v u) (h:isClsV v = true):u = clsV v:=by
 cases v with
 | ref a=>exact r
 | ty n=>exact r
 | _=>cases h
section
variable {X:Cx} {pins:List (Addr × Obj)} {σ:St} {H:Hp} {s:Shared} {A:Around} {E:Value→Shared→Prop} {Q:Value→Shared→Prop} {c:Value} {b:Bool}
theorem isi_one {x:V} {u t:Value} (I:Inv X pins σ H s) (rx:RelV x u) (ty:TyX X.K H x t) (e:PySem.W.kitOne X.K t c = some b) (h:∀ tk,Q (.bool b) { s with toks:=tk }) :
  wpAny (model X.prog X.w) A (call (.builtin "isinstance") [u,c]) Q E s:=by
 cases ty with
 | of ty=>exact isinst_ok I rx ty e h
 | @exc a C ea T =>
  cases (show u = Value.ref a from rx)
  obtain⟨p,_⟩:=(show ObjOk X.prog X.w H s.heap a (HO.exc a C) from I.hok a _ ea)
  exact PySem.W.kia_one (kitx_exc T) I.kIn p e (fun z=>nomatch z) h
def rIsi (K:PySem.W.Frag):List V→Hp→VK→Prop:=fun xs H Q=>∃ x c t b,xs = [x,c]∧TyX K H x t∧isClsV c = true∧PySem.W.kitOne K t (clsV c) = some b∧Q (.bl b) H
theorem call_isi:CallR X (.builtin "isinstance") (rIsi X.K):=by
 intro pins s σ H xs us Q I r h
 obtain⟨x,c,t,b,rfl,ty,hc,e,q⟩:=h
 cases r with
 | cons r1 r =>
  cases r with
  | cons r2 r =>
   cases r
   rw [clsV_of r2 hc]
   exact isi_one I r1 ty e fun tk=>⟨.bl b,H,I.tok _,rfl,q⟩
end
end L2
end
section
set_option Elab.async false
set_option linter.all false
set_option maxRecDepth 100000
set_option maxHeartbeats 4000000
namespace L2
open PySem PySem.Spec PyProof.Rows
def CXE (P:Program) (w:World):CXT:=fun outer H s E e s'=>∃ (x C:Addr) (B hr:Heap) (a0:Value) (H':Hp),e = .ref x∧s'.os = s.os∧AllBare s'.gens∧Un (frs outer) [] H H' s.heap hr∧HOk P w H' hr ∧
 Heap.FlyingW B outer x (.ref C) a0 s'.heap∧hr.UpToSlots s'.heap∧hr.get? x = none∧(∀ b o,hr.get? b = some o→b ∉ frs outer→B.get? b = none→s.heap.objs.size≤b∧H' b = none) ∧
 (∀ b o,hr.get? b = some o→B.get? b = none∨B.get? b = some o)∧E (.ref C) none H'
section
variable {X:Cx} {pins:List (Addr × Obj)} {σ:St} {H:Hp} {s:Shared}
theorem Inv.track {x:Addr} {o:HO} (I:Inv X pins σ H s) (h0:X.s₀.heap.get? x = none) (hx:H x = none) (hL:x≠X.env.locals) (hc:∀ y c,X.env.cells.lookup y = some c→c≠x) (hp:∀ p∈X.pn ++ pins,p.1≠x)
  (new:ObjOk X.prog X.w (upd H x o) s.heap x o):Inv X pins σ (upd H x o) s:=by
 have h0':∀ b ob,X.s₀.heap.get? b = some ob→b≠x:=fun b ob e z=>by rw [z,h0] at e; cases e
 refine⟨I.ok,I.os,I.bare,⟨I.base.keep,I.base.slot,fun b ob e n hb=>?_,I.base.there,fun b xs e=>?_,fun b ob u e=>?_,fun b ps e=>?_⟩,I.loc,I.cell,?_,fun y c e=>?_,fun p hq=>?_,fun b u e=>?_,I.len⟩
 ·rw [upd_ne (h0' b ob e)]; exact I.base.free b ob e n hb
 ·have q:=I.base.tups b xs e
  rw [upd_ne (ne_of_none q hx)]; exact q
 ·have q:=I.base.frzs b ob u e
  rw [upd_ne (ne_of_none q hx)]; exact q
 ·obtain⟨m,q⟩:=I.base.tbls b ps e
  exact⟨m,by rw [upd_ne (ne_of_none q hx)]; exact q⟩
 ·rw [upd_ne (Ne.symm hL)]; exact I.free
 ·rw [upd_ne (hc y c e)]; exact I.freeC y c e
 ·obtain⟨a1,a2,a3⟩:=I.pin p hq
  exact⟨a1,by rw [upd_ne (hp p hq)]; exact a2,a3⟩
 ·by_cases hb:b = x
  ·subst hb; rw [upd_same] at e; cases e; exact new
  ·rw [upd_ne hb] at e
   exact (I.hok b u e).stay (fun _ _ _ q=>q) (fun c q=>by rw [upd_ne (ne_of_none q hx)]; exact q) fun c xs q=>by rw [upd_ne (ne_of_none q hx)]; exact q
theorem own_obj {K:PySem.W.Frag} {h₀:Heap} {C:Addr} {bmB:List Value} {newId:String} (X:K.In h₀) (q:PySem.W.excIn K C bmB newId = true) :
  ∃ bm N nm q bs hdct sn sub ab col dd k0 k1 k2 k3 k5 mN,h₀.get? C = some (excClassObj nm q C N bs bm hdct sn sub ab col dd k0 k1 k2 k3 k5 newId)∧h₀.Ns N mN∧mN "__init__" = none∧OwnTail h₀ bmB bm:=by
 open PySem.W in
 unfold excIn at q
 split at q
 ·rename_i dd cd sl ho
  split at q
  ·rename_i C' bm k0 k1 k2 k3 n k5 hm hs
   simp only [Bool.and_eq_true,beq_iff_eq,Bool.not_eq_true'] at q
   obtain⟨⟨⟨⟨⟨rfl,rfl⟩,hdel⟩,ht⟩,hok⟩,hni⟩:=q
   obtain⟨nm,bs,mro,ns,qn,hd,sn,sub,ab,col,del⟩:=cd
   dsimp only at hm hdel hok hni
   subst hm hdel
   have hsl:sl = #[k0,k1,k2,k3,some (.builtin n),k5]:=by
    obtain⟨l⟩:=sl
    simp only at hs
    rw [hs]
   subst hsl
   exact⟨bm,ns,nm,qn,bs,hd,sn,sub,ab,col,dd,k0,k1,k2,k3,k5,_,X _ _ ho,.of_isNs (PySem.W.isNs_of_in X hok),PySem.W.nsMap_none_of_in X hok hni,PySem.W.tail_of_in X ht⟩
  ·cases q
 ·cases q
abbrev veMro:List Value:=[.type "ValueError",.type "Exception",.type "BaseException",.type "object"]
structure ExK (K:PySem.W.Frag) (C:Addr):Prop where
 inn:PySem.W.excIn K C veMro "ValueError.__new__" = true
 kp:PySem.W.keepIn K (.ref C) = true
section
variable {C:Addr} {y:Str} {p pos:Pos} {e:Expr} {es:List Expr} {t:TA}
end
def Wants (X:Cx) (E:St→Addr→Hp→Prop):Prop:=∀ (pins:List (Addr × Obj)) (σ:St) (H:Hp) (s:Shared) (h':Heap) (x C:Addr) (vs:List Value),Inv X pins σ H s→Heap.MadeExcOf s.heap h' x (.ref C) vs→E σ C H→X.xe (.ref x) { s with heap:=h' }
def tRaise (C:Addr) (E:St→Addr→Hp→Prop) (t:TA):TS:=fun _ σ H=>t σ H fun vs H1=>vs.length≤sizeLine∧E σ C H1
section
variable {C:Addr} {y:Str} {np cpos pos:Pos} {e:Expr} {es:List Expr} {t:TA} {E:St→Addr→Hp→Prop}
theorem ps_raise (hc:X.calm = true) (M:ExK X.K C) (hg:Gl X y) (hm:X.mg y = some (.ref C)) (hw:Wants X E) (ha:PA X (e :: es) t) (hdb:(y == ("__debug__":Str)) = false:=by decide)
  (he:starEach (e :: es) X.env = (false,eval e X.env) :: starEach es X.env:=by rfl) (hpl:(backTo cpos (starEach es X.env)).any (·.1) = false:=by rfl):PS X (.Raise (some (.Call (.Name y np) (e :: es) [] cpos)) none pos) (tRaise C E t):=by
 intro pins s σ H D I h
 obtain⟨bm,N,nm,q,bs,hdct,sn,sub,ab,col,dd,k0,k1,k2,k3,k5,mN,hC,hN,hni,T⟩:=own_obj I.ok.mod.kin M.inn
 refine wpAny_Raise_call_subT (C:=C) (nm:=nm) (q:=q) (N:=N) (bs:=bs) (bm:=bm) (hdct:=hdct) (sn:=sn) (sub:=sub) (ab:=ab) (col:=col) (dd:=dd) (k0:=k0) (k1:=k1) (k2:=k2) (k3:=k3) (k5:=k5)
  PySem.F.excBase_ValueError (mN:=mN) (T.hasType PySem.F.excBase_ValueError.hasBase) (I.ok.hd hc) (by rw [he]; show (false || (backTo cpos (starEach es X.env)).any (·.1)) = false; rw [hpl]; rfl) hni (ld_glob I hg hm ⟨rfl,?_⟩ hdb)
 have ha':=ha cpos pins s σ H _ I h
 rw [he] at ha' ⊢
 refine Calls.evalArgs_plain (thn ha' fun us s1 ⟨vs,H1,I1,r,z,hE⟩=>⟨rfl,by rw [← r.length]; exact z,I1.bk _ _ hC,hN.keeps I1.bk,T.keeps I1.bk,fun h' x m=>?_⟩)
 exact hw pins σ H1 s1 h' x C _ I1 m hE
end
section
variable {P:Program} {w:World} {K:PySem.W.Frag} {mg:Str→Option Value} {base:Heap} {N:List Str} {qual:Str} {scope:Scope} {f:Addr} {cd:Value} {A:Around} {outer:List Env} {s:Shared} {H:Hp} {E:XK}
theorem hide_of {h:Heap} {as:List Addr} {b:Addr} {o:Obj} (e:h.get? b = some o):(PySem.W.hideAll h as).get? b = none∨(PySem.W.hideAll h as).get? b = some o:=by
 by_cases hb:b∈as
 ·exact .inl (PySem.W.hideAll_none as hb)
 ·exact .inr (PySem.W.hideAll_get _ e hb)
theorem stays_hide {h:Heap} {as:List Addr}:(PySem.W.hideAll h as).StaysIn h:=fun b o e=>PySem.W.of_hideAll as e
theorem Inv.hidden {X:Cx} {pins:List (Addr × Obj)} {σ:St} {H:Hp} {s:Shared} (I:Inv X pins σ H s):s.heap.FunFrames (PySem.W.hideAll s.heap (frs X.stack)) X.stack :=
 PySem.W.funFrames_hide I.stack fun env he b hb=>List.mem_filterMap.mpr ⟨env,he,hb⟩
theorem wants_fn:Wants (cxOf (CXE P w) P w K mg base N qual scope f cd A outer s H E) (fun _ C H'=>E (.ref C) none H'):=by
 intro pins σ H1 s1 h' x C vs I m hE
 show wpAny (model P w) _ (leaving (envOfC qual scope s.heap.objs.size f cd) (.ref x)) _ _ _
 have hst:frs (cxOf (CXE P w) P w K mg base N qual scope f cd A outer s H E).stack = s.heap.objs.size :: frs outer:=rfl
 refine wpAny_leaves_madeW (base:=PySem.W.hideAll s1.heap (frs (cxOf (CXE P w) P w K mg base N qual scope f cd A outer s H E).stack)) (h:=s1.heap) (env:=envOfC qual scope s.heap.objs.size f cd) (outer:=outer) I.ok.frames rfl stays_hide I.hidden m fun h2 t fl _ _ up=>?_
 refine⟨x,C,_,s1.heap,_,H1,rfl,I.os,I.bare,I.base,I.hok,fl,(Heap.UpToSlots.of_keeps m.keeps).trans up,m.new,fun b o e hb n=>?_,fun b o e=>hide_of e,hE⟩
 by_cases hs:b∈frs (cxOf (CXE P w) P w K mg base N qual scope f cd A outer s H E).stack
 ·rw [hst] at hs
  rcases List.mem_cons.mp hs with z | z
  ·subst z
   exact⟨Nat.le_refl _,I.free⟩
  ·exact absurd z hb
 ·rw [PySem.W.hideAll_get _ e hs] at n
  cases n
theorem Inv.raised {X:Cx} {pins:List (Addr × Obj)} {σ:St} {H H':Hp} {s s':Shared} {hr:Heap} (I:Inv X pins σ H s) (ho:s'.os = s.os) (un:Un (frs X.stack) [] H H' s.heap hr) (hok:HOk X.prog X.w H' hr) (hg:AllBare s'.gens):Inv X pins σ H' { s' with heap:=hr } :=
 I.call' (s':={ s' with heap:=hr }) (ch:=[]) ho un hok hg (by intro b z; simp at z)
theorem passes_fn:Passes (CXE P w) (cxOf (CXE P w) P w K mg base N qual scope f cd A outer s H E) E:=by
 intro pins σ H1 s1 e s' I hcx
 obtain⟨x,C,B,hr,a0,H',rfl,hos,hbare,un,hok,fl,up,hnew,cov,bb,hE⟩:=hcx
 show wpAny (model P w) _ (leaving (envOfC qual scope s.heap.objs.size f cd) (.ref x)) _ _ _
 have I2:=I.raised hos un hok hbare
 refine wpAny_leaves_onW (env:=envOfC qual scope s.heap.objs.size f cd) (outer:=outer) I.ok.frames rfl fl fun h2 fl2 up2=>?_
 refine⟨x,C,B,hr,a0,H',rfl,I2.os,hbare,I2.base,I2.hok,fl2,up.trans up2,hnew,fun b o e hb n=>?_,bb,hE⟩
 have hst:frs (cxOf (CXE P w) P w K mg base N qual scope f cd A outer s H E).stack = s.heap.objs.size :: frs outer:=rfl
 by_cases hs:b∈frs (cxOf (CXE P w) P w K mg base N qual scope f cd A outer s H E).stack
 ·rw [hst] at hs
  rcases List.mem_cons.mp hs with z | z
  ·subst z
   exact⟨Nat.le_refl _,I2.free⟩
  ·exact absurd z hb
 ·obtain⟨c1,c2⟩:=cov b o e hs n
  exact⟨Nat.le_trans I.sz c1,c2⟩
theorem Fun.okE {x qual:Str} {st:Stmt} {f:Addr} {fd:FuncData} {N ps:List Str} {k:Nat} {sp:Sp} (F:Fun K x qual st f fd) (S:FnScope N ps (defScope st)) (len:∀ vs H Q E,sp vs H Q E→vs.length = ps.length)
  (hbody:∀ (cdv:Value) (A:Around) (outer:List Env) (s:Shared) (H:Hp) (vs:List V) (Q:VK) (E:XK),Room k (A.deeper (envOfC qual (defScope st) s.heap.objs.size f cdv))→sp vs H Q E →
   ∃ t,PSs (cxOf (CXE P w) P w K mg base N qual (defScope st) f cdv A outer s H E) (defBody st) t∧t { nx:=fun _ H'=>Q .non H',rt:=Q } (start N vs) H):FnOk P w K mg base (CXE P w) (k + 1) f fd ps sp:=by
 obtain⟨oc,od,kV,doc,pm,an,cdv,ct,osl,rfl,lk,hcd⟩:=F.ex
 exact fn_of lk hcd S len fun A outer s H vs Q E hr hsp=>hbody cdv A outer s H vs Q E hr hsp
end
section
variable {X:Cx} {pins:List (Addr × Obj)} {σ:St} {H:Hp} {s:Shared} {T:St→Addr→Hp→Prop} {pn:List (Addr × Obj)} {x:Addr}
end
end
end L2
end
section
set_option Elab.async false
set_option linter.all false
set_option maxRecDepth 100000
set_option maxHeartbeats 4000000
namespace L2
open PySem PySem.Spec PyProof.Rows
theorem PE.imp {X:Cx} {e:Expr} {t t':TE} (h:PE X e t) (i:∀ σ H Q,t' σ H Q→t σ H Q):PE X e t':=fun pins s σ H Q I q=>h pins s σ H Q I (i σ H Q q)
theorem OpR.imp {X:Cx} {f:Value→Value→Sem Value} {r r':R2} (h:OpR X f r) (i:∀ x y H Q,r' x y H Q→r x y H Q):OpR X f r':=fun pins s σ H x y v u Q I rx ry q=>h pins s σ H x y v u Q I rx ry (i x y H Q q)
theorem CallR.imp {X:Cx} {f:Value} {r r':List V→Hp→VK→Prop} (h:CallR X f r) (i:∀ xs H Q,r' xs H Q→r xs H Q):CallR X f r':=fun pins s σ H xs us Q I rx q=>h pins s σ H xs us Q I rx (i xs H Q q)
@[irreducible] def ifB (b:Bool) (p q:Prop):Prop:=if b = true then p else q
theorem ifB_eq (b:Bool) (p q:Prop):ifB b p q = (if b = true then p else q):=by unfold ifB; rfl
theorem ifB.mk {b:Bool} {p q:Prop} (h1:b = true→p) (h2:b = false→q):ifB b p q:=by
 rw [ifB_eq]
 cases b with
 | true=>rw [if_pos rfl]; exact h1 rfl
 | false=>rw [if_neg Bool.false_ne_true]; exact h2 rfl
theorem ifB.yes {b:Bool} {p q:Prop} (e:b = true) (h:p):ifB b p q:=ifB.mk (fun _=>h) fun z=>by rw [e] at z; cases z
theorem ifB.no {b:Bool} {p q:Prop} (e:b = false) (h:q):ifB b p q:=ifB.mk (fun z=>by rw [e] at z; cases z) fun _=>h
theorem ifB.dec {c:Prop} [Decidable c] {p q:Prop} (h1:c→p) (h2:¬ c→q):ifB (decide c) p q:=ifB.mk (fun z=>h1 (of_decide_eq_true z)) fun z=>h2 (of_decide_eq_false z)
def tV (i:Nat):TE:=fun σ H Q=>match σ[i]? with | some (some v)=>Q v H | _=>False
def bV (x:V) (Q:Bool→Prop):Prop:=match x with | .bl k=>Q k | _=>False
def cT (t:TE):TT:=fun σ H Q=>t σ H fun x H'=>bV x fun k=>Q k H'
def cI (f:Int→Int→V):R2:=fun x y H Q=>match x,y with | .int i,.int j=>Q (f i j) H | _,_=>False
def cL (C:Int→Int→Prop) (f:Int→Int→Int) (F:Int→Int→Int→Prop):R2:=fun x y H Q=>match x,y with | .int i,.int j=>C i j∧∀ m,m = f i j→F i j m→Q (.int m) H | _,_=>False
abbrev CMod (_ j:Int):Prop:=0 < j
theorem cpow {i j:Int} (h:(decide (0≤j) && decide (j≤1000000) && decide (i.natAbs < 2 ^ 64)) = true):CPow i j:=by
 simp only [Bool.and_eq_true,decide_eq_true_eq] at h
 exact⟨h.1.1,h.1.2,h.2⟩
abbrev CFdiv (_ j:Int):Prop:=0 < j∧j.natAbs.log2 < 9000
def cAtom (neg:Bool):R2:=fun x y H Q=>match x,y with
 | .int i,.int j=>Q (.bl (if neg then !decide (i = j) else decide (i = j))) H
 | .str i,.str j=>Q (.bl (if neg then !decide (i = j) else decide (i = j))) H
 | .bl i,.bl j=>Q (.bl (if neg then !decide (i = j) else decide (i = j))) H
 | _,_=>False
section
variable {X:Cx} {a b:Expr} {ta tb:TE} {pos:Pos}
theorem tV_var {i:Nat} {σ:St} {H:Hp} {Q:VK} (h:tV i σ H Q):tVar i σ H Q:=by
 unfold tV at h
 split at h
 ·rename_i v e; exact⟨v,e,h⟩
 ·exact h.elim
theorem qv (i:Nat) {x:Str} {pos:Pos} (hN:X.N[i]? = some x:=by rfl) (hv:Vis X.env.scope x:=by first | exact Or.inl rfl | exact Or.inr (Or.inl rfl) | exact Or.inr (Or.inr rfl)) (hd:(x == ("__debug__":Str)) = false:=by decide)
  (hcd:(x == ("__classdict__":Str)) = false:=by decide):PE X (.Name x pos) (tV i):=(pe_var hN hv hd hcd).imp fun _ _ _ h=>tV_var h
theorem cI_of {f:Int→Int→V} {x y:V} {H:Hp} {Q:VK} (h:cI f x y H Q):rI0 f x y H Q:=by
 unfold cI at h
 split at h
 ·exact⟨_,_,rfl,rfl,h⟩
 ·exact h.elim
theorem q_add:OpR X (binaryOp .Add) (cI fun i j=>.int (i + j)):=op_add.imp fun _ _ _ _=>cI_of
theorem q_sub:OpR X (binaryOp .Sub) (cI fun i j=>.int (i - j)):=op_sub.imp fun _ _ _ _=>cI_of
theorem cL_of {C:Int→Int→Prop} {f:Int→Int→Int} {F:Int→Int→Int→Prop} (hF:∀ i j,C i j→F i j (f i j)) {x y:V} {H:Hp} {Q:VK} (h:cL C f F x y H Q):rI C (fun i j=>.int (f i j)) x y H Q:=by
 unfold cL at h
 split at h
 ·exact⟨_,_,rfl,rfl,h.1,h.2 _ rfl (hF _ _ h.1)⟩
 ·exact h.elim
theorem q_mul:OpR X (binaryOp .Mult) (cL CMul (fun i j=>i * j) fun _ _ _=>True):=op_mul.imp fun _ _ _ _=>cL_of fun _ _ _=>trivial
theorem q_mod:OpR X (binaryOp .Mod) (cL CMod (fun i j=>i % j) fun _ j m=>0≤m∧m < j):=op_mod.imp fun _ _ _ _ h=>cL_of (fun i j hj=>⟨Int.emod_nonneg _ (by have:0 < j:=hj; omega),Int.emod_lt_of_pos _ hj⟩) h
theorem q_fdiv:OpR X (binaryOp .FloorDiv) (cL CFdiv (fun i j=>i / j) fun _ _ _=>True):=by
 intro pins s σ H x y v u Q I rx ry h
 obtain⟨i,j,rfl,rfl,⟨h0,h1⟩,q⟩:=cL_of (fun _ _ _=>trivial) h
 obtain⟨t,rfl⟩:=rx
 obtain⟨t',rfl⟩:=ry
 refine floordiv_int (by omega) ?_ (.inl (PyProof.noPylong_of_log2 h1))
 rw [Int.fdiv_eq_ediv_of_nonneg _ (by omega)]
 exact⟨.int _,H,I.tok _,⟨_,rfl⟩,q⟩
theorem q_pow:OpR X (binaryOp .Pow) (cL CPow (fun i j=>i ^ j.toNat) fun _ _ _=>True):=op_pow.imp fun _ _ _ _=>cL_of fun _ _ _=>trivial
theorem q_lt:OpR X (compareOp .Lt) (cI fun i j=>.bl (decide (i < j))):=op_lt.imp fun _ _ _ _=>cI_of
theorem q_le:OpR X (compareOp .LtE) (cI fun i j=>.bl (decide (i≤j))):=op_le.imp fun _ _ _ _=>cI_of
theorem q_ge:OpR X (compareOp .GtE) (cI fun i j=>.bl (decide (j≤i))):=op_ge.imp fun _ _ _ _=>cI_of
theorem dI {i j:Int}:decide (i = j) = (i == j):=by rw [Bool.eq_iff_iff]; simp
theorem dB {i j:Bool}:decide (i = j) = (i == j):=by rw [Bool.eq_iff_iff]; simp
theorem dS {i j:Str}:decide (i = j) = (i == j):=by rw [Bool.eq_iff_iff]; simp
theorem ifB_t {p q:Prop} (h:ifB true p q):p:=by rw [ifB_eq,if_pos rfl] at h; exact h
theorem ifB_f {p q:Prop} (h:ifB false p q):q:=by rw [ifB_eq,if_neg Bool.false_ne_true] at h; exact h
theorem q_eq:OpR X (compareOp .Eq) (cAtom false):=by
 intro pins s σ H x y v u Q I rx ry h
 unfold cAtom at h
 split at h
 ·obtain⟨t,rfl⟩:=rx; obtain⟨t',rfl⟩:=ry; exact SeqAt.RcAt.int_int _ t _ t' _ _ _ _ (fin_bl I h (by rw [if_neg (by decide)]; exact dI))
 ·obtain⟨t,rfl⟩:=rx; obtain⟨t',rfl⟩:=ry; exact SeqAt.RcAt.str_str _ t _ t' _ _ _ _ (fin_bl I h (by rw [if_neg (by decide)]; exact dS))
 ·cases rx; cases ry; exact SeqAt.RcAt.bool_bool _ _ _ _ _ _ (fin_bl I h (by rw [if_neg (by decide)]; exact dB))
 ·exact h.elim
theorem q_ne:OpR X (compareOp .NotEq) (cAtom true):=by
 intro pins s σ H x y v u Q I rx ry h
 unfold cAtom at h
 split at h
 ·obtain⟨t,rfl⟩:=rx; obtain⟨t',rfl⟩:=ry; exact SeqAt.RcNeAt.int_int _ t _ t' _ _ _ _ (fin_bl I h (by rw [if_pos rfl,dI]))
 ·obtain⟨t,rfl⟩:=rx; obtain⟨t',rfl⟩:=ry; exact SeqAt.RcNeAt.str_str _ t _ t' _ _ _ _ (fin_bl I h (by rw [if_pos rfl,dS]))
 ·cases rx; cases ry; exact SeqAt.RcNeAt.bool_bool _ _ _ _ _ _ (fin_bl I h (by rw [if_pos rfl,dB]))
 ·exact h.elim
def cNeg:V→Hp→VK→Prop:=fun x H Q=>match x with | .int i=>Q (.int (-i)) H | _=>False
theorem q_neg:UnR X (unaryOp .USub) cNeg:=by
 intro pins s σ H x v Q I rx h
 refine un_neg pins s σ H x v Q I rx ?_
 unfold cNeg at h
 split at h
 ·exact⟨_,rfl,h⟩
 ·exact h.elim
theorem bV_ex {x:V} {Q:Bool→Prop} (h:bV x Q):∃ k,x = .bl k∧Q k:=by
 cases x with
 | bl k=>exact⟨k,rfl,h⟩
 | _=>exact False.elim h
theorem pt_e {e:Expr} {t:TE} (h:PE X e t) (he:∀ whole,isTrue e X.env whole = (do let v ← whole; standAt e.pos; holding [v] (truthy v)):=by intro _; rfl):PT X e (cT t):=by
 intro pins s σ H Q I hw
 rw [he]
 refine wpAny_bind (thn (h pins s σ H _ I hw) fun v s1 ⟨x,H1,I1,r1,q1⟩=>wpAny_bind (wpAny_standAt (wpAny_holding ?_)))
 obtain⟨k,rfl,q⟩:=bV_ex q1
 cases r1
 exact wpAny_truthy_bool ⟨H1,I1,q⟩
theorem pt_c {op:CmpOp} {r:R2} (ho:OpR X (compareOp op) r) (ha:PE X a ta) (hb:PE X b tb) (hm:behindInMarks op b = false:=by first | exact nomark _ | rfl):PT X (.Compare a [op] [b] pos) (cT (tOp r ta tb)):=by
 intro pins s σ H Q I hw
 refine wpAny_isTrue_Compare1 (thn (ha pins s σ H _ I hw) fun v s1 ⟨x,H1,I1,r1,q1⟩=>thn (hb pins s1 σ H1 _ I1 q1) fun u s2 ⟨y,H2,I2,r2,q2⟩ =>
  thn (ho pins s2 σ H2 x y v u _ I2 r1 r2 q2) fun c s3 ⟨z,H3,I3,r3,q3⟩=>?_) hm
 obtain⟨k,rfl,q⟩:=bV_ex q3
 cases r3
 exact wpAny_truthy_bool ⟨H3,I3,q⟩
def cChain (r r':R2) (ta tb tc:TE):TE:=fun σ H Q=>ta σ H fun x H1=>tb σ H1 fun y H2=>r x y H2 fun z H3=>bV z fun k=>ifB k (tc σ H3 fun u H4=>r' y u H4 Q) (Q (.bl false) H3)
theorem pe_ch {op op':CmpOp} {r r':R2} {c:Expr} {tc:TE} (ho:OpR X (compareOp op) r) (ho':OpR X (compareOp op') r') (ha:PE X a ta) (hb:PE X b tb) (hc:PE X c tc)
  (hm:lastMarks [op,op'] [b,c] = false:=by with_unfolding_all rfl):PE X (.Compare a [op,op'] [b,c] pos) (cChain r r' ta tb tc):=by
 intro pins s σ H Q I h
 refine Compare_chain (thn (ha pins s σ H _ I h) fun v s1 ⟨x,H1,I1,r1,q1⟩=>chain_link (thn (hb pins s1 σ H1 _ I1 q1) fun u s2 ⟨y,H2,I2,r2,q2⟩ =>
  thn (ho pins s2 σ H2 x y v u _ I2 r1 r2 q2) fun d s3 ⟨z,H3,I3,r3,q3⟩=>?_)) hm
 obtain⟨k,rfl,q⟩:=bV_ex q3
 cases r3
 refine wpAny_truthy_bool ?_
 cases k with
 | false=>exact ite_ff ⟨.bl false,H3,I3,rfl,ifB_f q⟩
 | true=>exact ite_tt (chain_last (thn (hc pins s3 σ H3 _ I3 (ifB_t q)) fun w' s4 ⟨z',H4,I4,r4,q4⟩=>ho' pins s4 σ H4 y z' u w' Q I4 r2 r4 q4))
theorem pt_ch {op op':CmpOp} {r r':R2} {c:Expr} {tc:TE} (ho:OpR X (compareOp op) r) (ho':OpR X (compareOp op') r') (ha:PE X a ta) (hb:PE X b tb) (hc:PE X c tc)
  (hm:lastMarks [op,op'] [b,c] = false:=by with_unfolding_all rfl):PT X (.Compare a [op,op'] [b,c] pos) (cT (cChain r r' ta tb tc)):=by
 intro pins s σ H Q I h
 refine isTrue_chain (thn (ha pins s σ H _ I h) fun v s1 ⟨x,H1,I1,r1,q1⟩=>test_link (thn (hb pins s1 σ H1 _ I1 q1) fun u s2 ⟨y,H2,I2,r2,q2⟩ =>
  thn (ho pins s2 σ H2 x y v u _ I2 r1 r2 q2) fun d s3 ⟨z,H3,I3,r3,q3⟩=>?_)) hm
 obtain⟨k,rfl,q⟩:=bV_ex q3
 cases r3
 refine wpAny_truthy_bool ?_
 cases k with
 | false=>exact ite_ff ⟨H3,I3,ifB_f q⟩
 | true =>
  refine ite_tt (test_last (thn (hc pins s3 σ H3 _ I3 (ifB_t q)) fun w' s4 ⟨z',H4,I4,r4,q4⟩=>thn (ho' pins s4 σ H4 y z' u w' _ I4 r2 r4 q4) fun d' s5 ⟨z2,H5,I5,r5,q5⟩=>?_))
  obtain⟨k2,rfl,q6⟩:=bV_ex q5
  cases r5
  exact wpAny_truthy_bool ⟨H5,I5,q6⟩
def cIf (c:TT) (t u:TS):TS:=fun D σ H=>c σ H fun b H1=>ifB b (t D σ H1) (u D σ H1)
theorem ps_c {c:Expr} {a b:List Stmt} {tc:TT} {t u:TS} {pos:Pos} (hc:PT X c tc) (ha:PSs X a t) (hb:PSs X b u):PS X (.If c a b pos) (cIf tc t u):=by
 intro pins s σ H D I h
 refine wpAny_If (thn (hc pins s σ H _ I h) fun d s1 ⟨H1,I1,q1⟩=>?_)
 cases d with
 | true=>exact ha pins s1 σ H1 D I1 (ifB_t q1)
 | false=>exact hb pins s1 σ H1 D I1 (ifB_f q1)
def cOr (t u:TT):TT:=fun σ H Q=>t σ H fun c H1=>ifB c (Q true H1) (u σ H1 Q)
section
variable {rest:List Expr} {tA tB:TT}
theorem qw_or1 (ha:PT X a tA):PW X (.BoolOp .Or [a] pos) tA:=pw_or1 ha
theorem pw_orR (ha:PT X a tA) (hb:PW X (.BoolOp .Or (b :: rest) pos) tB):PW X (.BoolOp .Or (a :: b :: rest) pos) (cOr tA tB):=by
 intro whole pins s σ H Q I h
 exact pw_or (X:=X) (tA:=fun σ H Q=>tA σ H fun c H1=>Q c H1) (tB':=tB) ha hb whole pins s σ H Q I (by
  have e:(fun (c:Bool) (H1:Hp)=>if c = true then Q true H1 else tB σ H1 Q) = fun c H1=>ifB c (Q true H1) (tB σ H1 Q):=by funext c H1; rw [ifB_eq]
  show tA σ H (fun (c:Bool) (H1:Hp)=>if c = true then Q true H1 else tB σ H1 Q)
  rw [e]; exact h)
def cAndV (ta tb:TE):TE:=fun σ H Q=>ta σ H fun x H1=>bV x fun c=>ifB c (tb σ H1 Q) (Q (.bl false) H1)
def cNotV (ta:TE):TE:=fun σ H Q=>ta σ H fun x H1=>bV x fun c=>Q (.bl (!c)) H1
theorem pe_andC (ha:PE X a ta) (hb:PE X (.BoolOp .And (b :: rest) pos) tb):PE X (.BoolOp .And (a :: b :: rest) pos) (cAndV ta tb):=by
 intro pins s σ H Q I h
 refine BoolOp_and (thn (ha pins s σ H _ I h) fun v s1 ⟨x,H1,I1,r1,q1⟩=>?_)
 obtain⟨c,rfl,q1⟩:=bV_ex q1
 cases r1
 refine wpAny_truthy_bool ?_
 cases c with
 | true=>exact hb pins s1 σ H1 Q I1 (ifB_t q1)
 | false=>exact⟨.bl false,H1,I1,rfl,ifB_f q1⟩
theorem pe_notC (ha:PE X a ta):PE X (.UnaryOp .Not a pos) (cNotV ta):=by
 intro pins s σ H Q I h
 refine UnaryOp_ (thn (ha pins s σ H _ I h) fun v s1 ⟨x,H1,I1,r1,q1⟩=>?_)
 obtain⟨c,rfl,q1⟩:=bV_ex q1
 cases r1
 exact not_of (wpAny_truthy_bool ⟨.bl (!c),H1,I1,rfl,q1⟩)
end
end
end L2
end
section
set_option Elab.async false
set_option linter.all false
set_option maxRecDepth 100000
set_option maxHeartbeats 4000000
namespace L2
open PySem PySem.Spec PyProof.Rows
theorem bt_len:bootBuiltins "len" = some (.builtin "len"):=by decide +kernel
theorem bt_isinstance:bootBuiltins "isinstance" = some (.builtin "isinstance"):=by decide +kernel
theorem bt_all:bootBuiltins "all" = some (.builtin "all"):=by decide +kernel
theorem bt_min:bootBuiltins "min" = some (.builtin "min"):=by decide +kernel
theorem bt_list:bootBuiltins "list" = some (.type "list"):=by decide +kernel
theorem bt_tuple:bootBuiltins "tuple" = some (.type "tuple"):=by decide +kernel
theorem bt_int:bootBuiltins "int" = some (.type "int"):=by decide +kernel
theorem bt_bool:bootBuiltins "bool" = some (.type "bool"):=by decide +kernel
theorem bt_str:bootBuiltins "str" = some (.type "str"):=by decide +kernel
theorem bt_enumerate:bootBuiltins "enumerate" = some (.type "enumerate"):=by decide +kernel
theorem keepN {H:Hp} {a p:Addr} {o u:HO} (h:H a = some o) (n:H p = none):upd H p u a = some o:=by rw [upd_ne (ne_of_none h n)]; exact h
section
variable {X:Cx} {pins:List (Addr × Obj)} {σ:St} {H:Hp} {s:Shared}
theorem Inv.turnedL {h':Heap} {t':Nat} {fp:List Addr} (I:Inv X pins σ H s) (k:∀ b o,b ∉ fp→s.heap.get? b = some o→h'.get? b = some o) (hf:∀ b∈fp,FpOk X pins H b):Inv X pins σ H { s with heap:=h',toks:=t' }:=by
 have nit:∀ b u,H b = some u→b ∉ fp:=fun b u e z=>by rw [(hf b z).1] at e; cases e
 refine I.step (g':=s.gens) (d':=s.drawn) (ch:=fp) (fun b hb=>?_) (fun b o _ _ hc e _=>k b o hc e) (fun b o _ _ hc e _=>⟨o.slots,k b o hc e⟩) (fun _ _ _ _ n=>n)
  (fun b o hc e=>⟨o,k b o hc e⟩) (fun _ _ e=>e) (fun _ _ _ e=>e) (fun b ps e=>⟨#[],by rw [e]; simp⟩) (fun m hm=>?_) (fun b u e=>?_) I.bare
 ·obtain⟨f0,f1,f2,f3,f4,f5⟩:=hf b hb
  exact⟨f3,f1,f4,f5⟩
 ·obtain⟨o,es,ep,ho,r⟩:=hm
  exact⟨o,es,ep,k _ o (fun z=>(hf _ z).2.1 rfl) ho,r⟩
 ·refine (I.hok b u e).stay (fun c v hc q=>k c v ?_ q) (fun _ q=>q) fun _ _ q=>q
  rcases hc with z | z
  ·rw [z]; exact nit b u e
  ·exact nit c _ z
theorem Inv.trackNew {s':Shared} {p:Addr} {o:HO} (I:Inv X pins σ H s) (I':Inv X pins σ H s') (hp:s.heap.objs.size≤p) (new:ObjOk X.prog X.w (upd H p o) s'.heap p o):H p = none∧Inv X pins σ (upd H p o) s':=by
 have hn:=I.hok.fresh hp
 refine⟨hn,I'.track (Heap.get?_none_of_le (Nat.le_trans I.sz hp)) hn (Ne.symm (Nat.ne_of_lt (Nat.lt_of_lt_of_le I.lt hp))) (fun y c e z=>?_) (fun q hq z=>?_) new⟩
 ·obtain⟨v,o,ho,_⟩:=I.cell y c e
  exact absurd (Nat.lt_of_lt_of_le (Heap.lt_size ho) (by rw [z]; exact hp)) (Nat.lt_irrefl _)
 ·exact absurd (Nat.lt_of_lt_of_le (Heap.lt_size (I.pin q hq).1) (by rw [z]; exact hp)) (Nat.lt_irrefl _)
end
def Ite (K:PySem.W.Frag) (a:Addr):It where
 go:=fun i H=>∃ xs x,SqL K H a xs∧xs[i]? = some x
 yld:=fun i H v H'=>∃ p x,H p = none∧v = .ref p∧H' = upd H p (.tup [.int i,x])∧∀ ys,SqL K H a ys→ys[i]? = some x
 stop:=fun i H=>∃ xs,SqL K H a xs∧xs.length≤i
theorem turn_enum {P:Program} {w:World} {K:PySem.W.Frag} {elts:List Expr} {x1:Nat} {tp:Pos} (a e it:Addr) (hei:e≠it):Turn P w K (.Tuple elts x1 tp) (Ite K a) [e,it] e (fun i h=>(∃ old,IsEnum h e it i old)∧h.IsListIter it a i) where
 mem:=by simp
 obj:=fun i h st b hb=>by
  obtain⟨⟨old,he⟩,o,ho,hc,hd⟩:=st
  rcases List.mem_cons.mp hb with z | z
  ·subst z; exact⟨_,he,fun v z=>by
    have z':Data.fields _ = Data.cell v:=z
    cases z'⟩
  ·have z:b = it:=by simpa using z
   subst z; exact⟨o,ho,fun v z=>by rw [hd] at z; cases z⟩
 keep:=fun i h h' st k=>⟨let ⟨old,he⟩:=st.1; ⟨old,k e (by simp) _ he⟩,st.2.at fun o q=>k it (by simp) o q⟩
 item:=by
  intro X hP hw hK hc i pins s σ H E I hf st hg
  subst hP hw hK
  obtain⟨xs,x,hq,hx⟩:=hg
  obtain⟨its,rv,p,hz⟩:=I.list hq
  obtain⟨u,hu,ru⟩:=rv.get hx
  obtain⟨⟨old,he⟩,hit⟩:=st
  refine wpAny_pyNext_enum_item he hit p.isList (x:=u) (by simpa using hu) hei fun h1 he1 hit1 ht1 hz1 hk1=>⟨_,rfl,?_⟩
  refine wpAny_letOwnedTupleGo_enum he1 fun h2 he2 hs2=>?_
  have hs2:Heap.SameBut e h1 h2:=hs2
  have hlt:e < s.heap.objs.size:=Heap.lt_size he
  have hk2:∀ b o,b ∉ [e,it]→s.heap.get? b = some o→h2.get? b = some o:=fun b o hb q=>by
   simp only [List.mem_cons,List.not_mem_nil,or_false,not_or] at hb
   exact hs2.extBut b o hb.1 (hk1 b o hb.1 hb.2 q)
  have I2:Inv X pins σ H { s with heap:=h2,toks:=s.toks + 1 }:=I.turnedL hk2 hf
  have ht2:h2.get? s.heap.objs.size = some { cls:=.type "tuple",data:=.seq #[.int i s.toks,u] }:=hs2.extBut _ _ (Nat.ne_of_gt hlt) ht1
  obtain⟨hn,I3⟩:=I.trackNew (o:=.tup [.int i,x]) I2 (Nat.le_refl _) ⟨by show 2≤sizeLine; decide,[.int i s.toks,u],.cons ⟨_,rfl⟩ (.cons ru .nil),⟨_,ht2,rfl,_,rfl,rfl⟩⟩
  refine⟨.ref s.heap.objs.size,_,I3,rfl,⟨_,x,hn,rfl,rfl,fun ys hy=>by rw [I.list_inj hy hq]; exact hx⟩,⟨⟨u,?_⟩,?_⟩,fun b hb=>?_⟩
  ·have:((i + 1:Nat):Int) = (i:Int) + 1:=by push_cast; rfl
   rw [this]; exact he2
  ·exact hit1.extBut hs2.extBut (Ne.symm hei)
  ·obtain⟨o,ho,_⟩:=id hit
   have hb':b < s.heap.objs.size:=by
    rcases List.mem_cons.mp hb with z | z
    ·rw [z]; exact hlt
    ·have z:b = it:=by simpa using z
     obtain⟨oi,hoi,_⟩:=id hit
     rw [z]; exact Heap.lt_size hoi
   rw [upd_ne (Nat.ne_of_lt hb')]
   exact (hf b hb).1
 done:=by
  intro X hP hw hK hc i pins s σ H E I hf st hg
  subst hP hw hK
  obtain⟨xs,hq,hx⟩:=hg
  obtain⟨its,rv,p,hz⟩:=I.list hq
  obtain⟨⟨old,he⟩,hit⟩:=st
  have hl:=rv.length
  refine wpAny_pyNext_enum_end (I.ok.hd hc) he hit p.isList (by simp; omega) fun h' eb=>⟨rfl,I.turnedL (t':=s.toks) (fun b o hb q=>eb b o (fun z=>hb (by simp [z])) q) hf⟩
 self:=fun _ _ _ _ _ st h=>by obtain⟨⟨old,he⟩,_⟩:=st; exact wpAny_pyIter_enum he h
section
variable {X:Cx}
def iEnum (K:PySem.W.Frag) (ta:TA):TI:=fun σ H R=>ta σ H fun vs H1=>match vs with | [.ref a]=>(∃ xs,SqL K H1 a xs)∧R (Ite K a) H1 | _=>False
theorem pi_enum {a:Expr} {ta:TA} {p pos:Pos} {elts:List Expr} {x1:Nat} {tp:Pos} (hg:Gl X "enumerate") (hm:X.mg "enumerate" = none) (ha:PA X [a] ta) (hs:starEach [a] X.env = [(false,eval a X.env)]:=by rfl):PI X (.Tuple elts x1 tp) (.Call (.Name "enumerate" p) [a] [] pos) (iEnum X.K ta):=by
 intro pins s σ H R I h
 refine Call_ (ld_blt I hg hm bt_enumerate (PyProof.Rows.callWith_type1 (thn (ha pos pins s σ H _ I h) fun us s1 ⟨vs,H1,I1,r1,q1⟩=>?_) hs rfl))
 obtain⟨l,rfl,hq,q⟩:∃ l,vs = [.ref l]∧(∃ xs,SqL X.K H1 l xs)∧R (Ite X.K l) H1:=by
  dsimp only at q1
  split at q1
  ·exact⟨_,rfl,q1⟩
  ·exact q1.elim
 obtain⟨xs,hq⟩:=hq
 cases r1 with
 | cons r rr =>
  cases rr
  cases r
  obtain⟨its,rv,pl,hz⟩:=I1.list hq
  refine call_enumerate_list pl.isList fun h' he hit hsz hk=>?_
  refine wpAny_pyIter_enum he ?_
  have I2:Inv X pins σ H1 { s1 with heap:=h' }:=I1.kept (t':=s1.toks) hk
  refine⟨s1.heap.objs.size + 1,[s1.heap.objs.size + 1,s1.heap.objs.size],_,_,H1,rfl,I2,turn_enum l _ _ (Nat.succ_ne_self _),⟨⟨_,he⟩,hit⟩,fun b hb=>?_,q⟩
  rcases List.mem_cons.mp hb with z | z
  ·subst z; exact I1.fpOk (Nat.le_succ _) (I1.hok.fresh (Nat.le_succ _))
  ·have z:b = s1.heap.objs.size:=by simpa using z
   subst z; exact I1.fpOk (Nat.le_refl _) (I1.hok.fresh (Nat.le_refl _))
end
theorem for_enum {K:PySem.W.Frag} {a:Addr} {xs:List V} {g:TG} {tb:TS} {D:Ends} {σ:St} {H:Hp} (Pv:Nat→St→Hp→Prop) (h0:Pv 0 σ H) (hl:∀ i σ H,i≤xs.length→Pv i σ H→SqL K H a xs)
  (hs:∀ i x σ H p,xs[i]? = some x→Pv i σ H→H p = none→g (.ref p) σ (upd H p (.tup [.int i,x])) fun σ2 H2=>tb { D with nx:=Pv (i + 1),ct:=Pv (i + 1),bk:=D.nx } σ2 H2) (hd:∀ σ H,Pv xs.length σ H→D.nx σ H) :
  ∃ W:Nat→Nat→St→Hp→Prop,(∃ m,W 0 m σ H)∧∀ i m σ H,W i m σ H →
   ((Ite K a).stop i H∧D.nx σ H)∨((Ite K a).go i H∧∃ N:St→Hp→Prop,(∀ σ' H',N σ' H'→∃ m',m' < m∧W (i + 1) m' σ' H')∧∀ x H',(Ite K a).yld i H x H'→g x σ H' fun σ2 H2=>tb { D with nx:=N,ct:=N,bk:=D.nx } σ2 H2):=by
 refine⟨fun i m σ H=>m = xs.length - i∧i≤xs.length∧Pv i σ H,⟨xs.length,by simp,Nat.zero_le _,h0⟩,?_⟩
 rintro i m σ H ⟨rfl,hi,p⟩
 have q:=hl i σ H hi p
 by_cases hlt:i < xs.length
 ·refine .inr ⟨⟨xs,xs[i],q,by simp [hlt]⟩,Pv (i + 1),fun σ' H' p'=>⟨xs.length - (i + 1),by omega,rfl,hlt,p'⟩,fun x H' y=>?_⟩
  obtain⟨pp,z,hn,rfl,rfl,hy⟩:=y
  exact hs i z σ H pp (hy xs q) p hn
 ·have e:i = xs.length:=by omega
  subst e
  exact .inl ⟨⟨xs,q,Nat.le_refl _⟩,hd σ H p⟩
section
variable {X:Cx}
end
end L2
end
section
set_option Elab.async false
set_option linter.all false
set_option maxRecDepth 100000
set_option maxHeartbeats 4000000
namespace L2
open PySem PySem.Spec PyProof.Rows
theorem IxR.imp {X:Cx} {r r':R2} (h:IxR X r) (i:∀ x y H Q,r' x y H Q→r x y H Q):IxR X r':=fun a b pins s σ H x y v u Q I rx ry q e=>h a b pins s σ H x y v u Q I rx ry (i x y H Q q) e
theorem MtR.imp {X:Cx} {id:String} {r r':V→List V→Hp→VK→Prop} (h:MtR X id r) (i:∀ x xs H Q,r' x xs H Q→r x xs H Q):MtR X id r':=fun pins s σ H x xs v us Q I rx rv q=>h pins s σ H x xs v us Q I rx rv (i x xs H Q q)
theorem PSet.imp {X:Cx} {t t':TSet} (h:PSet X t) (i:∀ o j v H Q,t' o j v H Q→t o j v H Q):PSet X t':=fun pins s σ H o j v ov iv u Q I ro ri rv q=>h pins s σ H o j v ov iv u Q I ro ri rv (i o j v H Q q)
theorem SlR.imp {X:Cx} {r r':V→Option Int→Option Int→Hp→VK→Prop} (h:SlR X r) (i:∀ x l u H Q,r' x l u H Q→r x l u H Q):SlR X r':=fun pins s σ H x v vl vu lo hi sl Q I rx hs pl pu q=>h pins s σ H x v vl vu lo hi sl Q I rx hs pl pu (i _ _ _ _ _ q)
theorem upd_sub {H H':Hp} {p:Addr} {o:HO} (n:H p = none) (e:upd H p o = H'):Sub H H'∧H' p = some o:=by subst e; exact⟨Sub.new n,upd_same⟩
def CV (mg:Str→Option Value) (x:Str) (v:V):Prop:=∃ u,mg x = some u∧RelV v u
section
variable {X:Cx} {a b:Expr} {ta tb:TE} {pos:Pos}
theorem pe_cv {x:Str} {v:V} {pos:Pos} (hg:Gl X x) (h:CV X.mg x v) (hd:(x == ("__debug__":Str)) = false:=by decide):PE X (.Name x pos) (tC v):=by
 obtain⟨u,h1,h2⟩:=h
 exact pe_glob hg h1 h2 hd
def cIxL (K:PySem.W.Frag):R2:=fun x y H Q=>match x,y with | .ref p,.int i=>∃ xs v,SqL K H p xs∧atI xs i = some v∧Q v H | _,_=>False
def cIxT (K:PySem.W.Frag):R2:=fun x y H Q=>match x,y with | .ref p,.int i=>∃ xs v,SqT K H p xs∧atI xs i = some v∧Q v H | _,_=>False
theorem q_ixL:IxR X (cIxL X.K):=ix_list.imp fun x y H Q h=>by
 unfold cIxL at h
 split at h
 ·obtain⟨xs,v,h1,h2,h3⟩:=h; exact⟨_,xs,_,v,rfl,rfl,h1,h2,h3⟩
 ·exact h.elim
theorem q_ixT:IxR X (cIxT X.K):=ix_tup.imp fun x y H Q h=>by
 unfold cIxT at h
 split at h
 ·obtain⟨xs,v,h1,h2,h3⟩:=h; exact⟨_,xs,_,v,rfl,rfl,h1,h2,h3⟩
 ·exact h.elim
def cSetL:TSet:=fun o i v H Q=>match o,i with | .ref p,.int k=>∃ xs j,H p = some (.lst xs)∧ixN xs.length k = some j∧Q (upd H p (.lst (xs.set j v))) | _,_=>False
theorem q_setL:PSet X cSetL:=set_list.imp fun o i v H Q h=>by
 unfold cSetL at h
 split at h
 ·obtain⟨xs,j,h1,h2,h3⟩:=h; exact⟨_,xs,_,j,rfl,rfl,h1,h2,h3⟩
 ·exact h.elim
def cCat:R2:=fun x y H Q=>match x,y with | .ref l,.ref b=>∃ xs zs,H l = some (.lst xs)∧H b = some (.lst zs)∧xs.length + zs.length≤sizeLine∧∀ p,H p = none→Q (.ref p) (upd H p (.lst (xs ++ zs))) | _,_=>False
theorem q_cat:OpR X (binaryOp .Add) cCat:=op_cat.imp fun x y H Q h=>by
 unfold cCat at h
 split at h
 ·obtain⟨xs,zs,h⟩:=h; exact⟨_,_,xs,zs,rfl,rfl,h⟩
 ·exact h.elim
def cSlL (K:PySem.W.Frag):V→Option Int→Option Int→Hp→VK→Prop:=fun x lo hi H Q=>match x with | .ref a=>∃ xs,SqL K H a xs∧∀ p,H p = none→Q (.ref p) (upd H p (.lst (cutV xs lo hi))) | _=>False
theorem q_slL:SlR X (cSlL X.K):=sl_list.imp fun x lo hi H Q h=>by
 unfold cSlL at h
 split at h
 ·obtain⟨xs,h⟩:=h; exact⟨_,xs,rfl,h⟩
 ·exact h.elim
def cLen (K:PySem.W.Frag):List V→Hp→VK→Prop:=fun xs H Q=>match xs with | [.ref p]=>∃ ys,(SqL K H p ys∨SqT K H p ys)∧Q (.int ys.length) H | _=>False
theorem q_len:CallR X (.builtin "len") (cLen X.K):=call_len_seq.imp fun xs H Q h=>by
 unfold cLen at h
 split at h
 ·obtain⟨ys,h⟩:=h; exact⟨_,ys,rfl,h⟩
 ·exact h.elim
def cApp:V→List V→Hp→VK→Prop:=fun x vs H Q=>match x,vs with | .ref l,[y]=>∃ xs,H l = some (.lst xs)∧xs.length < sizeLine∧Q .non (upd H l (.lst (xs ++ [y]))) | _,_=>False
theorem q_app:MtR X "list.append" cApp:=MtR.imp (r:=rAppend) mt_append fun x vs H Q h=>by
 unfold cApp at h
 split at h
 ·obtain⟨xs,h⟩:=h; exact⟨_,xs,_,rfl,rfl,h⟩
 ·exact h.elim
def cIsi (K:PySem.W.Frag):List V→Hp→VK→Prop:=fun xs H Q=>match xs with | [x,c]=>∃ t b,TyX K H x t∧isClsV c = true∧PySem.W.kitOne K t (clsV c) = some b∧Q (.bl b) H | _=>False
theorem q_isi:CallR X (.builtin "isinstance") (cIsi X.K):=call_isi.imp fun xs H Q h=>by
 unfold cIsi at h
 split at h
 ·obtain⟨t,b,h⟩:=h; exact⟨_,_,t,b,rfl,h⟩
 ·exact h.elim
def cIn (K:PySem.W.Frag) (neg:Bool):R2:=fun x y H Q=>match y with | .ref p=>∃ xs,(SqL K H p xs∨SqT K H p xs)∧flatV x = true∧xs.all flatV = true∧Q (.bl (if neg then !inV x xs else inV x xs)) H | _=>False
theorem q_in:OpR X (compareOp .In) (cIn X.K false):=op_in_seq.imp fun x y H Q h=>by
 unfold cIn at h
 split at h
 ·obtain⟨xs,h⟩:=h; exact⟨_,xs,rfl,h⟩
 ·exact h.elim
def cList (K:PySem.W.Frag) (tl:TE):TI:=fun σ H R=>tl σ H fun x H1=>match x with | .ref a=>(∃ xs,SqL K H1 a xs)∧R (Itl K a) H1 | _=>False
theorem qi_list {tg l:Expr} {tl:TE} (hl:PE X l tl):PI X tg l (cList X.K tl):=by
 intro pins s σ H R I h
 refine thn (hl pins s σ H _ I h) fun v s1 ⟨x,H1,I1,r1,q1⟩=>?_
 obtain⟨a,rfl,⟨xs,hq⟩,q⟩:∃ a,x = .ref a∧(∃ xs,SqL X.K H1 a xs)∧R (Itl X.K a) H1:=by
  dsimp only at q1
  split at q1
  ·exact⟨_,rfl,q1⟩
  ·exact q1.elim
 cases r1
 obtain⟨its,rv,p,hz⟩:=I1.list hq
 refine wpAny_pyIter_list p.isList ?_
 refine⟨s1.heap.objs.size,[s1.heap.objs.size],_,_,H1,rfl,I1.kept (t':=s1.toks) fun b o e=>Heap.get?_push_of_some _ e,turn_list a _,⟨_,Heap.get?_push_size _ rfl,rfl,rfl⟩,fun b hb=>?_,q⟩
 have e:b = s1.heap.objs.size:=by simpa using hb
 subst e
 exact I1.fpOk (Nat.le_refl _) (I1.hok.fresh (Nat.le_refl _))
def cTupI (K:PySem.W.Frag) (tl:TE):TI:=fun σ H R=>tl σ H fun x H1=>match x with | .ref a=>(∃ xs,SqT K H1 a xs)∧R (Itt K a) H1 | _=>False
theorem qi_tup {tg l:Expr} {tl:TE} (hl:PE X l tl):PI X tg l (cTupI X.K tl):=by
 intro pins s σ H R I h
 refine thn (hl pins s σ H _ I h) fun v s1 ⟨x,H1,I1,r1,q1⟩=>?_
 obtain⟨a,rfl,⟨xs,hq⟩,q⟩:∃ a,x = .ref a∧(∃ xs,SqT X.K H1 a xs)∧R (Itt X.K a) H1:=by
  dsimp only at q1
  split at q1
  ·exact⟨_,rfl,q1⟩
  ·exact q1.elim
 cases r1
 obtain⟨its,rv,p,hz⟩:=I1.tuple hq
 refine wpAny_pyIter_tuple (show s1.heap.IsTuple a its.toArray from p) ?_
 refine⟨s1.heap.objs.size,[s1.heap.objs.size],_,_,H1,rfl,I1.kept (t':=s1.toks) fun b o e=>Heap.get?_push_of_some _ e,turn_tuple a _,⟨_,Heap.get?_push_size _ rfl,rfl,rfl⟩,fun b hb=>?_,q⟩
 have e:b = s1.heap.objs.size:=by simpa using hb
 subst e
 exact I1.fpOk (Nat.le_refl _) (I1.hok.fresh (Nat.le_refl _))
def cRng1 (ta:TA):TI:=fun σ H R=>ta σ H fun vs H1=>match vs with | [.int j]=>(-(2 ^ 62)≤j∧j < 2 ^ 62)∧R (Itr 0 j.toNat) H1 | _=>False
theorem qi_range1 {tg a:Expr} {ta:TA} {p pos:Pos} (hg:Gl X "range") (hm:X.mg "range" = none) (ha:PA X [a] ta) (hs:starEach [a] X.env = [(false,eval a X.env)]:=by rfl):PI X tg (.Call (.Name "range" p) [a] [] pos) (cRng1 ta):=by
 intro pins s σ H R I h
 refine Call_ (ld_blt I hg hm boot_range (PyProof.Rows.callWith_type1 (thn (ha pos pins s σ H _ I h) fun us s1 ⟨vs,H1,I1,r1,q1⟩=>?_) hs rfl))
 obtain⟨j,rfl,⟨q1,q2⟩,q⟩:∃ j,vs = [.int j]∧(-(2 ^ 62)≤j∧j < 2 ^ 62)∧R (Itr 0 j.toNat) H1:=by
  dsimp only at q1
  split at q1
  ·exact⟨_,rfl,q1⟩
  ·exact q1.elim
 cases r1 with
 | cons r rr =>
  cases rr
  obtain⟨t,rfl⟩:=r
  exact call_range_1 (range_it I1 (by omega) (by omega) q1 q2 (by simpa using q))
end
section
variable {X:Cx}
def cgNil:TGs:=fun vs σ H Q=>match vs with | []=>Q σ H | _=>False
def cgCons (t:TG) (u:TGs):TGs:=fun vs σ H Q=>match vs with | v :: r=>t v σ H fun σ' H'=>u r σ' H' Q | []=>False
theorem qgs_nil:PGs X [] cgNil:=fun pins s σ H vs us Q I r h=>pgs_nil pins s σ H vs us Q I r (by
 unfold cgNil at h
 split at h
 ·exact⟨rfl,h⟩
 ·exact h.elim)
theorem qgs_cons {e:Expr} {es:List Expr} {t:TG} {u:TGs} (h1:PG X e t) (h2:PGs X es u)
  (hs:(assignEach (e :: es) X.env).map (·.2) = assign e X.env :: (assignEach es X.env).map (·.2):=by rfl):PGs X (e :: es) (cgCons t u):=fun pins s σ H vs us Q I r h=>pgs_cons h1 h2 hs pins s σ H vs us Q I r (by
 unfold cgCons at h
 split at h
 ·exact⟨_,_,rfl,h⟩
 ·exact h.elim)
def cgTup (K:PySem.W.Frag) (n:Nat) (t:TGs):TG:=fun v σ H Q=>match v with | .ref a=>∃ xs,SqT K H a xs∧xs.length = n∧t xs σ H Q | _=>False
theorem qg_tup {es:List Expr} {k:Nat} {t:TGs} {n:Nat} {pos:Pos} (hc:X.calm = true) (h:PGs X es t)
  (hn:(assignEach es X.env).length = n:=by rfl) (hst:(assignEach es X.env).findIdx? (·.1) = none:=by rfl):PG X (.Tuple es k pos) (cgTup X.K n t):=fun pins s σ H v u Q I r hw=>pg_tup hc h hn hst pins s σ H v u Q I r (by
 unfold cgTup at hw
 split at hw
 ·obtain⟨xs,h⟩:=hw; exact⟨_,xs,rfl,h⟩
 ·exact hw.elim)
def cPart (t:TE):TO:=fun σ H Q=>t σ H fun x H1=>match x with | .int i=>Q (some i) H1 | _=>False
theorem qo_some {e:Expr} {te:TE} (h:PE X e te):PO X (some e) (cPart te):=by
 intro pins s σ H Q I hw
 rw [evalPart_some]
 refine thn (h pins s σ H _ I hw) fun u s1 ⟨x,H1,I1,r1,q1⟩=>?_
 obtain⟨i,rfl,q⟩:∃ i,x = .int i∧Q (some i) H1:=by
  dsimp only at q1
  split at q1
  ·exact⟨_,rfl,q1⟩
  ·exact q1.elim
 obtain⟨t,rfl⟩:=r1
 exact⟨some i,H1,I1,.int i t,q⟩
end
structure ExM (K:PySem.W.Frag) (C:Addr) (pre:List Value):Prop where
 mro:∃ cd,PySem.W.clsIn K C = some cd∧cd.mro = pre ++ veMro
 ty:PySem.W.typeIn K (.ref C) = some (.type "type")
section
open PySem.W
variable {K:PySem.W.Frag} {C D:Addr} {pre pre':List Value}
end
end L2
end
section
set_option Elab.async false
set_option linter.all false
set_option maxRecDepth 100000
set_option maxHeartbeats 4000000
namespace L2
open PySem PySem.Spec PyProof.Rows
theorem ifB.ndec {c:Prop} [Decidable c] {p q:Prop} (h1:c→q) (h2:¬ c→p):ifB (!decide c) p q:=ifB.mk (fun z=>h2 (by simpa using z)) fun z=>h1 (by simpa using z)
section
variable {X:Cx}
theorem kept_it {s:Shared} {h':Heap} {o:Obj} (hk:∀ b x,b ∉ [s.heap.objs.size]→(s.heap.push o).get? b = some x→h'.get? b = some x):∀ b x,s.heap.get? b = some x→h'.get? b = some x :=
 fun b x e=>hk b x (fun hm=>by rw [List.mem_singleton.mp hm] at e; exact Nat.lt_irrefl _ (Heap.lt_size e)) (Heap.get?_push_of_some _ e)
theorem vals_bl:∀ {bs:List Bool} {us:List Value},Vals (bs.map V.bl) us→us = bs.map Value.bool
 | [],us,r=>by cases r; rfl
 | b :: bs,us,r=>by
  rw [List.map_cons] at r
  cases r with
  | cons r1 r2=>cases r1; rw [vals_bl r2]; rfl
theorem range_allB (bs:List Bool):((List.range bs.length).all fun i=>(bs[i]?).getD true) = bs.all id:=by
 rw [Bool.eq_iff_iff,List.all_eq_true,List.all_eq_true]
 constructor
 ·intro h b hb
  obtain⟨i,hi,e⟩:=List.getElem_of_mem hb
  have:=h i (List.mem_range.mpr hi)
  simp only [List.getElem?_eq_getElem hi,Option.getD_some,e] at this
  exact this
 ·intro h i hi
  have hi':=List.mem_range.mp hi
  simp only [List.getElem?_eq_getElem hi',Option.getD_some]
  exact h _ (List.getElem_mem hi')
def cAll (K:PySem.W.Frag):List V→Hp→VK→Prop:=fun xs H Q=>match xs with | [.ref p]=>∃ bs:List Bool,SqL K H p (bs.map V.bl)∧Q (.bl (bs.all id)) H | _=>False
theorem q_all (hc:X.calm = true):CallR X (.builtin "all") (cAll X.K):=by
 intro pins s σ H xs us Q I r h
 unfold cAll at h
 split at h
 ·rename_i p
  obtain⟨bs,hq,q⟩:=h
  cases r with
  | cons r rr =>
   cases rr
   cases r
   obtain⟨its,rv,pl,hz⟩:=I.list hq
   have e:=vals_bl rv
   subst e
   have hl:=pl.isList
   have hlt:p < s.heap.objs.size:=by obtain⟨_,e,_⟩:=hl; exact Heap.lt_size e
   refine call_all_walk (wpAny_pyIter_list hl ?_)
   refine⟨s.heap.objs.size,[s.heap.objs.size,p],[s.heap.objs.size],(bs.map Value.bool).toArray.size,_,_,fun i=>(bs[i]?).getD true,rfl,Walks.list (A:=X.A.in1) (I.ok.hd hc) _ p (Nat.ne_of_lt hlt) (bs.map Value.bool).toArray,
    ⟨⟨_,Heap.get?_push_size _ rfl,rfl,rfl⟩,hl.push _⟩,fun i v s' Q' E' hP hQ=>?_,fun h' tk hk=>?_⟩
   ·have hP:(bs.map Value.bool)[i]? = some v:=by simpa using hP
    rw [List.getElem?_map] at hP
    obtain⟨b,e,rfl⟩:=Option.map_eq_some_iff.1 hP
    simp only [e,Option.getD_some] at hQ
    exact wpAny_truthy_bool hQ
   ·have e:((List.range (bs.map Value.bool).toArray.size).all fun i=>(bs[i]?).getD true) = bs.all id:=by
     rw [List.size_toArray,List.length_map]; exact range_allB bs
    rw [e]
    exact⟨.bl _,H,I.kept (t':=tk) (kept_it hk),rfl,q⟩
 ·exact h.elim
def cListOf (K:PySem.W.Frag):List V→Hp→VK→Prop:=fun xs H Q=>match xs with | [.ref p]=>∃ ys,(SqL K H p ys∨SqT K H p ys)∧∀ l,H l = none→Q (.ref l) (upd H l (.lst ys)) | _=>False
theorem q_listOf:CallR X (.type "list") (cListOf X.K):=call_list_of.imp fun xs H Q h=>by
 unfold cListOf at h
 split at h
 ·obtain⟨ys,h⟩:=h; exact⟨_,ys,rfl,h⟩
 ·exact h.elim
def cPopAt:V→List V→Hp→VK→Prop:=fun x vs H Q=>match x,vs with | .ref l,[.int i]=>∃ xs k y,H l = some (.lst xs)∧(-(2 ^ 63)≤i∧i < 2 ^ 63)∧seqIndex? i xs.length = some k∧xs[k]? = some y∧Q y (upd H l (.lst (xs.eraseIdx k))) | _,_=>False
theorem q_popAt:MtR X "list.pop" cPopAt:=MtR.imp (r:=rPopAt) mt_popAt fun x vs H Q h=>by
 unfold cPopAt at h
 split at h
 ·obtain⟨xs,k,y,h1,⟨h2,h3⟩,h4⟩:=h; exact⟨_,xs,_,k,y,rfl,rfl,h1,h2,h3,h4⟩
 ·exact h.elim
end
section
variable {prog:Program} {w:World} {A:Around} {E:Value→Shared→Prop} {s:Shared}
end
section
variable {X:Cx} {e st:Expr} {te:TE} {ts:TO} {pos p2:Pos}
end
section
variable {X:Cx} {K:PySem.W.Frag} {tg l e st:Expr} {tl te:TE} {ts:TO} {pos p2:Pos}
theorem q_ixLK (hK:X.K = K):IxR X (cIxL K):=hK ▸ q_ixL
theorem q_ixTK (hK:X.K = K):IxR X (cIxT K):=hK ▸ q_ixT
theorem q_slLK (hK:X.K = K):SlR X (cSlL K):=hK ▸ q_slL
theorem q_lenK (hK:X.K = K):CallR X (.builtin "len") (cLen K):=hK ▸ q_len
theorem q_isiK (hK:X.K = K):CallR X (.builtin "isinstance") (cIsi K):=hK ▸ q_isi
theorem q_inK (hK:X.K = K):OpR X (compareOp .In) (cIn K false):=hK ▸ q_in
theorem q_allK (hK:X.K = K) (hc:X.calm = true):CallR X (.builtin "all") (cAll K):=hK ▸ q_all hc
theorem q_listOfK (hK:X.K = K):CallR X (.type "list") (cListOf K):=hK ▸ q_listOf
theorem qi_listK (hK:X.K = K) (hl:PE X l tl):PI X tg l (cList K tl):=hK ▸ qi_list hl
theorem qi_tupK (hK:X.K = K) (hl:PE X l tl):PI X tg l (cTupI K tl):=hK ▸ qi_tup hl
theorem qg_tupK {es:List Expr} {k:Nat} {t:TGs} {n:Nat} (hK:X.K = K) (hc:X.calm = true) (h:PGs X es t)
  (hn:(assignEach es X.env).length = n:=by rfl) (hst:(assignEach es X.env).findIdx? (·.1) = none:=by rfl):PG X (.Tuple es k pos) (cgTup K n t):=hK ▸ qg_tup hc h hn hst
end
end L2
end
section
set_option Elab.async false
set_option linter.all false
set_option maxRecDepth 100000
set_option maxHeartbeats 4000000
namespace L2
open PySem PySem.Spec PyProof.Rows
abbrev En:=List Int
abbrev Ma:=List (List En)
def entryOk (rows signs:Int):En→Bool
 | []=>true
 | [s,w,r]=>(decide (0≤s) && decide (s < signs)) && (decide (w = -1) || decide (w = 1)) && (decide (0≤r) && decide (r < rows))
 | _=>false
def rowOk (rows signs:Int) (es:List En):Bool:=decide ((es.length:Int) = signs) && es.all (entryOk rows signs)
def isM (m:Ma):Bool:=match m with
 | []=>false
 | r0 :: _=>decide (m.length≤4) && decide (2≤r0.length) && decide (r0.length≤4) && m.all (rowOk m.length r0.length)
theorem atI_toNat {α:Type} {xs:List α} {i:Int} {v:α} (h0:0≤i) (h:xs[i.toNat]? = some v):atI xs i = some v:=by
 obtain⟨j,rfl⟩:=Int.eq_ofNat_of_zero_le h0
 exact atI_nat h
theorem ixN_toNat {n:Nat} {i:Int} (h0:0≤i) (h1:i < n):ixN n i = some i.toNat:=by
 unfold ixN
 rw [if_pos h0,if_pos h1]
def All2 {α:Type} (R:Addr→α→Prop) (as:List Addr) (xs:List α):Prop:=as.length = xs.length∧∀ (i:Nat) (a:Addr) (x:α),as[i]? = some a→xs[i]? = some x→R a x
section
variable {α:Type} {R S:Addr→α→Prop} {as:List Addr} {xs:List α}
theorem All2.nil:All2 R [] []:=⟨rfl,fun i a x h=>by simp at h⟩
theorem All2.mono (h:All2 R as xs) (i:∀ a x,a∈as→R a x→S a x):All2 S as xs:=⟨h.1,fun k a x ha hx=>i a x (List.mem_of_getElem? ha) (h.2 k a x ha hx)⟩
theorem All2.app (h:All2 R as xs) {a:Addr} {x:α} (r:R a x):All2 R (as ++ [a]) (xs ++ [x]):=by
 refine⟨by simp [h.1],fun i b y hb hy=>?_⟩
 by_cases hi:i < as.length
 ·rw [List.getElem?_append_left hi] at hb
  rw [List.getElem?_append_left (h.1 ▸ hi)] at hy
  exact h.2 i b y hb hy
 ·have e:i = as.length:=by
   have:=(List.getElem?_eq_some_iff.1 hb).1
   simp at this; omega
  subst e
  rw [List.getElem?_append_right (Nat.le_refl _),Nat.sub_self] at hb
  rw [h.1,List.getElem?_append_right (Nat.le_refl _),Nat.sub_self] at hy
  cases hb; cases hy; exact r
theorem All2.at (h:All2 R as xs) {i:Nat} {a:Addr} (ha:as[i]? = some a):∃ x,xs[i]? = some x∧R a x:=by
 have hi:=(List.getElem?_eq_some_iff.1 ha).1
 have hi':i < xs.length:=h.1 ▸ hi
 exact⟨xs[i],List.getElem?_eq_getElem hi',h.2 i a _ ha (List.getElem?_eq_getElem hi')⟩
theorem All2.set (h:All2 R as xs) {i:Nat} {a:Addr} {x:α} (r:R a x):All2 R (as.set i a) (xs.set i x):=by
 refine⟨by simp [h.1],fun k b y hb hy=>?_⟩
 rw [List.getElem?_set] at hb hy
 by_cases e:i = k
 ·subst e
  rw [if_pos rfl] at hb hy
  split at hb
  ·split at hy
   ·cases hb; cases hy; exact r
   ·cases hy
  ·cases hb
 ·rw [if_neg e] at hb hy
  exact h.2 k b y hb hy
theorem All2.setA (h:All2 R as xs) {i:Nat} {a:Addr} {x:α} (ha:as[i]? = some a) (o:∀ b y,b∈as→b≠a→R b y→S b y) (nd:as.Nodup) (s:S a x):All2 S as (xs.set i x):=by
 refine⟨by simp [h.1],fun k b y hb hy=>?_⟩
 rw [List.getElem?_set] at hy
 by_cases e:i = k
 ·subst e
  rw [if_pos rfl] at hy
  rw [ha] at hb
  cases hb
  split at hy
  ·cases hy; exact s
  ·cases hy
 ·rw [if_neg e] at hy
  refine o b y (List.mem_of_getElem? hb) ?_ (h.2 k b y hb hy)
  rintro rfl
  obtain⟨h1,h2⟩:=List.getElem?_eq_some_iff.1 ha
  obtain⟨h3,h4⟩:=List.getElem?_eq_some_iff.1 hb
  exact e ((List.getElem_inj nd).1 (h2.trans h4.symm))
theorem All2.append {bs:List Addr} {ys:List α} (h:All2 R as xs) (h':All2 R bs ys):All2 R (as ++ bs) (xs ++ ys):=by
 refine⟨by rw [List.length_append,List.length_append,h.1,h'.1],fun k b y hb hy=>?_⟩
 by_cases hi:k < as.length
 ·rw [List.getElem?_append_left hi] at hb
  rw [List.getElem?_append_left (h.1 ▸ hi)] at hy
  exact h.2 k b y hb hy
 ·rw [List.getElem?_append_right (by omega)] at hb
  rw [List.getElem?_append_right (by have:=h.1; omega),← h.1] at hy
  exact h'.2 _ b y hb hy
end
def Ent (H:Hp) (a:Addr) (e:En):Prop:=H a = some (.tup (e.map V.int))
def RowA (H:Hp) (r:Addr) (as:List Addr) (es:List En):Prop:=H r = some (.lst (as.map V.ref))∧All2 (Ent H) as es
def Row (H:Hp) (r:Addr) (es:List En):Prop:=∃ as,RowA H r as es
def MaR (H:Hp) (p:Addr) (rs:List Addr) (m:Ma):Prop:=H p = some (.lst (rs.map V.ref))∧rs.Nodup∧All2 (Row H) rs m
def Mach (H:Hp) (p:Addr) (m:Ma):Prop:=∃ rs,MaR H p rs m
theorem ref_inj {as bs:List Addr} (h:as.map V.ref = bs.map V.ref):as = bs:=by
 induction as generalizing bs with
 | nil=>cases bs with
  | nil=>rfl
  | cons b bs=>cases h
 | cons a as ih=>cases bs with
  | nil=>cases h
  | cons b bs =>
   rw [List.map_cons,List.map_cons] at h
   injection h with h1 h2
   injection h1 with h1
   rw [h1,ih h2]
section
variable {H H':Hp} {p r a:Addr} {rs as:List Addr} {m:Ma} {es:List En} {e:En}
structure Stay (H H':Hp):Prop where
 tup:∀ a xs,H a = some (.tup xs)→H' a = some (.tup xs)
 refs:∀ a (as:List Addr),H a = some (.lst (as.map V.ref))→H' a = some (.lst (as.map V.ref))
theorem Stay.sub (S:Sub H H'):Stay H H':=⟨fun _ _ h=>S _ _ h,fun _ _ h=>S _ _ h⟩
theorem Ent.stay (S:Stay H H') (h:Ent H a e):Ent H' a e:=S.tup _ _ h
theorem RowA.stay (S:Stay H H') (h:RowA H r as es):RowA H' r as es:=⟨S.refs _ _ h.1,h.2.mono fun _ _ _ z=>z.stay S⟩
theorem Row.stay (S:Stay H H'):Row H r es→Row H' r es:=fun ⟨as,h⟩=>⟨as,h.stay S⟩
theorem MaR.stay (S:Stay H H') (h:MaR H p rs m):MaR H' p rs m:=⟨S.refs _ _ h.1,h.2.1,h.2.2.mono fun _ _ _ z=>z.stay S⟩
theorem Mach.stay (S:Stay H H'):Mach H p m→Mach H' p m:=fun ⟨rs,h⟩=>⟨rs,h.stay S⟩
theorem MaR.ne (h:MaR H p rs m) (hr:r∈rs):r≠p:=by
 rintro rfl
 obtain⟨i,hi,e⟩:=List.getElem_of_mem hr
 obtain⟨es,_,as,h1,h2⟩:=h.2.2.at (List.getElem?_eq_some_iff.2 ⟨hi,e⟩)
 rw [h.1] at h1
 injection h1 with h1
 injection h1 with h1
 have:=ref_inj h1
 subst this
 obtain⟨e,_,h3⟩:=h2.at (List.getElem?_eq_some_iff.2 ⟨hi,e⟩)
 have h3:H r = some (.tup _):=h3
 rw [h.1] at h3
 cases h3
theorem Ent.upd {l:Addr} {vs us:List V} (h:Ent H a e) (hl:H l = some (.lst vs)):Ent (L2.upd H l (.lst us)) a e:=by
 show L2.upd H l (.lst us) a = _
 rw [upd_ne]
 ·exact h
 ·rintro rfl
  have h:H a = some (.tup _):=h
  rw [hl] at h; cases h
theorem RowA.upd {l:Addr} {vs us:List V} (h:RowA H r as es) (hl:H l = some (.lst vs)) (ne:r≠l):RowA (L2.upd H l (.lst us)) r as es :=
 ⟨by rw [upd_ne ne]; exact h.1,h.2.mono fun _ _ _ z=>z.upd hl⟩
theorem Row.upd {l:Addr} {vs us:List V} (h:Row H r es) (hl:H l = some (.lst vs)) (ne:r≠l):Row (L2.upd H l (.lst us)) r es:=h.elim fun as h=>⟨as,h.upd hl ne⟩
theorem MaR.row {i:Nat} {as':List Addr} (h:MaR H p rs m) (hi:rs[i]? = some r) (he:All2 (Ent H) as' es):MaR (L2.upd H r (.lst (as'.map V.ref))) p rs (m.set i es):=by
 have hr:r∈rs:=List.mem_of_getElem? hi
 obtain⟨es0,_,as,h1,h2⟩:=h.2.2.at hi
 refine⟨by rw [upd_ne (h.ne hr).symm]; exact h.1,h.2.1,h.2.2.setA hi (fun b y _ hb z=>z.upd h1 hb) h.2.1 ⟨as',upd_same,he.mono fun _ _ _ z=>z.upd h1⟩⟩
theorem MaR.app (h:MaR H p rs m) (hr:Row H r es) (hn:r ∉ rs) (hp:r≠p):MaR (L2.upd H p (.lst ((rs ++ [r]).map V.ref))) p (rs ++ [r]) (m ++ [es]):=by
 refine⟨upd_same,?_,(h.2.2.mono fun b y hb z=>z.upd h.1 (h.ne hb)).app (hr.upd h.1 hp)⟩
 rw [List.nodup_append]
 exact⟨h.2.1,by simp,fun a ha b hb=>by rw [List.mem_singleton.1 hb]; rintro rfl; exact hn ha⟩
theorem RowA.app (h:RowA H r as es) (he:Ent H a e):RowA (L2.upd H r (.lst ((as ++ [a]).map V.ref))) r (as ++ [a]) (es ++ [e]) :=
 ⟨upd_same,(h.2.mono fun _ _ _ z=>z.upd h.1).app (he.upd h.1)⟩
theorem RowA.app' (h:RowA H r as es) (he:Ent H a e):RowA (L2.upd H r (.lst (as.map V.ref ++ [V.ref a]))) r (as ++ [a]) (es ++ [e]):=by
 have:=h.app he
 rw [List.map_append] at this
 exact this
theorem MaR.app' (h:MaR H p rs m) (hr:Row H r es) (hn:r ∉ rs) (hp:r≠p):MaR (L2.upd H p (.lst (rs.map V.ref ++ [V.ref r]))) p (rs ++ [r]) (m ++ [es]):=by
 have:=h.app hr hn hp
 rw [List.map_append] at this
 exact this
theorem MaR.other {l:Addr} {vs us:List V} (h:MaR H p rs m) (hl:H l = some (.lst vs)) (np:l≠p) (nr:l ∉ rs):MaR (L2.upd H l (.lst us)) p rs m :=
 ⟨by rw [upd_ne np.symm]; exact h.1,h.2.1,h.2.2.mono fun b y hb z=>z.upd hl (by rintro rfl; exact nr hb)⟩
theorem map_set_ref (as:List Addr) (i:Nat) (a:Addr):(as.map V.ref).set i (V.ref a) = (as.set i a).map V.ref:=(List.map_set).symm
theorem MaR.rowSet {i j:Nat} {a:Addr} (h:MaR H p rs m) (hi:rs[i]? = some r) (hr:RowA H r as es) (he:Ent H a e):MaR (L2.upd H r (.lst ((as.map V.ref).set j (V.ref a)))) p rs (m.set i (es.set j e)):=by
 rw [map_set_ref]
 exact h.row hi (hr.2.set he)
theorem dens_int:∀ ns:List Int,Dens H (ns.map V.int) (ns.map DD.int)
 | []=>by rw [List.map_nil,List.map_nil,Dens]
 | n :: ns=>by rw [List.map_cons,List.map_cons,Dens]; exact⟨_,_,rfl,by rw [Den],dens_int ns⟩
abbrev dE (e:En):DD:=.tup (e.map DD.int)
abbrev dR (es:List En):DD:=.lst (es.map dE)
abbrev dM (m:Ma):DD:=.lst (m.map dR)
theorem Ent.den (h:Ent H a e):Den H (.ref a) (dE e):=by rw [dE,Den]; exact⟨_,_,rfl,h,dens_int e⟩
theorem dens_of {α:Type} {f:α→DD} {R:Addr→α→Prop} (hR:∀ a x,R a x→Den H (.ref a) (f x)):∀ {as:List Addr} {xs:List α},All2 R as xs→Dens H (as.map V.ref) (xs.map f)
 | [],[],_=>by rw [List.map_nil,List.map_nil,Dens]
 | a :: as,x :: xs,h=>by
  rw [List.map_cons,List.map_cons,Dens]
  exact⟨_,_,rfl,hR a x (h.2 0 a x rfl rfl),dens_of hR ⟨by have:=h.1; simpa using this,fun i b y hb hy=>h.2 (i + 1) b y hb hy⟩⟩
 | [],_ :: _,h=>by have:=h.1; simp at this
 | _ :: _,[],h=>by have:=h.1; simp at this
theorem Row.den:Row H r es→Den H (.ref r) (dR es):=fun ⟨as,h1,h2⟩=>by rw [dR,Den]; exact⟨_,_,rfl,h1,dens_of (fun _ _ z=>z.den) h2⟩
theorem Mach.den:Mach H p m→Den H (.ref p) (dM m):=fun ⟨rs,h1,_,h2⟩=>by rw [dM,Den]; exact⟨_,_,rfl,h1,dens_of (fun _ _ z=>z.den) h2⟩
theorem depL_leK {k:Nat}:∀ {ds:List DD},(∀ d∈ds,dep d≤k)→depL ds≤k
 | [],_=>by rw [depL]; omega
 | d :: ds,h=>by rw [depL]; exact Nat.max_le.2 ⟨h d (by simp),depL_leK fun x hx=>h x (by simp [hx])⟩
theorem dep_dE:dep (dE e)≤1:=by
 rw [dE,dep]
 have:depL (e.map DD.int)≤0:=depL_leK fun d hd=>by
  obtain⟨i,_,rfl⟩:=List.mem_map.1 hd
  exact Nat.le_refl 0
 omega
theorem dep_dR:dep (dR es)≤2:=by
 rw [dR,dep]
 have:depL (es.map dE)≤1:=depL_leK fun d hd=>by
  obtain⟨i,_,rfl⟩:=List.mem_map.1 hd
  exact dep_dE
 omega
theorem dep_dM:dep (dM m)≤60:=by
 rw [dM,dep]
 have:depL (m.map dR)≤2:=depL_leK fun d hd=>by
  obtain⟨i,_,rfl⟩:=List.mem_map.1 hd
  exact dep_dR
 omega
end
theorem MaR.out {H:Hp} {p q:Addr} {rs:List Addr} {m:Ma} (h:MaR H p rs m) (n:H q = none):q ∉ rs:=fun z=>by
 obtain⟨j,hj,e⟩:=List.getElem_of_mem z
 obtain⟨es,_,as,h1,_⟩:=h.2.2.at (List.getElem?_eq_some_iff.2 ⟨hj,e⟩)
 rw [n] at h1; cases h1
theorem MaR.outp {H:Hp} {p q:Addr} {rs:List Addr} {m:Ma} (h:MaR H p rs m) (n:H q = none):q≠p:=fun z=>by
 have:=h.1
 rw [← z,n] at this; cases this
structure Pu (pp:Addr) (k:Int) (H H':Hp):Prop where
 had:∃ n:Int,H pp = some (.lst [.int n,.int k])
 has:∃ n:Int,H' pp = some (.lst [.int n,.int k])
 keep:∀ a o,a≠pp→H a = some o→H' a = some o
section
variable {pp:Addr} {k:Int} {A B C:Hp}
theorem Pu.refl (h:∃ n:Int,A pp = some (.lst [.int n,.int k])):Pu pp k A A:=⟨h,h,fun _ _ _ e=>e⟩
theorem Pu.trans (h:Pu pp k A B) (h':Pu pp k B C):Pu pp k A C:=⟨h.had,h'.has,fun a o n e=>h'.keep a o n (h.keep a o n e)⟩
theorem Pu.sub (h:Pu pp k A B) (S:Sub B C):Pu pp k A C:=⟨h.had,h.has.imp fun _ e=>S _ _ e,fun a o n e=>S _ _ (h.keep a o n e)⟩
theorem Pu.draw (h:Pu pp k A B) (n:Int):Pu pp k A (upd B pp (.lst [.int n,.int k])):=⟨h.had,⟨n,upd_same⟩,fun a o ne e=>by rw [upd_ne ne]; exact h.keep a o ne e⟩
theorem Pu.set {p:Addr} {o:HO} (h:Pu pp k A B) (hp:A p = none):Pu pp k A (upd B p o):=by
 have ne:pp≠p:=by
  rintro rfl
  obtain⟨n,e⟩:=h.had
  rw [hp] at e; cases e
 refine⟨h.had,?_,fun a u na e=>?_⟩
 ·obtain⟨n,e⟩:=h.has
  exact⟨n,by rw [upd_ne ne]; exact e⟩
 ·rw [upd_ne]
  ·exact h.keep a u na e
  ·rintro rfl; rw [hp] at e; cases e
theorem Pu.stay (h:Pu pp k A B):Stay A B:=by
 obtain⟨n,e⟩:=h.had
 refine⟨fun a xs q=>h.keep _ _ ?_ q,fun a as q=>h.keep _ _ ?_ q⟩
 ·rintro rfl; rw [q] at e; cases e
 ·rintro rfl
  rw [q] at e
  cases as with
  | nil=>cases e
  | cons x xs=>cases e
theorem Pu.free (h:Pu pp k A B) {p:Addr} (n:B p = none):A p = none:=by
 cases e:A p with
 | none=>rfl
 | some o =>
  by_cases q:p = pp
  ·obtain⟨_,e'⟩:=h.has
   rw [← q,n] at e'; cases e'
  ·rw [h.keep _ _ q e] at n; cases n
theorem Pu.of_draw (n:Int) {n':Int} (h:A pp = some (.lst [.int n',.int k])):Pu pp k A (upd A pp (.lst [.int n,.int k])):=(Pu.refl ⟨n',h⟩).draw n
end
end L2
end
section
set_option Elab.async false
set_option linter.all false
set_option maxRecDepth 100000
set_option maxHeartbeats 4000000
namespace L2
open PySem PySem.Spec PyProof.Rows PySem.W
section
variable {M:Model} {A:Around} {E:Value→Shared→Prop} {s:Shared} {kf:Keyed→Int} {G:Keyed→Prop} {κ:SortKind}
end
section
variable {kf:Keyed→Int} {G:Keyed→Prop}
variable {base o ra rb xs:List Keyed}
variable {a b out:Array Keyed} {ia ib k:Nat} {x y:Keyed}
end
section
variable {M:Model} {A:Around} {E:Value→Shared→Prop} {s:Shared} {kf:Keyed→Int} {G:Keyed→Prop} {κ:SortKind}
set_option hygiene false in
local macro_rules | `(tactic| walk_at "loEnd") => `(tactic| (
 refine wpS_bind (elem_ok hx ?_)
 have S4:=S3.pushA hx hi2
 refine wpS_ite (fun e=>?_) fun e=>?_
 ·exact wpS_pure ⟨_,rfl,.inl ⟨_,rfl,S4.lastA (by simpa using e) T.lst⟩⟩
 have e2:I + 1 + 1≠a.size:=by simpa using e
 refine wpS_ite (fun _=>?_) fun _=>?_
 ·exact wpS_pure ⟨_,rfl,.inr ⟨_,_,_,_,_,_,rfl,S4,by omega,by omega,by omega⟩⟩
 ·exact wpS_pure ⟨_,rfl,_,_,_,_,_,_,rfl,S4,by omega,by omega,by omega⟩))
set_option hygiene false in
local macro_rules | `(tactic| walk_at "loTail") => `(tactic| (
 refine wpS_bind (elem_ok hy ?_)
 have S2:=S1.pushB hy hi
 refine wpS_ite (fun e=>?_) fun e=>?_
 ·have e0:ib + 1 = b.size:=by simpa using e
  exact wpS_pure ⟨_,rfl,.inl ⟨_,rfl,S2.done (.inr (by omega))⟩⟩
 have e1:ib + 1≠b.size:=by simpa using e
 obtain⟨x,hx⟩:=at_some (a:=a) (ia:=I) (by omega)
 refine wpS_bind (elem_ok hx ?_)
 obtain⟨L,hL,cutb⟩:=T.cutB (mem_at hx) (bs:=ib + 1) (n:=b.size - (ib + 1)) (by omega)
 refine wpS_bind (gallop_ok C (K:=L) hk (T.ga x (mem_at hx)) cutb (by omega) hL ?_)
 dsimp only
 obtain⟨S3,hi2⟩:=AI.galB S2 hx cutb
 refine wpS_ite (fun _=>?_) fun eL=>?_
 ·refine wpS_ite (fun e=>?_) fun e=>?_
  ·have e0:ib + 1 + L = b.size:=by simpa using e
   exact wpS_pure ⟨_,rfl,.inl ⟨_,rfl,S3.done (.inr (by omega))⟩⟩
  have e3:ib + 1 + L≠b.size:=by simpa using e
  walk_at "loEnd"
 ·obtain rfl:L = 0:=by omega
  have S3:=S2
  walk_at "loEnd"))
end
section
variable {kf:Keyed→Int} {G:Keyed→Prop}
variable {a b out:Array Keyed} {na nb k:Nat} {x y:Keyed}
end
section
variable {M:Model} {A:Around} {E:Value→Shared→Prop} {s:Shared} {kf:Keyed→Int} {G:Keyed→Prop} {κ:SortKind}
set_option hygiene false in
local macro_rules | `(tactic| walk_at "hiEnd") => `(tactic| (
 refine wpS_bind (elem_ok hx ?_)
 have S4:=S3.pushA' (by omega) hx hi2
 refine wpS_ite (fun e=>?_) fun e=>?_
 ·have e0:I - 1 = 0:=by simpa using e
  exact wpS_pure ⟨_,rfl,.inl ⟨_,rfl,S4.done (.inl e0)⟩⟩
 have e2:I - 1≠0:=by simpa using e
 refine wpS_ite (fun _=>?_) fun _=>?_
 ·exact wpS_pure ⟨_,rfl,.inr ⟨_,_,_,_,_,_,rfl,S4,by omega,by omega,by omega,by omega,by omega⟩⟩
 ·exact wpS_pure ⟨_,rfl,_,_,_,_,_,_,rfl,S4,by omega,by omega,by omega,by omega,by omega⟩))
set_option hygiene false in
local macro_rules | `(tactic| walk_at "hiTail") => `(tactic| (
 refine wpS_bind (elem_ok hy ?_)
 have S2:=S1.pushB' (by omega) hy hi
 refine wpS_ite (fun e=>?_) fun e=>?_
 ·have e0:nb - 1 = 1:=by simpa using e
  exact wpS_pure ⟨_,rfl,.inl ⟨_,rfl,S2.firstB e0 T.hd⟩⟩
 have e1:nb - 1≠1:=by simpa using e
 obtain⟨x,hx⟩:=at_some (a:=a) (ia:=I - 1) (by omega)
 refine wpS_bind (elem_ok hx ?_)
 obtain⟨L,hL,cutb⟩:=T.cutB (mem_at hx) (bs:=0) (n:=nb - 1) (by omega)
 refine wpS_bind (gallop_ok C (K:=L) hk (T.ga x (mem_at hx)) cutb (by omega) hL ?_)
 dsimp only
 obtain⟨S3,hi2,hL1⟩:=HI.galB T S2 (by omega) hx (by omega) hL cutb
 refine wpS_ite (fun _=>?_) fun eL=>?_
 ·refine wpS_ite (fun e=>?_) fun e=>?_
  ·have e0:L = 1:=by simpa using e
   exact wpS_pure ⟨_,rfl,.inl ⟨_,rfl,S3.firstB e0 T.hd⟩⟩
  have e3:L≠1:=by simpa using e
  rw [if_neg (by simp; omega)]
  walk_at "hiEnd"
 ·obtain rfl:L = nb - 1:=by omega
  clear S3
  have S3:=S2
  walk_at "hiEnd"))
end
section
variable {M:Model} {A:Around} {E:Value→Shared→Prop} {s:Shared} {kf:Keyed→Int} {G:Keyed→Prop} {κ:SortKind}
end
section
variable {M:Model} {A:Around} {E:Value→Shared→Prop} {s:Shared} {kf:Keyed→Int} {G:Keyed→Prop} {κ:SortKind}
end
section
variable {M:Model} {A:Around} {E:Value→Shared→Prop} {s:Shared} {kf:Keyed→Int} {G:Keyed→Prop} {κ:SortKind}
set_option hygiene false in
local macro_rules | `(tactic| walk_at "runTail") => `(tactic| (
 refine wpS_bind (wpS_get ?_)
 have push:∀ (us:Array Keyed) (P':Array (Nat × Nat × Nat)) (g':Nat),us.Perm xs→Chain kf us 0 P'.toList lo→Seg kf us lo (lo + nn)→∃ ys P g,SortSt.mk' κ us (P'.push (lo,nn,0)) g' none = SortSt.mk' κ ys P g none∧ys.Perm xs∧∃ lo',((none:Option Unit),lo + nn) = (none,lo')∧i + 1≤lo'∧lo'≤xs.size∧Chain kf ys 0 P.toList lo' :=
  fun us P' g' pm ch sg=>⟨us,_,g',rfl,pm,lo + nn,rfl,by omega,by omega,by rw [Array.toList_push]; exact Chain.app.2 ⟨lo,ch,rfl,nn1,sg,rfl⟩⟩
 obtain hb | ⟨⟨s1,n1',pw'⟩,hb⟩:P.back? = none∨∃ t,P.back? = some t:=by cases P.back? <;> simp
 ·have hb':(pendingOf (SortSt.mk' κ zs P g none)).back? = none:=hb
  rw [hb']
  exact wpS_bind (wpS_modify (wpS_pure (push zs P g pmz chz sgz)))
 ·have hb':(pendingOf (SortSt.mk' κ zs P g none)).back? = some (s1,n1',pw'):=hb
  rw [hb']
  dsimp only
  refine wpS_bind (wpS_mono (wpS_forRange (I:=fun _ c st'=>c = (none,())∧∃ us P' g',st' = SortSt.mk' κ us P' g' none∧us.Perm xs∧Chain kf us 0 P'.toList lo∧Seg kf us lo (lo + nn))
   (Q:=fun c st'=>c = (none,())∧∃ us P' g',st' = SortSt.mk' κ us P' g' none∧us.Perm xs∧Chain kf us 0 P'.toList lo∧Seg kf us lo (lo + nn)) ?_ (fun _ _ h=>h) ⟨rfl,zs,P,g,rfl,pmz,chz,sgz⟩) ?_)
  ·rintro j c st' _ _ ⟨rfl,us,P',g',rfl,pm',ch',sg'⟩
   refine wpS_bind (wpS_get ?_)
   by_cases hs:1 < P'.size
   ·have hs':(pendingOf (SortSt.mk' κ us P' g' none)).size > 1:=hs
    rw [if_pos hs']
    obtain⟨⟨q1,q2,q3⟩,hq⟩:∃ t,P'[P'.size - 2]? = some t:=⟨_,Array.getElem?_eq_getElem (by omega)⟩
    have hq':(pendingOf (SortSt.mk' κ us P' g' none))[(pendingOf (SortSt.mk' κ us P' g' none)).size - 2]? = some (q1,q2,q3):=hq
    rw [hq']
    dsimp only
    refine wpS_ite (fun _=>wpS_pure ⟨rfl,us,P',g',rfl,pm',ch',sg'⟩) fun _=>?_
    have szu:=pm'.size_eq
    refine wpS_bind (mergeChain C (hg.perm pm') ch' (by omega) (i:=P'.size - 2) (by omega) fun vs P'' g'' pv kv cv _=>?_)
    rw [if_neg (by simp)]
    exact wpS_pure ⟨rfl,vs,P'',g'',rfl,pv.trans pm',cv,sg'.congr fun k k1 _=>kv k k1⟩
   ·have hs':¬ (pendingOf (SortSt.mk' κ us P' g' none)).size > 1:=hs
    rw [if_neg hs']
    exact wpS_pure ⟨rfl,us,P',g',rfl,pm',ch',sg'⟩
  ·rintro c st' ⟨rfl,us,P',g',rfl,pm',ch',sg'⟩
   dsimp only
   refine wpS_bind (wpS_modify (wpS_bind (wpS_modify (wpS_pure (push us _ g' pm' ?_ sg')))))
   rw [Array.toList_modify]
   refine Chain.pow ?_ _ ch'
   exact fun t=>⟨rfl,rfl⟩))
end
end L2
end
section
set_option Elab.async false
set_option linter.all false
set_option maxRecDepth 100000
set_option maxHeartbeats 4000000
namespace L2
open PySem PySem.Spec PyProof.Rows PySem.W
section
variable {prog:Program} {w:World} {A:Around} {E:Value→Shared→Prop} {s:Shared}
end
end L2
end
section
set_option Elab.async false
set_option linter.all false
set_option maxRecDepth 100000
set_option maxHeartbeats 4000000
namespace L2
open PySem PySem.Spec PyProof.Rows PySem.W
section
variable {X:Cx} {pins:List (Addr × Obj)} {σ:St} {H H':Hp} {s:Shared} {h':Heap}
theorem ObjOk.there {P:Program} {w:World} {H:Hp} {h:Heap} {a:Addr} {o:HO} (x:ObjOk P w H h a o):∃ u,h.get? a = some u:=by
 cases o with
 | lst xs=>obtain⟨_,_,_,_,e⟩:=x; exact⟨_,e⟩
 | tup xs=>obtain⟨_,_,_,o,e,_⟩:=x; exact⟨_,e⟩
 | dK kvs=>obtain⟨_,_,_,_,o,_,_,e,_⟩:=x; exact⟨_,e⟩
 | dT kvs=>obtain⟨_,_,_,_,o,_,_,e,_⟩:=x; exact⟨_,e⟩
 | set S n=>obtain⟨o,_,_,_,e,_⟩:=x; exact⟨_,e⟩
 | ins C dx fs=>obtain⟨_,_,_,e,_⟩:=x; exact⟨_,e⟩
 | own y=>exact x
 | xd fs=>obtain⟨_,⟨_,_,_,e,_⟩,_⟩:=x; exact⟨_,e⟩
 | rng lo hi=>obtain⟨_,_,_,e⟩:=x; exact⟨_,e⟩
 | frz ob u=>obtain⟨e,_⟩:=x; exact⟨_,e⟩
 | tbl ps=>exact⟨_,(show h.get? a = some _ from x)⟩
 | met f y=>exact⟨_,(show h.get? a = some _ from x)⟩
 | ext φ=>obtain⟨_,e,_⟩:=x; exact e
theorem Inv.noneAt {a:Addr} (I:Inv X pins σ H s) (n:s.heap.get? a = none):H a = none:=by
 cases q:H a with
 | none=>rfl
 | some o =>
  obtain⟨u,e⟩:=ObjOk.there (I.hok a o q)
  rw [n] at e; cases e
theorem Inv.more {t':Nat} (I:Inv X pins σ H s) (k:∀ b u,s.heap.get? b = some u→h'.get? b = some u) (S:Sub H H') (new:∀ a o,H' a = some o→H a = none→s.heap.get? a = none∧ObjOk X.prog X.w H' h' a o) :
  Inv X pins σ H' { s with heap:=h',toks:=t' }:=by
 refine I.un ⟨fun b o e _ _ _=>k b o e,fun b o e _ _ _=>⟨o.slots,k b o e⟩,fun b o e n _=>?_,fun b o e _=>⟨o,k b o e⟩,fun b xs e=>S _ _ e,fun b o u e=>S _ _ e,fun b ps e=>⟨#[],by rw [S _ _ e]; simp⟩⟩ fun a o e=>?_
 ·cases q:H' b with
  | none=>rfl
  | some u=>have:=(new b u q n).1; rw [e] at this; cases this
 ·cases q:H a with
  | none=>exact (new a o e q).2
  | some u =>
   have:=S a u q
   rw [e] at this
   cases this
   exact (I.hok a o q).stay (fun b u _ z=>k b u z) (fun b z=>S _ _ z) fun b xs z=>S _ _ z
end
section
variable {X:Cx}
theorem vals_refs {as:List Addr} {us:List Value} (r:Vals (as.map V.ref) us):us = as.map Value.ref:=by
 induction as generalizing us with
 | nil=>cases r; rfl
 | cons a as ih =>
  cases r with
  | cons h t=>cases h; rw [ih t]; rfl
end
end L2
end
section
set_option Elab.async false
set_option linter.all false
set_option maxRecDepth 100000
set_option maxHeartbeats 4000000
namespace L2
open PySem PySem.Spec PyProof.Rows PySem.W
section
variable {X:Cx} {pins:List (Addr × Obj)} {σ:St} {H:Hp} {s:Shared}
end
section
variable {X:Cx}
end
end L2
end
section
set_option Elab.async false
set_option linter.all false
set_option maxRecDepth 100000
set_option maxHeartbeats 4000000
namespace PySem
open Sem (wp)
section
variable {prog:Program} {w:World} {A:Around} {E:Value→Shared→Prop} {h:Heap} {g:Array GenState} {d:Drawn} {t:Nat} {os:OsState} {a:Addr} {o:Obj} {its:Array Value} {n:Nat}
end
end PySem
end
section
set_option Elab.async false
set_option linter.all false
set_option maxRecDepth 100000
set_option maxHeartbeats 4000000
namespace L2
open PySem PySem.Spec PyProof.Rows PySem.W
section
variable {prog:Program} {w:World} {K:Type} [DecidableEq K] {knd:PySem.KeyKind prog w K} {A:Around} {s:Shared} {R:Result→Shared→Prop}
end
section
variable {X:Cx}
end
end L2
end
section
set_option Elab.async false
set_option linter.all false
set_option maxRecDepth 100000
set_option maxHeartbeats 4000000
namespace PySem
end PySem
namespace L2
open PySem PySem.Spec PyProof.Rows PySem.W HT
section
variable {prog:Program} {w:World} {A:Around} {E:Value→Shared→Prop} {s:Shared}
end
section
variable {X:Cx} {K:PySem.W.Frag}
end
theorem FnOk.noE {P:Program} {w:World} {K:PySem.W.Frag} {mg:Str→Option Value} {base:Heap} {k:Nat} {f:Addr} {fd:FuncData} {ps:List Str} {sp:Sp} (F:FnOk P w K mg base (CXE P w) k f fd ps sp) :
  FnOk P w K mg base CX0 k f fd ps (fun vs H Q _=>sp vs H Q fun _ _ _=>False) :=
 ⟨fun vs H Q _ h=>F.len vs H Q _ h,fun A outer s H args us vs Q E hr he hb hv hs=>codeAny_mono (F.run A outer s H args us vs Q (fun _ _ _=>False) hr he hb hv hs) fun r s' hq=>by
  cases r with
  | ok fl=>cases fl <;> exact hq
  | error e =>
   obtain⟨x,C,B,hr,a0,H',_,_,_,_,_,_,_,_,_,_,z⟩:=hq
   exact z.elim⟩
end L2
end
section
set_option Elab.async false
set_option linter.all false
set_option maxRecDepth 100000
set_option maxHeartbeats 4000000
namespace L2
open PySem PySem.Spec PyProof.Rows PySem.W
section
variable {H H':Hp} {l t:Addr} {ks:Mk2} {r p:Int}
end
def okAll (m:Ma) (s:Nat) (r:List En):Bool:=r.all (entryOk m.length s)
theorem isM_cons {r0:List En} {m':Ma} (h:isM (r0 :: m') = true):(r0 :: m').length≤4∧2≤r0.length∧r0.length≤4∧∀ r∈r0 :: m',r.length = r0.length∧okAll (r0 :: m') r0.length r = true:=by
 have hd:isM (r0 :: m') = (decide ((r0 :: m').length≤4) && decide (2≤r0.length) && decide (r0.length≤4) && (r0 :: m').all (rowOk (r0 :: m').length r0.length)):=rfl
 rw [hd,Bool.and_eq_true,Bool.and_eq_true,Bool.and_eq_true] at h
 obtain⟨⟨⟨h1,h2⟩,h3⟩,h4⟩:=h
 refine⟨of_decide_eq_true h1,of_decide_eq_true h2,of_decide_eq_true h3,fun r hr=>?_⟩
 have:=List.all_eq_true.1 h4 r hr
 unfold rowOk at this
 rw [Bool.and_eq_true] at this
 exact⟨by have:=of_decide_eq_true this.1; omega,this.2⟩
theorem isM_mk {r0:List En} {m':Ma} (h1:(r0 :: m').length≤4) (h2:2≤r0.length) (h3:r0.length≤4) (h4:∀ r∈r0 :: m',r.length = r0.length∧okAll (r0 :: m') r0.length r = true):isM (r0 :: m') = true:=by
 have hd:isM (r0 :: m') = (decide ((r0 :: m').length≤4) && decide (2≤r0.length) && decide (r0.length≤4) && (r0 :: m').all (rowOk (r0 :: m').length r0.length)):=rfl
 rw [hd,decide_eq_true h1,decide_eq_true h2,decide_eq_true h3]
 refine List.all_eq_true.2 fun r hr=>?_
 unfold rowOk
 rw [(h4 r hr).1]
 have:=(h4 r hr).2
 unfold okAll at this
 rw [this]
 simp
def sgn (m:Ma):Nat:=(m.headD []).length
structure OkM (m:Ma):Prop where
 n1:1≤m.length
 n4:m.length≤4
 s2:2≤sgn m
 s4:sgn m≤4
 len:∀ r∈m,r.length = sgn m
 ent:∀ r∈m,∀ e∈r,entryOk m.length (sgn m) e = true
theorem OkM.of {m:Ma} (h:isM m = true):OkM m:=by
 cases m with
 | nil=>cases h
 | cons r0 m' =>
  obtain⟨h1,h2,h3,h4⟩:=isM_cons h
  exact⟨by simp,h1,h2,h3,fun r hr=>(h4 r hr).1,fun r hr e he=>List.all_eq_true.1 (h4 r hr).2 e he⟩
theorem OkM.isM {m:Ma} (h:OkM m):L2.isM m = true:=by
 cases m with
 | nil=>have:=h.n1; simp at this
 | cons r0 m'=>exact isM_mk h.n4 h.s2 h.s4 fun r hr=>⟨h.len r hr,List.all_eq_true.2 fun e he=>h.ent r hr e he⟩
theorem entryOk_three {rows signs:Int} {e:En} (h:entryOk rows signs e = true) (ne:e≠[]):∃ s w r,e = [s,w,r]∧0≤s∧s < signs∧(w = -1∨w = 1)∧0≤r∧r < rows:=by
 match e,h with
 | [],_=>exact (ne rfl).elim
 | [s,w,r],h =>
  have h:((decide (0≤s) && decide (s < signs)) && (decide (w = -1) || decide (w = 1)) && (decide (0≤r) && decide (r < rows))) = true:=h
  simp only [Bool.and_eq_true,Bool.or_eq_true,decide_eq_true_eq] at h
  obtain⟨⟨⟨a,b⟩,c⟩,d,e⟩:=h
  exact⟨s,w,r,rfl,a,b,c,d,e⟩
 | [_],h=>cases h
 | [_,_],h=>cases h
 | _ :: _ :: _ :: _ :: _,h=>cases h
theorem dep_dE1 (e:En):dep (dE e)≤60:=Nat.le_trans dep_dE (by decide)
theorem eqD_dE {e:En}:eqD (dE e) (dE []) = decide (e = []):=by
 cases e with
 | nil=>rw [eqD_refl]; simp
 | cons x e=>show eqD (.tup (.int x :: e.map DD.int)) (.tup []) = _; rw [eqD]; simp [eqDs]
end L2
end
section
set_option Elab.async false
set_option linter.all false
set_option maxRecDepth 100000
set_option maxHeartbeats 4000000
namespace L2
open PySem PySem.Spec PyProof.Rows PySem.W
section
variable {X:Cx} {pos:Pos}
end
theorem All2.monoM {α:Type} {R S:Addr→α→Prop} {as:List Addr} {xs:List α} (h:All2 R as xs) (i:∀ a x,a∈as→x∈xs→R a x→S a x):All2 S as xs:=⟨h.1,fun k a x ha hx=>i a x (List.mem_of_getElem? ha) (List.mem_of_getElem? hx) (h.2 k a x ha hx)⟩
end L2
end
section
set_option Elab.async false
set_option linter.all false
set_option maxRecDepth 100000
set_option maxHeartbeats 4000000
namespace L2
open PySem PySem.Spec PyProof.Rows PySem.W
section
variable {X:Cx}
end
end L2
end
section
set_option Elab.async false
set_option linter.all false
set_option maxRecDepth 100000
set_option maxHeartbeats 4000000
namespace L2
open PySem PySem.Spec PyProof.Rows PySem.W
section
variable {X:Cx} {K:PySem.W.Frag}
end
end L2
end
section
set_option Elab.async false
set_option linter.all false
set_option maxRecDepth 100000
set_option maxHeartbeats 4000000
namespace L2
open PySem PySem.Spec PyProof.Rows PySem.W
section
variable {X:Cx}
def cRng2 (ta:TA):TI:=fun σ H R=>ta σ H fun vs H1=>match vs with | [.int i,.int j]=>(-(2 ^ 62)≤i∧i < 2 ^ 62∧-(2 ^ 62)≤j∧j < 2 ^ 62)∧R (Itr i (j - i).toNat) H1 | _=>False
theorem qi_range2 {tg a b:Expr} {ta:TA} {p pos:Pos} (hg:Gl X "range") (hm:X.mg "range" = none) (ha:PA X [a,b] ta) (hs:starEach [a,b] X.env = [(false,eval a X.env),(false,eval b X.env)]:=by rfl) (hs2:starEach [b] X.env = [(false,eval b X.env)]:=by rfl) :
  PI X tg (.Call (.Name "range" p) [a,b] [] pos) (cRng2 ta):=by
 intro pins s σ H R I h
 have step:∀ (vs:List V) (us:List Value) (H1:Hp) (s1:Shared),Inv X pins σ H1 s1→Vals vs us→(match vs with | [.int i,.int j]=>(-(2 ^ 62)≤i∧i < 2 ^ 62∧-(2 ^ 62)≤j∧j < 2 ^ 62)∧R (Itr i (j - i).toNat) H1 | _=>False)→∃ (i j:Int) (t t':Tok),us = [.int i t,.int j t']∧(-(2 ^ 62)≤i∧i < 2 ^ 62∧-(2 ^ 62)≤j∧j < 2 ^ 62)∧R (Itr i (j - i).toNat) H1:=by
  intro vs us H1 s1 I1 r1 q1
  split at q1
  ·cases r1 with
   | cons r rr=>cases rr with
    | cons r' rr =>
     cases rr
     obtain⟨t,rfl⟩:=r
     obtain⟨t',rfl⟩:=r'
     exact⟨_,_,t,t',rfl,q1⟩
  ·exact q1.elim
 refine Call_ (ld_blt I hg hm boot_range (PyProof.Rows.callWith_type1 (thn (ha pos pins s σ H _ I h) fun us s1 ⟨vs,H1,I1,r1,q1⟩=>?_) (by rw [hs,hs2]) (by rw [hs2]; rfl)))
 obtain⟨i,j,t,t',rfl,⟨q1,q2,q3,q4⟩,q⟩:=step vs us H1 s1 I1 r1 q1
 exact call_range_2 (range_it I1 q1 q2 q3 q4 q)
end
section
variable {X:Cx} {pins:List (Addr × Obj)} {σ:St} {H:Hp} {s:Shared}
open PySem.SeqAt
end
theorem eqDs_ints:∀ e e':List Int,eqDs (e.map DD.int) (e'.map DD.int) = decide (e = e')
 | [],[]=>rfl
 | [],_ :: _=>rfl
 | _ :: _,[]=>rfl
 | i :: e,j :: e'=>by
  show (i == j && eqDs (e.map DD.int) (e'.map DD.int)) = _
  rw [eqDs_ints e e']
  by_cases c:i = j
  ·subst c
   by_cases d:e = e' <;> simp [d]
  ·simp [c]
theorem eqD_ee {e e':En}:eqD (dE e) (dE e') = decide (e = e'):=eqDs_ints e e'
end L2
end
section
set_option Elab.async false
set_option linter.all false
set_option maxRecDepth 100000
set_option maxHeartbeats 4000000
namespace L2
open PySem PySem.Spec PyProof.Rows PySem.W
section
variable {X:Cx}
end
section
variable {X:Cx}
end
section
variable {X:Cx} {K:PySem.W.Frag} {o e:Expr} {es:List Expr} {to:TE} {t:TA} {name:Str} {apos cpos:Pos} {T id:String} {r:V→List V→Hp→VK→Prop}
end
section
variable {X:Cx} {e e1 e2 e3:Expr} {te t1 t2 t3:TE} {pos:Pos}
variable {K:PySem.W.Frag} {o i:Expr} {td ty:TE}
end
section
variable {X:Cx}
end
end L2
end
section
set_option Elab.async false
set_option linter.all false
set_option maxRecDepth 100000
set_option maxHeartbeats 4000000
namespace L2
open PySem PySem.Spec PyProof.Rows PySem.W
section
variable {X:Cx}
end
section
variable {X:Cx}
end
section
variable {X:Cx}
end
section
variable {X:Cx} {a b c d:Expr} {ta tb tc td:TE} {pos:Pos}
end
end L2
end
section
set_option Elab.async false
set_option linter.all false
set_option maxRecDepth 100000
set_option maxHeartbeats 4000000
namespace L2
open PySem PySem.Spec PyProof.Rows PySem.W
section
variable {prog:Program} {w:World} {A:Around} {E:Value→Shared→Prop} {s:Shared}
end
section
variable {prog:Program} {w:World} {A:Around} {s:Shared} {R:Result→Shared→Prop} {its:Array Value}
end
section
variable {prog:Program} {w:World} {A:Around} {E:Value→Shared→Prop} {s:Shared} {its:Array Value}
end
section
variable {prog:Program} {w:World} {A:Around} {E:Value→Shared→Prop} {s:Shared}
end
section
variable {X:Cx} {K:PySem.W.Frag}
end
end L2
end
section
set_option autoImplicit false
set_option linter.all false
open PySem PySem.Spec PyProof.Rows
namespace L2
structure CompD (e:Expr) (d:Nat) (tg iter:Expr) (ifs:List Expr) (emit:Env→Addr→Sem Unit):Prop where
 under:∀ (A:Around) it acc env,A.under (.compLoop e d it acc env) = A
 den:∀ (prog:Program) (w:World) it acc env,(model prog w).den (.compLoop e d it acc env) = ((compTurn e d it acc env).onRaise (fun x=>do noteFrame x env; theTreesLotGoes x))
 turn:∀ it D env,compTurn e d it (.ref D) env = (do
   standAt iter.pos
   match ← pyNext it with
   | none=>pure (.done .next)
   | some v =>
    letOwnedTupleGo tg it v
    assign tg env v
    let mut ok:=true
    for c in ifs do
     if ok then ok ← isTrue c env (eval c env)
    if ok then
     emit env D
    again (.compLoop e d it (.ref D) env))
 start:∀ (prog:Program) (w:World) (A:Around) (R:Result→Shared→Prop) (s:Shared) it acc env,codeAny (model prog w) A (.compLoop e d it acc env) R s →
  wpAny (model prog w) A (pyIter it) (fun it' s'=>codeAny (model prog w) A (.compLoop e d it' acc env) R s') (notedBy (model prog w) A env fun x s'=>R (.error x) s') s →
  codeAny (model prog w) A (.compStart e d it acc env) R s
section
variable {Y:Cx} {e tg iter:Expr} {d:Nat} {ifs:List Expr} {emit:Env→Addr→Sem Unit} {wi:TI} {g:TG} {tc:TT} {tm:TM}
theorem inner_loop (F:CompD e d tg iter ifs emit) (hc:Y.calm = true) (hx:Y.xe = fun _ _=>False) {fp:List Addr} {it D:Addr} {tn:Nat→Heap→Prop} {J:It} {R:Result→Shared→Prop} {s:Shared} {pins:List (Addr × Obj)}
  (hg:PG Y tg g) (ht:PTs Y ifs tc) (hm:PM Y emit tm)
  (T:Turn Y.prog Y.w Y.K tg J fp it tn) (hfp:∀ b∈fp,∀ H':Hp,H' b = none→FpOk Y pins H' b)
  (W:Nat→Nat→St→Hp→Prop) {Q:St→Hp→Prop} (turn:∀ i m σ' H',W i m σ' H'→(J.stop i H'∧Q σ' H')∨(J.go i H'∧∃ N:St→Hp→Prop,(∀ σ2 H2,N σ2 H2→∃ m',m' < m∧W (i + 1) m' σ2 H2)∧∀ x H2,J.yld i H' x H2→g x σ' H2 fun σ3 H3=>tc σ3 H3 fun b H4 =>
   if b = true then tm D σ3 H4 (N σ3) else N σ3 H4))
  (hR:∀ σ' H' s',Inv Y pins σ' H' s'→Q σ' H'→R (.ok .next) s')
  {m0:Nat} {σ0:St} {H0:Hp} (I0:Inv Y pins σ0 H0 s) (st0:tn 0 s.heap) (fr0:∀ b∈fp,H0 b = none) (w0:W 0 m0 σ0 H0) :
  codeAny (model Y.prog Y.w) Y.A (.compLoop e d (.ref it) (.ref D) Y.env) R s:=by
 have stat:∀ {H':Hp},(∀ b∈fp,H' b = none)→∀ b∈fp,FpOk Y pins H' b:=fun hn b hb=>hfp b hb _ (hn b hb)
 refine codeAny_loop rfl (fun n s'=>∃ i σ' H',Inv Y pins σ' H' s'∧tn i s'.heap∧(∀ b∈fp,H' b = none)∧W i n σ' H') (fun n s hI=>?_) m0 ⟨0,σ0,H0,I0,st0,fr0,w0⟩
 rw [F.under,F.den]
 refine wpAny_noted ?_
 rw [F.turn]
 obtain⟨i,σ3,H3,I3,st3,fr3,w3⟩:=hI
 have lift:∀ {α:Type} {t:Sem α} {Q':α→Shared→Prop} {E:Value→Shared→Prop} {s:Shared},wpAny (model Y.prog Y.w) Y.A t Q' Y.xe s→wpAny (model Y.prog Y.w) Y.A t Q' E s:=fun h=>wpAny_mono h (fun _ _ q=>q) fun _ _ z=>by rw [hx] at z; exact z.elim
 refine wpAny_bind (wpAny_standAt (wpAny_bind ?_))
 rcases turn i n σ3 H3 w3 with ⟨stop,qn⟩ | ⟨go,N,hN,step⟩
 ·refine lift (thn (T.done Y rfl rfl rfl hc i pins s σ3 H3 Y.xe I3 (stat fr3) st3 stop) fun r s4 ⟨hr,I4⟩=>?_)
  subst hr
  exact wpAny_pure (hR σ3 H3 s4 I4 qn)
 ·refine lift (thn (T.item Y rfl rfl rfl hc i pins s σ3 H3 Y.xe I3 (stat fr3) st3 go) fun r s4 ⟨u,hr,h4⟩=>?_)
  subst hr
  refine wpAny_bind (lift (thn h4 fun _ s5 ⟨x,H5,I5,r5,y5,st5,fr5⟩=>?_))
  have I5':=I5.pinned (stat fr5) (T.obj _ _ st5)
  refine wpAny_bind (lift (thn (hg _ s5 σ3 H5 x u _ I5' r5 (step x H5 y5)) fun _ s6 ⟨σ6,H6,I6,q6⟩=>?_))
  refine wpAny_bind (lift (thn (ht _ s6 σ6 H6 _ I6 q6) fun ok s7 ⟨H7,I7,q7⟩=>?_))
  have again:∀ {σ8:St} {H8:Hp} {s8:Shared},Inv Y (pins ++ pinsAt fp s5.heap) σ8 H8 s8→(∃ m',m' < n∧W (i + 1) m' σ8 H8)→∃ m,m < n∧∃ i σ' H',Inv Y pins σ' H' s8∧tn i s8.heap∧(∀ b∈fp,H' b = none)∧W i m σ' H':=fun {σ8 H8 s8} I8 ⟨m',hm',w8⟩=>by
   refine⟨m',hm',i + 1,σ8,H8,I8.unpinned,T.keep _ _ _ st5 fun b hb o e=>(I8.pin (b,o) (List.mem_append_right _ (List.mem_append_right _ (mem_pinsAt hb e)))).1,fun b hb=>?_,w8⟩
   obtain⟨o,e,_⟩:=T.obj _ _ st5 b hb
   exact (I8.pin (b,o) (List.mem_append_right _ (List.mem_append_right _ (mem_pinsAt hb e)))).2.1
  cases ok with
  | false=>exact wpAny_pure ⟨rfl,again I7 (hN _ _ q7)⟩
  | true =>
   refine wpAny_bind (lift (thn (hm _ s7 σ6 H7 D _ I7 q7) fun _ s8 ⟨H8,I8,q8⟩=>?_))
   exact wpAny_pure ⟨rfl,again I8 (hN _ _ q8)⟩
def emitN (e:Expr) (d:Nat) (iter:Expr):Env→Addr→Sem Unit:=fun env D=>do
 let x ← eval iter env
 standAt iter.pos
 let x ← foldedSetIterable iter env x
 let _ ← runOwn (.compStart e d (← holding [x] (pyIter x)) (.ref D) env) env
def Wkn (σ σ':St):Prop:=σ.length = σ'.length∧∀ (i:Nat) v,σ[i]? = some (some v)→σ'[i]? = some (some v)
def mNest (wi:TI) (g:TG) (tc:TT) (tm:TM):TM:=fun p σ H Q=>wi σ H fun J H1=>∃ W:Nat→Nat→St→Hp→Prop,(∃ m,W 0 m σ H1) ∧
 ∀ i m σ' H',W i m σ' H'→(J.stop i H'∧Wkn σ σ'∧Q H')∨(J.go i H'∧∃ N:St→Hp→Prop,(∀ σ2 H2,N σ2 H2→∃ m',m' < m∧W (i + 1) m' σ2 H2)∧∀ x H2,J.yld i H' x H2→g x σ' H2 fun σ3 H3=>tc σ3 H3 fun b H4 =>
   if b = true then tm p σ3 H4 (N σ3) else N σ3 H4)
theorem pm_nest (F:CompD e d tg iter ifs emit) (hc:Y.calm = true) (hx:Y.xe = fun _ _=>False) (hi:PI Y tg iter wi) (hg:PG Y tg g) (ht:PTs Y ifs tc) (hm:PM Y emit tm) (hs:∀ x,foldedSetIterable iter Y.env x = pure x):PM Y (emitN e d iter) (mNest wi g tc tm):=by
 intro pins s σ H D Q I h
 unfold emitN
 refine wpAny_bind (thn (hi pins s σ H _ I h) fun v s1 h1=>?_)
 refine wpAny_bind (wpAny_standAt ?_)
 rw [hs]
 refine wpAny_bind (wpAny_pure ?_)
 refine wpAny_bind (wpAny_holding (thn h1 fun itv s2 h2=>?_))
 obtain⟨it,fp,tn,J,H2,e2,I2,T,st2,f2,W,⟨m0,w0⟩,turn⟩:=h2
 subst e2
 refine wpAny_bind (wpAny_runOwn ?_)
 have loop:codeAny (model Y.prog Y.w) Y.A (.compLoop e d (.ref it) (.ref D) Y.env) (fun r s'=>match r with | .ok f=>wpAny (model Y.prog Y.w) Y.A (pure ()) (fun _ s'=>∃ H',Inv Y pins σ H' s'∧Q H') Y.xe s' | .error x=>cameBackBy (model Y.prog Y.w) Y.A Y.env Y.xe x s') s2 :=
  inner_loop F hc hx hg ht hm T (fun b hb H' hn=>⟨hn,(f2 b hb).2⟩) W (Q:=fun σ' H'=>Wkn σ σ'∧Q H') turn (fun σ' H' s' I' ⟨wk,q⟩=>wpAny_pure ⟨H',I'.weak wk.1 wk.2,q⟩) I2 st2 (fun b hb=>(f2 b hb).1) w0
 exact F.start _ _ _ _ _ _ _ _ loop (T.self _ _ _ _ _ st2 loop)
end
theorem compStart_at {prog:Program} {w:World} {A:Around} {R:Result→Shared→Prop} {s:Shared} {elt:Expr} {gs:List Comprehension} {sc:Scope} {pos:Pos} {d:Nat} {it acc:Value} {env:Env} {g0:Comprehension} (hd:gs[d]? = some g0) (ha:g0.is_async = 0)
  (h0:codeAny (model prog w) A (.compLoop (.ListComp elt gs sc pos) d it acc env) R s)
  (h:wpAny (model prog w) A (pyIter it) (fun it' s'=>codeAny (model prog w) A (.compLoop (.ListComp elt gs sc pos) d it' acc env) R s') (notedBy (model prog w) A env fun x s'=>R (.error x) s') s) :
  codeAny (model prog w) A (.compStart (.ListComp elt gs sc pos) d it acc env) R s:=by
 refine codeAny_of_tree ?_
 show wpAny _ _ ((compStart (.ListComp elt gs sc pos) d it acc env).onRaise (fun x=>do noteFrame x env; standAt theWindowsPlace)) _ _ s
 refine wpAny_notedAt ?_
 unfold compStart
 have hcl:(clausesOf (.ListComp elt gs sc pos))[d]? = some g0:=hd
 rw [hcl]
 have hz:((some g0:Option Comprehension).elim false fun x=>x.is_async != 0) = false:=by
  show (g0.is_async != 0) = false
  rw [ha]
  rfl
 rw [hz]
 simp only [Bool.false_eq_true,if_false]
 refine wpAny_bind (wpAny_askSetting (wpAny_ite ?_))
 split
 ·first
   | exact wpAny_pure ⟨rfl,h0⟩
   | exact wpAny_bind (wpAny_pure (wpAny_pure ⟨rfl,h0⟩))
 ·refine wpAny_bind (wpAny_rule ?_)
  refine wpAny_bind (wpAny_standAt ?_)
  exact wpAny_bind (wpAny_mono h (fun it' s' q=>wpAny_pure ⟨rfl,q⟩) fun _ _ z=>z)
theorem form_list2 {elt tg iter tg2 iter2:Expr} {ifs ifs2:List Expr} {more:List Comprehension} {sc:Scope} {pos:Pos} :
  CompForm (.ListComp elt (⟨tg,iter,ifs,0⟩ :: ⟨tg2,iter2,ifs2,0⟩ :: more) sc pos) tg iter ifs (emitN (.ListComp elt (⟨tg,iter,ifs,0⟩ :: ⟨tg2,iter2,ifs2,0⟩ :: more) sc pos) 1 iter2) :=
 ⟨⟨_,rfl⟩,fun _ _ _ _=>rfl,fun _ _ _ _ _=>rfl,fun it D env=>by
  unfold compTurn emitN
  simp only [List.getElem?_cons_zero,List.getElem?_cons_succ,bind_assoc,pure_bind]
  rfl,fun _ _ _ _ _ _ _ _ h0 h=>compStart_at rfl rfl h0 h⟩
theorem formD_last {elt tg2 iter2:Expr} {ifs2:List Expr} {gs:List Comprehension} {sc:Scope} {pos:Pos} {d:Nat} (hd:gs[d]? = some ⟨tg2,iter2,ifs2,0⟩) (hl:gs[d + 1]? = none) :
  CompD (.ListComp elt gs sc pos) d tg2 iter2 ifs2 (emitL elt) :=
 ⟨fun _ _ _ _=>rfl,fun _ _ _ _ _=>rfl,fun it D env=>by
  unfold compTurn
  simp only [hd,hl]
  rfl,fun _ _ _ _ _ _ _ _ h0 h=>compStart_at hd rfl h0 h⟩
theorem formD_mid {elt tg2 iter2 tg3 iter3:Expr} {ifs2 ifs3:List Expr} {gs:List Comprehension} {sc:Scope} {pos:Pos} {d:Nat} (hd:gs[d]? = some ⟨tg2,iter2,ifs2,0⟩) (hl:gs[d + 1]? = some ⟨tg3,iter3,ifs3,0⟩) :
  CompD (.ListComp elt gs sc pos) d tg2 iter2 ifs2 (emitN (.ListComp elt gs sc pos) (d + 1) iter3) :=
 ⟨fun _ _ _ _=>rfl,fun _ _ _ _ _=>rfl,fun it D env=>by
  unfold compTurn emitN
  simp only [hd,hl,bind_assoc,pure_bind]
  rfl,fun _ _ _ _ _ _ _ _ h0 h=>compStart_at hd rfl h0 h⟩
def tLC2 (wi:TI) (n:Nat) (fr:List Nat) (g:TG) (tc:TT) (tm:TM):TE:=fun σ H Q=>tCompB (.lst []) wi n fr g tc tm σ H fun p H'=>Q (.ref p) H'
section
variable {X:Cx} {sc:Scope} {own:List Str} {fr:List Nat} {elt tg iter tg2 iter2 tg3 iter3:Expr} {ifs ifs2 ifs3:List Expr} {wi wi2 wi3:TI} {g g2 g3:TG} {tc tc2 tc3:TT} {te:TE} {pos:Pos}
theorem pe_lc3 (hc:X.calm = true) (S:CompScope X sc fr) (hi:PI X tg iter wi)
  (hg:∀ C s₀ H₀ fp,PG (compCx X sc own fr C s₀ H₀ fp) tg g) (ht:∀ C s₀ H₀ fp,PTs (compCx X sc own fr C s₀ H₀ fp) ifs tc)
  (hi2:∀ C s₀ H₀ fp,PI (compCx X sc own fr C s₀ H₀ fp) tg2 iter2 wi2) (hg2:∀ C s₀ H₀ fp,PG (compCx X sc own fr C s₀ H₀ fp) tg2 g2) (ht2:∀ C s₀ H₀ fp,PTs (compCx X sc own fr C s₀ H₀ fp) ifs2 tc2)
  (hi3:∀ C s₀ H₀ fp,PI (compCx X sc own fr C s₀ H₀ fp) tg3 iter3 wi3) (hg3:∀ C s₀ H₀ fp,PG (compCx X sc own fr C s₀ H₀ fp) tg3 g3) (ht3:∀ C s₀ H₀ fp,PTs (compCx X sc own fr C s₀ H₀ fp) ifs3 tc3)
  (he:∀ C s₀ H₀ fp,PE (compCx X sc own fr C s₀ H₀ fp) elt te)
  (hs:∀ x,foldedSetIterable iter X.env x = pure x:=by intro _; rfl) (hs2:∀ (env:Env) x,foldedSetIterable iter2 env x = pure x:=by intro _ _; rfl) (hs3:∀ (env:Env) x,foldedSetIterable iter3 env x = pure x:=by intro _ _; rfl) :
  PE X (.ListComp elt [⟨tg,iter,ifs,0⟩,⟨tg2,iter2,ifs2,0⟩,⟨tg3,iter3,ifs3,0⟩] sc pos) (tLC2 wi own.length fr g tc (mNest wi2 g2 tc2 (mNest wi3 g3 tc3 (mApp te)))):=by
 intro pins s σ H Q I h
 rw [eval_ListComp]
 exact comp_value form_list2 hc S hi pnew_list hg ht (fun _ _ _ _=>pm_nest (formD_mid rfl rfl) hc rfl (hi2 _ _ _ _) (hg2 _ _ _ _) (ht2 _ _ _ _) (pm_nest (formD_last rfl rfl) hc rfl (hi3 _ _ _ _) (hg3 _ _ _ _) (ht3 _ _ _ _) (pm_list (he _ _ _ _)) (hs3 _)) (hs2 _)) hs I h
end
end L2
end
section
set_option Elab.async false
set_option linter.all false
set_option maxRecDepth 100000
set_option maxHeartbeats 4000000
namespace L2
open PySem PySem.Spec PyProof.Rows PySem.W
section
variable {X:Cx}
end
section
variable {prog:Program} {w:World} {A:Around} {E:Value→Shared→Prop} {s:Shared}
end
section
variable {X:Cx} {K:PySem.W.Frag}
end
section
variable {K:PySem.W.Frag} {a:Addr} {xs:List V} {g:TG} {tc:TT} {tm:TM} {σ:St} {H:Hp} {p:Addr} {Q:Hp→Prop}
theorem nest_list (Pv:Nat→St→Hp→Prop) (h0:Pv 0 σ H) (hl:∀ i σ H,i≤xs.length→Pv i σ H→SqL K H a xs)
  (hs:∀ i x σ H,xs[i]? = some x→Pv i σ H→g x σ H fun σ3 H3=>tc σ3 H3 fun b H4=>if b = true then tm p σ3 H4 (Pv (i + 1) σ3) else Pv (i + 1) σ3 H4) (hd:∀ σ' H',Pv xs.length σ' H'→Wkn σ σ'∧Q H') :
  ∃ W:Nat→Nat→St→Hp→Prop,(∃ m,W 0 m σ H) ∧
  ∀ i m σ' H',W i m σ' H'→((Itl K a).stop i H'∧Wkn σ σ'∧Q H')∨((Itl K a).go i H'∧∃ N:St→Hp→Prop,(∀ σ2 H2,N σ2 H2→∃ m',m' < m∧W (i + 1) m' σ2 H2)∧∀ x H2,(Itl K a).yld i H' x H2→g x σ' H2 fun σ3 H3=>tc σ3 H3 fun b H4 =>
   if b = true then tm p σ3 H4 (N σ3) else N σ3 H4):=by
 refine⟨fun i m σ H=>m = xs.length - i∧i≤xs.length∧Pv i σ H,⟨xs.length,by simp,Nat.zero_le _,h0⟩,?_⟩
 rintro i m σ' H' ⟨rfl,hi,pv⟩
 have q:=hl i σ' H' hi pv
 by_cases hlt:i < xs.length
 ·refine .inr ⟨⟨xs,xs[i],q,by simp [hlt]⟩,Pv (i + 1),fun σ2 H2 p'=>⟨xs.length - (i + 1),by omega,rfl,hlt,p'⟩,fun x H2 y=>?_⟩
  obtain⟨e,y⟩:=y
  subst e
  exact hs i x σ' _ (y xs q) pv
 ·have e:i = xs.length:=by omega
  subst e
  exact .inl ⟨⟨xs,q,Nat.le_refl _⟩,hd σ' H' pv⟩
theorem nest_tup (Pv:Nat→St→Hp→Prop) (h0:Pv 0 σ H) (hl:∀ i σ H,i≤xs.length→Pv i σ H→SqT K H a xs)
  (hs:∀ i x σ H,xs[i]? = some x→Pv i σ H→g x σ H fun σ3 H3=>tc σ3 H3 fun b H4=>if b = true then tm p σ3 H4 (Pv (i + 1) σ3) else Pv (i + 1) σ3 H4) (hd:∀ σ' H',Pv xs.length σ' H'→Wkn σ σ'∧Q H') :
  ∃ W:Nat→Nat→St→Hp→Prop,(∃ m,W 0 m σ H) ∧
  ∀ i m σ' H',W i m σ' H'→((Itt K a).stop i H'∧Wkn σ σ'∧Q H')∨((Itt K a).go i H'∧∃ N:St→Hp→Prop,(∀ σ2 H2,N σ2 H2→∃ m',m' < m∧W (i + 1) m' σ2 H2)∧∀ x H2,(Itt K a).yld i H' x H2→g x σ' H2 fun σ3 H3=>tc σ3 H3 fun b H4 =>
   if b = true then tm p σ3 H4 (N σ3) else N σ3 H4):=by
 refine⟨fun i m σ H=>m = xs.length - i∧i≤xs.length∧Pv i σ H,⟨xs.length,by simp,Nat.zero_le _,h0⟩,?_⟩
 rintro i m σ' H' ⟨rfl,hi,pv⟩
 have q:=hl i σ' H' hi pv
 by_cases hlt:i < xs.length
 ·refine .inr ⟨⟨xs,xs[i],q,by simp [hlt]⟩,Pv (i + 1),fun σ2 H2 p'=>⟨xs.length - (i + 1),by omega,rfl,hlt,p'⟩,fun x H2 y=>?_⟩
  obtain⟨e,y⟩:=y
  subst e
  exact hs i x σ' _ (y xs q) pv
 ·have e:i = xs.length:=by omega
  subst e
  exact .inl ⟨⟨xs,q,Nat.le_refl _⟩,hd σ' H' pv⟩
end
end L2
end
section
set_option Elab.async false
set_option linter.all false
set_option maxRecDepth 100000
set_option maxHeartbeats 4000000
namespace L2
open PySem PySem.Spec PyProof.Rows PySem.W
inductive NK where
 | int (i:Int)
 | tup (l:List NK)
mutual
def NK.dep:NK→Nat
 | .int _=>0
 | .tup l=>1 + NK.depL l
def NK.depL:List NK→Nat
 | []=>0
 | k :: r=>max k.dep (NK.depL r)
end
mutual
def IsN (h:Heap):NK→Value→Prop
 | .int i,v=>∃ t,v = .int i t
 | .tup l,v=>∃ a its,v = .ref a∧IsTup h a (List.toArray its)∧IsNs h l its
def IsNs (h:Heap):List NK→List Value→Prop
 | [],vs=>vs = []
 | k :: r,vs=>∃ u us,vs = u :: us∧IsN h k u∧IsNs h r us
end
noncomputable instance:DecidableEq NK:=fun a b=>Classical.propDecidable (a = b)
section
variable {prog:Program} {w:World} {E:Value→Shared→Prop}
theorem IsTup.inj' {h:Heap} {a:Addr} {x y:List Value} (h1:IsTup h a x.toArray) (h2:IsTup h a y.toArray):x = y:=by
 obtain⟨o,e1,_,n,d1⟩:=h1
 obtain⟨o',e2,_,n',d2⟩:=h2
 rw [e1] at e2
 cases e2
 rw [d1] at d2
 injection d2 with d2 _
 have:=congrArg Array.toList d2
 simpa using this
theorem isN_inj {h:Heap}:∀ (n:Nat) (x y:NK) (v:Value),x.dep≤n→IsN h x v→IsN h y v→x = y:=by
 intro n
 induction n with
 | zero =>
  intro x y v hd hx hy
  cases x with
  | int i =>
   rw [IsN] at hx
   obtain⟨t,rfl⟩:=hx
   cases y with
   | int j=>rw [IsN] at hy; obtain⟨t',e⟩:=hy; cases e; rfl
   | tup l=>rw [IsN] at hy; obtain⟨a,its,e,_⟩:=hy; cases e
  | tup l=>rw [NK.dep] at hd; omega
 | succ n ih =>
  intro x y v hd hx hy
  cases x with
  | int i =>
   rw [IsN] at hx
   obtain⟨t,rfl⟩:=hx
   cases y with
   | int j=>rw [IsN] at hy; obtain⟨t',e⟩:=hy; cases e; rfl
   | tup l=>rw [IsN] at hy; obtain⟨a,its,e,_⟩:=hy; cases e
  | tup l =>
   rw [NK.dep] at hd
   rw [IsN] at hx
   obtain⟨a,its,rfl,ht,hi⟩:=hx
   cases y with
   | int j=>rw [IsN] at hy; obtain⟨t',e⟩:=hy; cases e
   | tup l' =>
    rw [IsN] at hy
    obtain⟨a',its',e,ht',hi'⟩:=hy
    cases e
    have e:=IsTup.inj' ht ht'
    subst e
    have key:∀ (l l':List NK) (vs:List Value),NK.depL l≤n→IsNs h l vs→IsNs h l' vs→l = l':=by
     intro l
     induction l with
     | nil =>
      intro l' vs _ h1 h2
      rw [IsNs] at h1
      subst h1
      cases l' with
      | nil=>rfl
      | cons k r=>rw [IsNs] at h2; obtain⟨u,us,e,_⟩:=h2; cases e
     | cons k r ihl =>
      intro l' vs hd h1 h2
      rw [NK.depL] at hd
      rw [IsNs] at h1
      obtain⟨u,us,rfl,hu,hr⟩:=h1
      cases l' with
      | nil=>rw [IsNs] at h2; cases h2
      | cons k' r' =>
       rw [IsNs] at h2
       obtain⟨u',us',e,hu',hr'⟩:=h2
       cases e
       rw [ih k k' u (by omega) hu hu',ihl r' us (by omega) hr hr']
    rw [key l l' its (by omega) hi hi']
theorem isNs_len {h:Heap}:∀ {l:List NK} {vs:List Value},IsNs h l vs→vs.length = l.length
 | [],vs,h1=>by rw [IsNs] at h1; subst h1; rfl
 | k :: r,vs,h1=>by
  rw [IsNs] at h1
  obtain⟨u,us,rfl,_,hr⟩:=h1
  rw [List.length_cons,List.length_cons,isNs_len hr]
theorem isNs_at {h:Heap}:∀ {l:List NK} {vs:List Value} {j:Nat} (hj:j < vs.length),IsNs h l vs→∃ k,l[j]? = some k∧IsN h k vs[j]
 | [],vs,j,hj,h1=>by rw [IsNs] at h1; subst h1; cases hj
 | k :: r,vs,j,hj,h1=>by
  rw [IsNs] at h1
  obtain⟨u,us,rfl,hu,hr⟩:=h1
  cases j with
  | zero=>exact⟨k,rfl,hu⟩
  | succ j=>exact isNs_at (l:=r) (vs:=us) (j:=j) (by simpa using hj) hr
theorem depL_at {n:Nat}:∀ {l:List NK} {j:Nat} {k:NK},NK.depL l≤n→l[j]? = some k→k.dep≤n
 | [],j,k,_,h=>by cases h
 | k' :: r,0,k,hd,h=>by cases h; rw [NK.depL] at hd; omega
 | k' :: r,j + 1,k,hd,h=>by rw [NK.depL] at hd; exact depL_at (l:=r) (j:=j) (by omega) h
theorem dec_intN (i j:Int):decide (NK.int i = NK.int j) = (i == j):=by
 by_cases e:i = j
 ·subst e; simp
 ·rw [decide_eq_false (fun q=>e (by injection q)),show (i == j) = false by simpa using e]
theorem dec_tup (l l':List NK):decide (NK.tup l = NK.tup l') = decide (l = l'):=by
 by_cases e:l = l'
 ·subst e; simp
 ·rw [decide_eq_false e,decide_eq_false (fun q=>e (by injection q))]
theorem list_all_eq {l l':List NK}:((List.range (min l.length l'.length)).all (fun j=>decide (l.getD j (.int 0) = l'.getD j (.int 0))) && l.length == l'.length) = decide (l = l'):=by
 by_cases h:l = l'
 ·subst h
  simp
 ·rw [decide_eq_false h]
  by_cases hl:l.length = l'.length
  ·have:¬ (List.range (min l.length l'.length)).all (fun j=>decide (l.getD j (.int 0) = l'.getD j (.int 0))) = true:=fun q=>h (List.ext_getElem hl fun j h1 h2=>by
    have:=List.all_eq_true.1 q j (List.mem_range.2 (by omega))
    have:=of_decide_eq_true this
    simpa [List.getD,h1,h2] using this)
   cases e:(List.range (min l.length l'.length)).all (fun j=>decide (l.getD j (.int 0) = l'.getD j (.int 0))) with
   | true=>exact (this e).elim
   | false=>rfl
  ·have:(l.length == l'.length) = false:=by simpa using hl
   rw [this,Bool.and_false]
theorem eq_n {s:Shared}:∀ (n:Nat) (x y:NK) (A:Around) (u v:Value),x.dep≤n→A.units + n < cLine→IsN s.heap x u→IsN s.heap y v→SeqAt.EqAt A s u v (decide (x = y)):=by
 have intsN:∀ (i:Int) (y:NK) (A:Around) (u v:Value),A.units < cLine→IsN s.heap (.int i) u→IsN s.heap y v→SeqAt.EqAt A s u v (decide (NK.int i = y)):=by
  intro i y A u v hu hx hy
  rw [IsN] at hx
  obtain⟨t,rfl⟩:=hx
  cases y with
  | int j =>
   rw [IsN] at hy
   obtain⟨t',rfl⟩:=hy
   have:=SeqAt.EqAt.int_int (A:=A) (s:=s) i t j t'
   rw [dec_intN]
   exact this
  | tup l =>
   rw [IsN] at hy
   obtain⟨a,its,rfl,ht,_⟩:=hy
   rw [decide_eq_false (fun q=>by cases q)]
   exact SeqAt.EqAt.int_tuple i t ht hu
 intro n
 induction n with
 | zero =>
  intro x y A u v hd hu hx hy
  cases x with
  | int i=>exact intsN i y A u v (by omega) hx hy
  | tup l=>rw [NK.dep] at hd; omega
 | succ n ih =>
  intro x y A u v hd hu hx hy
  cases x with
  | int i=>exact intsN i y A u v (by omega) hx hy
  | tup l =>
   have hxx:=hx
   have hdd:=hd
   rw [NK.dep] at hd
   rw [IsN] at hx
   obtain⟨a,its,rfl,ht,hi⟩:=hx
   cases y with
   | int j =>
    rw [IsN] at hy
    obtain⟨t',rfl⟩:=hy
    rw [decide_eq_false (fun q=>by cases q)]
    exact SeqAt.EqAt.tuple_int j t' ht (by omega)
   | tup l' =>
    have hyy:=hy
    rw [IsN] at hy
    obtain⟨b,its',rfl,ht',hi'⟩:=hy
    by_cases hab:a = b
    ·subst hab
     rw [isN_inj (n + 1) _ _ _ hdd hxx hyy,decide_eq_true rfl]
     exact SeqAt.EqAt.same _
    ·have l1:=isNs_len hi
     have l2:=isNs_len hi'
     have main:=SeqAt.RcAt.tuples (e:=fun j=>decide (l.getD j (.int 0) = l'.getD j (.int 0))) ht ht' (show A.units < cLine by omega) fun j g1 g2=>by
      obtain⟨k,hk,hkn⟩:=isNs_at (j:=j) (by simpa using g1) hi
      obtain⟨k',hk',hkn'⟩:=isNs_at (j:=j) (by simpa using g2) hi'
      rw [List.getD_eq_getElem?_getD,List.getD_eq_getElem?_getD,hk,hk']
      exact ih k k' A.in1 _ _ (depL_at (by omega) hk) (by show A.units + 1 + n < _; omega) (by simpa using hkn) (by simpa using hkn')
     rw [List.size_toArray,List.size_toArray,l1,l2,list_all_eq] at main
     rw [dec_tup]
     exact SeqAt.EqAt.of_refs hab main
end
section
variable {X:Cx} {pos:Pos}
end
end L2
end
section
set_option autoImplicit true
set_option linter.all false
open PySem
namespace L2
end L2
end
section
set_option Elab.async false
set_option linter.all false
set_option maxRecDepth 100000
set_option maxHeartbeats 4000000
namespace L2
open PySem PySem.Spec PyProof.Rows PySem.W
section
variable {prog:Program} {w:World} {A:Around} {E:Value→Shared→Prop} {s:Shared} {es:Array DictEntry} {ep:Nat}
end
section
variable {X:Cx} {pos:Pos}
end
end L2
end
section
set_option Elab.async false
set_option linter.all false
set_option maxRecDepth 100000
set_option maxHeartbeats 4000000
namespace L2
open PySem PySem.Spec PyProof.Rows PySem.W
mutual
noncomputable def ltN:NK→NK→Bool
 | .int i,.int j=>decide (i < j)
 | .int _,.tup _=>true
 | .tup _,.int _=>false
 | .tup l,.tup l'=>ltNs l l'
noncomputable def ltNs:List NK→List NK→Bool
 | [],[]=>false
 | [],_ :: _=>true
 | _ :: _,[]=>false
 | x :: xs,y :: ys=>if x = y then ltNs xs ys else ltN x y
end
mutual
def CmpN:NK→NK→Prop
 | .int _,.int _=>True
 | .int _,.tup _=>False
 | .tup _,.int _=>False
 | .tup l,.tup l'=>CmpNs l l'
def CmpNs:List NK→List NK→Prop
 | [],_=>True
 | _ :: _,[]=>True
 | x :: xs,y :: ys=>CmpN x y∧CmpNs xs ys
end
theorem ltNs_cons (x y:NK) (xs ys:List NK):ltNs (x :: xs) (y :: ys) = if x = y then ltNs xs ys else ltN x y:=by rw [ltNs]
theorem ltN_irr:∀ (n:Nat) (x:NK),x.dep≤n→ltN x x = false:=by
 have lst:∀ (l:List NK),ltNs l l = false:=by
  intro l
  induction l with
  | nil=>rw [ltNs]
  | cons x l ih=>rw [ltNs,if_pos rfl]; exact ih
 intro n x _
 cases x with
 | int i=>rw [ltN]; exact decide_eq_false (Int.lt_irrefl i)
 | tup l=>rw [ltN]; exact lst l
theorem ltN_tri:∀ (n:Nat) (x y:NK),x.dep≤n→x≠y→ltN x y = false→ltN y x = true:=by
 intro n
 induction n with
 | zero =>
  intro x y hd ne h
  cases x with
  | int i =>
   cases y with
   | int j =>
    rw [ltN] at h ⊢
    have:=of_decide_eq_false h
    exact decide_eq_true (by have:i≠j:=(fun e=>ne (by rw [e])); omega)
   | tup l=>rw [ltN] at h; cases h
  | tup l=>rw [NK.dep] at hd; omega
 | succ n ih =>
  intro x y hd ne h
  cases x with
  | int i =>
   cases y with
   | int j =>
    rw [ltN] at h ⊢
    have:=of_decide_eq_false h
    exact decide_eq_true (by have:i≠j:=(fun e=>ne (by rw [e])); omega)
   | tup l=>rw [ltN] at h; cases h
  | tup l =>
   cases y with
   | int j=>rw [ltN]
   | tup l' =>
    rw [NK.dep] at hd
    rw [ltN] at h ⊢
    have key:∀ (l l':List NK),NK.depL l≤n→l≠l'→ltNs l l' = false→ltNs l' l = true:=by
     intro l
     induction l with
     | nil =>
      intro l' _ ne h
      cases l' with
      | nil=>exact (ne rfl).elim
      | cons y ys=>rw [ltNs] at h; cases h
     | cons x xs ihl =>
      intro l' hd ne h
      rw [NK.depL] at hd
      cases l' with
      | nil=>rw [ltNs]
      | cons y ys =>
       rw [ltNs] at h ⊢
       by_cases e:x = y
       ·subst e
        rw [if_pos rfl] at h ⊢
        exact ihl ys (by omega) (fun z=>ne (by rw [z])) h
       ·rw [if_neg e] at h
        rw [if_neg (Ne.symm e)]
        exact ih x y (by omega) e h
    exact key l l' (by omega) (fun z=>ne (by rw [z])) h
theorem ltN_trans:∀ (n:Nat) (x y z:NK),x.dep≤n→ltN x y = true→ltN y z = true→ltN x z = true:=by
 intro n
 induction n with
 | zero =>
  intro x y z hd h1 h2
  cases x with
  | int i =>
   cases z with
   | int k =>
    cases y with
    | int j =>
     rw [ltN] at h1 h2 ⊢
     have:=of_decide_eq_true h1
     have:=of_decide_eq_true h2
     exact decide_eq_true (by omega)
    | tup l=>rw [ltN] at h2; cases h2
   | tup l=>rw [ltN]
  | tup l=>rw [NK.dep] at hd; omega
 | succ n ih =>
  intro x y z hd h1 h2
  cases x with
  | int i =>
   cases z with
   | int k =>
    cases y with
    | int j =>
     rw [ltN] at h1 h2 ⊢
     have:=of_decide_eq_true h1
     have:=of_decide_eq_true h2
     exact decide_eq_true (by omega)
    | tup l=>rw [ltN] at h2; cases h2
   | tup l=>rw [ltN]
  | tup l =>
   cases y with
   | int j=>rw [ltN] at h1; cases h1
   | tup l' =>
    cases z with
    | int k=>rw [ltN] at h2; cases h2
    | tup l'' =>
     rw [NK.dep] at hd
     rw [ltN] at h1 h2 ⊢
     have key:∀ (l l' l'':List NK),NK.depL l≤n→ltNs l l' = true→ltNs l' l'' = true→ltNs l l'' = true:=by
      intro l
      induction l with
      | nil =>
       intro l' l'' _ h1 h2
       cases l'' with
       | nil=>cases l' <;> (rw [ltNs] at h2; cases h2)
       | cons z zs=>rw [ltNs]
      | cons x xs ihl =>
       intro l' l'' hd h1 h2
       rw [NK.depL] at hd
       cases l' with
       | nil=>rw [ltNs] at h1; cases h1
       | cons y ys =>
        cases l'' with
        | nil=>rw [ltNs] at h2; cases h2
        | cons z zs =>
         rw [ltNs] at h1 h2 ⊢
         by_cases e1:x = y
         ·subst e1
          rw [if_pos rfl] at h1
          by_cases e2:x = z
          ·subst e2
           rw [if_pos rfl] at h2 ⊢
           exact ihl ys zs (by omega) h1 h2
          ·rw [if_neg e2] at h2 ⊢
           exact h2
         ·rw [if_neg e1] at h1
          by_cases e2:y = z
          ·subst e2
           rw [if_neg e1]
           exact h1
          ·rw [if_neg e2] at h2
           have h3:=ih x y z (by omega) h1 h2
           rw [if_neg (fun e=>by subst e; rw [ltN_irr n x (by omega)] at h3; cases h3)]
           exact h3
     exact key l l' l'' (by omega) h1 h2
def LtAt (A:Around) (s:Shared) (y x:Value) (b:Bool):Prop:=∀ (prog:Program) (w:World) (E:Value→Shared→Prop) (Q:Value→Shared→Prop),Q (.bool b) s→wpAny (model prog w) A (richCompare .Lt y x) Q E s
section
open PySem.SeqAt
open PySem.AutoSeq1 (wpAny_loadPart')
open PySem.MeetsSeq PySem.MeetsSeq2 PySem.MeetsSeq3
theorem tuple_lt_n (l b:Addr) (items items2:List Value) (n n2:Nat) (dd dd2:Option Addr) (sl sl2:Array (Option Value)) (ns ms:List NK) (h1:items.length = ns.length) (h2:items2.length = ms.length) :
  Meets (Builtin.«tuple.__lt__» ⟨[.ref l,.ref b],[]⟩)
   (fun A R s=>s.heap.get? l = some { cls:=.type "tuple",dict:=dd,data:=.seq items.toArray n,slots:=sl }∧s.heap.get? b = some { cls:=.type "tuple",dict:=dd2,data:=.seq items2.toArray n2,slots:=sl2 } ∧
    (∀ (i:Nat) (k j:NK) (p q:Value),ns[i]? = some k→ms[i]? = some j→items[i]? = some p→items2[i]? = some q→EqAt A.in1 s p q (decide (k = j))∧LtAt A.in1 s p q (ltN k j)) ∧
    R (.ok (.ret (.bool (ltNs ns ms)))) s) :=
 .of_wp fun prog w A R s h=>by
  obtain⟨hp,g,d,tk,os⟩:=s; obtain⟨hl,hb,hel,h⟩:=h
  have f2:=AutoSeq1.sub_tuple_tuple
  wp_walk using wpAny_loadPart' hl,wpAny_loadPart' hb,wpAny_forIn_list _ (fun rest b s'=>b.1 = none∧s' = ⟨hp,g,d,tk,os⟩∧∃ i:Nat,(i≤items.length∧i≤items2.length)∧rest = (items.drop i).zip (items2.drop i)∧R (.ok (.ret (.bool (ltNs (ns.drop i) (ms.drop i))))) ⟨hp,g,d,tk,os⟩) _
  case turn =>
   rintro ⟨y,x⟩ rest b s' ⟨hb',rfl,i,hil,hz,hR⟩
   have c1:i < items.length:=by
    refine Classical.byContradiction fun c=>?_
    rw [List.drop_eq_nil_of_le (by omega),List.zip_nil_left] at hz
    cases hz
   have c2:i < items2.length:=by
    refine Classical.byContradiction fun c=>?_
    rw [List.drop_eq_nil_of_le (as:=items2) (by omega),List.zip_nil_right] at hz
    cases hz
   have d1:i < ns.length:=by omega
   have d2:i < ms.length:=by omega
   rw [List.drop_eq_getElem_cons c1,List.drop_eq_getElem_cons c2,List.zip_cons_cons] at hz
   injection hz with hyx hrest
   injection hyx with hy hx
   subst hy hx
   rw [List.drop_eq_getElem_cons d1,List.drop_eq_getElem_cons d2,ltNs_cons] at hR
   obtain⟨he,hlt⟩:=hel i ns[i] ms[i] items[i] items2[i] (List.getElem?_eq_getElem d1) (List.getElem?_eq_getElem d2) (List.getElem?_eq_getElem c1) (List.getElem?_eq_getElem c2)
   refine wpAny_bind (he prog w _ _ ?_)
   by_cases e:ns[i] = ms[i]
   ·rw [if_pos e] at hR
    rw [decide_eq_true e]
    wp_walk
    exact⟨rfl,rfl,i + 1,⟨c1,c2⟩,hrest,hR⟩
   ·rw [if_neg e] at hR
    rw [decide_eq_false e]
    have hri:=hlt prog w
    wp_walk using hri
    exact⟨_,rfl,by simpa using hR⟩
  case fin =>
   rintro ⟨b1,b2⟩ s' ⟨hb',rfl,i,hil,hz,hR⟩
   simp only at hb'
   subst hb'
   have hv:ltNs (ns.drop i) (ms.drop i) = decide (items.toArray.size < items2.toArray.size):=by
    rw [List.size_toArray,List.size_toArray,h1,h2]
    by_cases c1:i < items.length
    ·by_cases c2:i < items2.length
     ·rw [List.drop_eq_getElem_cons c1,List.drop_eq_getElem_cons c2,List.zip_cons_cons] at hz
      cases hz
     ·rw [List.drop_eq_nil_of_le (as:=ms) (by omega),List.drop_eq_getElem_cons (show i < ns.length by omega),ltNs]
      exact (decide_eq_false (by omega)).symm
    ·by_cases c2:i < items2.length
     ·rw [List.drop_eq_nil_of_le (as:=ns) (by omega),List.drop_eq_getElem_cons (show i < ms.length by omega),ltNs]
      exact (decide_eq_true (by omega)).symm
     ·rw [List.drop_eq_nil_of_le (as:=ns) (by omega),List.drop_eq_nil_of_le (as:=ms) (by omega),ltNs]
      exact (decide_eq_false (by omega)).symm
   rw [hv] at hR
   wp_walk
   exact⟨_,rfl,by simpa [Builtin.Tuple.tupleCompareSizes] using hR⟩
  case h =>
   exact⟨rfl,rfl,0,⟨Nat.zero_le _,Nat.zero_le _⟩,by simp,h⟩
end
theorem cmpNs_at:∀ {l l':List NK} {i:Nat} {k j:NK},CmpNs l l'→l[i]? = some k→l'[i]? = some j→CmpN k j
 | [],_,i,k,j,_,h,_=>by cases h
 | x :: xs,[],i,k,j,_,_,h=>by cases h
 | x :: xs,y :: ys,0,k,j,c,h,h'=>by cases h; cases h'; rw [CmpNs] at c; exact c.1
 | x :: xs,y :: ys,i + 1,k,j,c,h,h'=>by rw [CmpNs] at c; exact cmpNs_at (i:=i) c.2 h h'
theorem isNs_at' {h:Heap} {l:List NK} {vs:List Value} {j:Nat} {k:NK} {v:Value} (h1:IsNs h l vs) (hk:l[j]? = some k) (hv:vs[j]? = some v):IsN h k v:=by
 obtain⟨hj,e⟩:=List.getElem?_eq_some_iff.1 hv
 obtain⟨k',e1,e2⟩:=isNs_at hj h1
 rw [hk] at e1
 cases e1
 rw [← e]
 exact e2
theorem lt_n {s:Shared}:∀ (n:Nat) (x y:NK) (A:Around) (u v:Value),x.dep≤n→A.units + n < cLine→IsN s.heap x u→IsN s.heap y v→CmpN x y→LtAt A s u v (ltN x y):=by
 have intsL:∀ (i:Int) (y:NK) (A:Around) (u v:Value),IsN s.heap (.int i) u→IsN s.heap y v→CmpN (.int i) y→LtAt A s u v (ltN (.int i) y):=by
  intro i y A u v hx hy hc
  cases y with
  | int j =>
   rw [IsN] at hx hy
   obtain⟨t,rfl⟩:=hx
   obtain⟨t',rfl⟩:=hy
   intro prog w E Q q
   rw [ltN] at q
   exact HT.rcLt_int A s i t j t' prog w E Q q
  | tup l=>rw [CmpN] at hc; exact hc.elim
 intro n
 induction n with
 | zero =>
  intro x y A u v hd hu hx hy hc
  cases x with
  | int i=>exact intsL i y A u v hx hy hc
  | tup l=>rw [NK.dep] at hd; omega
 | succ n ih =>
  intro x y A u v hd hu hx hy hc
  cases x with
  | int i=>exact intsL i y A u v hx hy hc
  | tup l =>
   cases y with
   | int j=>rw [CmpN] at hc; exact hc.elim
   | tup l' =>
    rw [NK.dep] at hd
    rw [CmpN] at hc
    rw [IsN] at hx hy
    obtain⟨a,its,rfl,ht,hi⟩:=hx
    obtain⟨b,its',rfl,ht',hi'⟩:=hy
    obtain⟨⟨cls,dd,data,sl⟩,ho,hcl,n1,hd1⟩:=id ht
    obtain⟨⟨cls2,dd2,data2,sl2⟩,ho2,hcl2,n2,hd2⟩:=id ht'
    simp only at hcl hd1 hcl2 hd2
    subst hcl hd1 hcl2 hd2
    intro prog w E Q q
    rw [ltN] at q
    refine richCompare_meets_room (op:=.Lt) ⟨_,ho,rfl⟩ ⟨_,ho2,rfl⟩ PySem.F.slot_tuple_lt PySem.F.entry_tuple_lt (PySem.F.args_tuple_lt_2 _ _) (tuple_lt_n a b its its' n1 n2 dd dd2 sl sl2 l l' (isNs_len hi) (isNs_len hi'))
     ⟨ho,ho2,fun i k j p r hk hj hp hr=>?_,show Value.bool (ltNs l l')≠Value.notImplemented∧Q (.bool (ltNs l l')) s from ⟨(fun x=>nomatch x),q⟩⟩ (by omega)
    have k1:=isNs_at' hi hk hp
    have k2:=isNs_at' hi' hj hr
    have kd:=depL_at (n:=n) (by omega) hk
    exact⟨eq_n n k j A.in1 p r kd (by show A.units + 1 + n < _; omega) k1 k2,ih k j A.in1 p r kd (by show A.units + 1 + n < _; omega) k1 k2 (cmpNs_at hc hk hj)⟩
section
variable {prog:Program} {w:World} {A:Around} {E:Value→Shared→Prop} {s:Shared}
end
end L2
end
section
set_option Elab.async false
set_option linter.all false
set_option maxRecDepth 100000
set_option maxHeartbeats 4000000
namespace PySem
open Sem (wp)
section
variable {prog:Program} {w:World} {A:Around} {E:Value→Shared→Prop} {h:Heap} {g:Array GenState} {d:Drawn} {t:Nat} {os:OsState} {a:Addr} {o:Obj} {its:Array Value} {n:Nat}
end
end PySem
namespace L2
open PySem PySem.Spec PyProof.Rows PySem.W
section
variable {prog:Program} {w:World} {K:Type} [DecidableEq K] {knd:PySem.KeyKind prog w K} {A:Around} {s:Shared} {R:Result→Shared→Prop}
end
section
variable {X:Cx}
end
end L2
end
section
set_option Elab.async false
set_option linter.all false
set_option maxRecDepth 100000
set_option maxHeartbeats 4000000
namespace L2
open PySem PySem.Spec PyProof.Rows PySem.W
section
variable {X:Cx}
end
end L2
end
section
set_option Elab.async false
set_option linter.all false
set_option maxRecDepth 100000
set_option maxHeartbeats 4000000
namespace L2
open PySem PySem.Spec PyProof.Rows PySem.W
section
open PySem.SeqAt
open PySem.AutoSeq1 (wpAny_loadPart')
open PySem.MeetsSeq PySem.MeetsSeq2 PySem.MeetsSeq3
end
section
variable {X:Cx}
theorem isNs_ints {h:Heap}:∀ {ns:List Int} {us:List Value},Vals (ns.map V.int) us→IsNs h (ns.map NK.int) us
 | [],us,r=>by cases r; show IsNs h [] []; rw [IsNs]
 | n :: ns,us,r=>by
  cases r with
  | @cons _ u _ us' h1 h2 =>
   show IsNs h (.int n :: ns.map NK.int) _
   rw [IsNs]
   exact⟨u,us',rfl,by rw [IsN]; exact h1,isNs_ints h2⟩
theorem isN_sq {pins:List (Addr × Obj)} {σ:St} {H:Hp} {s:Shared} {a:Addr} {ns:List Int} (I:Inv X pins σ H s) (h:SqT X.K H a (ns.map V.int)):IsN s.heap (.tup (ns.map NK.int)) (.ref a):=by
 obtain⟨its,r,p,_⟩:=I.tuple h
 rw [IsN]
 exact⟨a,its,rfl,p,isNs_ints r⟩
theorem dep_intsN (ns:List Int):(NK.tup (ns.map NK.int)).dep≤1:=by
 rw [NK.dep]
 have:NK.depL (ns.map NK.int) = 0:=by
  induction ns with
  | nil=>rfl
  | cons n ns ih=>show NK.depL (.int n :: ns.map NK.int) = 0; rw [NK.depL,ih]; rfl
 omega
theorem intsN_inj {ns ms:List Int} (h:NK.tup (ns.map NK.int) = NK.tup (ms.map NK.int)):ns = ms:=by
 injection h with h
 induction ns generalizing ms with
 | nil=>cases ms with | nil=>rfl | cons m ms=>cases h
 | cons n ns ih =>
  cases ms with
  | nil=>cases h
  | cons m ms =>
   rw [List.map_cons,List.map_cons] at h
   injection h with h1 h2
   injection h1 with h1
   rw [h1,ih h2]
end
end L2
end
section
set_option Elab.async false
set_option autoImplicit true
set_option linter.all false
set_option maxRecDepth 100000
set_option maxHeartbeats 4000000
namespace L2
open PySem PySem.Spec PyProof.Rows PySem.W
section
open PySem.SeqAt
open PySem.AutoSeq1 (wpAny_loadPart')
open PySem.MeetsSeq PySem.MeetsSeq2 PySem.MeetsSeq3
theorem lt_loopAt (l b:Addr) (us vs:List Value) (n n2:Nat) (dd dd2:Option Addr) (sl sl2:Array (Option Value)) (ns ms:List NK) (g1:us.length = ns.length) (g2:vs.length = ms.length) (k:Nat) :
  ∀ i:Nat,us.length - i = k→i≤us.length→i≤vs.length→Meets (Builtin.«list.__eq__.loop» ⟨[.ref l,.ref b,rawInt i,rawInt 0],[]⟩)
   (fun A R s=>s.heap.get? l = some { cls:=.type "list",dict:=dd,data:=.seq us.toArray n,slots:=sl }∧s.heap.get? b = some { cls:=.type "list",dict:=dd2,data:=.seq vs.toArray n2,slots:=sl2 } ∧
    (∀ (i:Nat) (k j:NK) (p q:Value),ns[i]? = some k→ms[i]? = some j→us[i]? = some p→vs[i]? = some q→EqAt A.in1 s p q (decide (k = j))∧LtAt A.in1 s p q (ltN k j)) ∧
    R (.ok (.ret (.bool (ltNs (ns.drop i) (ms.drop i))))) s):=by
 induction k with
 | zero =>
  intro i hk i1 i2 prog w A R s h
  obtain⟨hp,g,d,tk,os⟩:=s
  obtain⟨hl,hb,he,h⟩:=h
  wp_walk using wpAny_loadPart' hl,wpAny_loadPart' hb
  have x1:us.toArray[((i:Nat):Int).toNat]? = none:=by simp; omega
  rw [x1]
  wp_walk using wpAny_loadPart' hl,wpAny_loadPart' hb
  have hv:ltNs (ns.drop i) (ms.drop i) = decide (us.toArray.size < vs.toArray.size):=by
   rw [List.size_toArray,List.size_toArray,List.drop_eq_nil_of_le (as:=ns) (by omega)]
   by_cases c:i < ms.length
   ·rw [List.drop_eq_getElem_cons c,ltNs]; exact (decide_eq_true (by omega)).symm
   ·rw [List.drop_eq_nil_of_le (by omega),ltNs]; exact (decide_eq_false (by omega)).symm
  rw [hv] at h
  show R (.ok (.ret (.bool (decide (us.toArray.size < vs.toArray.size))))) _
  exact h
 | succ k ih =>
  intro i hk i1 i2 prog w A R s h
  obtain⟨hp,g,d,tk,os⟩:=s
  obtain⟨hl,hb,he,h⟩:=h
  wp_walk using wpAny_loadPart' hl,wpAny_loadPart' hb
  have c1:i < us.length:=by omega
  have x1:us.toArray[((i:Nat):Int).toNat]? = some us[i]:=by simp [c1]
  by_cases c2:i < vs.length
  ·have x2:vs.toArray[((i:Nat):Int).toNat]? = some vs[i]:=by simp [c2]
   have d1:i < ns.length:=by omega
   have d2:i < ms.length:=by omega
   have hc:((i:Int) + 1) = ((i + 1:Nat):Int):=by omega
   rw [List.drop_eq_getElem_cons d1,List.drop_eq_getElem_cons d2,ltNs_cons] at h
   obtain⟨y1,y2⟩:=he i ns[i] ms[i] us[i] vs[i] (List.getElem?_eq_getElem d1) (List.getElem?_eq_getElem d2) (List.getElem?_eq_getElem c1) (List.getElem?_eq_getElem c2)
   rw [x1,x2]
   refine wpAny_bind (y1 prog w _ _ ?_)
   by_cases q:ns[i] = ms[i]
   ·rw [if_pos q] at h
    rw [decide_eq_true q]
    wp_walk
    rw [hc]
    refine⟨plainId_quiet plain_eq_loop _,codeAny_builtin entry_eq_loop ?_⟩
    rw [Around.under_plainId plain_eq_loop _]
    exact ih (i + 1) (by omega) (by omega) (by omega) prog w A R _ ⟨hl,hb,he,h⟩
   ·rw [if_neg q] at h
    rw [decide_eq_false q]
    have y3:=y2 prog w
    wp_walk using wpAny_loadPart' hl,wpAny_loadPart' hb
    rw [x1,x2]
    wp_walk using y3
    simpa using h
  ·have x2:vs.toArray[((i:Nat):Int).toNat]? = none:=by simp; omega
   rw [x1,x2]
   wp_walk using wpAny_loadPart' hl,wpAny_loadPart' hb
   have hv:ltNs (ns.drop i) (ms.drop i) = decide (us.toArray.size < vs.toArray.size):=by
    rw [List.size_toArray,List.size_toArray,List.drop_eq_nil_of_le (as:=ms) (by omega),List.drop_eq_getElem_cons (show i < ns.length by omega),ltNs]
    exact (decide_eq_false (by omega)).symm
   rw [hv] at h
   show R (.ok (.ret (.bool (decide (us.toArray.size < vs.toArray.size))))) _
   exact h
theorem list_ltAt (l b:Addr) (us vs:List Value) (n n2:Nat) (dd dd2:Option Addr) (sl sl2:Array (Option Value)) (ns ms:List NK) (g1:us.length = ns.length) (g2:vs.length = ms.length) :
  Meets (Builtin.«list.__lt__» ⟨[.ref l,.ref b],[]⟩)
   (fun A R s=>s.heap.get? l = some { cls:=.type "list",dict:=dd,data:=.seq us.toArray n,slots:=sl }∧s.heap.get? b = some { cls:=.type "list",dict:=dd2,data:=.seq vs.toArray n2,slots:=sl2 } ∧
    (∀ (i:Nat) (k j:NK) (p q:Value),ns[i]? = some k→ms[i]? = some j→us[i]? = some p→vs[i]? = some q→EqAt A.in1 s p q (decide (k = j))∧LtAt A.in1 s p q (ltN k j)) ∧
    R (.ok (.ret (.bool (ltNs ns ms)))) s):=by
 intro prog w A R s h
 obtain⟨hp,g,d,tk,os⟩:=s
 obtain⟨hl,hb,he,h⟩:=h
 have f3:=AutoSeq1.sub_list_list
 wp_walk using wpAny_loadPart' hl,wpAny_loadPart' hb
 refine⟨plainId_quiet plain_eq_loop _,codeAny_builtin entry_eq_loop ?_⟩
 rw [Around.under_plainId plain_eq_loop _]
 exact lt_loopAt l b us vs n n2 dd dd2 sl sl2 ns ms g1 g2 _ 0 rfl (Nat.zero_le _) (Nat.zero_le _) prog w A R _ ⟨hl,hb,he,by simpa using h⟩
theorem lt_list {s:Shared} {A:Around} {l b:Addr} {us vs:List Value} {n n2:Nat} {ns ms:List NK} (h1:s.heap.get? l = some { cls:=.type "list",dict:=none,data:=.seq us.toArray n,slots:=#[] }) (h2:s.heap.get? b = some { cls:=.type "list",dict:=none,data:=.seq vs.toArray n2,slots:=#[] })
  (g1:us.length = ns.length) (g2:vs.length = ms.length) (hu:A.units < cLine)
  (he:∀ (i:Nat) (k j:NK) (p q:Value),ns[i]? = some k→ms[i]? = some j→us[i]? = some p→vs[i]? = some q→EqAt A.in1 s p q (decide (k = j))∧LtAt A.in1 s p q (ltN k j)):LtAt A s (.ref l) (.ref b) (ltN (.tup ns) (.tup ms)):=by
 intro prog w E Q q
 rw [ltN] at q
 exact richCompare_meets_room (op:=.Lt) ⟨_,h1,rfl⟩ ⟨_,h2,rfl⟩ PySem.F.slot_list_lt PySem.F.entry_list_lt (PySem.F.args_list_lt_2 _ _) (list_ltAt l b us vs n n2 none none #[] #[] ns ms g1 g2)
  ⟨h1,h2,he,show Value.bool (ltNs ns ms)≠Value.notImplemented∧Q (.bool (ltNs ns ms)) s from ⟨(fun x=>nomatch x),q⟩⟩ (by omega)
end
section
variable {prog:Program} {w:World} {A:Around} {R:Result→Shared→Prop} {I:Addr} {fp wr:List Addr} {n:Nat} {P:Nat→Value→Prop} {St:Nat→Heap→Prop}
def CmpH (prog:Program) (w:World) (A:Around) (G:Shared→Prop) (P:Nat→Value→Prop) (bt:Nat→Nat→Bool):Prop :=
 ∀ (i j:Nat) (u v:Value) (s:Shared) (Q:Value→Shared→Prop) (E:Value→Shared→Prop),G s→P i u→P j v→Q (.bool (bt i j)) s→wpAny (model prog w) A (richCompare .Lt u v) Q E s
theorem min_lp {G:Shared→Prop} {S:Addr} (hG:∀ (s:Shared) (h2:Heap) (tk:Nat),G s→(∀ b o,b ∉ wr→b≠S→s.heap.get? b = some o→h2.get? b = some o)→G { s with heap:=h2,toks:=tk }) (W:Walks prog w A.in1 I fp wr n P St) (bt:Nat→Nat→Bool) (hc:CmpH prog w A.in1 G P bt) (hS0:S ∉ fp) :
  ∀ (k j:Nat) (s:Shared) (x:Value) (c:Nat),n - (j + 1) = k→j + 1≤n→G s→St (j + 1) s.heap→P (argBest bt j) x→s.heap.get? S = some { cls:=.type "list",dict:=none,data:=.seq #[x,x] c,slots:=#[] } →
  (∀ v h2 tk,P (argBest bt (n - 1)) v→(∀ b o,b ∉ wr→b≠S→s.heap.get? b = some o→h2.get? b = some o)→R (.ok (.ret v)) { s with heap:=h2,toks:=tk }) →
  codeAny (model prog w) A (.builtin "min.loop" ⟨[.ref I,.none,.ref S],[]⟩) R s:=by
 have hSw:S ∉ wr:=fun h=>hS0 (W.sub _ h)
 have nm:(toString "min" ++ toString ".loop":String) = "min.loop":=by decide
 intro k
 induction k with
 | zero =>
  intro j s x c hk hj g0 st px hS hR
  have hin:j + 1 = n:=by omega
  refine codeAny_builtin F.entry_min_loop ?_; rw [Around.under_plainId F.plain_min_loop _]
  show wpAny _ A.in1 (seqItems? (.ref S) >>= _) _ _ s; refine wpAny_bind (wpAny_seqItems hS rfl ?_)
  show wpAny _ A.in1 (tryCatch (pyNext (.ref I)) _ >>= _) _ _ s; refine wpAny_bind (wpAny_tryCatch (W.done s _ _ (hin ▸ st) fun h2 tk kp=>?_))
  have hS2:=kp S _ hSw hS
  show wpAny _ A.in1 (updateSeq S (fun _=>#[]) >>= _) _ _ _; refine wpAny_bind (wpAny_updateSeq hS2 rfl (wpAny_bind (wpAny_letGo (wpAny_pure ?_))))
  exact hR x _ tk (by rw [← hin]; exact px) fun b o b1 b2 e=>(Heap.get?_update_other _ _ (Ne.symm b2)).trans (kp b o b1 e)
 | succ k ih =>
  intro j s x c hk hj g0 st px hS hR
  have hlt:j + 1 < n:=by omega
  refine codeAny_builtin F.entry_min_loop ?_; rw [Around.under_plainId F.plain_min_loop _]
  show wpAny _ A.in1 (seqItems? (.ref S) >>= _) _ _ s; refine wpAny_bind (wpAny_seqItems hS rfl ?_)
  show wpAny _ A.in1 (tryCatch (pyNext (.ref I)) _ >>= _) _ _ s; refine wpAny_bind (wpAny_tryCatch (W.item (j + 1) s _ _ hlt st fun v h2 tk pv st2 kp=>?_))
  have hS2:=kp S _ hSw hS
  have g2:G { s with heap:=h2,toks:=tk }:=hG _ _ _ g0 fun b o b1 _ e=>kp b o b1 e
  show wpAny _ A.in1 (tryCatch (holding [v,v] (richCompare .Lt v x >>= _)) _ >>= _) _ _ _; refine wpAny_bind (wpAny_tryCatch (wpAny_holding (wpAny_bind (hc (j + 1) (argBest bt j) v x _ _ _ g2 pv px ?_))))
  refine wpAny_bind (wpAny_holding (wpAny_truthy_bool (wpAny_bind (wpAny_letGo (wpAny_pure ?_)))))
  cases hb:bt (j + 1) (argBest bt j) with
  | true =>
   simp only [if_true]
   refine wpAny_bind (wpAny_updateSeq hS2 rfl (wpAny_bind (wpAny_letGo ?_)))
   rw [nm]
   have kp3:∀ b o,b ∉ wr→b≠S→h2.get? b = some o→(h2.update S (Obj.mapSeq fun _=>#[v,v])).get? b = some o:=fun b o _ b2 e=>(Heap.get?_update_other _ _ (Ne.symm b2)).trans e
   refine wpAny_pure ⟨plainId_quiet F.plain_min_loop _,ih (j + 1) _ v _ (by omega) hlt (hG { s with heap:=h2,toks:=tk } _ _ g2 kp3) (W.frame _ _ _ st2 fun b bf o e=>?_) (by simp only [argBest,hb,if_true]; exact pv) (Heap.get?_update_self _ hS2 rfl) fun v2 h3 tk3 p3 k3=>?_⟩
   ·exact (Heap.get?_update_other _ _ (fun q:S = b=>hS0 (by rw [q]; exact bf))).trans e
   ·exact hR v2 h3 tk3 p3 fun b o b1 b2 e=>k3 b o b1 b2 (kp3 b o b1 b2 (kp b o b1 e))
  | false =>
   simp only [Bool.false_eq_true,if_false]
   refine wpAny_bind (wpAny_letGo ?_)
   rw [nm]
   refine wpAny_pure ⟨plainId_quiet F.plain_min_loop _,ih (j + 1) _ x c (by omega) hlt g2 st2 (by simp only [argBest,hb,Bool.false_eq_true,if_false]; exact px) hS2 fun v2 h3 tk3 p3 k3=>?_⟩
   exact hR v2 h3 tk3 p3 fun b o b1 b2 e=>k3 b o b1 b2 (kp b o b1 e)
theorem call_minH {E:Value→Shared→Prop} {s:Shared} {x:Value} {Q:Value→Shared→Prop} (h:wpAny (model prog w) A.in1 (pyIter x) (fun it s2=>∃ I fp wr n P St bt,it = .ref I∧Walks prog w A.in1 I fp wr n P St∧St 0 s2.heap∧(∀ b∈fp,b < s2.heap.objs.size)∧0 < n ∧ CmpH prog w A.in1 (fun s3=>∃ h2 tk,s3 = { s2 with heap:=h2,toks:=tk }∧∀ b o,b ∉ wr→s2.heap.get? b = some o→h2.get? b = some o) P bt∧∀ v h2 tk,P (argBest bt (n - 1)) v→(∀ b o,b ∉ wr→s2.heap.get? b = some o→h2.get? b = some o)→Q v { s2 with heap:=h2,toks:=tk }) E s) :
  wpAny (model prog w) A (call (.builtin "min") [x]) Q E s:=by
 have nm:(toString "min" ++ toString ".loop":String) = "min.loop":=by decide
 refine call_function_tree F.kind_min F.plain_min F.entry_min (F.args_min1 _) ?_
 show wpAny _ A.in1 (Builtin.Builtins.bindParams "min" ["key","default"] 0 ⟨[],[]⟩ >>= _) _ _ s; refine wpAny_bind (wpAny_of_eq (show Builtin.Builtins.bindParams "min" ["key","default"] 0 ⟨[],[]⟩ = pure [none,none] from rfl) (wpAny_bind (wpAny_pure (wpAny_bind (wpAny_mono h (fun it s2 h2=>?_) fun _ _ e=>e)))))
 obtain⟨I,fp,wr,n,P,St,bt,rfl,W,st,lt,hn,hc,hQ⟩:=h2
 refine wpAny_bind (wpAny_newObj_type ?_)
 have hS0:s2.heap.objs.size ∉ fp:=fun m=>Nat.lt_irrefl _ (lt _ m)
 have hSw:s2.heap.objs.size ∉ wr:=fun m=>hS0 (W.sub _ m)
 rw [nm]
 have old:∀ b o,s2.heap.get? b = some o→b≠s2.heap.objs.size:=fun b o e=>Nat.ne_of_lt (Heap.lt_size e)
 refine wpAny_pure ⟨plainId_quiet F.plain_min_loop _,?_⟩
 refine codeAny_builtin F.entry_min_loop ?_; rw [Around.under_plainId F.plain_min_loop _]
 have hS:(s2.heap.push { cls:=.type "list",data:=.seq ([]:List Value).toArray }).get? s2.heap.objs.size = some { cls:=.type "list",dict:=none,data:=.seq #[] 0,slots:=#[] }:=Heap.get?_push_size _ rfl
 show wpAny _ A.in1 (seqItems? (.ref s2.heap.objs.size) >>= _) _ _ _; refine wpAny_bind (wpAny_seqItems hS rfl ?_)
 show wpAny _ A.in1 (tryCatch (pyNext (.ref I)) _ >>= _) _ _ _; refine wpAny_bind (wpAny_tryCatch (W.item 0 _ _ _ hn (W.frame _ _ _ st fun b _ o e=>Heap.get?_push_of_some _ e) fun v h3 tk pv st3 kp=>?_))
 have hS3:=kp _ _ hSw hS
 show wpAny _ A.in1 (updateSeq s2.heap.objs.size (fun _=>#[v,v]) >>= _) _ _ _; refine wpAny_bind (wpAny_updateSeq hS3 rfl ?_)
 rw [nm]
 have kq:∀ b o,b ∉ wr→s2.heap.get? b = some o→(h3.update s2.heap.objs.size (Obj.mapSeq fun _=>#[v,v])).get? b = some o:=fun b o b1 e=>(Heap.get?_update_other _ _ (Ne.symm (old b o e))).trans (kp b o b1 (Heap.get?_push_of_some _ e))
 refine wpAny_pure ⟨plainId_quiet F.plain_min_loop _,min_lp (S:=s2.heap.objs.size) (fun a c tk3 g k=>by obtain⟨h5,t5,rfl,g⟩:=g; exact⟨c,tk3,rfl,fun b o b1 e=>k b o b1 (old b o e) (g b o b1 e)⟩) W bt hc hS0 _ 0 _ v _ rfl hn ⟨_,_,rfl,kq⟩ (W.frame _ _ _ st3 fun b bf o e=>?_) pv (Heap.get?_update_self _ hS3 rfl) fun v2 h4 tk4 p4 k4=>?_⟩
 ·exact (Heap.get?_update_other _ _ (fun q:s2.heap.objs.size = b=>hS0 (by rw [q]; exact bf))).trans e
 ·exact hQ v2 h4 tk4 p4 fun b o b1 e=>k4 b o b1 (old b o e) (kq b o b1 e)
end
abbrev kE (e:En):NK:=.tup (e.map NK.int)
abbrev kR (es:List En):NK:=.tup (es.map kE)
abbrev kM (m:Ma):NK:=.tup (m.map kR)
theorem kE_inj {e e':En} (h:kE e = kE e'):e = e':=intsN_inj h
theorem map_inj_on {α:Type} {f:α→NK} (hf:∀ x y,f x = f y→x = y):∀ {xs ys:List α},xs.map f = ys.map f→xs = ys
 | [],[],_=>rfl
 | [],_ :: _,h=>by cases h
 | _ :: _,[],h=>by cases h
 | x :: xs,y :: ys,h=>by
  rw [List.map_cons,List.map_cons] at h
  injection h with h1 h2
  rw [hf x y h1,map_inj_on hf h2]
theorem kR_inj {es es':List En} (h:kR es = kR es'):es = es':=by injection h with h; exact map_inj_on (fun _ _=>kE_inj) h
theorem kM_inj {m m':Ma} (h:kM m = kM m'):m = m':=by injection h with h; exact map_inj_on (fun _ _=>kR_inj) h
theorem eqDs_map {α:Type} {f:α→DD} {g:α→NK} (h:∀ x y,eqD (f x) (f y) = decide (g x = g y)):∀ xs ys:List α,eqDs (xs.map f) (ys.map f) = decide (xs.map g = ys.map g)
 | [],[]=>by simp [eqDs]
 | [],y :: ys=>by simp [eqDs]
 | x :: xs,[]=>by simp [eqDs]
 | x :: xs,y :: ys=>by
  rw [List.map_cons,List.map_cons,eqDs,h,eqDs_map h xs ys,List.map_cons,List.map_cons,Bool.eq_iff_iff]
  simp
theorem eqD_kE (e e':En):eqD (dE e) (dE e') = decide (kE e = kE e'):=by
 rw [eqD_ee]
 exact decide_eq_decide.2 ⟨fun h=>by rw [h],kE_inj⟩
theorem eqD_kR (es es':List En):eqD (dR es) (dR es') = decide (kR es = kR es'):=by
 show eqD (.lst (es.map dE)) (.lst (es'.map dE)) = _
 rw [eqD,eqDs_map eqD_kE]
 exact decide_eq_decide.2 ⟨fun h=>congrArg NK.tup h,fun h=>by injection h⟩
theorem cmp_ints:∀ a b:List Int,CmpNs (a.map NK.int) (b.map NK.int)
 | [],_=>by rw [List.map_nil,CmpNs]; trivial
 | _ :: _,[]=>by rw [List.map_nil,List.map_cons,CmpNs]; trivial
 | x :: a,y :: b=>by rw [List.map_cons,List.map_cons,CmpNs]; exact⟨by rw [CmpN]; trivial,cmp_ints a b⟩
theorem cmp_E (e e':En):CmpN (kE e) (kE e'):=by rw [CmpN]; exact cmp_ints e e'
theorem dep_kE (e:En):(kE e).dep≤1:=dep_intsN e
section
variable {X:Cx} {pins:List (Addr × Obj)} {σ:St} {H:Hp} {s:Shared}
theorem ent_isN (I:Inv X pins σ H s) {a:Addr} {e:En} (h:Ent H a e):IsN s.heap (kE e) (.ref a):=isN_sq I (SqT.of h)
theorem row_lt (I:Inv X pins σ H s) {A:Around} (hu:A.units + 20 < cLine) {a b:Addr} {es es':List En} (ha:Row H a es) (hb:Row H b es'):LtAt A s (.ref a) (.ref b) (ltN (kR es) (kR es')):=by
 obtain⟨as,h1,h2⟩:=ha
 obtain⟨bs,h3,h4⟩:=hb
 obtain⟨z,its,n,r,hl,e1⟩:=I.lstM h1
 obtain⟨z',its',n',r',hl',e1'⟩:=I.lstM h3
 have x1:=vals_refs r
 have x2:=vals_refs r'
 subst x1 x2
 refine lt_list e1 e1' (by rw [List.length_map,List.length_map]; exact h2.1) (by rw [List.length_map,List.length_map]; exact h4.1) (by omega) fun i k j p q hk hj hp hq=>?_
 rw [List.getElem?_map] at hk hj hp hq
 obtain⟨e,he,rfl⟩:=Option.map_eq_some_iff.1 hk
 obtain⟨e',he',rfl⟩:=Option.map_eq_some_iff.1 hj
 obtain⟨p',hp',rfl⟩:=Option.map_eq_some_iff.1 hp
 obtain⟨q',hq',rfl⟩:=Option.map_eq_some_iff.1 hq
 have E1:=h2.2 i p' e hp' he
 have E2:=h4.2 i q' e' hq' he'
 refine⟨?_,lt_n 1 _ _ A.in1 _ _ (dep_kE e) (by show A.units + 1 + 1 < _; omega) (ent_isN I E1) (ent_isN I E2) (cmp_E e e')⟩
 have:=(eq_all I 8 (dE e) (dE e') A.in1 _ _ (.ref p') (.ref q') (Nat.le_trans dep_dE (by decide)) E1.den E2.den rfl rfl (by show A.units + 1 + 8 < _; omega)).1
 rw [eqD_kE] at this
 exact this
theorem mach_lt (I:Inv X pins σ H s) {A:Around} (hu:A.units + 30 < cLine) {a b:Addr} {m m':Ma} (ha:Mach H a m) (hb:Mach H b m'):LtAt A s (.ref a) (.ref b) (ltN (kM m) (kM m')):=by
 obtain⟨as,h1,_,h2⟩:=ha
 obtain⟨bs,h3,_,h4⟩:=hb
 obtain⟨z,its,n,r,hl,e1⟩:=I.lstM h1
 obtain⟨z',its',n',r',hl',e1'⟩:=I.lstM h3
 have x1:=vals_refs r
 have x2:=vals_refs r'
 subst x1 x2
 refine lt_list e1 e1' (by rw [List.length_map,List.length_map]; exact h2.1) (by rw [List.length_map,List.length_map]; exact h4.1) (by omega) fun i k j p q hk hj hp hq=>?_
 rw [List.getElem?_map] at hk hj hp hq
 obtain⟨e,he,rfl⟩:=Option.map_eq_some_iff.1 hk
 obtain⟨e',he',rfl⟩:=Option.map_eq_some_iff.1 hj
 obtain⟨p',hp',rfl⟩:=Option.map_eq_some_iff.1 hp
 obtain⟨q',hq',rfl⟩:=Option.map_eq_some_iff.1 hq
 have E1:=h2.2 i p' e hp' he
 have E2:=h4.2 i q' e' hq' he'
 refine⟨?_,row_lt I (by show A.units + 1 + 20 < _; omega) E1 E2⟩
 have:=(eq_all I 8 (dR e) (dR e') A.in1 _ _ (.ref p') (.ref q') (Nat.le_trans dep_dR (by decide)) E1.den E2.den rfl rfl (by show A.units + 1 + 8 < _; omega)).1
 rw [eqD_kR] at this
 exact this
end
theorem best_least {key:Nat→NK}:∀ (k:Nat),argBest (fun i j=>ltN (key i) (key j)) k≤k∧∀ i,i≤k→ltN (key i) (key (argBest (fun i j=>ltN (key i) (key j)) k)) = false
 | 0=>⟨Nat.le_refl _,fun i hi=>by
  have:i = 0:=by omega
  subst this
  exact ltN_irr _ _ (Nat.le_refl _)⟩
 | k + 1=>by
  obtain⟨h1,h2⟩:=best_least (key:=key) k
  rw [argBest]
  by_cases c:ltN (key (k + 1)) (key (argBest (fun i j=>ltN (key i) (key j)) k)) = true
  ·rw [if_pos c]
   refine⟨Nat.le_refl _,fun i hi=>?_⟩
   by_cases e:i = k + 1
   ·subst e; exact ltN_irr _ _ (Nat.le_refl _)
   ·cases hq:ltN (key i) (key (k + 1)) with
    | false=>rfl
    | true =>
     have:=ltN_trans _ _ _ _ (Nat.le_refl _) hq c
     rw [h2 i (by omega)] at this
     cases this
  ·rw [if_neg c]
   refine⟨Nat.le_succ_of_le h1,fun i hi=>?_⟩
   by_cases e:i = k + 1
   ·subst e; exact Bool.eq_false_iff.2 c
   ·exact h2 i (by omega)
section
variable {X:Cx}
def cMinM:List V→Hp→VK→Prop:=fun xs H Q=>match xs with
 | [.ref p]=>∃ (rs:List Addr) (ms:List Ma),H p = some (.lst (rs.map V.ref))∧All2 (Mach H) rs ms∧rs≠[]∧∀ (r:Addr) (m:Ma) (j:Nat),rs[j]? = some r→ms[j]? = some m→(∀ m'∈ms,ltN (kM m') (kM m) = false)→Q (.ref r) H
 | _=>False
theorem q_minM {k:Nat} (hr:Room k X.A) (hc:X.calm = true):CallR X (.builtin "min") cMinM:=by
 intro pins s σ H xs us Q I r h
 unfold cMinM at h
 split at h
 ·rename_i p
  obtain⟨rs,ms,hp,hA,hne,q⟩:=h
  cases r with
  | cons r rr =>
  cases rr
  cases r
  obtain⟨z,its,n,rv,hlen,e⟩:=I.lstM hp
  have hits:=vals_refs rv
  subst hits
  have hl:s.heap.IsList p (rs.map Value.ref).toArray:=⟨_,e,rfl,n,rfl⟩
  have hlt:p < s.heap.objs.size:=Heap.lt_size e
  have hpos:0 < rs.length:=List.length_pos_iff.2 hne
  refine call_minH (wpAny_pyIter_list hl ?_)
  have hkeep:∀ (h2:Heap) (tk:Nat),(∀ b o,b ∉ [s.heap.objs.size]→(s.heap.push { cls:=.type "list_iterator",data:=.fields #[.ref p,.int 0 0] }).get? b = some o→h2.get? b = some o)→∀ b o,s.heap.get? b = some o→h2.get? b = some o:=fun h2 tk kp b o eb=>kp b o (by simp; exact Nat.ne_of_lt (Heap.lt_size eb)) (Heap.get?_push_of_some _ eb)
  let key:Nat→NK:=fun i=>kM (ms.getD i [])
  refine⟨s.heap.objs.size,[s.heap.objs.size,p],[s.heap.objs.size],(rs.map Value.ref).toArray.size,_,_,fun i j=>ltN (key i) (key j),rfl,Walks.list (A:=X.A.in1) (I.ok.hd hc) _ p (Nat.ne_of_lt hlt) (rs.map Value.ref).toArray,⟨⟨_,Heap.get?_push_size _ rfl,rfl,rfl⟩,hl.push _⟩,fun b hb=>?_,by rw [List.size_toArray,List.length_map]; exact hpos,?_,?_⟩
  ·rw [Heap.size_push]
   rcases List.mem_cons.1 hb with e1 | e1
   ·rw [e1]; exact Nat.lt_succ_self _
   ·rw [List.mem_singleton.1 e1]; exact Nat.lt_succ_of_lt hlt
  ·rintro i j u v s3 Q3 E3 ⟨h2,tk,rfl,kp⟩ pu pv hQ
   have I3:Inv X pins σ H { s with heap:=h2,toks:=tk }:=I.kept (t':=tk) (hkeep h2 tk kp)
   have pu:(rs.map Value.ref)[i]? = some u:=by simpa using pu
   have pv:(rs.map Value.ref)[j]? = some v:=by simpa using pv
   rw [List.getElem?_map] at pu pv
   obtain⟨a,ha,rfl⟩:=Option.map_eq_some_iff.1 pu
   obtain⟨b,hb,rfl⟩:=Option.map_eq_some_iff.1 pv
   obtain⟨m,hm,Ma1⟩:=hA.at ha
   obtain⟨m',hm',Mb1⟩:=hA.at hb
   have k1:key i = kM m:=by show kM (ms.getD i []) = _; rw [List.getD_eq_getElem?_getD,hm]; rfl
   have k2:key j = kM m':=by show kM (ms.getD j []) = _; rw [List.getD_eq_getElem?_getD,hm']; rfl
   have hQ:Q3 (.bool (ltN (key i) (key j))) _:=hQ
   rw [k1,k2] at hQ
   exact mach_lt I3 (by have:=hr.units; show X.A.units + 1 + 30 < _; omega) Ma1 Mb1 _ _ _ _ hQ
  ·intro v h2 tk pv kp
   have pv:(rs.map Value.ref)[argBest (fun i j=>ltN (key i) (key j)) ((rs.map Value.ref).toArray.size - 1)]? = some v:=by simpa using pv
   rw [List.size_toArray,List.length_map] at pv
   obtain⟨b1,b2⟩:=best_least (key:=key) (rs.length - 1)
   rw [List.getElem?_map] at pv
   obtain⟨a,ha,rfl⟩:=Option.map_eq_some_iff.1 pv
   obtain⟨m,hm,_⟩:=hA.at ha
   refine⟨.ref a,H,I.kept (t':=tk) (hkeep h2 tk kp),rfl,q a m _ ha hm fun m' hm'=>?_⟩
   obtain⟨i,hi⟩:=List.getElem?_of_mem hm'
   have hil:i < rs.length:=by rw [hA.1]; exact (List.getElem?_eq_some_iff.1 hi).1
   have:=b2 i (by omega)
   have k1:key i = kM m':=by show kM (ms.getD i []) = _; rw [List.getD_eq_getElem?_getD,hi]; rfl
   have k2:key (argBest (fun i j=>ltN (key i) (key j)) (rs.length - 1)) = kM m:=by show kM (ms.getD _ []) = _; rw [List.getD_eq_getElem?_getD,hm]; rfl
   rw [k1,k2] at this
   exact this
 ·exact h.elim
end
theorem FnOk.any4 {P:Program} {w:World} {K:PySem.W.Frag} {mg:PySem.Str→Option Value} {base:Heap} {l:Nat} {f:Addr} {fd:FuncData} {ps:List PySem.Str} {s0 s1 s2 s3:Sp} {j0 j1 j2 j3:Nat} (F0:FnOk P w K mg base CX0 j0 f fd ps s0) (F1:FnOk P w K mg base CX0 j1 f fd ps s1) (F2:FnOk P w K mg base CX0 j2 f fd ps s2) (F3:FnOk P w K mg base CX0 j3 f fd ps s3) (h0:j0≤l) (h1:j1≤l) (h2:j2≤l) (h3:j3≤l) :
  FnOk P w K mg base CX0 l f fd ps (fun vs H Q E=>s0 vs H Q E∨s1 vs H Q E∨s2 vs H Q E∨s3 vs H Q E) :=
 ⟨fun vs H Q E h=>h.elim (F0.len vs H Q E) fun h=>h.elim (F1.len vs H Q E) fun h=>h.elim (F2.len vs H Q E) (F3.len vs H Q E),fun A outer s H args us vs Q E hr he hb hv hs=>by
  rcases hs with hs | hs | hs | hs
  ·exact F0.run A outer s H args us vs Q E (hr.mono h0) he hb hv hs
  ·exact F1.run A outer s H args us vs Q E (hr.mono h1) he hb hv hs
  ·exact F2.run A outer s H args us vs Q E (hr.mono h2) he hb hv hs
  ·exact F3.run A outer s H args us vs Q E (hr.mono h3) he hb hv hs⟩
end L2
end
section
set_option Elab.async false
set_option linter.all false
set_option maxRecDepth 100000
set_option maxHeartbeats 4000000
namespace L2
open PySem PySem.Spec PyProof.Rows PySem.W
section
variable {X:Cx}
def rgL (a:Int) (n:Nat):List Int:=(List.range n).map fun (i:Nat)=>a + (i:Int)
def tLR (ta:TA):TE:=fun σ H Q=>ta σ H fun vs H1=>match vs with
 | [.int i,.int j]=>(-(2 ^ 62)≤i∧i < 2 ^ 62∧-(2 ^ 62)≤j∧j < 2 ^ 62∧(j - i).toNat≤1000)∧∀ (p:Addr),H1 p = none→Q (.ref p) (upd H1 p (.lst ((rgL i (j - i).toNat).map V.int)))
 | _=>False
theorem vals_rg:∀ (us:List Value) (a:Int),(∀ (j:Nat) (v:Value),us[j]? = some v→∃ t,v = .int (a + j * 1) t)→Vals ((rgL a us.length).map V.int) us
 | [],_,_=>.nil
 | u :: us,a,h=>by
  have e:rgL a (u :: us).length = a :: rgL (a + 1) us.length:=by
   unfold rgL
   rw [List.length_cons,List.range_succ_eq_map,List.map_cons,List.map_map]
   refine congr (congrArg List.cons (Int.add_zero a)) (List.map_congr_left fun i _=>?_)
   show a + ((i + 1:Nat):Int) = a + 1 + (i:Int)
   omega
  rw [e]
  refine .cons ?_ (vals_rg us (a + 1) fun j v hj=>?_)
  ·obtain⟨t,ht⟩:=h 0 u rfl
   exact⟨t,by rw [ht]; congr 1; omega⟩
  ·obtain⟨t,ht⟩:=h (j + 1) v hj
   exact⟨t,by rw [ht]; congr 1; omega⟩
theorem pe_lrange {a b:Expr} {ta:TA} {p p' pos pos':Pos} (hc:X.calm = true) (gl:Gl X "list") (ml:X.mg "list" = none) (ge:Gl X "range") (me:X.mg "range" = none) (ha:PA X [a,b] ta) (hs:starEach [a,b] X.env = [(false,eval a X.env),(false,eval b X.env)]:=by rfl) (hs2:starEach [b] X.env = [(false,eval b X.env)]:=by rfl)
  (hs':starEach [.Call (.Name "range" p') [a,b] [] pos'] X.env = [(false,eval (.Call (.Name "range" p') [a,b] [] pos') X.env)]:=by rfl) :
  PE X (.Call (.Name "list" p) [.Call (.Name "range" p') [a,b] [] pos'] [] pos) (tLR ta):=by
 intro pins s σ H Q I h
 refine Call_ (ld_blt I gl ml bt_list (PyProof.Rows.callWith_type1 ?_ hs' rfl))
 rw [hs']
 show wpAny _ _ (spliced ((false,eval (.Call (.Name "range" p') [a,b] [] pos') X.env) :: backTo pos [])) _ _ s
 refine Calls.spliced_cons ?_
 refine Call_ (ld_blt I ge me boot_range (PyProof.Rows.callWith_type1 (thn (ha pos' pins s σ H _ I h) fun us s1 ⟨vs,H1,I1,r1,q1⟩=>?_) (by rw [hs,hs2]) (by rw [hs2]; rfl)))
 obtain⟨i,j,t,t',rfl,⟨b1,b2,b3,b4,b5⟩,q⟩:∃ (i j:Int) (t t':Tok),us = [.int i t,.int j t']∧(-(2 ^ 62)≤i∧i < 2 ^ 62∧-(2 ^ 62)≤j∧j < 2 ^ 62∧(j - i).toNat≤1000)∧∀ (p:Addr),H1 p = none→Q (.ref p) (upd H1 p (.lst ((rgL i (j - i).toNat).map V.int))):=by
  dsimp only at q1
  split at q1
  ·cases r1 with
   | cons r rr=>cases rr with
    | cons r' rr =>
     cases rr
     obtain⟨t,rfl⟩:=r
     obtain⟨t',rfl⟩:=r'
     exact⟨_,_,t,t',rfl,q1⟩
  ·exact q1.elim
 refine call_range_2 ?_
 refine Calls.spliced_nil ?_
 have hn:Builtin.Range.rangeSize i j 1 = ((j - i).toNat:Int):=by rw [rangeSize_one]; split <;> omega
 refine call_list_range (s:={ s1 with heap:=s1.heap.push _,toks:=s1.toks + 1 }) (I.ok.hd hc) (IsRange.new s1.heap i j 1 t t' s1.toks) (small_one b1 b2 b3 b4) hn (Nat.le_trans b5 (by decide)) fun h' tk acc c hk hD hI=>?_
 dsimp only at hk hD
 have hk3:∀ b o,s1.heap.get? b = some o→h'.get? b = some o:=fun b o e=>hk b o (Heap.get?_push_of_some _ e)
 have noneS:s1.heap.get? (s1.heap.push { cls:=.type "range",data:=.fields #[.int i t,.int j t',.int 1 s1.toks] }).objs.size = none:=Heap.get?_none_of_le (by show _≤(Array.push _ _).size; rw [Array.size_push]; exact Nat.le_succ _)
 generalize (s1.heap.push { cls:=.type "range",data:=.fields #[.int i t,.int j t',.int 1 s1.toks] }).objs.size = D at hD noneS ⊢
 have hl:acc.toList.length = (j - i).toNat:=by rw [Array.length_toList]; exact hI.1
 have hI':Vals ((rgL i (j - i).toNat).map V.int) acc.toList:=by
  rw [← hl]
  exact vals_rg _ _ fun k v hv=>hI.2 k v (by rw [← hv,Array.getElem?_toList])
 have nH:=I1.noneAt noneS
 refine⟨.ref D,_,I1.more hk3 (Sub.new nH) (fun b o ho hb=>?_),rfl,q D nH⟩
 by_cases cb:b = D
 ·subst cb
  rw [upd_same] at ho
  cases ho
  refine⟨noneS,?_⟩
  exact⟨by rw [List.length_map]; unfold rgL; rw [List.length_map,List.length_range]; exact Nat.le_trans b5 (by decide),acc.toList,c,hI',by rw [Array.toArray_toList]; exact hD⟩
 ·rw [upd_ne cb,hb] at ho
  cases ho
end
end L2
end
section
set_option Elab.async false
set_option linter.all false
set_option maxRecDepth 100000
set_option maxHeartbeats 4000000
namespace L2
open PySem PySem.Spec PyProof.Rows PySem.W
theorem lk_list_radd:typeLookup (.type "list") (dunderR "add") = pure none:=by rw [typeLookup_type,builtinLookup_eq_fast]; kernel_rfl
theorem fill_list_add:fillsNumberSlot (.type "list") "add" = pure false :=
 PySem.fillsNumberSlot_seq (id:="list.__add__") (r:=none) F.slot_list_add.lookup (by decide +kernel) lk_list_radd rfl
theorem inplace_list {M:Model} {A:Around} {E:Value→Shared→Prop} {s:Shared} {a b:Value} {Q:Value→Shared→Prop} (ha:s.TypeIs a "list") (hb:s.TypeIs b "list")
  (hc:wpAny M A (call (.builtin "list.__iadd__") [a,b]) Q E s):wpAny M A (inplaceOp .Add a b) Q E s:=by
 refine wpAny_holding ?_
 have hfi:fillsInplaceSlot (.type "list") "add" true = pure false:=by
  show (do let fi ← typeLookup (.type "list") (dunderI "add"); pure (fi.isSome && !isSeqSlot fi)) = (pure false:Sem Bool)
  rw [F.slot_list_iadd.lookup]
  have:isSeqSlot (some (.builtin "list.__iadd__")) = true:=by decide +kernel
  show (pure ((some (Value.builtin "list.__iadd__")).isSome && !isSeqSlot (some (.builtin "list.__iadd__"))):Sem Bool) = _
  rw [this]; rfl
 refine wpAny_bind (wpAny_typeOf ha (wpAny_bind (wpAny_of_eq hfi ?_)))
 show wpAny M A (if false = true then _ else _) Q E s
 rw [if_neg Bool.false_ne_true]
 refine wpAny_bind (wpAny_binaryOp1_none ha hb fill_list_add (wpAny_bind (wpAny_of_eq (PySem.seqSlot_of (T:="list") (name:=dunderI "add") (id:="list.__iadd__") F.slot_list_iadd.lookup (by decide +kernel)) ?_)))
 exact wpAny_bind (wpAny_rule hc)
section
variable {X:Cx}
def cIpL:TIp:=fun x y H Q=>match x,y with | .ref l,.ref b=>∃ xs zs,H l = some (.lst xs)∧H b = some (.lst zs)∧xs.length + zs.length≤sizeLine∧Q (.ref l) (upd H l (.lst (xs ++ zs))) | _,_=>False
theorem ip_cat:PIp X .Add cIpL:=by
 intro pins s σ H x y v u Q I rx ry h
 cases x with
 | ref l =>
  cases y with
  | ref b =>
   obtain⟨xs,zs,hH,hB,hz,q⟩:=h
   cases rx
   cases ry
   obtain⟨z,its,n,r,hl,e⟩:=I.lstM hH
   obtain⟨z2,its2,n2,r2,hl2,e2⟩:=I.lstM hB
   have hsz:its.toArray.size + its2.toArray.size≤sizeLine:=by rw [List.size_toArray,List.size_toArray]; omega
   have hlong:¬ (!its.toArray.isEmpty && Builtin.List.listTooLong (its.toArray.size + its2.toArray.size)) = true:=by
    rw [notLongL hsz,Bool.and_false]
    exact Bool.false_ne_true
   refine inplace_list ⟨_,e,rfl⟩ ⟨_,e2,rfl⟩ ?_
   refine call_meets F.slot_list_iadd ⟨_,e,rfl⟩ F.entry_list_iadd (F.args_list_iadd_2 _ _)
    (AutoSeq1.list___iadd___list_list_0 l its.toArray n b its2.toArray n2 hlong (by rw [List.size_toArray]; omega) (by omega)) ⟨e,e2,?_⟩
   refine⟨.ref l,_,I.lset (its':=its ++ its2) hH e (by simp) (r.append r2) ?_,rfl,q⟩
   rw [List.length_append]
   omega
  | _=>exact h.elim
 | _=>exact h.elim
end
section
variable {X:Cx} {K:PySem.W.Frag} {e st:Expr} {te:TE} {ts:TO} {pos p2:Pos}
end
end L2
end
section
set_option Elab.async false
set_option linter.all false
set_option maxRecDepth 100000
set_option maxHeartbeats 4000000
namespace L2
open PySem PySem.Spec PyProof.Rows PySem.W
section
variable {X:Cx} {sc:Scope} {own:List Str} {fr:List Nat} {kx vx tg iter:Expr} {ifs:List Expr} {wi:TI} {g:TG} {tc:TT} {tk tv:TE} {pos:Pos}
end
section
variable {X:Cx} {pos:Pos}
end
section
variable {X:Cx}
end
section
variable {X:Cx} {pos:Pos} {K:PySem.W.Frag} {o i:Expr} {td ty:TE}
end
end L2
end
section
set_option Elab.async false
set_option linter.all false
set_option maxRecDepth 100000
set_option maxHeartbeats 4000000
namespace L2
open PySem PySem.Spec PyProof.Rows PySem.W
section
variable {prog:Program} {w:World} {K:Type} [DecidableEq K] {knd:HeapKind prog w K} {A:Around} {E:Value→Shared→Prop} {s:Shared} {d a:Addr} {xs:List (K × Addr × Value)} {k:K} {v:Value} {Q:Unit→Shared→Prop}
end
section
variable {X:Cx} {pos:Pos}
end
section
variable {X:Cx}
end
end L2
end
section
set_option Elab.async false
set_option linter.all false
set_option maxRecDepth 100000
set_option maxHeartbeats 4000000
namespace L2
open PySem PySem.Spec PyProof.Rows PySem.W
end L2
end
section
set_option autoImplicit true
set_option linter.all false
open PySem PySem.Spec PyProof.Rows
namespace L2
section
variable {X:Cx} {pos:Pos}
def cSeqI (K:PySem.W.Frag) (tl:TE):TI:=fun σ H R=>tl σ H fun x H1=>match x with | .ref a=>((∃ xs,SqL K H1 a xs)∧R (Itl K a) H1)∨((∃ xs,SqT K H1 a xs)∧R (Itt K a) H1) | _=>False
theorem qi_seq {tg l:Expr} {tl:TE} (hl:PE X l tl):PI X tg l (cSeqI X.K tl):=by
 intro pins s σ H R I h
 refine thn (hl pins s σ H _ I h) fun v s1 ⟨x,H1,I1,r1,q1⟩=>?_
 obtain⟨a,rfl,q⟩:∃ a,x = .ref a∧(((∃ xs,SqL X.K H1 a xs)∧R (Itl X.K a) H1)∨((∃ xs,SqT X.K H1 a xs)∧R (Itt X.K a) H1)):=by
  dsimp only at q1
  split at q1
  ·exact⟨_,rfl,q1⟩
  ·exact q1.elim
 cases r1
 rcases q with ⟨⟨xs,hq⟩,q⟩ | ⟨⟨xs,hq⟩,q⟩
 ·obtain⟨its,rv,p,hz⟩:=I1.list hq
  refine wpAny_pyIter_list p.isList ?_
  refine⟨s1.heap.objs.size,[s1.heap.objs.size],_,_,H1,rfl,I1.kept (t':=s1.toks) fun b o e=>Heap.get?_push_of_some _ e,turn_list a _,⟨_,Heap.get?_push_size _ rfl,rfl,rfl⟩,fun b hb=>?_,q⟩
  have e:b = s1.heap.objs.size:=by simpa using hb
  subst e
  exact I1.fpOk (Nat.le_refl _) (I1.hok.fresh (Nat.le_refl _))
 ·obtain⟨its,rv,p,hz⟩:=I1.tuple hq
  refine wpAny_pyIter_tuple (show s1.heap.IsTuple a its.toArray from p) ?_
  refine⟨s1.heap.objs.size,[s1.heap.objs.size],_,_,H1,rfl,I1.kept (t':=s1.toks) fun b o e=>Heap.get?_push_of_some _ e,turn_tuple a _,⟨_,Heap.get?_push_size _ rfl,rfl,rfl⟩,fun b hb=>?_,q⟩
  have e:b = s1.heap.objs.size:=by simpa using hb
  subst e
  exact I1.fpOk (Nat.le_refl _) (I1.hok.fresh (Nat.le_refl _))
theorem qi_seqK {K:PySem.W.Frag} {tg l:Expr} {tl:TE} (hK:X.K = K) (hl:PE X l tl):PI X tg l (cSeqI K tl):=hK ▸ qi_seq hl
end
end L2
end
section
set_option autoImplicit true
set_option linter.all false
namespace L2
open PySem PySem.Spec PyProof.Rows PySem.W
section
variable {X:Cx}
end
end L2
end
section
set_option autoImplicit true
set_option linter.all false
namespace L2
open PySem PySem.Spec PyProof.Rows PySem.W
section
variable {X:Cx}
def cIndexN:V→List V→Hp→VK→Prop:=fun x vs H Q=>match x,vs with
 | .ref l,[.int i]=>∃ ns:List Int,H l = some (.lst (ns.map V.int))∧i∈ns∧ns.length≤100∧Q (.int ((ns.idxOf i:Nat):Int)) H
 | _,_=>False
theorem q_indexN:MtR X "list.index" cIndexN:=by
 intro pins s σ H x vs v us Q I rx rv h
 unfold cIndexN at h
 split at h
 ·rename_i l i
  obtain⟨ns,hH,hi,hb,q⟩:=h
  cases rx
  obtain⟨u,rfl,ru⟩:=rv.one
  obtain⟨tk,rfl⟩:=ru
  obtain⟨z,its,n,r,hl,e⟩:=I.lstM hH
  have hl':=r.length
  rw [List.length_map] at hl'
  have hj:ns.idxOf i < ns.length:=List.idxOf_lt_length_iff.mpr hi
  have at':∀ (k:Nat) (y:Value),its.toArray[k]? = some y→∃ n t,ns[k]? = some n∧y = .int n t:=fun k y hy=>by
   rw [← Array.getElem?_toList,List.toList_toArray] at hy
   have hk:k < ns.length:=by rw [hl']; exact (List.getElem?_eq_some_iff.1 hy).1
   obtain⟨u,hu,ru⟩:=r.get (i:=k) (x:=V.int ns[k]) (by rw [List.getElem?_map,List.getElem?_eq_getElem hk]; rfl)
   rw [hy] at hu
   cases hu
   obtain⟨t,rfl⟩:=ru
   exact⟨_,t,List.getElem?_eq_getElem hk,rfl⟩
  let f:Value→Bool:=fun y=>match y with | .int n _=>n == i | _=>false
  have hs:its.toArray.size = ns.length:=by rw [List.size_toArray]; omega
  refine call_meets F.slot_list_index ⟨_,e,rfl⟩ F.entry_list_index (F.args_list_index_2 _ _) (SeqAt.list_indexAt l its.toArray n none #[] (.int i tk) f (ns.idxOf i) (by omega) (by omega) ?_ (fun m hm' hlt=>?_)) ⟨e,fun y hy=>?_,?_⟩
  ·obtain⟨n',t',h1,h2⟩:=at' (ns.idxOf i) _ (Array.getElem?_eq_getElem (by omega))
   rw [h2]
   show (n' == i) = true
   rw [List.getElem?_eq_getElem hj,List.getElem_idxOf] at h1
   cases h1
   exact beq_self_eq_true _
  ·obtain⟨n',t',h1,h2⟩:=at' m _ (Array.getElem?_eq_getElem hm')
   rw [h2]
   show (n' == i) = false
   rw [beq_eq_false_iff_ne]
   rintro rfl
   have hml:m < ns.length:=by omega
   rw [List.getElem?_eq_getElem hml] at h1
   have:=List.not_of_lt_findIdx (p:=(· == n')) (xs:=ns) hlt
   rw [Option.some.inj h1] at this
   simp at this
  ·obtain⟨k,hk⟩:=Array.getElem?_of_mem hy
   obtain⟨n',t',h1,rfl⟩:=at' k y hk
   exact SeqAt.EqAt.int_int n' t' i tk
  ·exact⟨.int _,H,I.tok _,⟨_,rfl⟩,q⟩
 ·exact h.elim
end
end L2
end
section
set_option autoImplicit true
set_option linter.all false
namespace L2
open PySem PySem.Spec PyProof.Rows PySem.W
section
variable {X:Cx}
abbrev DnL (H:Hp) (rs:List Addr) (ds:List DD):Prop:=All2 (fun a e=>Den H (.ref a) e) rs ds
theorem inL_ok {r:Nat} (hr:Room r X.A) {pins:List (Addr × Obj)} {σ:St} {H:Hp} {s:Shared} {x:V} {v:Value} {d:DD} {rs:List Addr} {ds:List DD} (I:Inv X pins σ H s) (rx:RelV x v) (hx:Den H x d) (hA:DnL H rs ds) (hd:∀ e∈ds,dep e≤50) :
  ∃ f:Value→Bool,(∀ y,y∈(rs.map Value.ref).toArray→SeqAt.EqAt X.A.in1 s y v (f y))∧∀ (i:Nat) a e,rs[i]? = some a→ds[i]? = some e→f (.ref a) = eqD e d:=by
 let f:Value→Bool:=fun u=>match u with
  | .ref a=>@decide (∃ e,Den H (.ref a) e∧eqD e d = true) (Classical.propDecidable _)
  | _=>false
 have hf:∀ a e,Den H (.ref a) e→f (.ref a) = eqD e d:=fun a e he=>by
  show @decide (∃ e,Den H (.ref a) e∧eqD e d = true) (Classical.propDecidable _) = _
  cases c:eqD e d with
  | true=>exact @decide_eq_true _ (Classical.propDecidable _) ⟨e,he,c⟩
  | false =>
   refine @decide_eq_false _ (Classical.propDecidable _) fun ⟨e',h1,h2⟩=>?_
   rw [Den.inj e' e h1 he,c] at h2
   cases h2
 refine⟨f,fun y hy=>?_,fun i a e ha he=>hf a e (hA.2 i a e ha he)⟩
 obtain⟨i,hi⟩:=List.getElem?_of_mem (show y∈rs.map Value.ref by simpa using hy)
 rw [List.getElem?_map] at hi
 obtain⟨a,ha,rfl⟩:=Option.map_eq_some_iff.1 hi
 obtain⟨e,he,hde⟩:=hA.at ha
 rw [hf a e hde]
 have hu:=hr.units
 exact (eq_all I 50 e d X.A.in1 (.ref a) x _ _ (hd e (List.mem_of_getElem? he)) hde hx rfl rx (by show X.A.units + 1 + 50 < cLine; omega)).1
theorem any_L {f:Value→Bool} {rs:List Addr} {ds:List DD} {d:DD} (hl:rs.length = ds.length) (h:∀ (i:Nat) a e,rs[i]? = some a→ds[i]? = some e→f (.ref a) = eqD e d):(rs.map Value.ref).toArray.any f = ds.any fun e=>eqD e d:=by
 rw [List.any_toArray,List.any_map]
 rw [Bool.eq_iff_iff,List.any_eq_true,List.any_eq_true]
 constructor
 ·rintro ⟨a,ha,h1⟩
  obtain⟨i,hi⟩:=List.getElem?_of_mem ha
  have hil:=(List.getElem?_eq_some_iff.1 hi).1
  have he:ds[i]? = some (ds[i]'(by omega)):=List.getElem?_eq_getElem _
  exact⟨_,List.mem_of_getElem? he,by rw [← h i a _ hi he]; exact h1⟩
 ·rintro ⟨e,he,h1⟩
  obtain⟨i,hi⟩:=List.getElem?_of_mem he
  have hil:=(List.getElem?_eq_some_iff.1 hi).1
  have ha:rs[i]? = some (rs[i]'(by omega)):=List.getElem?_eq_getElem _
  exact⟨_,List.mem_of_getElem? ha,(h i _ e ha hi).trans h1⟩
def cInL (neg:Bool):R2:=fun x y H Q=>match y with
 | .ref p=>∃ (rs:List Addr) (ds:List DD) (d:DD),H p = some (.lst (rs.map V.ref))∧DnL H rs ds∧Den H x d∧(∀ e∈ds,dep e≤50)∧Q (.bl (if neg then !(ds.any fun e=>eqD e d) else ds.any fun e=>eqD e d)) H
 | _=>False
theorem op_inL {r:Nat} (hr:Room r X.A):OpR X (compareOp .In) (cInL false):=by
 intro pins s σ H x y v u Q I rx ry h
 unfold cInL at h
 split at h
 ·rename_i p
  obtain⟨rs,ds,d,hp,hA,hx,hd,q⟩:=h
  cases ry
  obtain⟨its,rv,pl,hz⟩:=I.list (.inl (.inl hp))
  cases vals_refs rv
  obtain⟨f,h1,h2⟩:=inL_ok hr I rx hx hA hd
  refine SeqAt.in_listAt f pl.isList h1 ⟨.bl _,H,I,rfl,?_⟩
  rw [any_L hA.1 h2]
  exact q
 ·exact h.elim
theorem op_notInL {r:Nat} (hr:Room r X.A):OpR X (compareOp .NotIn) (cInL true):=by
 intro pins s σ H x y v u Q I rx ry h
 unfold cInL at h
 split at h
 ·rename_i p
  obtain⟨rs,ds,d,hp,hA,hx,hd,q⟩:=h
  cases ry
  obtain⟨its,rv,pl,hz⟩:=I.list (.inl (.inl hp))
  cases vals_refs rv
  obtain⟨f,h1,h2⟩:=inL_ok hr I rx hx hA hd
  refine SeqAt.notIn_listAt f pl.isList h1 ⟨.bl _,H,I,rfl,?_⟩
  rw [any_L hA.1 h2]
  exact q
 ·exact h.elim
def cIndexL:V→List V→Hp→VK→Prop:=fun x vs H Q=>match x,vs with
 | .ref l,[y]=>∃ (rs:List Addr) (ds:List DD) (d e:DD) (j:Nat),H l = some (.lst (rs.map V.ref))∧DnL H rs ds∧Den H y d∧(∀ e∈ds,dep e≤50)∧ds[j]? = some e∧eqD e d = true∧(∀ (m:Nat) e',m < j→ds[m]? = some e'→eqD e' d = false)∧ds.length≤1000∧Q (.int ((j:Nat):Int)) H
 | _,_=>False
theorem q_indexL {r:Nat} (hr:Room r X.A):MtR X "list.index" cIndexL:=by
 intro pins s σ H x vs v us Q I rx rv h
 unfold cIndexL at h
 split at h
 ·rename_i l y
  obtain⟨rs,ds,d,e,j,hH,hA,hy,hd,hj,hje,hm,hb,q⟩:=h
  cases rx
  obtain⟨u,rfl,ru⟩:=rv.one
  obtain⟨z,its,n,r,hl,eo⟩:=I.lstM hH
  cases vals_refs r
  obtain⟨f,h1,h2⟩:=inL_ok hr I ru hy hA hd
  have hlen:=hA.1
  have hjl:=(List.getElem?_eq_some_iff.1 hj).1
  have hs:(rs.map Value.ref).toArray.size = ds.length:=by rw [List.size_toArray,List.length_map]; omega
  have at':∀ (k:Nat) (hk:k < (rs.map Value.ref).toArray.size) e',ds[k]? = some e'→f (rs.map Value.ref).toArray[k] = eqD e' d:=fun k hk e' he'=>by
   have hk':k < rs.length:=by omega
   rw [← h2 k rs[k] e' (List.getElem?_eq_getElem hk') he']
   simp
  refine call_meets F.slot_list_index ⟨_,eo,rfl⟩ F.entry_list_index (F.args_list_index_2 _ _) (SeqAt.list_indexAt l (rs.map Value.ref).toArray n none #[] u f j (by omega) (by omega) ((at' j (by omega) e hj).trans hje) (fun m hm' hlt=>?_)) ⟨eo,h1,?_⟩
  ·rw [at' m hm' _ (List.getElem?_eq_getElem (by omega))]
   exact hm m _ hlt (List.getElem?_eq_getElem (by omega))
  ·exact⟨.int _,H,I.tok _,⟨_,rfl⟩,q⟩
 ·exact h.elim
end
end L2
end
namespace Law
open PySem PySem.Spec PyProof.Rows L2
local macro_rules | `(tactic| walk_at "o") => `(tactic| first | exact Or.inl rfl | exact Or.inr rfl)
local macro_rules | `(tactic| walk_at "w") => `(tactic| conv => whnf)
local macro_rules | `(tactic| walk_at "hp") => `(tactic| (repeat (first | assumption | exact upd_same | refine keepN ?_ (by assumption))))
local macro_rules | `(tactic| walk_at "frees") => `(tactic| (repeat ((conv => whnf); first | exact True.intro | refine ⟨Or.inl rfl, ?_⟩ | refine ⟨Or.inr rfl, ?_⟩ | refine ⟨⟨rfl, Or.inl rfl⟩, ?_⟩ | refine ⟨⟨rfl, Or.inr rfl⟩, ?_⟩)))
local macro_rules | `(tactic| walk_at "comp_ok") => `(tactic| exact ⟨rfl, by decide +kernel, by decide +kernel, by walk_at "frees", by walk_at "frees"⟩)
def top (i:Nat):Stmt:=PySem.Challenge.pw_endnever_k54_like_ones_and_groups.main.body.getD i (.Pass ⟨0,0,0,0⟩)
abbrev s_l_mixed:Stmt:=top 20
abbrev s_l_draw:Stmt:=top 22
abbrev s_l_purse:Stmt:=top 21
abbrev s_is_entry:Stmt:=top 7
abbrev s_is_row:Stmt:=top 8
abbrev s_is_machine:Stmt:=top 9
abbrev s_must_machine:Stmt:=top 10
abbrev s_orders:Stmt:=top 12
abbrev s_namings:Stmt:=top 13
abbrev s_named_entry:Stmt:=top 14
abbrev s_named:Stmt:=top 15
abbrev s_least_form:Stmt:=top 16
abbrev s_are_alike:Stmt:=top 17
abbrev s_groups:Stmt:=top 18
abbrev s_l_machine:Stmt:=top 23
abbrev s_l_copy:Stmt:=top 24
abbrev s_l_plainly:Stmt:=top 25
abbrev s_l_order:Stmt:=top 26
abbrev s_l_named:Stmt:=top 27
abbrev s_l_like:Stmt:=top 28
abbrev s_l_next:Stmt:=top 29
abbrev s_law:Stmt:=top 30
theorem us1 {P:List Value→Prop} (h:∀ v0,P [v0]):∀ us:List Value,us.length = 1→P us
 | [v0],_=>h v0
theorem us2 {P:List Value→Prop} (h:∀ v0 v1,P [v0,v1]):∀ us:List Value,us.length = 2→P us
 | [v0,v1],_=>h v0 v1
theorem us3 {P:List Value→Prop} (h:∀ v0 v1 v2,P [v0,v1,v2]):∀ us:List Value,us.length = 3→P us
 | [v0,v1,v2],_=>h v0 v1 v2
theorem us4 {P:List Value→Prop} (h:∀ v0 v1 v2 v3,P [v0,v1,v2,v3]):∀ us:List Value,us.length = 4→P us
 | [v0,v1,v2,v3],_=>h v0 v1 v2 v3
set_option genInjectivity false in
set_option genSizeOf false in
structure Ad where
 l_mixed:Addr
 l_mixed_d:FuncData
 l_draw:Addr
 l_draw_d:FuncData
 l_purse:Addr
 l_purse_d:FuncData
 is_entry:Addr
 is_entry_d:FuncData
 is_row:Addr
 is_row_d:FuncData
 is_machine:Addr
 is_machine_d:FuncData
 must_machine:Addr
 must_machine_d:FuncData
 orders:Addr
 orders_d:FuncData
 namings:Addr
 namings_d:FuncData
 named_entry:Addr
 named_entry_d:FuncData
 named:Addr
 named_d:FuncData
 least_form:Addr
 least_form_d:FuncData
 are_alike:Addr
 are_alike_d:FuncData
 groups:Addr
 groups_d:FuncData
 l_machine:Addr
 l_machine_d:FuncData
 l_copy:Addr
 l_copy_d:FuncData
 l_plainly:Addr
 l_plainly_d:FuncData
 l_order:Addr
 l_order_d:FuncData
 l_named:Addr
 l_named_d:FuncData
 l_like:Addr
 l_like_d:FuncData
 l_next:Addr
 l_next_d:FuncData
 law:Addr
 law_d:FuncData
 MillError:Addr
 NoMachine:Addr
structure Tx (K:PySem.W.Frag) (mg:Str→Option Value) (a:Ad):Prop where
 f_l_mixed:Fun K "_law_mixed" "_law_mixed" s_l_mixed a.l_mixed a.l_mixed_d
 b_l_mixed:Binds K a.l_mixed_d ["_law_cell","_law_k"] []
 g_l_mixed:mg "_law_mixed" = some (.ref a.l_mixed)
 f_l_draw:Fun K "_law_draw" "_law_draw" s_l_draw a.l_draw a.l_draw_d
 b_l_draw:Binds K a.l_draw_d ["_law_purse_here","_law_out_of"] []
 g_l_draw:mg "_law_draw" = some (.ref a.l_draw)
 f_l_purse:Fun K "_law_purse" "_law_purse" s_l_purse a.l_purse a.l_purse_d
 b_l_purse:Binds K a.l_purse_d ["_law_script"] []
 g_l_purse:mg "_law_purse" = some (.ref a.l_purse)
 f_is_entry:Fun K "is_entry" "is_entry" s_is_entry a.is_entry a.is_entry_d
 b_is_entry:Binds K a.is_entry_d ["entry","rows","signs"] []
 g_is_entry:mg "is_entry" = some (.ref a.is_entry)
 f_is_row:Fun K "is_row" "is_row" s_is_row a.is_row a.is_row_d
 b_is_row:Binds K a.is_row_d ["row","rows","signs"] []
 g_is_row:mg "is_row" = some (.ref a.is_row)
 f_is_machine:Fun K "is_machine" "is_machine" s_is_machine a.is_machine a.is_machine_d
 b_is_machine:Binds K a.is_machine_d ["machine"] []
 g_is_machine:mg "is_machine" = some (.ref a.is_machine)
 f_must_machine:Fun K "must_machine" "must_machine" s_must_machine a.must_machine a.must_machine_d
 b_must_machine:Binds K a.must_machine_d ["machine"] []
 g_must_machine:mg "must_machine" = some (.ref a.must_machine)
 f_orders:Fun K "orders" "orders" s_orders a.orders a.orders_d
 b_orders:Binds K a.orders_d ["things"] []
 g_orders:mg "orders" = some (.ref a.orders)
 f_namings:Fun K "namings" "namings" s_namings a.namings a.namings_d
 b_namings:Binds K a.namings_d ["many"] []
 g_namings:mg "namings" = some (.ref a.namings)
 f_named_entry:Fun K "named_entry" "named_entry" s_named_entry a.named_entry a.named_entry_d
 b_named_entry:Binds K a.named_entry_d ["entry","row_names","sign_names","turn"] []
 g_named_entry:mg "named_entry" = some (.ref a.named_entry)
 f_named:Fun K "named" "named" s_named a.named a.named_d
 b_named:Binds K a.named_d ["machine","row_names","sign_names","turn"] []
 g_named:mg "named" = some (.ref a.named)
 f_least_form:Fun K "least_form" "least_form" s_least_form a.least_form a.least_form_d
 b_least_form:Binds K a.least_form_d ["machine"] []
 g_least_form:mg "least_form" = some (.ref a.least_form)
 f_are_alike:Fun K "are_alike" "are_alike" s_are_alike a.are_alike a.are_alike_d
 b_are_alike:Binds K a.are_alike_d ["one","other"] []
 g_are_alike:mg "are_alike" = some (.ref a.are_alike)
 f_groups:Fun K "groups" "groups" s_groups a.groups a.groups_d
 b_groups:Binds K a.groups_d ["machines"] []
 g_groups:mg "groups" = some (.ref a.groups)
 f_l_machine:Fun K "_law_machine" "_law_machine" s_l_machine a.l_machine a.l_machine_d
 b_l_machine:Binds K a.l_machine_d ["_law_purse_here","_law_rows","_law_signs"] []
 g_l_machine:mg "_law_machine" = some (.ref a.l_machine)
 f_l_copy:Fun K "_law_copy" "_law_copy" s_l_copy a.l_copy a.l_copy_d
 b_l_copy:Binds K a.l_copy_d ["_law_machine_here"] []
 g_l_copy:mg "_law_copy" = some (.ref a.l_copy)
 f_l_plainly:Fun K "_law_plainly" "_law_plainly" s_l_plainly a.l_plainly a.l_plainly_d
 b_l_plainly:Binds K a.l_plainly_d ["_law_found"] []
 g_l_plainly:mg "_law_plainly" = some (.ref a.l_plainly)
 f_l_order:Fun K "_law_order" "_law_order" s_l_order a.l_order a.l_order_d
 b_l_order:Binds K a.l_order_d ["_law_purse_here","_law_many"] []
 g_l_order:mg "_law_order" = some (.ref a.l_order)
 f_l_named:Fun K "_law_named" "_law_named" s_l_named a.l_named a.l_named_d
 b_l_named:Binds K a.l_named_d ["_law_machine_here","_law_rows","_law_signs","_law_side"] []
 g_l_named:mg "_law_named" = some (.ref a.l_named)
 f_l_like:Fun K "_law_like" "_law_like" s_l_like a.l_like a.l_like_d
 b_l_like:Binds K a.l_like_d ["_law_purse_here","_law_machine_here"] []
 g_l_like:mg "_law_like" = some (.ref a.l_like)
 f_l_next:Fun K "_law_next" "_law_next" s_l_next a.l_next a.l_next_d
 b_l_next:Binds K a.l_next_d ["_law_purse_here","_law_machines"] []
 g_l_next:mg "_law_next" = some (.ref a.l_next)
 f_law:Fun K "law" "law" s_law a.law a.law_d
 b_law:Binds K a.law_d ["_law_script"] []
 g_law:mg "law" = some (.ref a.law)
 e_MillError:ExK K a.MillError
 t_MillError:ExC K a.MillError
 g_MillError:mg "MillError" = some (.ref a.MillError)
 m_MillError:ExM K a.MillError ([.ref a.MillError])
 e_NoMachine:ExK K a.NoMachine
 t_NoMachine:ExC K a.NoMachine
 g_NoMachine:mg "NoMachine" = some (.ref a.NoMachine)
 m_NoMachine:ExM K a.NoMachine ([.ref a.NoMachine,.ref a.MillError])
 c_MOST_ROWS:CV mg "MOST_ROWS" (.int 4)
 c_LEAST_SIGNS:CV mg "LEAST_SIGNS" (.int 2)
 c_MOST_SIGNS:CV mg "MOST_SIGNS" (.int 4)
 z_ValueError:mg "ValueError" = none
 z_abs:mg "abs" = none
 z_all:mg "all" = none
 z_bool:mg "bool" = none
 z_dict:mg "dict" = none
 z_enumerate:mg "enumerate" = none
 z_int:mg "int" = none
 z_isinstance:mg "isinstance" = none
 z_len:mg "len" = none
 z_list:mg "list" = none
 z_max:mg "max" = none
 z_min:mg "min" = none
 z_range:mg "range" = none
 z_sorted:mg "sorted" = none
 z_str:mg "str" = none
 z_tuple:mg "tuple" = none
 z_zip:mg "zip" = none
 ex_nd:[a.MillError,a.NoMachine].Nodup
section
variable {P:Program} {w:World} {K:PySem.W.Frag} {mg:Str→Option Value} {base:Heap} {a:Ad}
theorem sc_l_mixed:FnScope ["_law_cell","_law_k","_law_rest","_law_number"] ["_law_cell","_law_k"] (defScope s_l_mixed):=⟨rfl,rfl,rfl,by decide +kernel,rfl,by decide +kernel,by decide +kernel⟩
def sp_mixed:Sp:=fun vs H Q _=>match vs with
 | [.int _,.int k]=>(0≤k∧k≤1000)∧∀ (n:Int),0≤n→n < 2147483587→Q (.int n) H
 | _=>False
theorem ok_l_mixed (T:Tx K mg a):FnOk P w K mg base CX0 1 a.l_mixed a.l_mixed_d ["_law_cell","_law_k"] (sp_mixed):=by
 refine T.f_l_mixed.ok sc_l_mixed (fun vs H Q E h=>?_) (fun cdv A outer s H vs Q E hr h=>?_)
 ·unfold sp_mixed at h
  split at h
  ·rfl
  ·exact h.elim
 ·unfold sp_mixed at h
  split at h
  ·have nd:=sc_l_mixed.nd
   have hu:=hu_of hr
   rename_i c k
   refine⟨_,(pss_cons (ps_set (i:=2) nd rfl (by walk_at "o") (pe_op q_mod (qv 0) (pe_op q_pow pe_int pe_int)))
  (pss_cons (ps_set (i:=3) nd rfl (by walk_at "o") (pe_op q_mod (pe_op q_mul (pe_op q_add (pe_op q_add (pe_op q_add (pe_op q_mul (qv 2) (qv 2)) (pe_op q_mul pe_int (qv 2))) (pe_op q_mul pe_int (qv 1))) pe_int) pe_int) pe_int))
  (pss_cons (ps_set (i:=3) nd rfl (by walk_at "o") (pe_op q_mod (pe_op q_add (pe_op q_mul (qv 3) (qv 3)) pe_int) pe_int))
  (pss_one (ps_ret (pe_op q_mod (pe_op q_mul (qv 3) (pe_op q_add (qv 3) pe_int)) pe_int)))))),?_⟩
   refine⟨cpow (by decide),fun p hp _=>?_⟩
   have hp:p = 1000000000000000:=by rw [hp]; decide
   refine⟨by show (0:Int) < _; omega,fun r _ ⟨r0,r1⟩=>?_⟩
   refine⟨.inl ⟨by omega,by omega⟩,fun m1 _ _=>?_⟩
   refine⟨.inl ⟨by omega,by omega⟩,fun m2 _ _=>?_⟩
   refine⟨.inl ⟨by omega,by omega⟩,fun m3 _ _=>?_⟩
   refine⟨.inr ⟨by omega,by omega⟩,fun m4 _ _=>?_⟩
   refine⟨by show (0:Int) < _; decide,fun m5 _ ⟨a0,a1⟩=>?_⟩
   refine⟨.inl ⟨by omega,by omega⟩,fun m6 _ _=>?_⟩
   refine⟨by show (0:Int) < _; decide,fun m7 _ ⟨b0,b1⟩=>?_⟩
   refine⟨.inl ⟨by omega,by omega⟩,fun m8 _ _=>?_⟩
   refine⟨by show (0:Int) < _; decide,fun m9 _ ⟨c0,c1⟩=>?_⟩
   exact h.2 _ c0 (by omega)
  ·exact h.elim
theorem sc_l_draw:FnScope ["_law_purse_here","_law_out_of","_law_drawn"] ["_law_purse_here","_law_out_of"] (defScope s_l_draw):=⟨rfl,rfl,rfl,by decide +kernel,rfl,by decide +kernel,by decide +kernel⟩
def sp_draw:Sp:=fun vs H Q _=>match vs with
 | [.ref b,.int k]=>(0 < k∧k.natAbs.log2 < 9000)∧∃ n m,H b = some (.lst [.int n,.int m])∧∀ d n':Int,0≤d→d < k→Q (.int d) (upd H b (.lst [.int n',.int m]))
 | _=>False
theorem ok_l_draw (T:Tx K mg a):FnOk P w K mg base CX0 1 a.l_draw a.l_draw_d ["_law_purse_here","_law_out_of"] (sp_draw):=by
 refine T.f_l_draw.ok sc_l_draw (fun vs H Q E h=>?_) (fun cdv A outer s H vs Q E hr h=>?_)
 ·unfold sp_draw at h
  split at h
  ·rfl
  ·exact h.elim
 ·unfold sp_draw at h
  split at h
  ·have nd:=sc_l_draw.nd
   have hu:=hu_of hr
   rename_i b k
   obtain⟨hk,n,m,hb,h⟩:=h
   refine⟨_,(pss_cons (ps_c (pt_c q_eq (pe_ix (q_ixLK (K:=K) rfl) (qv 0) pe_int (fun _ _=>rfl)) pe_int) (pss_one (ps_asg (pe_ix (q_ixLK (K:=K) rfl) (qv 0) pe_int (fun _ _=>rfl)) (pg_sub (qv 0) pe_int q_setL))) pss_nil)
  (pss_cons (ps_set (i:=2) nd rfl (by walk_at "o") (pe_op q_mod (pe_ix (q_ixLK (K:=K) rfl) (qv 0) pe_int (fun _ _=>rfl)) (qv 1)))
  (pss_cons (ps_asg (pe_op q_fdiv (pe_ix (q_ixLK (K:=K) rfl) (qv 0) pe_int (fun _ _=>rfl)) (qv 1)) (pg_sub (qv 0) pe_int q_setL))
  (pss_one (ps_ret (qv 2)))))),?_⟩
   refine⟨_,_,SqL.of hb,rfl,?_⟩
   walk_at "w"
   have fin:∀ (n1:Int) (H1:Hp),H1 b = some (.lst [.int n1,.int m])→(∀ n',upd H1 b (.lst [.int n',.int m]) = upd H b (.lst [.int n',.int m])) →
     ∃ xs v,SqL K H1 b xs∧atI xs 0 = some v∧(cL CMod (fun i j=>i % j) fun _ j m=>0≤m∧m < j) v (.int k) H1 fun x H2 =>
      ∃ xs v,SqL K H2 b xs∧atI xs 0 = some v∧(cL CFdiv (fun i j=>i / j) fun _ _ _=>True) v (.int k) H2 fun y H3=>cSetL (.ref b) (.int 0) y H3 fun H4=>Q x H4:=by
    intro n1 H1 h1 he
    refine⟨_,_,SqL.of h1,rfl,hk.1,fun d _ ⟨d0,d1⟩=>⟨_,_,SqL.of h1,rfl,hk,fun q _ _=>⟨_,0,h1,rfl,?_⟩⟩⟩
    show Q (.int d) (upd H1 b (.lst [.int q,.int m]))
    rw [he]
    exact h d q d0 d1
   refine ifB.mk (fun _=>?_) (fun _=>?_)
   ·walk_at "w"
    refine⟨_,_,SqL.of hb,rfl,?_⟩
    refine⟨_,0,hb,rfl,?_⟩
    exact fin m _ upd_same fun n'=>upd_upd
   ·exact fin n H hb fun n'=>rfl
  ·exact h.elim
theorem sc_l_purse:FnScope ["_law_script","_law_cells","_law_number","_law_k"] ["_law_script"] (defScope s_l_purse):=⟨rfl,rfl,rfl,by decide +kernel,rfl,by decide +kernel,by decide +kernel⟩
def sp_purse (K:PySem.W.Frag):Sp:=fun vs H Q _=>match vs with
 | [.ref b]=>∃ ns:List Int,SqL K H b (ns.map V.int)∧ns.length≤63∧∀ (p:Addr) (H':Hp) (n m:Int),Sub H H'→H p = none→H' p = some (.lst [.int n,.int m])→Q (.ref p) H'
 | _=>False
theorem cut63 (ns:List Int):∃ ms:List Int,cutV (ns.map V.int) none (some 63) = ms.map V.int∧ms.length≤63:=by
 unfold cutV
 rw [List.length_map]
 refine⟨(ns.drop (HT.sIx ns.length 0 none)).take (HT.sIx ns.length ns.length (some 63) - HT.sIx ns.length 0 none),?_,?_⟩
 ·rw [List.map_take,List.map_drop]
 ·rw [List.length_take]
  have:HT.sIx ns.length ns.length (some ((63:Nat):Int)) = min 63 ns.length:=HT.sIx_nat _ _ _
  have e:((63:Nat):Int) = (63:Int):=rfl
  rw [e] at this
  rw [this]
  omega
theorem atI_mod {vs:List V} {ns:List Int} (e:vs = ns.map V.int) {i:Int} (h0:0≤i) (h1:i < vs.length):∃ n:Int,atI vs i = some (.int n):=by
 subst e
 unfold atI ixN
 rw [if_pos h0,if_pos h1,Option.bind_some]
 have hl:i.toNat < ns.length:=by rw [List.length_map] at h1; omega
 exact⟨ns[i.toNat],by rw [List.getElem?_map,List.getElem?_eq_getElem hl]; rfl⟩
theorem ok_l_purse (T:Tx K mg a):FnOk P w K mg base CX0 2 a.l_purse a.l_purse_d ["_law_script"] (sp_purse K):=by
 have G_l_mixed:=ok_l_mixed (P:=P) (w:=w) (base:=base) T
 refine T.f_l_purse.ok sc_l_purse (fun vs H Q E h=>?_) (fun cdv A outer s H vs Q E hr h=>?_)
 ·unfold sp_purse at h
  split at h
  ·rfl
  ·exact h.elim
 ·unfold sp_purse at h
  split at h
  ·have nd:=sc_l_purse.nd
   have hu:=hu_of hr
   rename_i b
   obtain⟨ns,hS,hlen,h⟩:=h
   obtain⟨ms,hms,hml⟩:=cut63 ns
   refine⟨_,(pss_cons (ps_set (i:=1) nd rfl (by walk_at "o") (pe_op q_cat (pe_slice (q_slLK (K:=K) rfl) (qv 0) po_none (qo_some pe_int)) (pe_lst (pa_cons pe_int pa_nil))))
  (pss_cons (ps_set (i:=2) nd rfl (by walk_at "o") pe_int)
  (pss_cons (ps_for PassesOwn.never rfl (qi_range1 rfl T.z_range (pa_cons pe_int pa_nil)) (pg_name (i:=3) nd rfl (by walk_at "o")) (pss_one (ps_set (i:=2) nd rfl (by walk_at "o") (pe_op q_add (pe_op q_mul (qv 2) pe_int) (pe_call G_l_mixed (hr.mono (by decide)) rfl T.g_l_mixed T.f_l_mixed.kp T.b_l_mixed .nil pass0 (pa_cons (pe_ix (q_ixLK (K:=K) rfl) (qv 1) (pe_op q_mod (qv 3) (pe_callB (q_lenK (K:=K) rfl) rfl T.z_len bt_len (pa_cons (qv 1) pa_nil))) (fun _ _=>rfl)) (pa_cons (qv 3) pa_nil)))))))
  (pss_cons (ps_c (pt_c q_ge (pe_ix (q_ixLK (K:=K) rfl) (qv 1) pe_int (fun _ _=>rfl)) (pe_op q_pow pe_int pe_int)) (pss_one (ps_ret (pe_lst (pa_cons (pe_op q_fdiv (pe_ix (q_ixLK (K:=K) rfl) (qv 1) pe_int (fun _ _=>rfl)) (pe_op q_pow pe_int pe_int)) (pa_cons (qv 2) pa_nil))))) pss_nil)
  (pss_one (ps_ret (pe_lst (pa_cons (qv 2) (pa_cons (qv 2) pa_nil))))))))),?_⟩
   refine⟨_,hS,fun p1 n1=>?_⟩
   rw [hms]
   refine⟨by show 1≤sizeLine; decide,fun p2 n2=>?_⟩
   refine⟨_,_,keepN upd_same n2,upd_same,by rw [List.length_map]; show ms.length + 1≤sizeLine; exact Nat.le_trans (Nat.add_le_add_right hml 1) (by decide),fun p3 n3=>?_⟩
   have e3:ms.map V.int ++ [.int 0] = (ms ++ [0]).map V.int:=by rw [List.map_append]; rfl
   have el:((ms ++ [0]).map V.int).length = ms.length + 1:=by simp
   rw [e3]
   have sub3:Sub H (upd (upd (upd H p1 (.lst (ms.map V.int))) p2 (.lst [.int 0])) p3 (.lst ((ms ++ [0]).map V.int))) :=
    ((Sub.new n1).trans (Sub.new n2)).trans (Sub.new n3)
   have h3:(upd (upd (upd H p1 (.lst (ms.map V.int))) p2 (.lst [.int 0])) p3 (.lst ((ms ++ [0]).map V.int))) p3 = some (.lst ((ms ++ [0]).map V.int)):=upd_same
   generalize (upd (upd (upd H p1 (.lst (ms.map V.int))) p2 (.lst [.int 0])) p3 (.lst ((ms ++ [0]).map V.int))) = H3 at sub3 h3 ⊢
   refine⟨⟨by decide,by decide⟩,?_⟩
   refine for_range (lo:=0) (n:=(150:Int).toNat) (fun _ σ H4=>∃ (n:Int) (v:Option V),σ = [some (.ref b),some (.ref p3),some (.int n),v]∧H4 = H3) ⟨1,none,rfl,rfl⟩ ?_ ?_
   ·rintro i σ H4 hi ⟨n,v,rfl,rfl⟩
    have hi:i < 150:=hi
    refine⟨.inr ⟨by decide,by decide⟩,fun m1 _ _=>?_⟩
    refine⟨_,.inl (SqL.of h3),?_⟩
    walk_at "w"
    rw [el]
    refine⟨by show (0:Int) < _; omega,fun r _ ⟨r0,r1⟩=>?_⟩
    obtain⟨c,hc⟩:=atI_mod (i:=r) (rfl:(ms ++ [0]).map V.int = _) r0 (by rw [el]; omega)
    refine⟨_,_,SqL.of h3,hc,?_⟩
    refine⟨⟨by omega,by omega⟩,fun k _ _=>?_⟩
    exact⟨_,_,rfl,rfl⟩
   ·rintro σ H4 ⟨n,v,rfl,rfl⟩
    obtain⟨c,hc⟩:=atI_mod (i:=0) (rfl:(ms ++ [0]).map V.int = _) (by decide) (by rw [el]; omega)
    refine⟨_,_,SqL.of h3,hc,?_⟩
    refine⟨cpow (by decide),fun m2 _ _=>?_⟩
    walk_at "w"
    refine ifB.mk (fun _=>?_) (fun _=>?_)
    ·walk_at "w"
     refine⟨_,_,SqL.of h3,hc,?_⟩
     refine⟨cpow (by decide),fun m3 hm3 _=>?_⟩
     have hm3:m3 = 10 ^ 18:=hm3
     refine⟨⟨by rw [hm3]; decide,by rw [hm3]; exact Nat.lt_trans ((Nat.log2_lt (by decide)).2 (show (10 ^ 18:Int).natAbs < 2 ^ 60 by decide)) (by decide)⟩,fun m4 _ _=>?_⟩
     refine⟨by show 2≤sizeLine; decide,fun p4 n4=>?_⟩
     exact h p4 _ _ _ (sub3.trans (Sub.new n4)) (sub3.free n4) upd_same
    ·walk_at "w"
     refine⟨by show 2≤sizeLine; decide,fun p4 n4=>?_⟩
     exact h p4 _ _ _ (sub3.trans (Sub.new n4)) (sub3.free n4) upd_same
  ·exact h.elim
theorem sc_is_entry:FnScope ["entry","rows","signs","sign","way","row"] ["entry","rows","signs"] (defScope s_is_entry):=⟨rfl,rfl,rfl,by decide +kernel,rfl,by decide +kernel,by decide +kernel⟩
def sp_is_entry:Sp:=fun vs H Q _=>match vs with
 | [.ref b,.int rows,.int signs]=>∃ e:En,Ent H b e∧∀ H',Sub H H'→Q (.bl (entryOk rows signs e)) H'
 | _=>False
theorem ent_at {K:PySem.W.Frag} {H:Hp} {b:Addr} {e:En} (h:Ent H b e):SqT K H b (e.map V.int):=SqT.of h
theorem in_two {y:Int}:(decide (y = -1) || decide (y = 1)) = inV (.int y) [.int (-1),.int 1]:=by
 unfold inV
 simp only [List.any_cons,List.any_nil,eqV,Bool.or_false]
 by_cases h1:y = -1
 ·subst h1; rfl
 ·by_cases h2:y = 1
  ·subst h2; rfl
  ·have h3:¬ (-1 = y):=fun e=>h1 e.symm
   have h4:¬ (1 = y):=fun e=>h2 e.symm
   simp [h1,h2,h3,h4]
theorem ok_is_entry (T:Tx K mg a):FnOk P w K mg base CX0 1 a.is_entry a.is_entry_d ["entry","rows","signs"] (sp_is_entry):=by
 refine T.f_is_entry.ok sc_is_entry (fun vs H Q E h=>?_) (fun cdv A outer s H vs Q E hr h=>?_)
 ·unfold sp_is_entry at h
  split at h
  ·rfl
  ·exact h.elim
 ·unfold sp_is_entry at h
  split at h
  ·have nd:=sc_is_entry.nd
   have hu:=hu_of hr
   rename_i b rows signs
   obtain⟨e,hb,h⟩:=h
   refine⟨_,(pss_cons (ps_c (pt_c q_eq (pe_callB (q_lenK (K:=K) rfl) rfl T.z_len bt_len (pa_cons (qv 0) pa_nil)) pe_int) (pss_one (ps_ret pe_bl)) pss_nil)
  (pss_cons (ps_c (pt_c q_ne (pe_callB (q_lenK (K:=K) rfl) rfl T.z_len bt_len (pa_cons (qv 0) pa_nil)) pe_int) (pss_one (ps_ret pe_bl)) pss_nil)
  (pss_cons (ps_asg (qv 0) (qg_tupK (K:=K) (n:=3) rfl rfl (qgs_cons (pg_name (i:=3) nd rfl (by walk_at "o")) (qgs_cons (pg_name (i:=4) nd rfl (by walk_at "o")) (qgs_cons (pg_name (i:=5) nd rfl (by walk_at "o")) qgs_nil)))))
  (pss_one (ps_ret (pe_andC (pe_ch q_le q_lt pe_int (qv 3) (qv 2)) (pe_andC (pe_cmpR (q_inK (K:=K) rfl) (qv 4) (pe_tup (pa_cons (pe_un q_neg pe_int) (pa_cons pe_int pa_nil))) (by first | exact nomark _ | rfl)) (pe_one (pe_ch q_le q_lt pe_int (qv 5) (qv 1)))))))))),?_⟩
   refine⟨_,.inr (ent_at hb),?_⟩
   walk_at "w"
   refine ifB.dec (fun h0=>?_) (fun h0=>?_)
   ·have e0:e = []:=by cases e with
     | nil=>rfl
     | cons x r=>simp at h0; omega
    subst e0
    exact h H Sub.refl
   ·walk_at "w"
    refine⟨_,.inr (ent_at hb),?_⟩
    walk_at "w"
    refine ifB.mk (fun h3=>?_) (fun h3=>?_)
    ·have:entryOk rows signs e = false:=by
      match e,h0,h3 with
      | [],h0,_=>simp at h0
      | [_],_,_=>rfl
      | [_,_],_,_=>rfl
      | [_,_,_],_,h3=>simp at h3
      | _ :: _ :: _ :: _ :: _,_,_=>rfl
     have h:=h H Sub.refl
     rw [this] at h
     exact h
    ·obtain⟨x,y,z,rfl⟩:∃ x y z,e = [x,y,z]:=by
      match e,h3 with
      | [],h3=>simp at h3
      | [_],h3=>simp at h3
      | [_,_],h3=>simp at h3
      | [x,y,z],_=>exact⟨x,y,z,rfl⟩
      | _ :: _ :: _ :: _ :: _,h3=>simp at h3; omega
     refine⟨_,ent_at hb,rfl,?_⟩
     walk_at "w"
     have fin:∀ (c:Bool) (H':Hp),Sub H H'→entryOk rows signs [x,y,z] = c→Q (.bl c) H':=fun c H' S e=>e ▸ h H' S
     have hd:entryOk rows signs [x,y,z] = ((decide (0≤x) && decide (x < signs)) && (decide (y = -1) || decide (y = 1)) && (decide (0≤z) && decide (z < rows))):=rfl
     refine ifB.dec (fun h1=>?_) (fun h1=>?_)
     ·walk_at "w"
      refine ifB.dec (fun h2=>?_) (fun h2=>?_)
      ·walk_at "w"
       refine⟨by show 2≤sizeLine; decide,?_⟩
       intro p1 n1
       generalize hU1:upd _ p1 _ = H1
       have S1:=(upd_sub n1 hU1).1
       have e1:=(upd_sub n1 hU1).2
       clear hU1
       refine⟨_,.inr (SqT.of e1),rfl,rfl,?_⟩
       walk_at "w"
       refine ifB.mk (fun h3=>?_) (fun h3=>?_)
       ·have h3:(decide (y = -1) || decide (y = 1)) = true:=by rw [← h3]; exact in_two
        walk_at "w"
        refine ifB.dec (fun h4=>?_) (fun h4=>?_)
        ·exact fin _ _ S1 (by rw [hd,h3]; simp [h1,h2,h4])
        ·exact fin _ _ S1 (by rw [hd,h3]; simp [h1,h2,h4])
       ·have h3:(decide (y = -1) || decide (y = 1)) = false:=by rw [← h3]; exact in_two
        exact fin _ _ S1 (by rw [hd,h3]; simp)
      ·exact fin _ _ Sub.refl (by rw [hd]; simp [h2])
     ·walk_at "w"
      refine ifB.no rfl ?_
      exact fin false _ Sub.refl (by rw [hd]; simp [h1])
  ·exact h.elim
theorem sc_is_row:FnScope ["row","rows","signs"] ["row","rows","signs"] (defScope s_is_row):=⟨rfl,rfl,rfl,by decide +kernel,rfl,by decide +kernel,by decide +kernel⟩
def sp_is_row:Sp:=fun vs H Q _=>match vs with
 | [.ref b,.int rows,.int signs]=>∃ es:List En,Row H b es∧es.length≤100∧∀ H',Sub H H'→Q (.bl (rowOk rows signs es)) H'
 | _=>False
theorem all_id (f:α→Bool) (l:List α):(l.map f).all id = l.all f:=by rw [List.all_map]; rfl
theorem ok_is_row (T:Tx K mg a):FnOk P w K mg base CX0 2 a.is_row a.is_row_d ["row","rows","signs"] (sp_is_row):=by
 have G_is_entry:=ok_is_entry (P:=P) (w:=w) (base:=base) T
 refine T.f_is_row.ok sc_is_row (fun vs H Q E h=>?_) (fun cdv A outer s H vs Q E hr h=>?_)
 ·unfold sp_is_row at h
  split at h
  ·rfl
  ·exact h.elim
 ·unfold sp_is_row at h
  split at h
  ·have nd:=sc_is_row.nd
   have hu:=hu_of hr
   rename_i b rows signs
   obtain⟨es,⟨as,hb,ha⟩,hlen,h⟩:=h
   refine⟨_,(pss_one (ps_ret (pe_andC (pe_cmpR q_eq (pe_callB (q_lenK (K:=K) rfl) rfl T.z_len bt_len (pa_cons (qv 0) pa_nil)) (qv 2) (by first | exact nomark _ | rfl)) (pe_one (pe_callB (q_allK (K:=K) rfl rfl) rfl T.z_all bt_all (pa_cons (pe_lc (own:=["entry"]) (fr:=[1,2]) rfl (by walk_at "comp_ok") (qi_listK (K:=K) rfl (qv 0)) (fun _ _ _ _=>(pg_name (i:=0) (show List.Nodup (α:=Str) ["entry","rows","signs"] from by decide +kernel) rfl (by walk_at "o"))) (fun _ _ _ _=>pts_nil) (fun _ _ _ _=>(pe_call G_is_entry (hr.mono (by decide)) rfl T.g_is_entry T.f_is_entry.kp T.b_is_entry .nil pass0 (pa_cons (qv 0) (pa_cons (qv 1) (pa_cons (qv 2) pa_nil)))))) pa_nil)))))),?_⟩
   refine⟨_,.inl (SqL.of hb),?_⟩
   walk_at "w"
   have el:((as.map V.ref).length:Int) = es.length:=by rw [List.length_map,ha.1]
   rw [el]
   refine ifB.dec (fun h1=>?_) (fun h1=>?_)
   ·walk_at "w"
    refine⟨⟨_,SqL.of hb⟩,?_⟩
    intro p1 n1
    refine comp_list (K:=K) (a:=b) (xs:=as.map V.ref) (fun i σ H4=>∃ v:Option V,σ = [v,some (.int rows),some (.int signs)]∧Sub H H4∧H4 p1 = some (.lst (((es.take i).map (entryOk rows signs)).map V.bl))) ?_ ?_ ?_ ?_
    ·exact⟨none,rfl,Sub.new n1,by rw [upd_same]; rfl⟩
    ·rintro i σ H4 _ ⟨v,rfl,S4,_⟩
     exact SqL.of (S4 _ _ hb)
    ·rintro i x σ H4 hi ⟨v,rfl,S4,g4⟩
     rw [List.getElem?_map] at hi
     obtain⟨c,hc,rfl⟩:=Option.map_eq_some_iff.1 hi
     obtain⟨e,he,hE⟩:=ha.at hc
     refine⟨e,S4 _ _ hE,fun H5 S5=>?_⟩
     refine⟨_,S5 _ _ g4,?_,_,rfl,(S4.trans S5).upd n1,?_⟩
     ·rw [List.length_map,List.length_map,List.length_take]; exact Nat.lt_of_le_of_lt (Nat.min_le_right _ _) (Nat.lt_of_le_of_lt hlen (by decide))
     ·rw [upd_same,List.take_add_one,he,List.map_append,List.map_append]; rfl
    ·rintro σ H4 ⟨v,rfl,S4,g4⟩
     rw [List.length_map,ha.1,List.take_length] at g4
     refine⟨_,SqL.of g4,?_⟩
     rw [all_id]
     have h:=h H4 S4
     unfold rowOk at h
     rw [decide_eq_true h1,Bool.true_and] at h
     exact h
   ·have h:=h H Sub.refl
    unfold rowOk at h
    rw [decide_eq_false h1,Bool.false_and] at h
    exact h
  ·exact h.elim
theorem sc_is_machine:FnScope ["machine","rows","signs"] ["machine"] (defScope s_is_machine):=⟨rfl,rfl,rfl,by decide +kernel,rfl,by decide +kernel,by decide +kernel⟩
def Bd (k:Nat) (m:Ma):Prop:=m.length≤k∧∀ r∈m,r.length≤k
def sp_is_machine:Sp:=fun vs H Q _=>match vs with
 | [.ref b]=>∃ m:Ma,Mach H b m∧Bd 100 m∧∀ H',Sub H H'→Q (.bl (isM m)) H'
 | _=>False
theorem isM_long {m:Ma} (h:¬ m.length≤4):isM m = false:=by
 unfold isM
 cases m with
 | nil=>rfl
 | cons r m=>simp only; rw [decide_eq_false h]; rfl
theorem ok_is_machine (T:Tx K mg a):FnOk P w K mg base CX0 3 a.is_machine a.is_machine_d ["machine"] (sp_is_machine):=by
 have G_is_row:=ok_is_row (P:=P) (w:=w) (base:=base) T
 refine T.f_is_machine.ok sc_is_machine (fun vs H Q E h=>?_) (fun cdv A outer s H vs Q E hr h=>?_)
 ·unfold sp_is_machine at h
  split at h
  ·rfl
  ·exact h.elim
 ·unfold sp_is_machine at h
  split at h
  ·have nd:=sc_is_machine.nd
   have hu:=hu_of hr
   rename_i b
   obtain⟨m,⟨rs,hb,hnd,hrw⟩,⟨hl1,hl2⟩,h⟩:=h
   refine⟨_,(pss_cons (ps_set (i:=1) nd rfl (by walk_at "o") (pe_callB (q_lenK (K:=K) rfl) rfl T.z_len bt_len (pa_cons (qv 0) pa_nil)))
  (pss_cons (ps_c (pt_not (pt_ch q_le q_le pe_int (qv 1) (pe_cv rfl T.c_MOST_ROWS))) (pss_one (ps_ret pe_bl)) pss_nil)
  (pss_cons (ps_set (i:=2) nd rfl (by walk_at "o") (pe_callB (q_lenK (K:=K) rfl) rfl T.z_len bt_len (pa_cons (pe_ix (q_ixLK (K:=K) rfl) (qv 0) pe_int (fun _ _=>rfl)) pa_nil)))
  (pss_cons (ps_c (pt_not (pt_ch q_le q_le (pe_cv rfl T.c_LEAST_SIGNS) (qv 2) (pe_cv rfl T.c_MOST_SIGNS))) (pss_one (ps_ret pe_bl)) pss_nil)
  (pss_one (ps_ret (pe_callB (q_allK (K:=K) rfl rfl) rfl T.z_all bt_all (pa_cons (pe_lc (own:=["row"]) (fr:=[1,2]) rfl (by walk_at "comp_ok") (qi_listK (K:=K) rfl (qv 0)) (fun _ _ _ _=>(pg_name (i:=0) (show List.Nodup (α:=Str) ["row","rows","signs"] from by decide +kernel) rfl (by walk_at "o"))) (fun _ _ _ _=>pts_nil) (fun _ _ _ _=>(pe_call G_is_row (hr.mono (by decide)) rfl T.g_is_row T.f_is_row.kp T.b_is_row .nil pass0 (pa_cons (qv 0) (pa_cons (qv 1) (pa_cons (qv 2) pa_nil)))))) pa_nil)))))))),?_⟩
   refine⟨_,.inl (SqL.of hb),?_⟩
   walk_at "w"
   have el:((rs.map V.ref).length:Int) = m.length:=by rw [List.length_map,hrw.1]
   rw [el]
   have fin:∀ (c:Bool) (H':Hp),Sub H H'→isM m = c→Q (.bl c) H':=fun c H' S e=>e ▸ h H' S
   refine ifB.dec (fun h1=>?_) (fun h1=>?_)
   ·walk_at "w"
    refine ifB.ndec (fun h2=>?_) (fun h2=>?_)
    ·obtain⟨r0,m',rfl⟩:∃ r0 m',m = r0 :: m':=by
      cases m with
      | nil=>simp at h1
      | cons r m=>exact⟨r,m,rfl⟩
     obtain⟨q0,rs',rfl⟩:∃ q0 rs',rs = q0 :: rs':=by
      cases rs with
      | nil=>have:=hrw.1; simp at this
      | cons r rs=>exact⟨r,rs,rfl⟩
     obtain⟨as0,hq0,ha0⟩:=hrw.2 0 q0 r0 rfl rfl
     refine⟨_,_,SqL.of hb,atI_nat (j:=0) rfl,?_⟩
     refine⟨_,.inl (SqL.of hq0),?_⟩
     walk_at "w"
     have el0:((as0.map V.ref).length:Int) = r0.length:=by rw [List.length_map,ha0.1]
     rw [el0]
     have hd:isM (r0 :: m') = (decide ((r0 :: m').length≤4) && decide (2≤r0.length) && decide (r0.length≤4) && (r0 :: m').all (rowOk (r0 :: m').length r0.length)):=rfl
     refine ifB.dec (fun h3=>?_) (fun h3=>?_)
     ·walk_at "w"
      refine ifB.ndec (fun h4=>?_) (fun h4=>?_)
      ·walk_at "w"
       refine⟨⟨_,SqL.of hb⟩,?_⟩
       intro p1 n1
       refine comp_list (K:=K) (a:=b) (xs:=(q0 :: rs').map V.ref) (fun i σ H4=>∃ v:Option V,σ = [v,some (.int (r0 :: m').length),some (.int r0.length)]∧Sub H H4∧H4 p1 = some (.lst ((((r0 :: m').take i).map (rowOk (r0 :: m').length r0.length)).map V.bl))) ?_ ?_ ?_ ?_
       ·exact⟨none,rfl,Sub.new n1,by rw [upd_same]; rfl⟩
       ·rintro i σ H4 _ ⟨v,rfl,S4,_⟩
        exact SqL.of (S4 _ _ hb)
       ·rintro i x σ H4 hi ⟨v,rfl,S4,g4⟩
        rw [List.getElem?_map] at hi
        obtain⟨c,hc,rfl⟩:=Option.map_eq_some_iff.1 hi
        obtain⟨e,he,hE⟩:=hrw.at hc
        refine⟨e,hE.stay (.sub S4),hl2 e (List.mem_of_getElem? he),fun H5 S5=>?_⟩
        refine⟨_,S5 _ _ g4,?_,_,rfl,(S4.trans S5).upd n1,?_⟩
        ·rw [List.length_map,List.length_map,List.length_take]; exact Nat.lt_of_le_of_lt (Nat.min_le_right _ _) (Nat.lt_of_le_of_lt hl1 (by decide))
        ·rw [upd_same,List.take_add_one,he,List.map_append,List.map_append]; rfl
       ·rintro σ H4 ⟨v,rfl,S4,g4⟩
        rw [List.length_map,hrw.1,List.take_length] at g4
        refine⟨_,SqL.of g4,?_⟩
        rw [all_id]
        refine fin _ _ S4 ?_
        rw [hd,decide_eq_true (show (r0 :: m').length≤4 by omega),decide_eq_true (show 2≤r0.length by omega),decide_eq_true (show r0.length≤4 by omega)]
        rfl
      ·exact fin false _ Sub.refl (by rw [hd,decide_eq_false (show ¬ r0.length≤4 by omega)]; simp)
     ·walk_at "w"
      refine ifB.yes rfl ?_
      exact fin false _ Sub.refl (by rw [hd,decide_eq_false (show ¬ 2≤r0.length by omega)]; simp)
    ·exact fin false _ Sub.refl (isM_long (by omega))
   ·walk_at "w"
    refine ifB.yes rfl ?_
    exact fin false _ Sub.refl (by cases m with
     | nil=>rfl
     | cons r m=>simp at h1; omega)
  ·exact h.elim
theorem sc_must_machine:FnScope ["machine"] ["machine"] (defScope s_must_machine):=⟨rfl,rfl,rfl,by decide +kernel,rfl,by decide +kernel,by decide +kernel⟩
def sp_must_machine (a:Ad):Sp:=fun vs H Q E=>match vs with
 | [.ref b]=>∃ m:Ma,Mach H b m∧Bd 100 m∧(isM m = true→∀ H',Sub H H'→Q .non H')∧(isM m = false→∀ H',Sub H H'→E (.ref a.NoMachine) none H')
 | _=>False
theorem ok_must_machine (T:Tx K mg a):FnOk P w K mg base (CXE P w) 4 a.must_machine a.must_machine_d ["machine"] (sp_must_machine a):=by
 have G_is_machine:=ok_is_machine (P:=P) (w:=w) (base:=base) T
 refine T.f_must_machine.okE sc_must_machine (fun vs H Q E h=>?_) (fun cdv A outer s H vs Q E hr h=>?_)
 ·unfold sp_must_machine at h
  split at h
  ·rfl
  ·exact h.elim
 ·unfold sp_must_machine at h
  split at h
  ·have nd:=sc_must_machine.nd
   have hu:=hu_of hr
   rename_i b
   obtain⟨m,hm,hb,h1,h2⟩:=h
   refine⟨_,(pss_one (ps_c (pt_not (pt_e (pe_call G_is_machine (hr.mono (by decide)) rfl T.g_is_machine T.f_is_machine.kp T.b_is_machine .nil pass0 (pa_cons (qv 0) pa_nil)))) (pss_one (ps_raise rfl T.e_NoMachine rfl T.g_NoMachine wants_fn (pa_cons pe_str pa_nil))) pss_nil)),?_⟩
   refine⟨m,hm,hb,fun H1 S1=>?_⟩
   walk_at "w"
   refine ifB.mk (fun e=>?_) (fun e=>?_)
   ·have e:isM m = false:=by simpa using e
    walk_at "w"
    exact⟨by show 1≤sizeLine; decide,h2 e H1 S1⟩
   ·have e:isM m = true:=by simpa using e
    exact h1 e H1 S1
  ·exact h.elim
theorem sc_orders_0:FnScope ["things","told","at","first"] ["things"] (defScope s_orders):=⟨rfl,rfl,rfl,by decide +kernel,rfl,by decide +kernel,by decide +kernel⟩
def ords:Nat→List Int→List (List Int)
 | 0,_=>[[]]
 | k + 1,xs=>(List.range xs.length).flatMap fun i=>(ords k (xs.eraseIdx i)).map (xs.getD i 0 :: ·)
def LI (H:Hp) (a:Addr) (xs:List Int):Prop:=H a = some (.lst (xs.map V.int))
def sp_orders (k:Nat):Sp:=fun vs H Q _=>match vs with
 | [.ref p]=>∃ xs:List Int,H p = some (.lst (xs.map V.int))∧xs.length = k∧∀ (q:Addr) (ps:List Addr) (H':Hp),Sub H H'→H q = none→H' q = some (.lst (ps.map V.ref))→All2 (LI H') ps (ords k xs)→Q (.ref q) H'
 | _=>False
theorem den_ints {p:Addr} {xs:List Int} (h:H p = some (.lst (xs.map V.int))):Den H (.ref p) (.lst (xs.map DD.int)):=by
 rw [Den]; exact⟨_,_,rfl,h,Dens.ints⟩
theorem dep_ints (xs:List Int):dep (.lst (xs.map DD.int))≤60:=by
 rw [dep]
 exact Nat.le_trans (Nat.succ_le_succ (depL_leK (k:=0) fun d hd=>by obtain⟨i,_,rfl⟩:=List.mem_map.1 hd; simp [dep])) (by decide)
theorem ok_orders_0 (T:Tx K mg a):FnOk P w K mg base CX0 1 a.orders a.orders_d ["things"] (sp_orders 0):=by
 refine T.f_orders.ok sc_orders_0 (fun vs H Q E h=>?_) (fun cdv A outer s H vs Q E hr h=>?_)
 ·unfold sp_orders at h
  split at h
  ·rfl
  ·exact h.elim
 ·unfold sp_orders at h
  split at h
  ·have nd:=sc_orders_0.nd
   have hu:=hu_of hr
   rename_i p
   obtain⟨xs,hp,hl,h⟩:=h
   have hx:xs = []:=List.eq_nil_of_length_eq_zero hl
   subst hx
   refine⟨_,(pss_cons (ps_c (pt_c (op_eqD hr) (qv 0) (pe_lst pa_nil)) (pss_one (ps_ret (pe_lst (pa_cons (pe_lst pa_nil) pa_nil)))) pss_nil)
  pss_never),?_⟩
   refine⟨Nat.zero_le _,?_⟩
   intro p1 n1
   generalize hU1:upd _ p1 _ = H1
   have S1:=(upd_sub n1 hU1).1
   have e1:=(upd_sub n1 hU1).2
   clear hU1
   refine⟨_,.lst [],den_ints (S1 _ _ hp),by rw [Den]; exact⟨_,_,rfl,e1,rfl⟩,dep_ints [],?_⟩
   walk_at "w"
   refine ifB.yes (by rw [List.map_nil,eqD_refl]) ?_
   refine⟨Nat.zero_le _,?_⟩
   intro p2 n2
   generalize hU2:upd _ p2 _ = H2
   have S2:=(upd_sub n2 hU2).1
   have e2:=(upd_sub n2 hU2).2
   clear hU2
   refine⟨by show 1≤sizeLine; decide,?_⟩
   intro p3 n3
   generalize hU3:upd _ p3 _ = H3
   have S3:=(upd_sub n3 hU3).1
   have e3:=(upd_sub n3 hU3).2
   clear hU3
   exact h p3 [p2] H3 ((S1.trans S2).trans S3) ((S1.trans S2).free n3) e3 (All2.app (as:=[]) (xs:=[]) .nil (S3 _ _ e2))
  ·exact h.elim
theorem sc_orders_1:FnScope ["things","told","at","first"] ["things"] (defScope s_orders):=⟨rfl,rfl,rfl,by decide +kernel,rfl,by decide +kernel,by decide +kernel⟩
theorem cut_erase (xs:List Int) {i:Nat} (hi:i < xs.length):cutV (xs.map V.int) none (some (i:Int)) ++ cutV (xs.map V.int) (some ((i:Int) + 1)) none = (xs.eraseIdx i).map V.int:=by
 unfold cutV
 rw [show ((i:Int) + 1) = ((i + 1:Nat):Int) by omega,HT.sIx_nat,HT.sIx_nat,HT.sIx_none,HT.sIx_none,List.length_map,List.drop_zero,Nat.sub_zero,Nat.min_eq_left (Nat.le_of_lt hi),Nat.min_eq_left (show i + 1≤xs.length from hi),
  List.take_of_length_le (l:=(xs.map V.int).drop (i + 1)) (by rw [List.length_drop,List.length_map]; exact Nat.le_refl _),List.eraseIdx_eq_take_drop_succ,List.map_append,List.map_take,List.map_drop]
theorem flat_le {f:Nat→List (List Int)} {B:Nat}:∀ l:List Nat,(∀ j∈l,(f j).length≤B)→(l.flatMap f).length≤l.length * B
 | [],_=>by simp
 | a :: l,h=>by
  rw [List.flatMap_cons,List.length_append,List.length_cons,Nat.succ_mul]
  have h1:=h a (by simp)
  have h2:=flat_le l fun j hj=>h j (by simp [hj])
  omega
def fc:Nat→Nat
 | 0=>1
 | k + 1=>(k + 1) * fc k
theorem ords_fc:∀ (k:Nat) (xs:List Int),xs.length = k→(ords k xs).length≤fc k∧∀ o∈ords k xs,o.length = k
 | 0,_,_=>⟨Nat.le_refl _,fun o ho=>by
   have:o = []:=by simpa [ords] using ho
   rw [this]; rfl⟩
 | k + 1,xs,h=>by
  have ih:∀ i,i < xs.length→(ords k (xs.eraseIdx i)).length≤fc k∧∀ o∈ords k (xs.eraseIdx i),o.length = k:=fun i hi=>ords_fc k _ (by rw [List.length_eraseIdx_of_lt hi]; omega)
  constructor
  ·have:=flat_le (f:=fun i=>(ords k (xs.eraseIdx i)).map (xs.getD i 0 :: ·)) (B:=fc k) (List.range xs.length) fun j hj=>by
    show ((ords k (xs.eraseIdx j)).map _).length≤_
    rw [List.length_map]; exact (ih j (List.mem_range.1 hj)).1
   rw [List.length_range] at this
   show ((List.range xs.length).flatMap _).length≤(k + 1) * fc k
   rw [← h]
   exact this
  ·intro o ho
   have ho:o∈(List.range xs.length).flatMap fun i=>(ords k (xs.eraseIdx i)).map (xs.getD i 0 :: ·):=ho
   obtain⟨i,hi,ho⟩:=List.mem_flatMap.1 ho
   obtain⟨u,hu,rfl⟩:=List.mem_map.1 ho
   rw [List.length_cons,(ih i (List.mem_range.1 hi)).2 u hu]
theorem ords_len (k:Nat) (xs:List Int) (h:xs.length = k) (hk:k≤3):(ords k xs).length≤6∧∀ o∈ords k xs,o.length = k:=by
 obtain⟨h1,h2⟩:=ords_fc k xs h
 refine⟨Nat.le_trans h1 ?_,h2⟩
 have:k = 0∨k = 1∨k = 2∨k = 3:=by omega
 rcases this with rfl | rfl | rfl | rfl <;> decide
theorem ok_orders_1 (T:Tx K mg a):FnOk P w K mg base CX0 2 a.orders a.orders_d ["things"] (sp_orders 1):=by
 have G_orders:=ok_orders_0 (P:=P) (w:=w) (base:=base) T
 refine T.f_orders.ok sc_orders_1 (fun vs H Q E h=>?_) (fun cdv A outer s H vs Q E hr h=>?_)
 ·unfold sp_orders at h
  split at h
  ·rfl
  ·exact h.elim
 ·unfold sp_orders at h
  split at h
  ·have nd:=sc_orders_1.nd
   have hu:=hu_of hr
   rename_i p
   obtain⟨xs,hp,hl,h⟩:=h
   refine⟨_,(pss_cons (ps_c (pt_c (op_eqD hr) (qv 0) (pe_lst pa_nil)) (pss_one (ps_ret (pe_lst (pa_cons (pe_lst pa_nil) pa_nil)))) pss_nil)
  (pss_cons (ps_set (i:=1) nd rfl (by walk_at "o") (pe_lst pa_nil))
  (pss_cons (ps_for PassesOwn.never rfl (pi_enum rfl T.z_enumerate (pa_cons (qv 0) pa_nil)) (qg_tupK (K:=K) (n:=2) rfl rfl (qgs_cons (pg_name (i:=2) nd rfl (by walk_at "o")) (qgs_cons (pg_name (i:=3) nd rfl (by walk_at "o")) qgs_nil))) (pss_one (ps_aug (i:=1) nd rfl (by walk_at "o") (pe_lc (own:=["rest"]) (fr:=[3]) rfl (by walk_at "comp_ok") (qi_listK (K:=K) rfl (pe_call G_orders (hr.mono (by decide)) rfl T.g_orders T.f_orders.kp T.b_orders .nil pass0 (pa_cons (pe_op q_cat (pe_slice (q_slLK (K:=K) rfl) (qv 0) po_none (qo_some (qv 2))) (pe_slice (q_slLK (K:=K) rfl) (qv 0) (qo_some (pe_op q_add (qv 2) pe_int)) po_none)) pa_nil))) (fun _ _ _ _=>(pg_name (i:=0) (show List.Nodup (α:=Str) ["rest","first"] from by decide +kernel) rfl (by walk_at "o"))) (fun _ _ _ _=>pts_nil) (fun _ _ _ _=>(pe_op q_cat (pe_lst (pa_cons (qv 1) pa_nil)) (qv 0)))) ip_cat)))
  (pss_one (ps_ret (qv 1)))))),?_⟩
   refine⟨Nat.zero_le _,?_⟩
   intro p1 n1
   generalize hU1:upd _ p1 _ = H1
   have S1:=(upd_sub n1 hU1).1
   have e1:=(upd_sub n1 hU1).2
   clear hU1
   refine⟨_,.lst [],den_ints (S1 _ _ hp),by rw [Den]; exact⟨_,_,rfl,e1,rfl⟩,dep_ints xs,?_⟩
   walk_at "w"
   refine ifB.no (by cases xs with | nil=>simp at hl | cons a l=>simp [eqD,eqDs]) ?_
   refine⟨Nat.zero_le _,?_⟩
   intro p2 n2
   generalize hU2:upd _ p2 _ = H2
   have S2:=(upd_sub n2 hU2).1
   have e2:=(upd_sub n2 hU2).2
   clear hU2
   have hp2:=(S1.trans S2) _ _ hp
   have T2:=S1.trans S2
   refine⟨⟨_,SqL.of hp2⟩,?_⟩
   refine for_enum (K:=K) (a:=p) (xs:=xs.map V.int) (fun i σ H4=>∃ (v2 v3:Option V) (ps:List Addr),σ = [some (.ref p),some (.ref p2),v2,v3]∧Sub H H4∧H4 p2 = some (.lst (ps.map V.ref))∧(∀ q∈ps,q≠p2)∧All2 (LI H4) ps ((List.range i).flatMap fun i=>(ords (xs.length - 1) (xs.eraseIdx i)).map (xs.getD i 0 :: ·))) ?_ ?_ ?_ ?_
   ·exact⟨_,_,[],rfl,T2,e2,by simp,.nil⟩
   ·rintro i σ H4 _ ⟨v2,v3,ps,rfl,S4,_⟩
    exact SqL.of (S4 _ _ hp)
   ·rintro i x σ H4 qt hx ⟨v2,v3,ps,rfl,S4,g4,N4,A4⟩ nq
    rw [List.getElem?_map] at hx
    obtain⟨x,hx1,rfl⟩:=Option.map_eq_some_iff.1 hx
    have hi:i < xs.length:=(List.getElem?_eq_some_iff.1 hx1).1
    have S5:Sub H4 (upd H4 qt (.tup [.int i,.int x])):=Sub.new nq
    have e5:upd H4 qt (.tup [.int i,.int x]) qt = some (.tup [.int i,.int x]):=upd_same
    generalize upd H4 qt (.tup [.int i,.int x]) = H5 at S5 e5 ⊢
    refine⟨_,SqT.of e5,rfl,?_⟩
    refine⟨_,rfl,?_⟩
    refine⟨_,SqL.of ((S4.trans S5) _ _ hp),?_⟩
    intro p6 n6
    generalize hU6:upd _ p6 _ = H6
    have S6:=(upd_sub n6 hU6).1
    have e6:=(upd_sub n6 hU6).2
    clear hU6
    refine⟨_,SqL.of (((S4.trans S5).trans S6) _ _ hp),?_⟩
    intro p7 n7
    generalize hU7:upd _ p7 _ = H7
    have S7:=(upd_sub n7 hU7).1
    have e7:=(upd_sub n7 hU7).2
    clear hU7
    refine⟨_,_,S7 _ _ e6,e7,?_,?_⟩
    ·exact Nat.le_trans (Nat.add_le_add (cutV_length _ _ _) (cutV_length _ _ _)) (by rw [List.length_map]; exact Nat.le_trans (show _≤8 by omega) (by decide))
    intro p8 n8
    generalize hU8:upd _ p8 _ = H8
    have S8:=(upd_sub n8 hU8).1
    have e8:=(upd_sub n8 hU8).2
    clear hU8
    rw [cut_erase xs hi] at e8
    have S48:=((S5.trans S6).trans S7).trans S8
    refine⟨xs.eraseIdx i,e8,by rw [List.length_eraseIdx_of_lt hi]; omega,fun q9 ps9 H9 S9 n9 e9 A9=>?_⟩
    have A9:All2 (LI H9) ps9 (ords (xs.length - 1) (xs.eraseIdx i)):=by rw [hl]; exact A9
    have ho:=ords_len (xs.length - 1) (xs.eraseIdx i) (List.length_eraseIdx_of_lt hi) (by omega)
    refine⟨⟨_,SqL.of e9⟩,?_⟩
    intro pc npc
    refine comp_list (K:=K) (a:=q9) (xs:=ps9.map V.ref) (fun j σ H10=>∃ (v:Option V) (rs:List Addr),σ = [v,some (.int x)]∧Sub H9 H10∧H10 pc = some (.lst (rs.map V.ref))∧(∀ r∈rs,r≠pc∧H9 r = none)∧All2 (LI H10) rs (((ords (xs.length - 1) (xs.eraseIdx i)).take j).map (x :: ·))) ?_ ?_ ?_ ?_
    ·exact⟨none,[],rfl,Sub.new npc,upd_same,by simp,.nil⟩
    ·rintro j σ H10 _ ⟨v,rs,rfl,S10,_⟩
     exact SqL.of (S10 _ _ e9)
    ·rintro j y σ H10 hj ⟨v,rs,rfl,S10,g10,N10,A10⟩
     rw [List.getElem?_map] at hj
     obtain⟨c,hc,rfl⟩:=Option.map_eq_some_iff.1 hj
     obtain⟨o,hoo,hco⟩:=A9.at hc
     refine⟨by show 1≤sizeLine; decide,?_⟩
     intro p11 n11
     generalize hU11:upd _ p11 _ = H11
     have S11:=(upd_sub n11 hU11).1
     have e11:=(upd_sub n11 hU11).2
     clear hU11
     refine⟨_,_,e11,(S10.trans S11) _ _ hco,?_,?_⟩
     ·rw [List.length_map,ho.2 o (List.mem_of_getElem? hoo)]; exact Nat.le_trans (show _≤8 by show 1 + _≤8; omega) (by decide)
     intro p12 n12
     generalize hU12:upd _ p12 _ = H12
     have S12:=(upd_sub n12 hU12).1
     have e12:=(upd_sub n12 hU12).2
     clear hU12
     have e12:LI H12 p12 (x :: o):=e12
     walk_at "w"
     have S912:=(S10.trans S11).trans S12
     have hne:p12≠pc:=by rintro rfl; rw [S11 _ _ g10] at n12; cases n12
     refine⟨_,(S11.trans S12) _ _ g10,?_,_,rs ++ [p12],rfl,S912.upd npc,?_,?_,?_⟩
     ·rw [List.length_map,A10.1,List.length_map,List.length_take]; exact Nat.lt_of_le_of_lt (Nat.le_trans (Nat.min_le_right _ _) ho.1) (by decide)
     ·rw [upd_same,List.map_append]; rfl
     ·intro r hr
      rcases List.mem_append.1 hr with hr | hr
      ·exact N10 r hr
      ·rw [List.mem_singleton.1 hr]; exact⟨hne,(S10.trans S11).free n12⟩
     ·rw [List.take_add_one,hoo,List.map_append]
      refine All2.app (A10.mono fun a z ha hz=>?_) ?_
      ·unfold LI
       rw [upd_ne (N10 a ha).1]
       exact (S11.trans S12) _ _ hz
      ·unfold LI
       rw [upd_ne hne]
       exact e12
    rintro σ H10 ⟨v,rs,rfl,S10,g10,N10,A10⟩
    rw [List.length_map,A9.1,List.take_length] at A10
    have S410:=(S48.trans S9).trans S10
    have np:H4 pc = none:=(S48.trans S9).free npc
    have hne:pc≠p2:=by rintro rfl; rw [g4] at np; cases np
    refine⟨_,_,S410 _ _ g4,g10,?_,?_⟩
    ·rw [List.length_map,List.length_map,A4.1,A10.1,List.length_map]
     have:((List.range i).flatMap fun i=>(ords (xs.length - 1) (xs.eraseIdx i)).map (xs.getD i 0 :: ·)).length≤i * 6:=by
      have:=flat_le (f:=fun i=>(ords (xs.length - 1) (xs.eraseIdx i)).map (xs.getD i 0 :: ·)) (B:=6) (List.range i) fun j hj=>by
       have hj:=List.mem_range.1 hj
       show ((ords _ (xs.eraseIdx j)).map _).length≤_
       rw [List.length_map]
       exact (ords_len (xs.length - 1) (xs.eraseIdx j) (List.length_eraseIdx_of_lt (by omega)) (by omega)).1
      rwa [List.length_range] at this
     have:=ho.1
     exact Nat.le_trans (show _≤100 by omega) (by decide)
    refine⟨_,_,ps ++ rs,rfl,(S4.trans S410).upd (S1.free n2),?_,?_,?_⟩
    ·rw [upd_same,List.map_append]
    ·intro q hq
     rcases List.mem_append.1 hq with hq | hq
     ·exact N4 q hq
     ·intro e
      have:=(N10 q hq).2
      rw [e,(S48.trans S9) _ _ g4] at this
      cases this
    ·rw [List.range_succ,List.flatMap_append,List.flatMap_singleton,show xs.getD i 0 = x by rw [List.getD_eq_getElem?_getD,hx1]; rfl]
     refine All2.append (A4.mono fun a z ha hz=>?_) (A10.mono fun a z ha hz=>?_)
     ·unfold LI
      rw [upd_ne (N4 a ha)]
      exact S410 _ _ hz
     ·unfold LI
      rw [upd_ne]
      ·exact hz
      ·intro e
       have:=(N10 a ha).2
       rw [e,(S48.trans S9) _ _ g4] at this
       cases this
   ·rintro σ H4 ⟨v2,v3,ps,rfl,S4,g4,N4,A4⟩
    rw [List.length_map] at A4
    walk_at "w"
    refine h p2 ps H4 S4 (S1.free n2) g4 (Eq.mp (congrArg (fun k=>All2 (LI H4) ps (ords k xs)) ?_) (show All2 (LI H4) ps (ords (xs.length - 1 + 1) xs) from A4))
    omega
  ·exact h.elim
theorem sc_orders_2:FnScope ["things","told","at","first"] ["things"] (defScope s_orders):=⟨rfl,rfl,rfl,by decide +kernel,rfl,by decide +kernel,by decide +kernel⟩
theorem ok_orders_2 (T:Tx K mg a):FnOk P w K mg base CX0 3 a.orders a.orders_d ["things"] (sp_orders 2):=by
 have G_orders:=ok_orders_1 (P:=P) (w:=w) (base:=base) T
 refine T.f_orders.ok sc_orders_2 (fun vs H Q E h=>?_) (fun cdv A outer s H vs Q E hr h=>?_)
 ·unfold sp_orders at h
  split at h
  ·rfl
  ·exact h.elim
 ·unfold sp_orders at h
  split at h
  ·have nd:=sc_orders_2.nd
   have hu:=hu_of hr
   rename_i p
   obtain⟨xs,hp,hl,h⟩:=h
   refine⟨_,(pss_cons (ps_c (pt_c (op_eqD hr) (qv 0) (pe_lst pa_nil)) (pss_one (ps_ret (pe_lst (pa_cons (pe_lst pa_nil) pa_nil)))) pss_nil)
  (pss_cons (ps_set (i:=1) nd rfl (by walk_at "o") (pe_lst pa_nil))
  (pss_cons (ps_for PassesOwn.never rfl (pi_enum rfl T.z_enumerate (pa_cons (qv 0) pa_nil)) (qg_tupK (K:=K) (n:=2) rfl rfl (qgs_cons (pg_name (i:=2) nd rfl (by walk_at "o")) (qgs_cons (pg_name (i:=3) nd rfl (by walk_at "o")) qgs_nil))) (pss_one (ps_aug (i:=1) nd rfl (by walk_at "o") (pe_lc (own:=["rest"]) (fr:=[3]) rfl (by walk_at "comp_ok") (qi_listK (K:=K) rfl (pe_call G_orders (hr.mono (by decide)) rfl T.g_orders T.f_orders.kp T.b_orders .nil pass0 (pa_cons (pe_op q_cat (pe_slice (q_slLK (K:=K) rfl) (qv 0) po_none (qo_some (qv 2))) (pe_slice (q_slLK (K:=K) rfl) (qv 0) (qo_some (pe_op q_add (qv 2) pe_int)) po_none)) pa_nil))) (fun _ _ _ _=>(pg_name (i:=0) (show List.Nodup (α:=Str) ["rest","first"] from by decide +kernel) rfl (by walk_at "o"))) (fun _ _ _ _=>pts_nil) (fun _ _ _ _=>(pe_op q_cat (pe_lst (pa_cons (qv 1) pa_nil)) (qv 0)))) ip_cat)))
  (pss_one (ps_ret (qv 1)))))),?_⟩
   refine⟨Nat.zero_le _,?_⟩
   intro p1 n1
   generalize hU1:upd _ p1 _ = H1
   have S1:=(upd_sub n1 hU1).1
   have e1:=(upd_sub n1 hU1).2
   clear hU1
   refine⟨_,.lst [],den_ints (S1 _ _ hp),by rw [Den]; exact⟨_,_,rfl,e1,rfl⟩,dep_ints xs,?_⟩
   walk_at "w"
   refine ifB.no (by cases xs with | nil=>simp at hl | cons a l=>simp [eqD,eqDs]) ?_
   refine⟨Nat.zero_le _,?_⟩
   intro p2 n2
   generalize hU2:upd _ p2 _ = H2
   have S2:=(upd_sub n2 hU2).1
   have e2:=(upd_sub n2 hU2).2
   clear hU2
   have hp2:=(S1.trans S2) _ _ hp
   have T2:=S1.trans S2
   refine⟨⟨_,SqL.of hp2⟩,?_⟩
   refine for_enum (K:=K) (a:=p) (xs:=xs.map V.int) (fun i σ H4=>∃ (v2 v3:Option V) (ps:List Addr),σ = [some (.ref p),some (.ref p2),v2,v3]∧Sub H H4∧H4 p2 = some (.lst (ps.map V.ref))∧(∀ q∈ps,q≠p2)∧All2 (LI H4) ps ((List.range i).flatMap fun i=>(ords (xs.length - 1) (xs.eraseIdx i)).map (xs.getD i 0 :: ·))) ?_ ?_ ?_ ?_
   ·exact⟨_,_,[],rfl,T2,e2,by simp,.nil⟩
   ·rintro i σ H4 _ ⟨v2,v3,ps,rfl,S4,_⟩
    exact SqL.of (S4 _ _ hp)
   ·rintro i x σ H4 qt hx ⟨v2,v3,ps,rfl,S4,g4,N4,A4⟩ nq
    rw [List.getElem?_map] at hx
    obtain⟨x,hx1,rfl⟩:=Option.map_eq_some_iff.1 hx
    have hi:i < xs.length:=(List.getElem?_eq_some_iff.1 hx1).1
    have S5:Sub H4 (upd H4 qt (.tup [.int i,.int x])):=Sub.new nq
    have e5:upd H4 qt (.tup [.int i,.int x]) qt = some (.tup [.int i,.int x]):=upd_same
    generalize upd H4 qt (.tup [.int i,.int x]) = H5 at S5 e5 ⊢
    refine⟨_,SqT.of e5,rfl,?_⟩
    refine⟨_,rfl,?_⟩
    refine⟨_,SqL.of ((S4.trans S5) _ _ hp),?_⟩
    intro p6 n6
    generalize hU6:upd _ p6 _ = H6
    have S6:=(upd_sub n6 hU6).1
    have e6:=(upd_sub n6 hU6).2
    clear hU6
    refine⟨_,SqL.of (((S4.trans S5).trans S6) _ _ hp),?_⟩
    intro p7 n7
    generalize hU7:upd _ p7 _ = H7
    have S7:=(upd_sub n7 hU7).1
    have e7:=(upd_sub n7 hU7).2
    clear hU7
    refine⟨_,_,S7 _ _ e6,e7,?_,?_⟩
    ·exact Nat.le_trans (Nat.add_le_add (cutV_length _ _ _) (cutV_length _ _ _)) (by rw [List.length_map]; exact Nat.le_trans (show _≤8 by omega) (by decide))
    intro p8 n8
    generalize hU8:upd _ p8 _ = H8
    have S8:=(upd_sub n8 hU8).1
    have e8:=(upd_sub n8 hU8).2
    clear hU8
    rw [cut_erase xs hi] at e8
    have S48:=((S5.trans S6).trans S7).trans S8
    refine⟨xs.eraseIdx i,e8,by rw [List.length_eraseIdx_of_lt hi]; omega,fun q9 ps9 H9 S9 n9 e9 A9=>?_⟩
    have A9:All2 (LI H9) ps9 (ords (xs.length - 1) (xs.eraseIdx i)):=by rw [hl]; exact A9
    have ho:=ords_len (xs.length - 1) (xs.eraseIdx i) (List.length_eraseIdx_of_lt hi) (by omega)
    refine⟨⟨_,SqL.of e9⟩,?_⟩
    intro pc npc
    refine comp_list (K:=K) (a:=q9) (xs:=ps9.map V.ref) (fun j σ H10=>∃ (v:Option V) (rs:List Addr),σ = [v,some (.int x)]∧Sub H9 H10∧H10 pc = some (.lst (rs.map V.ref))∧(∀ r∈rs,r≠pc∧H9 r = none)∧All2 (LI H10) rs (((ords (xs.length - 1) (xs.eraseIdx i)).take j).map (x :: ·))) ?_ ?_ ?_ ?_
    ·exact⟨none,[],rfl,Sub.new npc,upd_same,by simp,.nil⟩
    ·rintro j σ H10 _ ⟨v,rs,rfl,S10,_⟩
     exact SqL.of (S10 _ _ e9)
    ·rintro j y σ H10 hj ⟨v,rs,rfl,S10,g10,N10,A10⟩
     rw [List.getElem?_map] at hj
     obtain⟨c,hc,rfl⟩:=Option.map_eq_some_iff.1 hj
     obtain⟨o,hoo,hco⟩:=A9.at hc
     refine⟨by show 1≤sizeLine; decide,?_⟩
     intro p11 n11
     generalize hU11:upd _ p11 _ = H11
     have S11:=(upd_sub n11 hU11).1
     have e11:=(upd_sub n11 hU11).2
     clear hU11
     refine⟨_,_,e11,(S10.trans S11) _ _ hco,?_,?_⟩
     ·rw [List.length_map,ho.2 o (List.mem_of_getElem? hoo)]; exact Nat.le_trans (show _≤8 by show 1 + _≤8; omega) (by decide)
     intro p12 n12
     generalize hU12:upd _ p12 _ = H12
     have S12:=(upd_sub n12 hU12).1
     have e12:=(upd_sub n12 hU12).2
     clear hU12
     have e12:LI H12 p12 (x :: o):=e12
     walk_at "w"
     have S912:=(S10.trans S11).trans S12
     have hne:p12≠pc:=by rintro rfl; rw [S11 _ _ g10] at n12; cases n12
     refine⟨_,(S11.trans S12) _ _ g10,?_,_,rs ++ [p12],rfl,S912.upd npc,?_,?_,?_⟩
     ·rw [List.length_map,A10.1,List.length_map,List.length_take]; exact Nat.lt_of_le_of_lt (Nat.le_trans (Nat.min_le_right _ _) ho.1) (by decide)
     ·rw [upd_same,List.map_append]; rfl
     ·intro r hr
      rcases List.mem_append.1 hr with hr | hr
      ·exact N10 r hr
      ·rw [List.mem_singleton.1 hr]; exact⟨hne,(S10.trans S11).free n12⟩
     ·rw [List.take_add_one,hoo,List.map_append]
      refine All2.app (A10.mono fun a z ha hz=>?_) ?_
      ·unfold LI
       rw [upd_ne (N10 a ha).1]
       exact (S11.trans S12) _ _ hz
      ·unfold LI
       rw [upd_ne hne]
       exact e12
    rintro σ H10 ⟨v,rs,rfl,S10,g10,N10,A10⟩
    rw [List.length_map,A9.1,List.take_length] at A10
    have S410:=(S48.trans S9).trans S10
    have np:H4 pc = none:=(S48.trans S9).free npc
    have hne:pc≠p2:=by rintro rfl; rw [g4] at np; cases np
    refine⟨_,_,S410 _ _ g4,g10,?_,?_⟩
    ·rw [List.length_map,List.length_map,A4.1,A10.1,List.length_map]
     have:((List.range i).flatMap fun i=>(ords (xs.length - 1) (xs.eraseIdx i)).map (xs.getD i 0 :: ·)).length≤i * 6:=by
      have:=flat_le (f:=fun i=>(ords (xs.length - 1) (xs.eraseIdx i)).map (xs.getD i 0 :: ·)) (B:=6) (List.range i) fun j hj=>by
       have hj:=List.mem_range.1 hj
       show ((ords _ (xs.eraseIdx j)).map _).length≤_
       rw [List.length_map]
       exact (ords_len (xs.length - 1) (xs.eraseIdx j) (List.length_eraseIdx_of_lt (by omega)) (by omega)).1
      rwa [List.length_range] at this
     have:=ho.1
     exact Nat.le_trans (show _≤100 by omega) (by decide)
    refine⟨_,_,ps ++ rs,rfl,(S4.trans S410).upd (S1.free n2),?_,?_,?_⟩
    ·rw [upd_same,List.map_append]
    ·intro q hq
     rcases List.mem_append.1 hq with hq | hq
     ·exact N4 q hq
     ·intro e
      have:=(N10 q hq).2
      rw [e,(S48.trans S9) _ _ g4] at this
      cases this
    ·rw [List.range_succ,List.flatMap_append,List.flatMap_singleton,show xs.getD i 0 = x by rw [List.getD_eq_getElem?_getD,hx1]; rfl]
     refine All2.append (A4.mono fun a z ha hz=>?_) (A10.mono fun a z ha hz=>?_)
     ·unfold LI
      rw [upd_ne (N4 a ha)]
      exact S410 _ _ hz
     ·unfold LI
      rw [upd_ne]
      ·exact hz
      ·intro e
       have:=(N10 a ha).2
       rw [e,(S48.trans S9) _ _ g4] at this
       cases this
   ·rintro σ H4 ⟨v2,v3,ps,rfl,S4,g4,N4,A4⟩
    rw [List.length_map] at A4
    walk_at "w"
    refine h p2 ps H4 S4 (S1.free n2) g4 (Eq.mp (congrArg (fun k=>All2 (LI H4) ps (ords k xs)) ?_) (show All2 (LI H4) ps (ords (xs.length - 1 + 1) xs) from A4))
    omega
  ·exact h.elim
theorem sc_orders_3:FnScope ["things","told","at","first"] ["things"] (defScope s_orders):=⟨rfl,rfl,rfl,by decide +kernel,rfl,by decide +kernel,by decide +kernel⟩
theorem ok_orders_3 (T:Tx K mg a):FnOk P w K mg base CX0 4 a.orders a.orders_d ["things"] (sp_orders 3):=by
 have G_orders:=ok_orders_2 (P:=P) (w:=w) (base:=base) T
 refine T.f_orders.ok sc_orders_3 (fun vs H Q E h=>?_) (fun cdv A outer s H vs Q E hr h=>?_)
 ·unfold sp_orders at h
  split at h
  ·rfl
  ·exact h.elim
 ·unfold sp_orders at h
  split at h
  ·have nd:=sc_orders_3.nd
   have hu:=hu_of hr
   rename_i p
   obtain⟨xs,hp,hl,h⟩:=h
   refine⟨_,(pss_cons (ps_c (pt_c (op_eqD hr) (qv 0) (pe_lst pa_nil)) (pss_one (ps_ret (pe_lst (pa_cons (pe_lst pa_nil) pa_nil)))) pss_nil)
  (pss_cons (ps_set (i:=1) nd rfl (by walk_at "o") (pe_lst pa_nil))
  (pss_cons (ps_for PassesOwn.never rfl (pi_enum rfl T.z_enumerate (pa_cons (qv 0) pa_nil)) (qg_tupK (K:=K) (n:=2) rfl rfl (qgs_cons (pg_name (i:=2) nd rfl (by walk_at "o")) (qgs_cons (pg_name (i:=3) nd rfl (by walk_at "o")) qgs_nil))) (pss_one (ps_aug (i:=1) nd rfl (by walk_at "o") (pe_lc (own:=["rest"]) (fr:=[3]) rfl (by walk_at "comp_ok") (qi_listK (K:=K) rfl (pe_call G_orders (hr.mono (by decide)) rfl T.g_orders T.f_orders.kp T.b_orders .nil pass0 (pa_cons (pe_op q_cat (pe_slice (q_slLK (K:=K) rfl) (qv 0) po_none (qo_some (qv 2))) (pe_slice (q_slLK (K:=K) rfl) (qv 0) (qo_some (pe_op q_add (qv 2) pe_int)) po_none)) pa_nil))) (fun _ _ _ _=>(pg_name (i:=0) (show List.Nodup (α:=Str) ["rest","first"] from by decide +kernel) rfl (by walk_at "o"))) (fun _ _ _ _=>pts_nil) (fun _ _ _ _=>(pe_op q_cat (pe_lst (pa_cons (qv 1) pa_nil)) (qv 0)))) ip_cat)))
  (pss_one (ps_ret (qv 1)))))),?_⟩
   refine⟨Nat.zero_le _,?_⟩
   intro p1 n1
   generalize hU1:upd _ p1 _ = H1
   have S1:=(upd_sub n1 hU1).1
   have e1:=(upd_sub n1 hU1).2
   clear hU1
   refine⟨_,.lst [],den_ints (S1 _ _ hp),by rw [Den]; exact⟨_,_,rfl,e1,rfl⟩,dep_ints xs,?_⟩
   walk_at "w"
   refine ifB.no (by cases xs with | nil=>simp at hl | cons a l=>simp [eqD,eqDs]) ?_
   refine⟨Nat.zero_le _,?_⟩
   intro p2 n2
   generalize hU2:upd _ p2 _ = H2
   have S2:=(upd_sub n2 hU2).1
   have e2:=(upd_sub n2 hU2).2
   clear hU2
   have hp2:=(S1.trans S2) _ _ hp
   have T2:=S1.trans S2
   refine⟨⟨_,SqL.of hp2⟩,?_⟩
   refine for_enum (K:=K) (a:=p) (xs:=xs.map V.int) (fun i σ H4=>∃ (v2 v3:Option V) (ps:List Addr),σ = [some (.ref p),some (.ref p2),v2,v3]∧Sub H H4∧H4 p2 = some (.lst (ps.map V.ref))∧(∀ q∈ps,q≠p2)∧All2 (LI H4) ps ((List.range i).flatMap fun i=>(ords (xs.length - 1) (xs.eraseIdx i)).map (xs.getD i 0 :: ·))) ?_ ?_ ?_ ?_
   ·exact⟨_,_,[],rfl,T2,e2,by simp,.nil⟩
   ·rintro i σ H4 _ ⟨v2,v3,ps,rfl,S4,_⟩
    exact SqL.of (S4 _ _ hp)
   ·rintro i x σ H4 qt hx ⟨v2,v3,ps,rfl,S4,g4,N4,A4⟩ nq
    rw [List.getElem?_map] at hx
    obtain⟨x,hx1,rfl⟩:=Option.map_eq_some_iff.1 hx
    have hi:i < xs.length:=(List.getElem?_eq_some_iff.1 hx1).1
    have S5:Sub H4 (upd H4 qt (.tup [.int i,.int x])):=Sub.new nq
    have e5:upd H4 qt (.tup [.int i,.int x]) qt = some (.tup [.int i,.int x]):=upd_same
    generalize upd H4 qt (.tup [.int i,.int x]) = H5 at S5 e5 ⊢
    refine⟨_,SqT.of e5,rfl,?_⟩
    refine⟨_,rfl,?_⟩
    refine⟨_,SqL.of ((S4.trans S5) _ _ hp),?_⟩
    intro p6 n6
    generalize hU6:upd _ p6 _ = H6
    have S6:=(upd_sub n6 hU6).1
    have e6:=(upd_sub n6 hU6).2
    clear hU6
    refine⟨_,SqL.of (((S4.trans S5).trans S6) _ _ hp),?_⟩
    intro p7 n7
    generalize hU7:upd _ p7 _ = H7
    have S7:=(upd_sub n7 hU7).1
    have e7:=(upd_sub n7 hU7).2
    clear hU7
    refine⟨_,_,S7 _ _ e6,e7,?_,?_⟩
    ·exact Nat.le_trans (Nat.add_le_add (cutV_length _ _ _) (cutV_length _ _ _)) (by rw [List.length_map]; exact Nat.le_trans (show _≤8 by omega) (by decide))
    intro p8 n8
    generalize hU8:upd _ p8 _ = H8
    have S8:=(upd_sub n8 hU8).1
    have e8:=(upd_sub n8 hU8).2
    clear hU8
    rw [cut_erase xs hi] at e8
    have S48:=((S5.trans S6).trans S7).trans S8
    refine⟨xs.eraseIdx i,e8,by rw [List.length_eraseIdx_of_lt hi]; omega,fun q9 ps9 H9 S9 n9 e9 A9=>?_⟩
    have A9:All2 (LI H9) ps9 (ords (xs.length - 1) (xs.eraseIdx i)):=by rw [hl]; exact A9
    have ho:=ords_len (xs.length - 1) (xs.eraseIdx i) (List.length_eraseIdx_of_lt hi) (by omega)
    refine⟨⟨_,SqL.of e9⟩,?_⟩
    intro pc npc
    refine comp_list (K:=K) (a:=q9) (xs:=ps9.map V.ref) (fun j σ H10=>∃ (v:Option V) (rs:List Addr),σ = [v,some (.int x)]∧Sub H9 H10∧H10 pc = some (.lst (rs.map V.ref))∧(∀ r∈rs,r≠pc∧H9 r = none)∧All2 (LI H10) rs (((ords (xs.length - 1) (xs.eraseIdx i)).take j).map (x :: ·))) ?_ ?_ ?_ ?_
    ·exact⟨none,[],rfl,Sub.new npc,upd_same,by simp,.nil⟩
    ·rintro j σ H10 _ ⟨v,rs,rfl,S10,_⟩
     exact SqL.of (S10 _ _ e9)
    ·rintro j y σ H10 hj ⟨v,rs,rfl,S10,g10,N10,A10⟩
     rw [List.getElem?_map] at hj
     obtain⟨c,hc,rfl⟩:=Option.map_eq_some_iff.1 hj
     obtain⟨o,hoo,hco⟩:=A9.at hc
     refine⟨by show 1≤sizeLine; decide,?_⟩
     intro p11 n11
     generalize hU11:upd _ p11 _ = H11
     have S11:=(upd_sub n11 hU11).1
     have e11:=(upd_sub n11 hU11).2
     clear hU11
     refine⟨_,_,e11,(S10.trans S11) _ _ hco,?_,?_⟩
     ·rw [List.length_map,ho.2 o (List.mem_of_getElem? hoo)]; exact Nat.le_trans (show _≤8 by show 1 + _≤8; omega) (by decide)
     intro p12 n12
     generalize hU12:upd _ p12 _ = H12
     have S12:=(upd_sub n12 hU12).1
     have e12:=(upd_sub n12 hU12).2
     clear hU12
     have e12:LI H12 p12 (x :: o):=e12
     walk_at "w"
     have S912:=(S10.trans S11).trans S12
     have hne:p12≠pc:=by rintro rfl; rw [S11 _ _ g10] at n12; cases n12
     refine⟨_,(S11.trans S12) _ _ g10,?_,_,rs ++ [p12],rfl,S912.upd npc,?_,?_,?_⟩
     ·rw [List.length_map,A10.1,List.length_map,List.length_take]; exact Nat.lt_of_le_of_lt (Nat.le_trans (Nat.min_le_right _ _) ho.1) (by decide)
     ·rw [upd_same,List.map_append]; rfl
     ·intro r hr
      rcases List.mem_append.1 hr with hr | hr
      ·exact N10 r hr
      ·rw [List.mem_singleton.1 hr]; exact⟨hne,(S10.trans S11).free n12⟩
     ·rw [List.take_add_one,hoo,List.map_append]
      refine All2.app (A10.mono fun a z ha hz=>?_) ?_
      ·unfold LI
       rw [upd_ne (N10 a ha).1]
       exact (S11.trans S12) _ _ hz
      ·unfold LI
       rw [upd_ne hne]
       exact e12
    rintro σ H10 ⟨v,rs,rfl,S10,g10,N10,A10⟩
    rw [List.length_map,A9.1,List.take_length] at A10
    have S410:=(S48.trans S9).trans S10
    have np:H4 pc = none:=(S48.trans S9).free npc
    have hne:pc≠p2:=by rintro rfl; rw [g4] at np; cases np
    refine⟨_,_,S410 _ _ g4,g10,?_,?_⟩
    ·rw [List.length_map,List.length_map,A4.1,A10.1,List.length_map]
     have:((List.range i).flatMap fun i=>(ords (xs.length - 1) (xs.eraseIdx i)).map (xs.getD i 0 :: ·)).length≤i * 6:=by
      have:=flat_le (f:=fun i=>(ords (xs.length - 1) (xs.eraseIdx i)).map (xs.getD i 0 :: ·)) (B:=6) (List.range i) fun j hj=>by
       have hj:=List.mem_range.1 hj
       show ((ords _ (xs.eraseIdx j)).map _).length≤_
       rw [List.length_map]
       exact (ords_len (xs.length - 1) (xs.eraseIdx j) (List.length_eraseIdx_of_lt (by omega)) (by omega)).1
      rwa [List.length_range] at this
     have:=ho.1
     exact Nat.le_trans (show _≤100 by omega) (by decide)
    refine⟨_,_,ps ++ rs,rfl,(S4.trans S410).upd (S1.free n2),?_,?_,?_⟩
    ·rw [upd_same,List.map_append]
    ·intro q hq
     rcases List.mem_append.1 hq with hq | hq
     ·exact N4 q hq
     ·intro e
      have:=(N10 q hq).2
      rw [e,(S48.trans S9) _ _ g4] at this
      cases this
    ·rw [List.range_succ,List.flatMap_append,List.flatMap_singleton,show xs.getD i 0 = x by rw [List.getD_eq_getElem?_getD,hx1]; rfl]
     refine All2.append (A4.mono fun a z ha hz=>?_) (A10.mono fun a z ha hz=>?_)
     ·unfold LI
      rw [upd_ne (N4 a ha)]
      exact S410 _ _ hz
     ·unfold LI
      rw [upd_ne]
      ·exact hz
      ·intro e
       have:=(N10 a ha).2
       rw [e,(S48.trans S9) _ _ g4] at this
       cases this
   ·rintro σ H4 ⟨v2,v3,ps,rfl,S4,g4,N4,A4⟩
    rw [List.length_map] at A4
    walk_at "w"
    refine h p2 ps H4 S4 (S1.free n2) g4 (Eq.mp (congrArg (fun k=>All2 (LI H4) ps (ords k xs)) ?_) (show All2 (LI H4) ps (ords (xs.length - 1 + 1) xs) from A4))
    omega
  ·exact h.elim
theorem sc_orders_any:True:=True.intro
theorem ok_orders_any (T:Tx K mg a):FnOk P w K mg base CX0 4 a.orders a.orders_d ["things"] (fun vs H Q E=>(sp_orders 0) vs H Q E∨(sp_orders 1) vs H Q E∨(sp_orders 2) vs H Q E∨(sp_orders 3) vs H Q E):=FnOk.any4 (ok_orders_0 T) (ok_orders_1 T) (ok_orders_2 T) (ok_orders_3 T) (by decide) (by decide) (by decide) (by decide)
theorem sc_namings:FnScope ["many"] ["many"] (defScope s_namings):=⟨rfl,rfl,rfl,by decide +kernel,rfl,by decide +kernel,by decide +kernel⟩
def nms (k:Nat):List (List Int):=(ords (k - 1) (rgL 1 (k - 1))).map (0 :: ·)
theorem nms_len {k:Nat} (h1:1≤k) (h4:k≤4):(nms k).length≤6∧∀ o∈nms k,o.length = k:=by
 obtain⟨a,b⟩:=ords_len (k - 1) (rgL 1 (k - 1)) (by unfold rgL; simp) (by omega)
 refine⟨by unfold nms; rw [List.length_map]; exact a,fun o ho=>?_⟩
 unfold nms at ho
 obtain⟨u,hu,rfl⟩:=List.mem_map.1 ho
 rw [List.length_cons,b u hu]; omega
def sp_namings:Sp:=fun vs H Q _=>match vs with
 | [.int n]=>∃ k:Nat,n = k∧1≤k∧k≤4∧∀ (q:Addr) (ps:List Addr) (H':Hp),Sub H H'→H q = none→H' q = some (.lst (ps.map V.ref))→All2 (LI H') ps (nms k)→Q (.ref q) H'
 | _=>False
theorem ords_any {vs:List V} {H:Hp} {Q:VK} {E:XK} (h:∃ k,k≤3∧sp_orders k vs H Q E):sp_orders 0 vs H Q E∨sp_orders 1 vs H Q E∨sp_orders 2 vs H Q E∨sp_orders 3 vs H Q E:=by
 obtain⟨k,hk,h⟩:=h
 have:k = 0∨k = 1∨k = 2∨k = 3:=by omega
 rcases this with rfl | rfl | rfl | rfl
 ·exact .inl h
 ·exact .inr (.inl h)
 ·exact .inr (.inr (.inl h))
 ·exact .inr (.inr (.inr h))
theorem ok_namings (T:Tx K mg a):FnOk P w K mg base CX0 5 a.namings a.namings_d ["many"] (sp_namings):=by
 have G_orders:=ok_orders_any (P:=P) (w:=w) (base:=base) T
 refine T.f_namings.ok sc_namings (fun vs H Q E h=>?_) (fun cdv A outer s H vs Q E hr h=>?_)
 ·unfold sp_namings at h
  split at h
  ·rfl
  ·exact h.elim
 ·unfold sp_namings at h
  split at h
  ·have nd:=sc_namings.nd
   have hu:=hu_of hr
   rename_i n
   obtain⟨k,rfl,k1,k4,h⟩:=h
   refine⟨_,(pss_one (ps_ret (pe_lc (own:=["order"]) (fr:=[]) rfl (by walk_at "comp_ok") (qi_listK (K:=K) rfl (pe_call G_orders (hr.mono (by decide)) rfl T.g_orders T.f_orders.kp T.b_orders .nil pass0 (pa_cons (pe_lrange rfl rfl T.z_list rfl T.z_range (pa_cons pe_int (pa_cons (qv 0) pa_nil))) pa_nil))) (fun _ _ _ _=>(pg_name (i:=0) (show List.Nodup (α:=Str) ["order"] from by decide +kernel) rfl (by walk_at "o"))) (fun _ _ _ _=>pts_nil) (fun _ _ _ _=>(pe_op q_cat (pe_lst (pa_cons pe_int pa_nil)) (qv 0)))))),?_⟩
   refine⟨⟨by decide,by decide,by omega,by omega,by omega⟩,?_⟩
   intro p1 n1
   generalize hU1:upd _ p1 _ = H1
   have S1:=(upd_sub n1 hU1).1
   have e1:=(upd_sub n1 hU1).2
   clear hU1
   rw [show ((k:Int) - 1).toNat = k - 1 by omega] at e1
   walk_at "w"
   refine ords_any ⟨k - 1,by omega,rgL 1 (k - 1),e1,by unfold rgL; simp,fun q9 ps9 H9 S9 n9 e9 A9=>?_⟩
   have ho:=ords_len (k - 1) (rgL 1 (k - 1)) (by unfold rgL; simp) (by omega)
   refine⟨⟨_,SqL.of e9⟩,?_⟩
   intro pc npc
   refine comp_list (K:=K) (a:=q9) (xs:=ps9.map V.ref) (fun j σ H10=>∃ (v:Option V) (rs:List Addr),σ = [v]∧Sub H9 H10∧H10 pc = some (.lst (rs.map V.ref))∧(∀ r∈rs,r≠pc)∧All2 (LI H10) rs (((ords (k - 1) (rgL 1 (k - 1))).take j).map (0 :: ·))) ?_ ?_ ?_ ?_
   ·exact⟨none,[],rfl,Sub.new npc,upd_same,by simp,.nil⟩
   ·rintro j σ H10 _ ⟨v,rs,rfl,S10,_⟩
    exact SqL.of (S10 _ _ e9)
   ·rintro j y σ H10 hj ⟨v,rs,rfl,S10,g10,N10,A10⟩
    rw [List.getElem?_map] at hj
    obtain⟨c,hc,rfl⟩:=Option.map_eq_some_iff.1 hj
    obtain⟨o,hoo,hco⟩:=A9.at hc
    refine⟨by show 1≤sizeLine; decide,?_⟩
    intro p11 n11
    generalize hU11:upd _ p11 _ = H11
    have S11:=(upd_sub n11 hU11).1
    have e11:=(upd_sub n11 hU11).2
    clear hU11
    refine⟨_,_,e11,(S10.trans S11) _ _ hco,?_,?_⟩
    ·rw [List.length_map,ho.2 o (List.mem_of_getElem? hoo)]; exact Nat.le_trans (show _≤8 by show 1 + _≤8; omega) (by decide)
    intro p12 n12
    generalize hU12:upd _ p12 _ = H12
    have S12:=(upd_sub n12 hU12).1
    have e12:=(upd_sub n12 hU12).2
    clear hU12
    have e12:LI H12 p12 (0 :: o):=e12
    walk_at "w"
    have S912:=(S10.trans S11).trans S12
    have hne:p12≠pc:=by rintro rfl; rw [S11 _ _ g10] at n12; cases n12
    refine⟨_,(S11.trans S12) _ _ g10,?_,_,rs ++ [p12],rfl,S912.upd npc,?_,?_,?_⟩
    ·rw [List.length_map,A10.1,List.length_map,List.length_take]; exact Nat.lt_of_le_of_lt (Nat.le_trans (Nat.min_le_right _ _) ho.1) (by decide)
    ·rw [upd_same,List.map_append]; rfl
    ·intro r hr
     rcases List.mem_append.1 hr with hr | hr
     ·exact N10 r hr
     ·rw [List.mem_singleton.1 hr]; exact hne
    ·rw [List.take_add_one,hoo,List.map_append]
     refine All2.app (A10.mono fun a z ha hz=>?_) ?_
     ·unfold LI
      rw [upd_ne (N10 a ha)]
      exact (S11.trans S12) _ _ hz
     ·unfold LI
      rw [upd_ne hne]
      exact e12
   rintro σ H10 ⟨v,rs,rfl,S10,g10,N10,A10⟩
   rw [List.length_map,A9.1,List.take_length] at A10
   exact h pc rs H10 ((S1.trans S9).trans S10) ((S1.trans S9).free npc) g10 A10
  ·exact h.elim
theorem sc_named_entry:FnScope ["entry","row_names","sign_names","turn","sign","way","row"] ["entry","row_names","sign_names","turn"] (defScope s_named_entry):=⟨rfl,rfl,rfl,by decide +kernel,rfl,by decide +kernel,by decide +kernel⟩
def nmE (ρ τ:List Int) (t:Int):En→En
 | [s,w,r]=>[τ.getD s.toNat 0,w * t,ρ.getD r.toNat 0]
 | e=>e
def sp_named_entry:Sp:=fun vs H Q _=>match vs with
 | [.ref b,.ref pr,.ref ps,.int t]=>∃ (e:En) (ρ τ:List Int),Ent H b e∧LI H pr ρ∧LI H ps τ∧entryOk ρ.length τ.length e = true∧(t = 1∨t = -1)∧∀ (q:Addr) (H':Hp),Sub H H'→Ent H' q (nmE ρ τ t e)→Q (.ref q) H'
 | _=>False
theorem ok_named_entry (T:Tx K mg a):FnOk P w K mg base CX0 1 a.named_entry a.named_entry_d ["entry","row_names","sign_names","turn"] (sp_named_entry):=by
 refine T.f_named_entry.ok sc_named_entry (fun vs H Q E h=>?_) (fun cdv A outer s H vs Q E hr h=>?_)
 ·unfold sp_named_entry at h
  split at h
  ·rfl
  ·exact h.elim
 ·unfold sp_named_entry at h
  split at h
  ·have nd:=sc_named_entry.nd
   have hu:=hu_of hr
   rename_i b pr ps t
   obtain⟨e,ρ,τ,hb,hpr,hps,hok,ht,h⟩:=h
   refine⟨_,(pss_cons (ps_c (pt_c (op_eqD hr) (qv 0) (pe_tup pa_nil)) (pss_one (ps_ret (pe_tup pa_nil))) pss_nil)
  (pss_cons (ps_asg (qv 0) (qg_tupK (K:=K) (n:=3) rfl rfl (qgs_cons (pg_name (i:=4) nd rfl (by walk_at "o")) (qgs_cons (pg_name (i:=5) nd rfl (by walk_at "o")) (qgs_cons (pg_name (i:=6) nd rfl (by walk_at "o")) qgs_nil)))))
  (pss_one (ps_ret (pe_tup (pa_cons (pe_ix (q_ixLK (K:=K) rfl) (qv 2) (qv 4) (fun _ _=>rfl)) (pa_cons (pe_op q_mul (qv 5) (qv 3)) (pa_cons (pe_ix (q_ixLK (K:=K) rfl) (qv 1) (qv 6) (fun _ _=>rfl)) pa_nil)))))))),?_⟩
   refine⟨Nat.zero_le _,?_⟩
   intro p1 n1
   generalize hU1:upd _ p1 _ = H1
   have S1:=(upd_sub n1 hU1).1
   have e1:=(upd_sub n1 hU1).2
   clear hU1
   refine⟨_,.tup [],(hb.stay (.sub S1)).den,by rw [Den]; exact⟨_,_,rfl,e1,rfl⟩,dep_dE1 e,?_⟩
   rw [show eqD (dE e) (.tup []) = decide (e = []) from eqD_dE]
   walk_at "w"
   refine ifB.mk (fun k=>?_) (fun k=>?_)
   ·have k:e = []:=of_decide_eq_true k
    subst k
    refine⟨Nat.zero_le _,?_⟩
    intro p2 n2
    generalize hU2:upd _ p2 _ = H2
    have S2:=(upd_sub n2 hU2).1
    have e2:=(upd_sub n2 hU2).2
    clear hU2
    exact h p2 H2 (S1.trans S2) e2
   have k:¬ e = []:=of_decide_eq_false k
   obtain⟨s0,w0,r0,rfl,a0,a1,a2,a3,a4⟩:=entryOk_three hok k
   refine⟨_,SqT.of (S1 _ _ hb),rfl,?_⟩
   walk_at "w"
   have at_:∀ (l:List Int) (x:Int),0≤x→x < l.length→atI (l.map V.int) x = some (.int (l.getD x.toNat 0)):=fun l x h0 h1=>by
    refine atI_toNat h0 ?_
    rw [List.getElem?_map,List.getD_eq_getElem?_getD,List.getElem?_eq_getElem (show x.toNat < l.length by omega)]
    rfl
   refine⟨_,_,SqL.of (S1 _ _ hps),at_ τ s0 a0 a1,?_⟩
   refine⟨.inl ⟨by omega,by omega⟩,fun wt hwt _=>?_⟩
   refine⟨_,_,SqL.of (S1 _ _ hpr),at_ ρ r0 a3 a4,?_⟩
   refine⟨by show 3≤sizeLine; decide,?_⟩
   intro p2 n2
   generalize hU2:upd _ p2 _ = H2
   have S2:=(upd_sub n2 hU2).1
   have e2:=(upd_sub n2 hU2).2
   clear hU2
   have hwt:wt = w0 * t:=hwt
   subst hwt
   exact h p2 H2 (S1.trans S2) e2
  ·exact h.elim
theorem sc_named:FnScope ["machine","row_names","sign_names","turn","told","row","entries","sign","entry"] ["machine","row_names","sign_names","turn"] (defScope s_named):=⟨rfl,rfl,rfl,by decide +kernel,rfl,by decide +kernel,by decide +kernel⟩
def PermL (k:Nat) (ρ:List Int):Prop:=ρ.length = k∧(∀ x∈ρ,0≤x∧x < k)∧ρ.Nodup∧∀ a,a < k→((a:Nat):Int)∈ρ
def at2 (m:Ma) (r s:Nat):Option En:=(m[r]?).bind (·[s]?)
def ix (ρ:List Int) (r:Nat):Nat:=(ρ.getD r 0).toNat
def Nmd (m:Ma) (ρ τ:List Int) (t:Int) (T:Ma):Prop:=T.length = m.length∧(∀ row∈T,row.length = sgn m)∧∀ (r s:Nat) e,at2 m r s = some e→at2 T (ix ρ r) (ix τ s) = some (nmE ρ τ t e)
theorem PermL.pt {k:Nat} {ρ:List Int} (h:PermL k ρ) {r:Nat} (hr:r < k):ix ρ r < k∧((ix ρ r:Nat):Int) = ρ.getD r 0∧ρ[r]? = some (ρ.getD r 0):=by
 have e:ρ[r]? = some (ρ.getD r 0):=by rw [List.getD_eq_getElem?_getD,List.getElem?_eq_getElem (by rw [h.1]; exact hr)]; rfl
 have:=h.2.1 _ (List.mem_of_getElem? e)
 refine⟨?_,?_,e⟩
 ·show (ρ.getD r 0).toNat < k; omega
 ·show (((ρ.getD r 0).toNat:Nat):Int) = _; omega
theorem PermL.inj {k:Nat} {ρ:List Int} (h:PermL k ρ) {r s:Nat} (hr:r < k) (hs:s < k) (e:ix ρ r = ix ρ s):r = s:=by
 obtain⟨_,a1,a2⟩:=h.pt hr
 obtain⟨_,b1,b2⟩:=h.pt hs
 have:ρ.getD r 0 = ρ.getD s 0:=by rw [← a1,← b1,e]
 rw [this] at a2
 exact (List.getElem?_inj (by rw [h.1]; exact hr) h.2.2.1).1 (a2.trans b2.symm)
theorem PermL.sur {k:Nat} {ρ:List Int} (h:PermL k ρ) {a:Nat} (ha:a < k):∃ r,r < k∧ix ρ r = a:=by
 obtain⟨r,hr⟩:=List.getElem?_of_mem (h.2.2.2 a ha)
 refine⟨r,by rw [← h.1]; exact (List.getElem?_eq_some_iff.1 hr).1,?_⟩
 show (ρ.getD r 0).toNat = a
 rw [List.getD_eq_getElem?_getD,hr]; simp
theorem at2_set {T:Ma} {a b:Nat} {es:List En} {e:En} (ha:T[a]? = some es) (hb:b < es.length) (r s:Nat):at2 (T.set a (es.set b e)) r s = if r = a∧s = b then some e else at2 T r s:=by
 unfold at2
 have hal:=(List.getElem?_eq_some_iff.1 ha).1
 rw [List.getElem?_set]
 by_cases h1:a = r
 ·subst h1
  rw [if_pos rfl,if_pos hal]
  show (es.set b e)[s]? = _
  rw [List.getElem?_set]
  by_cases h2:b = s
  ·subst h2
   rw [if_pos rfl,if_pos hb,if_pos ⟨rfl,rfl⟩]
  ·rw [if_neg h2,if_neg (fun q=>h2 q.2.symm),ha]; rfl
 ·rw [if_neg h1,if_neg (fun q=>h1 q.1.symm)]
def sp_named:Sp:=fun vs H Q _=>match vs with
 | [.ref t,.ref pr,.ref ps,.int tn]=>∃ (m:Ma) (ρ τ:List Int),Mach H t m∧isM m = true∧LI H pr ρ∧LI H ps τ∧PermL m.length ρ∧PermL (sgn m) τ∧(tn = 1∨tn = -1) ∧
   ∀ (q:Addr) (rs:List Addr) (T:Ma) (H':Hp),Sub H H'→H q = none→MaR H' q rs T→(∀ r∈rs,H r = none)→Nmd m ρ τ tn T→Q (.ref q) H'
 | _=>False
theorem ok_named (T:Tx K mg a):FnOk P w K mg base CX0 2 a.named a.named_d ["machine","row_names","sign_names","turn"] (sp_named):=by
 have G_named_entry:=ok_named_entry (P:=P) (w:=w) (base:=base) T
 refine T.f_named.ok sc_named (fun vs H Q E h=>?_) (fun cdv A outer s H vs Q E hr h=>?_)
 ·unfold sp_named at h
  split at h
  ·rfl
  ·exact h.elim
 ·unfold sp_named at h
  split at h
  ·have nd:=sc_named.nd
   have hu:=hu_of hr
   rename_i t pr ps tn
   obtain⟨m,ρ,τ,hm,hM,hpr,hps,pR,pS,htn,h⟩:=h
   have M:=OkM.of hM
   have hn4:=M.n4
   have hs4:=M.s4
   obtain⟨rs0,hm0⟩:=hm
   refine⟨_,(pss_cons (ps_lc (j:=4) rfl nd rfl (by walk_at "o") (own:=["row"]) (fr:=[]) (by walk_at "comp_ok") (qi_listK (K:=K) rfl (qv 0)) (fun _ _ _ _=>(pg_name (i:=0) (show List.Nodup (α:=Str) ["row"] from by decide +kernel) rfl (by walk_at "o"))) (fun _ _ _ _=>pts_nil) (fun _ _ _ _=>(pe_callTy (q_listOfK (K:=K) rfl) rfl T.z_list bt_list (pa_cons (qv 0) pa_nil))))
  (pss_cons (ps_for PassesOwn.never rfl (pi_enum rfl T.z_enumerate (pa_cons (qv 0) pa_nil)) (qg_tupK (K:=K) (n:=2) rfl rfl (qgs_cons (pg_name (i:=5) nd rfl (by walk_at "o")) (qgs_cons (pg_name (i:=6) nd rfl (by walk_at "o")) qgs_nil))) (pss_one (ps_for PassesOwn.never rfl (pi_enum rfl T.z_enumerate (pa_cons (qv 6) pa_nil)) (qg_tupK (K:=K) (n:=2) rfl rfl (qgs_cons (pg_name (i:=7) nd rfl (by walk_at "o")) (qgs_cons (pg_name (i:=8) nd rfl (by walk_at "o")) qgs_nil))) (pss_one (ps_asg (pe_call G_named_entry (hr.mono (by decide)) rfl T.g_named_entry T.f_named_entry.kp T.b_named_entry .nil pass0 (pa_cons (qv 8) (pa_cons (qv 1) (pa_cons (qv 2) (pa_cons (qv 3) pa_nil))))) (pg_sub (pe_ix (q_ixLK (K:=K) rfl) (qv 4) (pe_ix (q_ixLK (K:=K) rfl) (qv 1) (qv 5) (fun _ _=>rfl)) (fun _ _=>rfl)) (pe_ix (q_ixLK (K:=K) rfl) (qv 2) (qv 7) (fun _ _=>rfl)) q_setL))))))
  (pss_one (ps_ret (qv 4))))),?_⟩
   refine⟨⟨_,SqL.of hm0.1⟩,?_⟩
   intro c1 nc1
   refine comp_list (K:=K) (a:=t) (xs:=rs0.map V.ref) (fun i σ H4=>∃ (v:Option V) (rs:List Addr),σ = [v]∧Sub H H4∧MaR H4 c1 rs (m.take i)∧∀ r∈rs,H r = none) ?_ ?_ ?_ ?_
   ·exact⟨none,[],rfl,Sub.new nc1,⟨upd_same,by simp,.nil⟩,by simp⟩
   ·rintro i σ H4 _ ⟨v,rs,rfl,S4,_⟩
    exact SqL.of (S4 _ _ hm0.1)
   ·rintro i x σ H4 hi ⟨v,rs,rfl,S4,M4,N4⟩
    rw [List.getElem?_map] at hi
    obtain⟨c',hc',rfl⟩:=Option.map_eq_some_iff.1 hi
    obtain⟨es,he,as,hE,hA⟩:=hm0.2.2.at hc'
    refine⟨_,.inl (SqL.of (S4 _ _ hE)),?_⟩
    intro p5 n5
    generalize hU5:upd _ p5 _ = H5
    have S5:=(upd_sub n5 hU5).1
    have e5:=(upd_sub n5 hU5).2
    clear hU5
    have M5:=M4.stay (.sub S5)
    have R5:Row H5 p5 es:=⟨as,e5,hA.mono fun _ _ _ z=>S5 _ _ (S4 _ _ z)⟩
    refine⟨_,M5.1,?_,_,rs ++ [p5],rfl,(S4.trans S5).upd nc1,?_,?_⟩
    ·rw [List.length_map,M5.2.2.1,List.length_take]; exact Nat.lt_of_le_of_lt (Nat.le_trans (Nat.min_le_right _ _) hn4) (by decide)
    ·rw [List.take_add_one,he]
     exact M5.app' R5 (M4.out n5) (M4.outp n5)
    ·intro r hr
     rcases List.mem_append.1 hr with hr | hr
     ·exact N4 r hr
     ·rw [List.mem_singleton.1 hr]; exact S4.free n5
   rintro σ H1 ⟨v,rs,rfl,S1,M1,N1⟩
   rw [List.length_map,hm0.2.2.1,List.take_length] at M1
   have nd:∀ r∈rs,∀ o,H r≠some o:=fun r hr o e=>by rw [N1 r hr] at e; cases e
   refine⟨⟨_,SqL.of (S1 _ _ hm0.1)⟩,?_⟩
   have tm:∀ {H':Hp},Sub H H'→H' t = some (.lst (rs0.map V.ref)):=fun S=>S _ _ hm0.1
   have shape:∀ (T:Ma),T.length = m.length→(∀ row∈T,row.length = sgn m)→∀ a,a < m.length→∃ es,T[a]? = some es∧es.length = sgn m:=fun T h1 h2 a ha=>⟨T[a]'(by omega),List.getElem?_eq_getElem _,h2 _ (List.getElem_mem _)⟩
   refine for_enum (K:=K) (a:=t) (xs:=rs0.map V.ref) (fun i σ H4=>∃ (v5 v6 v7 v8:Option V) (T:Ma),σ = [some (.ref t),some (.ref pr),some (.ref ps),some (.int tn),some (.ref c1),v5,v6,v7,v8]∧Sub H H4∧MaR H4 c1 rs T∧T.length = m.length∧(∀ row∈T,row.length = sgn m)∧∀ (r s:Nat) e,r < i→at2 m r s = some e→at2 T (ix ρ r) (ix τ s) = some (nmE ρ τ tn e)) ?_ ?_ ?_ ?_
   ·exact⟨_,_,_,_,m,rfl,S1,M1,rfl,fun row hr=>M.len row hr,fun r s e h=>by omega⟩
   ·rintro i σ H4 _ ⟨v5,v6,v7,v8,T,rfl,S4,_⟩
    exact SqL.of (tm S4)
   ·rintro i x σ H4 qt hx ⟨v5,v6,v7,v8,T,rfl,S4,M4,l4,w4,P4⟩ nq
    rw [List.getElem?_map] at hx
    obtain⟨c,hc,rfl⟩:=Option.map_eq_some_iff.1 hx
    obtain⟨es,he,as,hE,hA⟩:=hm0.2.2.at hc
    have hi:i < m.length:=(List.getElem?_eq_some_iff.1 he).1
    have hel:es.length = sgn m:=M.len es (List.mem_of_getElem? he)
    have S5:Sub H4 (upd H4 qt (.tup [.int i,.ref c])):=Sub.new nq
    have e5:upd H4 qt (.tup [.int i,.ref c]) qt = some (.tup [.int i,.ref c]):=upd_same
    generalize upd H4 qt (.tup [.int i,.ref c]) = H5 at S5 e5 ⊢
    have M5:=M4.stay (.sub S5)
    refine⟨_,SqT.of e5,rfl,?_⟩
    refine⟨⟨_,SqL.of ((S4.trans S5) _ _ hE)⟩,?_⟩
    refine for_enum (K:=K) (a:=c) (xs:=as.map V.ref) (fun j σ H6=>∃ (v7 v8:Option V) (T:Ma),σ = [some (.ref t),some (.ref pr),some (.ref ps),some (.int tn),some (.ref c1),some (.int i),some (.ref c),v7,v8]∧Sub H H6∧MaR H6 c1 rs T∧T.length = m.length∧(∀ row∈T,row.length = sgn m)∧∀ (r s:Nat) e,(r < i∨r = i∧s < j)→at2 m r s = some e→at2 T (ix ρ r) (ix τ s) = some (nmE ρ τ tn e)) ?_ ?_ ?_ ?_
    ·exact⟨_,_,T,rfl,S4.trans S5,M5,l4,w4,fun r s e h=>P4 r s e (by omega)⟩
    ·rintro j σ H6 _ ⟨v7,v8,T,rfl,S6,_⟩
     exact SqL.of (S6 _ _ hE)
    ·rintro j x σ H6 qt nx ⟨v7,v8,T,rfl,S6,M6,l6,w6,P6⟩ nq
     rw [List.getElem?_map] at nx
     obtain⟨d,hd,rfl⟩:=Option.map_eq_some_iff.1 nx
     obtain⟨e,hee,hEd⟩:=hA.at hd
     have hj:j < sgn m:=by rw [← hel]; exact (List.getElem?_eq_some_iff.1 hee).1
     have S7:Sub H6 (upd H6 qt (.tup [.int j,.ref d])):=Sub.new nq
     have e7:upd H6 qt (.tup [.int j,.ref d]) qt = some (.tup [.int j,.ref d]):=upd_same
     generalize upd H6 qt (.tup [.int j,.ref d]) = H7 at S7 e7 ⊢
     refine⟨_,SqT.of e7,rfl,?_⟩
     have T7:=S6.trans S7
     refine⟨e,ρ,τ,T7 _ _ hEd,T7 _ _ hpr,T7 _ _ hps,?_,htn,fun q8 H8 S8 E8=>?_⟩
     ·rw [pR.1,pS.1]; exact M.ent es (List.mem_of_getElem? he) e (List.mem_of_getElem? hee)
     have T8:=T7.trans S8
     have M8:=M6.stay (.sub (S7.trans S8))
     obtain⟨r1,r2,r3⟩:=pR.pt hi
     obtain⟨s1,s2,s3⟩:=pS.pt hj
     obtain⟨row,hrow,hrl⟩:=shape T l6 w6 (ix ρ i) r1
     obtain⟨ra,hra⟩:∃ ra,rs[ix ρ i]? = some ra:=⟨_,List.getElem?_eq_getElem (by rw [M8.2.2.1,l6]; exact r1)⟩
     obtain⟨row',hrow',rAs,hR,hRA⟩:=M8.2.2.at hra
     rw [hrow] at hrow'
     cases hrow'
     refine⟨_,.int ((ix ρ i:Nat):Int),SqL.of (T8 _ _ hpr),atI_nat (j:=i) (by rw [List.getElem?_map,r3,r2]; rfl),?_⟩
     refine⟨_,.ref ra,SqL.of M8.1,atI_nat (j:=ix ρ i) (by rw [List.getElem?_map,hra]; rfl),?_⟩
     refine⟨_,.int ((ix τ j:Nat):Int),SqL.of (T8 _ _ hps),atI_nat (j:=j) (by rw [List.getElem?_map,s3,s2]; rfl),?_⟩
     refine⟨_,ix τ j,hR,by unfold ixN; rw [if_pos (by omega),if_pos (by rw [List.length_map,hRA.1,hrl]; omega),Int.toNat_natCast],?_⟩
     have M9:=M8.rowSet (j:=ix τ j) hra ⟨hR,hRA⟩ E8
     have hra1:H ra = none:=N1 ra (List.mem_of_getElem? hra)
     refine⟨_,_,T.set (ix ρ i) (row.set (ix τ j) (nmE ρ τ tn e)),rfl,T8.upd hra1,M9,by rw [List.length_set]; exact l6,fun x hx=>?_,fun r s e' h1 h2=>?_⟩
     ·rcases List.mem_or_eq_of_mem_set hx with hx | hx
      ·exact w6 x hx
      ·rw [hx,List.length_set]; exact hrl
     ·rw [at2_set hrow (by rw [hrl]; exact s1)]
      have hrs:r < m.length∧s < sgn m:=by
       unfold at2 at h2
       cases q:m[r]? with
       | none=>rw [q] at h2; cases h2
       | some es' =>
        rw [q] at h2
        refine⟨(List.getElem?_eq_some_iff.1 q).1,?_⟩
        rw [← M.len es' (List.mem_of_getElem? q)]
        exact (List.getElem?_eq_some_iff.1 (show es'[s]? = some e' from h2)).1
      by_cases c:r = i∧s = j
      ·obtain⟨rfl,rfl⟩:=c
       rw [if_pos ⟨rfl,rfl⟩]
       unfold at2 at h2
       rw [he] at h2
       have h2:es[s]? = some e':=h2
       rw [hee] at h2
       cases h2
       rfl
      ·rw [if_neg fun q=>c ⟨pR.inj hrs.1 hi q.1,pS.inj hrs.2 hj q.2⟩]
       exact P6 r s e' (by omega) h2
    ·rintro σ H6 ⟨v7,v8,T,rfl,S6,M6,l6,w6,P6⟩
     refine⟨_,_,_,_,T,rfl,S6,M6,l6,w6,fun r s e h1 h2=>P6 r s e ?_ h2⟩
     by_cases c:r < i
     ·exact .inl c
     ·refine .inr ⟨by omega,?_⟩
      have hr:r = i:=by omega
      subst hr
      unfold at2 at h2
      rw [he] at h2
      rw [List.length_map,hA.1]
      exact (List.getElem?_eq_some_iff.1 (show es[s]? = some e from h2)).1
   ·rintro σ H4 ⟨v5,v6,v7,v8,T,rfl,S4,M4,l4,w4,P4⟩
    walk_at "w"
    refine h c1 rs T H4 S4 nc1 M4 N1 ⟨l4,w4,fun r s e h1=>P4 r s e ?_ h1⟩
    rw [List.length_map,hm0.2.2.1]
    unfold at2 at h1
    cases q:m[r]? with
    | none=>rw [q] at h1; cases h1
    | some es=>exact (List.getElem?_eq_some_iff.1 q).1
  ·exact h.elim
theorem sc_least_form:FnScope ["machine","all_rows","all_signs"] ["machine"] (defScope s_least_form):=⟨rfl,rfl,rfl,by decide +kernel,rfl,by decide +kernel,by decide +kernel⟩
def NmS (m T:Ma):Prop:=∃ ρ τ t,ρ∈nms m.length∧τ∈nms (sgn m)∧(t = 1∨t = -1)∧Nmd m ρ τ t T
def Lst (m L:Ma):Prop:=NmS m L∧∀ T,NmS m T→ltN (kM T) (kM L) = false
theorem lst_one {m L L':Ma} (h:Lst m L) (h':Lst m L'):L = L':=by
 refine Classical.byContradiction fun c=>?_
 have hk:kM L≠kM L':=fun e=>c (kM_inj e)
 have:=ltN_tri _ _ _ (Nat.le_refl _) hk (h'.2 L h.1)
 rw [h.2 L' h'.1] at this
 cases this
def okP (k:Nat) (o:List Int):Bool:=decide (o.length = k) && o.all (fun x=>decide (0≤x∧x < k)) && decide o.Nodup && (List.range k).all fun a=>decide (((a:Nat):Int)∈o)
theorem nms_ok {k:Nat} (h1:1≤k) (h4:k≤4):∀ o∈nms k,PermL k o:=by
 have key:(nms k).all (okP k) = true:=by
  have:k = 1∨k = 2∨k = 3∨k = 4:=by omega
  rcases this with rfl | rfl | rfl | rfl <;> decide +kernel
 intro o ho
 have:=List.all_eq_true.1 key o ho
 unfold okP at this
 simp only [Bool.and_eq_true,decide_eq_true_eq,List.all_eq_true] at this
 exact⟨this.1.1.1,this.1.1.2,this.1.2,fun a ha=>this.2 a (List.mem_range.2 ha)⟩
theorem nmd_one {m T T':Ma} {ρ τ:List Int} {t:Int} (hM:isM m = true) (pR:PermL m.length ρ) (pS:PermL (sgn m) τ) (h:Nmd m ρ τ t T) (h':Nmd m ρ τ t T'):T = T':=by
 have M:=OkM.of hM
 have ent:∀ r s,r < m.length→s < sgn m→∃ e,at2 m r s = some e:=fun r s hr hs=>by
  have e1:m[r]? = some m[r]:=List.getElem?_eq_getElem hr
  have hl:=M.len m[r] (List.getElem_mem hr)
  exact⟨m[r][s]'(by omega),by unfold at2; rw [e1]; exact List.getElem?_eq_getElem (by omega)⟩
 refine List.ext_getElem? fun a=>?_
 by_cases ha:a < m.length
 ·have e1:T[a]? = some (T[a]'(by rw [h.1]; exact ha)):=List.getElem?_eq_getElem _
  have e2:T'[a]? = some (T'[a]'(by rw [h'.1]; exact ha)):=List.getElem?_eq_getElem _
  have l1:=h.2.1 _ (List.mem_of_getElem? e1)
  have l2:=h'.2.1 _ (List.mem_of_getElem? e2)
  rw [e1,e2]
  congr 1
  refine List.ext_getElem? fun b=>?_
  by_cases hb:b < sgn m
  ·obtain⟨r,hr,rfl⟩:=pR.sur ha
   obtain⟨s,hs,rfl⟩:=pS.sur hb
   obtain⟨e,he⟩:=ent r s hr hs
   have x1:=h.2.2 r s e he
   have x2:=h'.2.2 r s e he
   unfold at2 at x1 x2
   rw [e1] at x1
   rw [e2] at x2
   exact (show _ = some _ from x1).trans (show _ = some _ from x2).symm
  ·rw [List.getElem?_eq_none (by omega),List.getElem?_eq_none (by omega)]
 ·rw [List.getElem?_eq_none (by rw [h.1]; omega),List.getElem?_eq_none (by rw [h'.1]; omega)]
def MaN (H0 H:Hp) (pt c:Addr) (T:Ma):Prop:=∃ rs,MaR H c rs T∧(H0 c = none∧c≠pt)∧∀ r∈rs,H0 r = none∧r≠pt
theorem MaN.stay {H0 H H':Hp} {pt c:Addr} {T:Ma} (S:Sub H H'):MaN H0 H pt c T→MaN H0 H' pt c T:=fun ⟨rs,a,b⟩=>⟨rs,a.stay (.sub S),b⟩
theorem MaN.put {H0 H:Hp} {pt c:Addr} {T:Ma} {vs us:List V} (hl:H pt = some (.lst vs)):MaN H0 H pt c T→MaN H0 (upd H pt (.lst us)) pt c T:=fun ⟨rs,a,b,d⟩=>⟨rs,a.other hl (Ne.symm b.2) (fun z=>(d pt z).2 rfl),b,d⟩
def sp_least_form (a:Ad):Sp:=fun vs H Q E=>match vs with
 | [.ref t]=>∃ m:Ma,Mach H t m∧Bd 100 m∧(isM m = true→∀ (q:Addr) (rs:List Addr) (L:Ma) (H':Hp),Sub H H'→H q = none→MaR H' q rs L→(∀ r∈rs,H r = none)→Lst m L→Q (.ref q) H')∧(isM m = false→∀ H',Sub H H'→E (.ref a.NoMachine) none H')
 | _=>False
theorem ok_least_form (T:Tx K mg a):FnOk P w K mg base (CXE P w) 6 a.least_form a.least_form_d ["machine"] (sp_least_form a):=by
 have G_must_machine:=ok_must_machine (P:=P) (w:=w) (base:=base) T
 have G_namings:=ok_namings (P:=P) (w:=w) (base:=base) T
 have G_named:=ok_named (P:=P) (w:=w) (base:=base) T
 refine T.f_least_form.okE sc_least_form (fun vs H Q E h=>?_) (fun cdv A outer s H vs Q E hr h=>?_)
 ·unfold sp_least_form at h
  split at h
  ·rfl
  ·exact h.elim
 ·unfold sp_least_form at h
  split at h
  ·have nd:=sc_least_form.nd
   have hu:=hu_of hr
   rename_i t
   obtain⟨m,hm,hBd,h1,h2⟩:=h
   refine⟨_,(@pss_cons _ _ _ _ _ (@ps_expr _ _ _ _ (@pe_call _ _ _ _ _ _ _ _ _ _ _ _ _ _ _ _ G_must_machine (hr.mono (by decide)) rfl T.g_must_machine T.f_must_machine.kp T.b_must_machine .nil passes_fn (@pa_cons _ _ _ _ _ (qv 0) pa_nil (by rfl)) (by decide) (by rfl) (by rfl)) (by rfl)) (PSs.nox (@pss_cons _ _ _ _ _ (@ps_set _ _ 1 _ _ _ _ nd rfl (by walk_at "o") (@pe_call _ _ _ _ _ _ _ _ _ _ _ _ _ _ _ _ G_namings (hr.mono (by decide)) rfl T.g_namings T.f_namings.kp T.b_namings .nil pass0 (@pa_cons _ _ _ _ _ (@pe_callB _ _ _ _ _ _ _ _ _ (@q_lenK _ K rfl) rfl T.z_len bt_len (@pa_cons _ _ _ _ _ (qv 0) pa_nil (by rfl)) (by decide) (by decide) (by rfl) (by rfl)) pa_nil (by rfl)) (by decide) (by rfl) (by rfl)) (by rfl) (by first | exact .inl rfl | exact .inr rfl | assumption)) (@pss_cons _ _ _ _ _ (@ps_set _ _ 2 _ _ _ _ nd rfl (by walk_at "o") (@pe_call _ _ _ _ _ _ _ _ _ _ _ _ _ _ _ _ G_namings (hr.mono (by decide)) rfl T.g_namings T.f_namings.kp T.b_namings .nil pass0 (@pa_cons _ _ _ _ _ (@pe_callB _ _ _ _ _ _ _ _ _ (@q_lenK _ K rfl) rfl T.z_len bt_len (@pa_cons _ _ _ _ _ (@pe_ix _ _ _ _ _ _ _ (@q_ixLK _ K rfl) (qv 0) pe_int (fun _ _=>rfl)) pa_nil (by rfl)) (by decide) (by decide) (by rfl) (by rfl)) pa_nil (by rfl)) (by decide) (by rfl) (by rfl)) (by rfl) (by first | exact .inl rfl | exact .inr rfl | assumption)) (@pss_one _ _ _ (@ps_ret _ _ _ _ (@pe_callB _ _ _ _ _ _ _ _ _ (@q_minM _ _ hr rfl) rfl T.z_min bt_min (@pa_cons _ _ _ _ _ (@pe_lc3 _ _ (["rows","signs","turn"]) ([0,2]) _ _ _ _ _ _ _ _ _ _ _ _ _ _ _ _ _ _ _ _ _ rfl (by walk_at "comp_ok") (@qi_listK _ K _ _ _ rfl (qv 1)) (fun _ _ _ _=>(@pg_name _ _ 0 _ (show List.Nodup (α:=Str) ["rows","signs","turn","machine","all_signs"] from by decide +kernel) rfl (by walk_at "o") (by first | exact .inl rfl | exact .inr rfl | assumption))) (fun _ _ _ _=>pts_nil) (fun _ _ _ _=>(@qi_listK _ K _ _ _ rfl (qv 4))) (fun _ _ _ _=>(@pg_name _ _ 1 _ (show List.Nodup (α:=Str) ["rows","signs","turn","machine","all_signs"] from by decide +kernel) rfl (by walk_at "o") (by first | exact .inl rfl | exact .inr rfl | assumption))) (fun _ _ _ _=>pts_nil) (fun _ _ _ _=>(@qi_tupK _ K _ _ _ rfl (@pe_tup _ _ _ _ _ (@pa_cons _ _ _ _ _ (@pe_un _ _ _ _ _ _ q_neg pe_int) (@pa_cons _ _ _ _ _ pe_int pa_nil (by rfl)) (by rfl))))) (fun _ _ _ _=>(@pg_name _ _ 2 _ (show List.Nodup (α:=Str) ["rows","signs","turn","machine","all_signs"] from by decide +kernel) rfl (by walk_at "o") (by first | exact .inl rfl | exact .inr rfl | assumption))) (fun _ _ _ _=>pts_nil) (fun _ _ _ _=>(@pe_call _ _ _ _ _ _ _ _ _ _ _ _ _ _ _ _ G_named (hr.mono (by decide)) rfl T.g_named T.f_named.kp T.b_named .nil pass0 (@pa_cons _ _ _ _ _ (qv 3) (@pa_cons _ _ _ _ _ (qv 0) (@pa_cons _ _ _ _ _ (qv 1) (@pa_cons _ _ _ _ _ (qv 2) pa_nil (by rfl)) (by rfl)) (by rfl)) (by rfl)) (by decide) (by rfl) (by rfl))) (by intro _ ; rfl) (by intro _ _ ; rfl) (by intro _ _ ; rfl)) pa_nil (by rfl)) (by decide) (by decide) (by rfl) (by rfl)))))))),?_⟩
   refine⟨m,hm,hBd,fun hM H1 S1=>?_,fun hM H1 S1=>h2 hM H1 S1⟩
   have h:=h1 hM
   clear h1 h2
   have M:=OkM.of hM
   have hn4:=M.n4
   have hs4:=M.s4
   have hn1:=M.n1
   have hs2:=M.s2
   obtain⟨rs0,hm1⟩:=hm.stay (.sub S1)
   obtain⟨r0,hr0⟩:∃ r0,rs0[0]? = some r0:=⟨_,List.getElem?_eq_getElem (by rw [hm1.2.2.1]; omega)⟩
   obtain⟨es0,hes0,as0,hr0a,hA0⟩:=hm1.2.2.at hr0
   have hsg:es0.length = sgn m:=M.len es0 (List.mem_of_getElem? hes0)
   refine⟨_,.inl (SqL.of hm1.1),?_⟩
   rw [List.length_map,hm1.2.2.1]
   refine⟨m.length,rfl,hn1,hn4,fun q2 ps2 H2 S2 n2 e2 A2=>?_⟩
   refine⟨_,_,SqL.of (S2 _ _ hm1.1),atI_nat (j:=0) (by rw [List.getElem?_map,hr0]; rfl),?_⟩
   refine⟨_,.inl (SqL.of (S2 _ _ hr0a)),?_⟩
   rw [List.length_map,hA0.1,hsg]
   refine⟨sgn m,rfl,by omega,hs4,fun q3 ps3 H3 S3 n3 e3 A3=>?_⟩
   refine⟨⟨_,SqL.of (S3 _ _ e2)⟩,?_⟩
   intro pt npt
   have L1:=nms_len hn1 hn4
   have L2':=nms_len (k:=sgn m) (by omega) hs4
   have T3:=(S1.trans S2).trans S3
   have hMt:∀ {H':Hp},Sub H3 H'→Mach H' t m:=fun S=>hm.stay (.sub (T3.trans S))
   refine comp_list (K:=K) (a:=q2) (xs:=ps2.map V.ref) (fun i σ H4=>∃ (v:Option V) (cs:List Addr) (Ts:List Ma),σ = [v,none,none,some (.ref t),some (.ref q3)]∧Sub H3 H4∧H4 pt = some (.lst (cs.map V.ref))∧All2 (MaN H H4 pt) cs Ts∧cs.length≤12 * i∧(∀ T∈Ts,NmS m T)∧∀ ρ τ tn,ρ∈(nms m.length).take i→τ∈nms (sgn m)→(tn = 1∨tn = -1)→∃ T∈Ts,Nmd m ρ τ tn T) ?_ ?_ ?_ ?_
   ·exact⟨none,[],[],rfl,Sub.new npt,upd_same,.nil,Nat.zero_le _,by simp,fun ρ τ tn h=>by simp at h⟩
   ·rintro i σ H4 _ ⟨v,cs,Ts,rfl,S4,_⟩
    exact SqL.of ((S3.trans S4) _ _ e2)
   ·rintro i x σ H4 hi ⟨v,cs,Ts,rfl,S4,g4,A4,l4,N4,C4⟩
    rw [List.getElem?_map] at hi
    obtain⟨pr,hpr,rfl⟩:=Option.map_eq_some_iff.1 hi
    obtain⟨ρ0,hρ,hpρ⟩:=A2.at hpr
    have hi6:i < 6:=Nat.lt_of_lt_of_le (List.getElem?_eq_some_iff.1 hρ).1 L1.1
    have pR:=nms_ok hn1 hn4 ρ0 (List.mem_of_getElem? hρ)
    refine⟨⟨_,SqL.of (S4 _ _ e3)⟩,?_⟩
    refine nest_list (K:=K) (a:=q3) (xs:=ps3.map V.ref) (fun j σ H5=>∃ (v:Option V) (cs:List Addr) (Ts:List Ma),σ = [some (.ref pr),v,none,some (.ref t),some (.ref q3)]∧Sub H3 H5∧H5 pt = some (.lst (cs.map V.ref))∧All2 (MaN H H5 pt) cs Ts∧cs.length≤12 * i + 2 * j∧(∀ T∈Ts,NmS m T)∧(∀ ρ τ tn,ρ∈(nms m.length).take i→τ∈nms (sgn m)→(tn = 1∨tn = -1)→∃ T∈Ts,Nmd m ρ τ tn T)∧∀ τ tn,τ∈(nms (sgn m)).take j→(tn = 1∨tn = -1)→∃ T∈Ts,Nmd m ρ0 τ tn T) ?_ ?_ ?_ ?_
    ·exact⟨none,cs,Ts,rfl,S4,g4,A4,l4,N4,C4,fun τ tn h=>by simp at h⟩
    ·rintro j σ H5 _ ⟨v,cs,Ts,rfl,S5,_⟩
     exact SqL.of (S5 _ _ e3)
    ·rintro j x σ H5 hj ⟨v,cs,Ts,rfl,S5,g5,A5,l5,N5,C5,D5⟩
     rw [List.getElem?_map] at hj
     obtain⟨ps',hps',rfl⟩:=Option.map_eq_some_iff.1 hj
     obtain⟨τ0,hτ,hpτ⟩:=A3.at hps'
     have hj6:j < 6:=Nat.lt_of_lt_of_le (List.getElem?_eq_some_iff.1 hτ).1 L2'.1
     have pS:=nms_ok (k:=sgn m) (by omega) hs4 τ0 (List.mem_of_getElem? hτ)
     refine⟨by show 2≤sizeLine; decide,?_⟩
     intro p6 n6
     generalize hU6:upd _ p6 _ = H6
     have S6:=(upd_sub n6 hU6).1
     have e6:=(upd_sub n6 hU6).2
     clear hU6
     refine⟨⟨_,SqT.of e6⟩,?_⟩
     refine nest_tup (K:=K) (a:=p6) (xs:=[V.int (-1),V.int 1]) (fun l σ H7=>∃ (v:Option V) (cs:List Addr) (Ts:List Ma),σ = [some (.ref pr),some (.ref ps'),v,some (.ref t),some (.ref q3)]∧Sub H3 H7∧H7 p6 = some (.tup [.int (-1),.int 1])∧H7 pt = some (.lst (cs.map V.ref))∧All2 (MaN H H7 pt) cs Ts∧cs.length≤12 * i + 2 * j + l∧(∀ T∈Ts,NmS m T)∧(∀ ρ τ tn,ρ∈(nms m.length).take i→τ∈nms (sgn m)→(tn = 1∨tn = -1)→∃ T∈Ts,Nmd m ρ τ tn T)∧(∀ τ tn,τ∈(nms (sgn m)).take j→(tn = 1∨tn = -1)→∃ T∈Ts,Nmd m ρ0 τ tn T)∧(1≤l→∃ T∈Ts,Nmd m ρ0 τ0 (-1) T)∧(2≤l→∃ T∈Ts,Nmd m ρ0 τ0 1 T)) ?_ ?_ ?_ ?_
     ·exact⟨none,cs,Ts,rfl,S5.trans S6,e6,S6 _ _ g5,A5.mono fun _ _ _ z=>z.stay S6,l5,N5,C5,D5,fun h=>by omega,fun h=>by omega⟩
     ·rintro l σ H7 _ ⟨v,cs,Ts,rfl,S7,g7,_⟩
      exact SqT.of g7
     ·rintro l x σ H7 hl ⟨v,cs,Ts,rfl,S7,t7,g7,A7,l7,N7,C7,D7,E7,F7⟩
      obtain⟨hl2,tn,rfl,htn,ht1,ht2⟩:l < 2∧∃ tn:Int,x = .int tn∧(tn = 1∨tn = -1)∧(l = 0→tn = -1)∧(l = 1→tn = 1):=by
       match l,hl with
       | 0,hl=>cases hl; exact⟨by decide,-1,rfl,.inr rfl,fun _=>rfl,fun h=>by omega⟩
       | 1,hl=>cases hl; exact⟨by decide,1,rfl,.inl rfl,fun h=>by omega,fun _=>rfl⟩
       | l + 2,hl=>cases hl
      refine⟨m,ρ0,τ0,hMt S7,hM,(S3.trans S7) _ _ hpρ,S7 _ _ hpτ,pR,pS,htn,fun q8 rs8 T8 H8 S8 n8 M8 R8 D8=>?_⟩
      have g8:=S8 _ _ g7
      have hq8:q8≠pt:=by rintro rfl; rw [g7] at n8; cases n8
      have hN8:MaN H H8 pt q8 T8:=⟨rs8,M8,⟨(T3.trans S7).free n8,hq8⟩,fun r hr=>⟨(T3.trans S7).free (R8 r hr),by rintro rfl; rw [R8 _ hr] at g7; cases g7⟩⟩
      have mem:∀ {P:Ma→Prop},(∃ T∈Ts,P T)→∃ T∈Ts ++ [T8],P T:=fun ⟨T,h1,h2⟩=>⟨T,List.mem_append_left _ h1,h2⟩
      have me8:T8∈Ts ++ [T8]:=List.mem_append_right _ (by simp)
      refine⟨_,g8,?_,_,cs ++ [q8],Ts ++ [T8],rfl,(S7.trans S8).upd npt,?_,?_,?_,?_,?_,?_,?_,?_,?_⟩
      ·rw [List.length_map]; exact Nat.lt_of_le_of_lt (show _≤200 by omega) (by decide)
      ·rw [upd_ne (by rintro rfl; rw [t7] at g7; cases g7)]; exact S8 _ _ t7
      ·rw [upd_same,List.map_append]; rfl
      ·exact All2.app (A7.mono fun _ _ _ z=>(z.stay S8).put g8) (hN8.put g8)
      ·rw [List.length_append]; show cs.length + 1≤_; omega
      ·intro T hT
       rcases List.mem_append.1 hT with hT | hT
       ·exact N7 T hT
       ·rw [List.mem_singleton.1 hT]; exact⟨ρ0,τ0,tn,List.mem_of_getElem? hρ,List.mem_of_getElem? hτ,htn,D8⟩
      ·exact fun ρ τ t' a b c=>mem (C7 ρ τ t' a b c)
      ·exact fun τ t' a b=>mem (D7 τ t' a b)
      ·intro h
       by_cases c:l = 0
       ·refine⟨T8,me8,?_⟩
        rw [← ht1 c]; exact D8
       ·exact mem (E7 (by omega))
      ·intro h
       have c:l = 1:=by omega
       refine⟨T8,me8,?_⟩
       rw [← ht2 c]; exact D8
     ·rintro σ H7 ⟨v,cs,Ts,rfl,S7,t7,g7,A7,l7,N7,C7,D7,E7,F7⟩
      refine⟨⟨rfl,fun n v h=>?_⟩,_,cs,Ts,rfl,S7,g7,A7,by have:cs.length≤12 * i + 2 * j + 2:=l7; omega,N7,C7,fun τ tn h1 h2=>?_⟩
      ·match n,h with
       | 0,h=>exact h
       | 1,h=>exact h
       | 2,h=>cases h
       | 3,h=>exact h
       | 4,h=>exact h
       | n + 5,h=>cases h
      ·rw [List.take_add_one,hτ] at h1
       rcases List.mem_append.1 h1 with h1 | h1
       ·exact D7 τ tn h1 h2
       ·rw [List.mem_singleton.1 h1]
        rcases h2 with rfl | rfl
        ·exact F7 (Nat.le_refl _)
        ·exact E7 (by decide)
    ·rintro σ H5 ⟨v,cs,Ts,rfl,S5,g5,A5,l5,N5,C5,D5⟩
     have hpl:(ps3.map V.ref).length = (nms (sgn m)).length:=by rw [List.length_map,A3.1]
     rw [hpl,List.take_length] at D5
     refine⟨⟨rfl,fun n v h=>?_⟩,_,cs,Ts,rfl,S5,g5,A5,by rw [hpl] at l5; have:=L2'.1; omega,N5,fun ρ τ tn h1 h2 h3=>?_⟩
     ·match n,h with
      | 0,h=>exact h
      | 1,h=>cases h
      | 2,h=>cases h
      | 3,h=>exact h
      | 4,h=>exact h
      | n + 5,h=>cases h
     ·rw [List.take_add_one,hρ] at h1
      rcases List.mem_append.1 h1 with h1 | h1
      ·exact C5 ρ τ tn h1 h2 h3
      ·rw [List.mem_singleton.1 h1]; exact D5 τ tn h2 h3
   rintro σ H4 ⟨v,cs,Ts,rfl,S4,g4,A4,l4,N4,C4⟩
   rw [List.length_map,A2.1,List.take_length] at C4
   refine⟨cs,Ts,g4,A4.mono fun _ _ _ z=>z.elim fun rs y=>⟨rs,y.1⟩,?_,fun r L j hr hL hmin=>?_⟩
   ·intro e
    subst e
    have h0:∃ ρ,ρ∈nms m.length:=by
     cases e:nms m.length with
     | nil =>
      exfalso
      have:m.length = 1∨m.length = 2∨m.length = 3∨m.length = 4:=by omega
      rcases this with q | q | q | q <;> rw [q] at e <;> exact absurd (congrArg List.length e) (by decide +kernel)
     | cons a l=>exact⟨a,by simp⟩
    have h1:∃ τ,τ∈nms (sgn m):=by
     cases e:nms (sgn m) with
     | nil =>
      exfalso
      have:sgn m = 2∨sgn m = 3∨sgn m = 4:=by omega
      rcases this with q | q | q <;> rw [q] at e <;> exact absurd (congrArg List.length e) (by decide +kernel)
     | cons a l=>exact⟨a,by simp⟩
    obtain⟨ρ,hρ⟩:=h0
    obtain⟨τ,hτ⟩:=h1
    obtain⟨T,hT,_⟩:=C4 ρ τ 1 hρ hτ (.inl rfl)
    have:=A4.1
    have hT':Ts = []:=List.eq_nil_of_length_eq_zero (by rw [← A4.1]; rfl)
    rw [hT'] at hT
    cases hT
   ·obtain⟨rs,x1,x2,x3⟩:=A4.2 j r L hr hL
    refine h r rs L H4 (T3.trans S4) x2.1 x1 (fun y hy=>(x3 y hy).1) ⟨N4 L (List.mem_of_getElem? hL),fun T' hT'=>?_⟩
    obtain⟨ρ,τ,tn,a1,a2,a3,a4⟩:=hT'
    obtain⟨T,hT,b1⟩:=C4 ρ τ tn a1 a2 a3
    rw [nmd_one hM (nms_ok hn1 hn4 ρ a1) (nms_ok (by omega) hs4 τ a2) a4 b1]
    exact hmin T hT
  ·exact h.elim
theorem sc_are_alike:FnScope ["one","other","form"] ["one","other"] (defScope s_are_alike):=⟨rfl,rfl,rfl,by decide +kernel,rfl,by decide +kernel,by decide +kernel⟩
theorem kM_dM {m n:Ma}:eqD (dM m) (dM n) = decide (m = n):=by
 show eqD (.lst (m.map dR)) (.lst (n.map dR)) = _
 rw [eqD,eqDs_map eqD_kR]
 exact decide_eq_decide.2 ⟨fun h=>map_inj_on (fun _ _=>kR_inj) h,fun h=>by rw [h]⟩
theorem dep_dM3 {m:Ma}:dep (dM m)≤3:=by
 rw [dM,dep]
 have:depL (m.map dR)≤2:=depL_leK fun d hd=>by
  obtain⟨r,_,rfl⟩:=List.mem_map.1 hd
  exact dep_dR
 omega
theorem bd_of {m:Ma} (h:isM m = true):Bd 100 m:=by
 have M:=OkM.of h
 have:=M.n4
 have:=M.s4
 exact⟨by omega,fun r hr=>by rw [M.len r hr]; omega⟩
def sp_alike:Sp:=fun vs H Q _=>match vs with
 | [.ref a,.ref b]=>∃ m n:Ma,Mach H a m∧isM m = true∧Mach H b n∧isM n = true∧∀ (L L':Ma) (H':Hp),Sub H H'→Lst m L→Lst n L'→Q (.bl (decide (L = L'))) H'
 | _=>False
theorem ok_are_alike (T:Tx K mg a):FnOk P w K mg base CX0 7 a.are_alike a.are_alike_d ["one","other"] (sp_alike):=by
 have G_least_form:=(ok_least_form (P:=P) (w:=w) (base:=base) T).noE
 refine T.f_are_alike.ok sc_are_alike (fun vs H Q E h=>?_) (fun cdv A outer s H vs Q E hr h=>?_)
 ·unfold sp_alike at h
  split at h
  ·rfl
  ·exact h.elim
 ·unfold sp_alike at h
  split at h
  ·have nd:=sc_are_alike.nd
   have hu:=hu_of hr
   rename_i a b
   obtain⟨m,n,hm,hM,hn,hN,h⟩:=h
   refine⟨_,(@pss_cons _ _ _ _ _ (@ps_set _ _ 2 _ _ _ _ nd rfl (by walk_at "o") (@pe_call _ _ _ _ _ _ _ _ _ _ _ _ _ _ _ _ G_least_form (hr.mono (by decide)) rfl T.g_least_form T.f_least_form.kp T.b_least_form .nil pass0 (@pa_cons _ _ _ _ _ (qv 0) pa_nil (by rfl)) (by decide) (by rfl) (by rfl)) (by rfl) (by first | exact .inl rfl | exact .inr rfl | assumption)) (@pss_cons _ _ _ _ _ (@ps_ret _ _ _ _ (@pe_cmpR _ _ _ _ _ _ _ _ (@op_eqD _ _ hr) (qv 2) (@pe_call _ _ _ _ _ _ _ _ _ _ _ _ _ _ _ _ G_least_form (hr.mono (by decide)) rfl T.g_least_form T.f_least_form.kp T.b_least_form .nil pass0 (@pa_cons _ _ _ _ _ (qv 1) pa_nil (by rfl)) (by decide) (by rfl) (by rfl)) (by first | exact nomark _ | rfl))) (PSs.nox pss_nil))),?_⟩
   refine⟨m,hm,bd_of hM,fun _ q1 rs1 L1 H1 S1 n1 M1 R1 hL1=>?_,fun z=>by rw [hM] at z; cases z⟩
   refine⟨n,hn.stay (.sub S1),bd_of hN,fun _ q2 rs2 L2 H2 S2 n2 M2 R2 hL2=>?_,fun z=>by rw [hN] at z; cases z⟩
   refine⟨_,_,Mach.den ⟨rs1,M1.stay (.sub S2)⟩,Mach.den ⟨rs2,M2⟩,dep_dM,?_⟩
   rw [kM_dM]
   exact h L1 L2 H2 (S1.trans S2) hL1 hL2
  ·exact h.elim
theorem sc_groups:FnScope ["machines","firsts","told","at","form"] ["machines"] (defScope s_groups):=⟨rfl,rfl,rfl,by decide +kernel,rfl,by decide +kernel,by decide +kernel⟩
def fsts (Ls:List Ma):List Ma:=Ls.foldl (fun a x=>if x∈a then a else a ++ [x]) []
def wh (Ls:List Ma) (i:Nat) (F:Ma):List Int:=((List.range i).filter fun j=>decide (Ls[j]? = some F)).map fun j=>((j:Nat):Int)
def grp (Ls:List Ma) (i:Nat):List (List Int):=(fsts (Ls.take i)).map (wh Ls i)
theorem fsts_snoc (Ls:List Ma) (x:Ma):fsts (Ls ++ [x]) = if x∈fsts Ls then fsts Ls else fsts Ls ++ [x]:=by
 unfold fsts
 rw [List.foldl_append]; rfl
theorem fsts_nodup:∀ (Ls:List Ma),(fsts Ls).Nodup∧(∀ x,x∈fsts Ls ↔ x∈Ls)∧(fsts Ls).length≤Ls.length:=by
 intro Ls
 induction h:Ls.length generalizing Ls with
 | zero =>
  have:Ls = []:=List.eq_nil_of_length_eq_zero h
  subst this
  exact⟨List.nodup_nil,fun x=>Iff.rfl,Nat.le_refl _⟩
 | succ n ih =>
  obtain⟨L,x,rfl⟩:∃ L x,Ls = L ++ [x]:=⟨Ls.dropLast,Ls.getLast (by intro e; rw [e] at h; cases h),(List.dropLast_concat_getLast _).symm⟩
  have hl:L.length = n:=by rw [List.length_append] at h; exact Nat.succ.inj h
  obtain⟨i1,i2,i3⟩:=ih L hl
  rw [fsts_snoc]
  by_cases c:x∈fsts L
  ·rw [if_pos c]
   refine⟨i1,fun y=>?_,by omega⟩
   rw [i2 y,List.mem_append,List.mem_singleton]
   exact⟨.inl,fun z=>z.elim id fun e=>by rw [e]; exact (i2 x).1 c⟩
  ·rw [if_neg c]
   refine⟨?_,fun y=>?_,by rw [List.length_append]; show _ + 1≤_; omega⟩
   ·rw [List.nodup_append]
    refine⟨i1,by simp,fun a ha b hb e=>?_⟩
    rw [List.mem_singleton.1 hb] at e
    rw [e] at ha
    exact c ha
   ·rw [List.mem_append,List.mem_append,i2 y]
theorem wh_succ (Ls:List Ma) (i:Nat) (F:Ma):wh Ls (i + 1) F = wh Ls i F ++ (if Ls[i]? = some F then [((i:Nat):Int)] else []):=by
 unfold wh
 rw [List.range_succ,List.filter_append,List.map_append]
 congr 1
 by_cases c:Ls[i]? = some F
 ·rw [if_pos c,List.filter_cons,if_pos (decide_eq_true c)]; rfl
 ·rw [if_neg c,List.filter_cons,if_neg (by simp [c])]; rfl
theorem grp_in {Ls:List Ma} {i:Nat} {x:Ma} (hx:Ls[i]? = some x) (h:x∈fsts (Ls.take i)):grp Ls (i + 1) = (grp Ls i).set ((fsts (Ls.take i)).idxOf x) (wh Ls i x ++ [((i:Nat):Int)])∧(grp Ls i)[(fsts (Ls.take i)).idxOf x]? = some (wh Ls i x):=by
 have hj:(fsts (Ls.take i)).idxOf x < (fsts (Ls.take i)).length:=List.idxOf_lt_length_iff.mpr h
 have hnd:=(fsts_nodup (Ls.take i)).1
 have ht:fsts (Ls.take (i + 1)) = fsts (Ls.take i):=by
  rw [List.take_add_one,hx]
  show fsts (Ls.take i ++ [x]) = _
  rw [fsts_snoc,if_pos h]
 have ha:(fsts (Ls.take i))[(fsts (Ls.take i)).idxOf x]? = some x:=by rw [List.getElem?_eq_getElem hj,List.getElem_idxOf]
 refine⟨?_,by unfold grp; rw [List.getElem?_map,ha]; rfl⟩
 unfold grp
 rw [ht]
 refine List.ext_getElem? fun j=>?_
 by_cases c:(fsts (Ls.take i)).idxOf x = j
 ·subst c
  rw [List.getElem?_set_self (by rw [List.length_map]; exact hj),List.getElem?_map,ha]
  show some (wh Ls (i + 1) x) = _
  rw [wh_succ,if_pos hx]
 ·rw [List.getElem?_set_ne c,List.getElem?_map,List.getElem?_map]
  cases e:(fsts (Ls.take i))[j]? with
  | none=>rfl
  | some F =>
   show some (wh Ls (i + 1) F) = some (wh Ls i F)
   rw [wh_succ,if_neg,List.append_nil]
   intro z
   rw [hx] at z
   cases z
   exact c ((List.getElem?_inj hj hnd).1 (ha.trans e.symm))
theorem grp_new {Ls:List Ma} {i:Nat} {x:Ma} (hx:Ls[i]? = some x) (h:x ∉ fsts (Ls.take i)):grp Ls (i + 1) = grp Ls i ++ [[((i:Nat):Int)]]:=by
 have hm:=(fsts_nodup (Ls.take i)).2.1
 have ht:fsts (Ls.take (i + 1)) = fsts (Ls.take i) ++ [x]:=by
  rw [List.take_add_one,hx]
  show fsts (Ls.take i ++ [x]) = _
  rw [fsts_snoc,if_neg h]
 unfold grp
 rw [ht,List.map_append]
 congr 1
 ·refine List.map_congr_left fun F hF=>?_
  rw [wh_succ,if_neg,List.append_nil]
  intro z
  rw [hx] at z
  cases z
  exact h hF
 ·show [wh Ls (i + 1) x] = _
  rw [wh_succ,if_pos hx]
  have:wh Ls i x = []:=by
   unfold wh
   rw [List.map_eq_nil_iff,List.filter_eq_nil_iff]
   intro j hj z
   have hj:=List.mem_range.1 hj
   have z:=of_decide_eq_true z
   exact h ((hm x).2 (List.mem_of_getElem? (i:=j) (by rw [List.getElem?_take_of_lt hj]; exact z)))
  rw [this]; rfl
theorem any_fs {fs:List Ma} {L:Ma}:((fs.map dM).any fun e=>eqD e (dM L)) = decide (L∈fs):=by
 rw [Bool.eq_iff_iff,List.any_eq_true,decide_eq_true_eq]
 constructor
 ·rintro ⟨e,he,h⟩
  obtain⟨F,hF,rfl⟩:=List.mem_map.1 he
  rw [kM_dM] at h
  rw [← of_decide_eq_true h]; exact hF
 ·intro h
  exact⟨dM L,List.mem_map.2 ⟨L,h,rfl⟩,eqD_refl _⟩
theorem ma_kp {Hc H4:Hp} {p1 p2 c:Addr} {x y:List V} {rs:List Addr} {L:Ma} (K:∀ a o,Hc a = some o→a≠p1→a≠p2→H4 a = some o) (h1:Hc p1 = some (.lst x)) (h2:Hc p2 = some (.lst y)) (h:MaR Hc c rs L) (hc:c≠p1∧c≠p2) (hr:∀ r∈rs,r≠p1∧r≠p2):Mach H4 c L :=
 ⟨rs,K _ _ h.1 hc.1 hc.2,h.2.1,h.2.2.mono fun r es hrm ⟨as,y1,y2⟩=>⟨as,K _ _ y1 (hr r hrm).1 (hr r hrm).2,y2.mono fun a e _ z=>by
  unfold Ent at z ⊢
  refine K _ _ z ?_ ?_
  ·rintro rfl; rw [h1] at z; cases z
  ·rintro rfl; rw [h2] at z; cases z⟩⟩
theorem li_set {H:Hp} {gs:List Addr} {xs:List (List Int)} {g:Addr} {j:Nat} {ys:List Int} (h:All2 (LI H) gs xs) (hn:gs.Nodup) (hg:gs[j]? = some g):All2 (LI (upd H g (.lst (ys.map V.int)))) gs (xs.set j ys):=by
 refine⟨by rw [List.length_set]; exact h.1,fun i a x ha hx=>?_⟩
 have hjl:=(List.getElem?_eq_some_iff.1 hg).1
 by_cases c:j = i
 ·subst c
  rw [hg] at ha
  cases ha
  rw [List.getElem?_set_self (by rw [← h.1]; exact hjl)] at hx
  cases hx
  exact upd_same
 ·rw [List.getElem?_set_ne c] at hx
  unfold LI
  rw [upd_ne]
  ·exact h.2 i a x ha hx
  ·rintro rfl
   exact c ((List.getElem?_inj hjl hn).1 (hg.trans ha.symm))
def sp_groups:Sp:=fun vs H Q _=>match vs with
 | [.ref p]=>∃ (as:List Addr) (ms:List Ma),H p = some (.lst (as.map V.ref))∧All2 (Mach H) as ms∧(∀ m∈ms,isM m = true)∧ms.length≤20 ∧
   ∀ (q:Addr) (gs:List Addr) (Ls:List Ma) (H':Hp),Sub H H'→H q = none→H' q = some (.lst (gs.map V.ref))→(∀ g∈gs,H g = none∧g≠q)→gs.Nodup→Ls.length = ms.length→(∀ (i:Nat) m L,ms[i]? = some m→Ls[i]? = some L→Lst m L)→All2 (LI H') gs (grp Ls ms.length)→Q (.ref q) H'
 | _=>False
theorem ok_groups (T:Tx K mg a):FnOk P w K mg base CX0 7 a.groups a.groups_d ["machines"] (sp_groups):=by
 have G_least_form:=(ok_least_form (P:=P) (w:=w) (base:=base) T).noE
 refine T.f_groups.ok sc_groups (fun vs H Q E h=>?_) (fun cdv A outer s H vs Q E hr h=>?_)
 ·unfold sp_groups at h
  split at h
  ·rfl
  ·exact h.elim
 ·unfold sp_groups at h
  split at h
  ·have nd:=sc_groups.nd
   have hu:=hu_of hr
   rename_i p
   obtain⟨as,ms,hp,hA,hM,hl,h⟩:=h
   refine⟨_,(@pss_cons _ _ _ _ _ (@ps_set _ _ 1 _ _ _ _ nd rfl (by walk_at "o") (@pe_lst _ _ _ _ pa_nil) (by rfl) (by first | exact .inl rfl | exact .inr rfl | assumption)) (@pss_cons _ _ _ _ _ (@ps_set _ _ 2 _ _ _ _ nd rfl (by walk_at "o") (@pe_lst _ _ _ _ pa_nil) (by rfl) (by first | exact .inl rfl | exact .inr rfl | assumption)) (@pss_cons _ _ _ _ _ (@ps_for _ _ _ _ _ _ _ _ PassesOwn.never rfl (@pi_enum _ _ _ _ _ _ _ _ rfl T.z_enumerate (@pa_cons _ _ _ _ _ (@pe_lc _ _ ["machine"] [] _ _ _ _ _ _ _ _ _ rfl (by walk_at "comp_ok") (@qi_listK _ K _ _ _ rfl (qv 0)) (fun _ _ _ _=>(@pg_name _ _ 0 _ (show List.Nodup (α:=Str) ["machine"] from by decide +kernel) rfl (by walk_at "o") (by first | exact .inl rfl | exact .inr rfl | assumption))) (fun _ _ _ _=>pts_nil) (fun _ _ _ _=>(@pe_call _ _ _ _ _ _ _ _ _ _ _ _ _ _ _ _ G_least_form (hr.mono (by decide)) rfl T.g_least_form T.f_least_form.kp T.b_least_form .nil pass0 (@pa_cons _ _ _ _ _ (qv 0) pa_nil (by rfl)) (by decide) (by rfl) (by rfl))) (by intro _ ; rfl)) pa_nil (by rfl)) (by rfl)) (@qg_tupK _ K _ _ _ _ 2 rfl rfl (@qgs_cons _ _ _ _ _ (@pg_name _ _ 3 _ nd rfl (by walk_at "o") (by first | exact .inl rfl | exact .inr rfl | assumption)) (@qgs_cons _ _ _ _ _ (@pg_name _ _ 4 _ nd rfl (by walk_at "o") (by first | exact .inl rfl | exact .inr rfl | assumption)) qgs_nil (by rfl)) (by rfl)) (by rfl) (by rfl)) (@pss_one _ _ _ (@ps_c _ _ _ _ _ _ _ _ (@pt_c _ _ _ _ _ _ _ _ (op_inL hr) (qv 4) (qv 1) (by first | exact nomark _ | rfl)) (@pss_one _ _ _ (@ps_expr _ _ _ _ (@pe_bm _ _ _ _ _ _ _ _ _ _ _ _ PySem.F.plainAttrs_list PySem.F.slot_list_append PySem.F.type_list_append q_app (@pe_ix _ _ _ _ _ _ _ (@q_ixLK _ K rfl) (qv 2) (@pe_bm _ _ _ _ _ _ _ _ _ _ _ _ PySem.F.plainAttrs_list PySem.F.slot_list_index PySem.F.type_list_index (q_indexL hr) (qv 1) (@pa_cons _ _ _ _ _ (qv 4) pa_nil (by rfl)) (by rfl) (by rfl) (by rfl) (by rfl) (by rfl)) (fun _ _=>rfl)) (@pa_cons _ _ _ _ _ (qv 3) pa_nil (by rfl)) (by rfl) (by rfl) (by rfl) (by rfl) (by rfl)) (by rfl))) (@pss_cons _ _ _ _ _ (@ps_expr _ _ _ _ (@pe_bm _ _ _ _ _ _ _ _ _ _ _ _ PySem.F.plainAttrs_list PySem.F.slot_list_append PySem.F.type_list_append q_app (qv 1) (@pa_cons _ _ _ _ _ (qv 4) pa_nil (by rfl)) (by rfl) (by rfl) (by rfl) (by rfl) (by rfl)) (by rfl)) (@pss_one _ _ _ (@ps_expr _ _ _ _ (@pe_bm _ _ _ _ _ _ _ _ _ _ _ _ PySem.F.plainAttrs_list PySem.F.slot_list_append PySem.F.type_list_append q_app (qv 2) (@pa_cons _ _ _ _ _ (@pe_lst _ _ _ _ (@pa_cons _ _ _ _ _ (qv 3) pa_nil (by rfl))) pa_nil (by rfl)) (by rfl) (by rfl) (by rfl) (by rfl) (by rfl)) (by rfl)))))) (by intro _ ; rfl)) (@pss_one _ _ _ (@ps_ret _ _ _ _ (qv 2)))))),?_⟩
   refine⟨Nat.zero_le _,?_⟩
   intro p1 n1
   generalize hU1:upd _ p1 _ = H1
   have S1:=(upd_sub n1 hU1).1
   have e1:=(upd_sub n1 hU1).2
   clear hU1
   refine⟨Nat.zero_le _,?_⟩
   intro p2 n2
   generalize hU2:upd _ p2 _ = H2
   have S2:=(upd_sub n2 hU2).1
   have e2:=(upd_sub n2 hU2).2
   clear hU2
   have hp2:=(S1.trans S2) _ _ hp
   have hA2:All2 (Mach H2) as ms:=hA.mono fun _ _ _ z=>z.stay (.sub (S1.trans S2))
   have hal:as.length = ms.length:=hA.1
   refine⟨⟨_,SqL.of hp2⟩,?_⟩
   intro pc npc
   refine comp_list (K:=K) (a:=p) (xs:=as.map V.ref) (fun j σ H4=>∃ (v:Option V) (fs:List Addr) (Ls:List Ma),σ = [v]∧Sub H2 H4∧H4 pc = some (.lst (fs.map V.ref))∧All2 (MaN H2 H4 pc) fs Ls∧fs.length = j∧∀ (i:Nat) m L,ms[i]? = some m→Ls[i]? = some L→Lst m L) ?_ ?_ ?_ ?_
   ·exact⟨none,[],[],rfl,Sub.new npc,upd_same,.nil,rfl,fun i m L _ z=>by cases z⟩
   ·rintro j σ H4 _ ⟨v,fs,Ls,rfl,S4,_⟩
    exact SqL.of (S4 _ _ hp2)
   ·rintro j x σ H4 hj ⟨v,fs,Ls,rfl,S4,g4,A4,l4,P4⟩
    rw [List.getElem?_map] at hj
    obtain⟨c,hc,rfl⟩:=Option.map_eq_some_iff.1 hj
    obtain⟨m,hm,hMm⟩:=hA2.at hc
    have hmi:=hM m (List.mem_of_getElem? hm)
    have hj20:j < 20:=Nat.lt_of_lt_of_le (List.getElem?_eq_some_iff.1 hm).1 hl
    refine⟨m,hMm.stay (.sub S4),bd_of hmi,fun _ q5 rs5 L5 H5 S5 n5 M5 R5 hL5=>?_,fun z=>by rw [hmi] at z; cases z⟩
    have g5:=S5 _ _ g4
    have hq5:q5≠pc:=by rintro rfl; rw [g4] at n5; cases n5
    have hN5:MaN H2 H5 pc q5 L5:=⟨rs5,M5,⟨S4.free n5,hq5⟩,fun r hr=>⟨S4.free (R5 r hr),by rintro rfl; rw [R5 _ hr] at g4; cases g4⟩⟩
    refine⟨_,g5,?_,_,fs ++ [q5],Ls ++ [L5],rfl,(S4.trans S5).upd npc,?_,?_,?_,?_⟩
    ·rw [List.length_map,l4]; exact Nat.lt_trans hj20 (by decide)
    ·rw [upd_same,List.map_append]; rfl
    ·exact All2.app (A4.mono fun _ _ _ z=>(z.stay S5).put g5) (hN5.put g5)
    ·rw [List.length_append,l4]; rfl
    ·intro i m' L h1 h2
     by_cases ci:i < Ls.length
     ·rw [List.getElem?_append_left ci] at h2
      exact P4 i m' L h1 h2
     ·rw [List.getElem?_append_right (by omega)] at h2
      have e0:i = Ls.length:=by
       have:=(List.getElem?_eq_some_iff.1 h2).1
       simp at this
       omega
      have e1:Ls.length = j:=by rw [← A4.1]; exact l4
      rw [e0,e1,hm] at h1
      cases h1
      rw [e0,Nat.sub_self] at h2
      cases h2
      exact hL5
   rintro σ Hc ⟨v,fs,Ls,rfl,Sc,gc,Ac,lc,Pc⟩
   rw [List.length_map,hal] at lc
   have hLl:Ls.length = ms.length:=by rw [← Ac.1]; exact lc
   have hc1:=(S2.trans Sc) _ _ e1
   have hc2:=Sc _ _ e2
   have TH:=(S1.trans S2).trans Sc
   have form:∀ {H4:Hp},(∀ a o,Hc a = some o→a≠p1→a≠p2→H4 a = some o)→∀ {j:Nat} {c:Addr} {L:Ma},fs[j]? = some c→Ls[j]? = some L→Mach H4 c L:=fun {H4} Kp {j c L} h1 h2=>by
    obtain⟨rs,x1,x2,x3⟩:=Ac.2 j c L h1 h2
    have ne:∀ {a:Addr},H2 a = none→a≠p1∧a≠p2:=fun {a} z=>⟨(by rintro rfl; rw [S2 _ _ e1] at z; cases z),(by rintro rfl; rw [e2] at z; cases z)⟩
    exact ma_kp Kp hc1 hc2 x1 (ne x2.1) fun r hr=>ne (x3 r hr).1
   have pcne:pc≠p1∧pc≠p2:=⟨(by rintro rfl; rw [S2 _ _ e1] at npc; cases npc),(by rintro rfl; rw [e2] at npc; cases npc)⟩
   have p12:p1≠p2:=by rintro rfl; rw [e1] at n2; cases n2
   refine⟨⟨_,SqL.of gc⟩,?_⟩
   refine for_enum (K:=K) (a:=pc) (xs:=fs.map V.ref) (fun i σ H4=>∃ (v3 v4:Option V) (bs gs:List Addr),σ = [some (.ref p),some (.ref p1),some (.ref p2),v3,v4]∧Sub H H4∧(∀ a o,Hc a = some o→a≠p1→a≠p2→H4 a = some o)∧H4 p1 = some (.lst (bs.map V.ref))∧All2 (fun b F=>∃ j:Nat,fs[j]? = some b∧Ls[j]? = some F) bs (fsts (Ls.take i))∧H4 p2 = some (.lst (gs.map V.ref))∧(∀ g∈gs,Hc g = none)∧gs.Nodup∧All2 (LI H4) gs (grp Ls i)) ?_ ?_ ?_ ?_
   ·exact⟨_,_,[],[],rfl,TH,fun _ _ z _ _=>z,hc1,.nil,hc2,by simp,List.nodup_nil,.nil⟩
   ·rintro i σ H4 _ ⟨v3,v4,bs,gs,rfl,S4,K4,_⟩
    exact SqL.of (K4 _ _ gc pcne.1 pcne.2)
   ·rintro i x σ H4 qt hx ⟨v3,v4,bs,gs,rfl,S4,K4,f4,B4,g4,F4,N4,G4⟩ nq
    rw [List.getElem?_map] at hx
    obtain⟨c,hc,rfl⟩:=Option.map_eq_some_iff.1 hx
    have hi:i < ms.length:=by rw [← lc]; exact (List.getElem?_eq_some_iff.1 hc).1
    obtain⟨L,hL⟩:∃ L,Ls[i]? = some L:=⟨_,List.getElem?_eq_getElem (by omega)⟩
    have S5:Sub H4 (upd H4 qt (.tup [.int i,.ref c])):=Sub.new nq
    have e5:upd H4 qt (.tup [.int i,.ref c]) qt = some (.tup [.int i,.ref c]):=upd_same
    generalize upd H4 qt (.tup [.int i,.ref c]) = H5 at S5 e5 ⊢
    have K5:∀ a o,Hc a = some o→a≠p1→a≠p2→H5 a = some o:=fun a o z h1 h2=>S5 _ _ (K4 a o z h1 h2)
    have f5:=S5 _ _ f4
    have g5:=S5 _ _ g4
    have G5:All2 (LI H5) gs (grp Ls i):=G4.mono fun _ _ _ z=>S5 _ _ z
    have D5:DnL H5 bs ((fsts (Ls.take i)).map dM):=⟨by rw [List.length_map]; exact B4.1,fun k a e ha he=>by
     rw [List.getElem?_map] at he
     obtain⟨F,hF,rfl⟩:=Option.map_eq_some_iff.1 he
     obtain⟨j,h1,h2⟩:=B4.2 k a F ha hF
     exact (form K5 h1 h2).den⟩
    have dp:∀ e∈(fsts (Ls.take i)).map dM,dep e≤50:=fun e he=>by
     obtain⟨F,_,rfl⟩:=List.mem_map.1 he
     exact Nat.le_trans dep_dM3 (by decide)
    have hfl:(fsts (Ls.take i)).length≤20:=by
     have:=(fsts_nodup (Ls.take i)).2.2
     rw [List.length_take] at this
     omega
    refine⟨_,SqT.of e5,rfl,?_⟩
    refine⟨bs,_,_,f5,D5,(form K5 hc hL).den,dp,?_⟩
    rw [if_neg (show ¬ (false = true) by decide),any_fs]
    have gne:∀ {g:Addr},Hc g = none→g≠p1∧g≠p2:=fun {g} z=>⟨(by rintro rfl; rw [hc1] at z; cases z),(by rintro rfl; rw [hc2] at z; cases z)⟩
    have whl:∀ F,(wh Ls i F).length≤20:=fun F=>by
     unfold wh
     rw [List.length_map]
     exact Nat.le_trans (List.length_filter_le _ _) (by rw [List.length_range]; omega)
    walk_at "w"
    refine ifB.mk (fun k=>?_) (fun k=>?_)
    ·have k:L∈fsts (Ls.take i):=of_decide_eq_true k
     have hj:(fsts (Ls.take i)).idxOf L < (fsts (Ls.take i)).length:=List.idxOf_lt_length_iff.mpr k
     have hnd:=(fsts_nodup (Ls.take i)).1
     have ha:(fsts (Ls.take i))[(fsts (Ls.take i)).idxOf L]? = some L:=by rw [List.getElem?_eq_getElem hj,List.getElem_idxOf]
     obtain⟨gi1,gi2⟩:=grp_in hL k
     obtain⟨g,hg⟩:∃ g,gs[(fsts (Ls.take i)).idxOf L]? = some g:=⟨_,List.getElem?_eq_getElem (by rw [G5.1]; unfold grp; rw [List.length_map]; exact hj)⟩
     have hgl:H5 g = some (.lst ((wh Ls i L).map V.int)):=G5.2 _ _ _ hg gi2
     have hgc:=F4 g (List.mem_of_getElem? hg)
     refine⟨.inl ⟨rfl,_,SqL.of f5⟩,?_⟩
     refine⟨bs,_,_,dM L,(fsts (Ls.take i)).idxOf L,f5,D5,(form K5 hc hL).den,dp,by rw [List.getElem?_map,ha]; rfl,eqD_refl _,fun m e' hm he'=>?_,by rw [List.length_map]; omega,?_⟩
     ·rw [List.getElem?_map] at he'
      obtain⟨F,hF,rfl⟩:=Option.map_eq_some_iff.1 he'
      rw [kM_dM]
      refine decide_eq_false ?_
      rintro rfl
      have:=(List.getElem?_inj hj hnd).1 (ha.trans hF.symm)
      omega
     refine⟨_,.ref g,SqL.of g5,atI_nat (by rw [List.getElem?_map,hg]; rfl),?_⟩
     refine⟨.inl ⟨rfl,_,SqL.of hgl⟩,?_⟩
     refine⟨_,hgl,?_,_,_,bs,gs,rfl,(S4.trans S5).upd (TH.free hgc),?_,?_,?_,?_,F4,N4,?_⟩
     ·rw [List.length_map]; exact Nat.lt_of_le_of_lt (whl L) (by decide)
     ·intro a o z h1 h2
      rw [upd_ne (by rintro rfl; rw [hgc] at z; cases z)]
      exact K5 a o z h1 h2
     ·rw [upd_ne (Ne.symm (gne hgc).1)]; exact f5
     ·rw [List.take_add_one,hL]
      show All2 _ bs (fsts (Ls.take i ++ [L]))
      rw [fsts_snoc,if_pos k]
      exact B4
     ·rw [upd_ne (Ne.symm (gne hgc).2)]; exact g5
     ·rw [gi1]
      have:=li_set (ys:=wh Ls i L ++ [((i:Nat):Int)]) G5 N4 hg
      rw [List.map_append] at this
      exact this
    ·have k:L ∉ fsts (Ls.take i):=of_decide_eq_false k
     refine⟨.inl ⟨rfl,_,SqL.of f5⟩,?_⟩
     refine⟨_,f5,?_,?_⟩
     ·rw [List.length_map,B4.1]; exact Nat.lt_of_le_of_lt hfl (by decide)
     have S6:Sub H (upd H5 p1 (.lst (bs.map V.ref ++ [.ref c]))):=(S4.trans S5).upd n1
     have e6:upd H5 p1 (.lst (bs.map V.ref ++ [.ref c])) p1 = some (.lst (bs.map V.ref ++ [.ref c])):=upd_same
     have K6:∀ a o,Hc a = some o→a≠p1→a≠p2→upd H5 p1 (.lst (bs.map V.ref ++ [.ref c])) a = some o:=fun a o z h1 h2=>by rw [upd_ne h1]; exact K5 a o z h1 h2
     have g6:upd H5 p1 (.lst (bs.map V.ref ++ [.ref c])) p2 = some (.lst (gs.map V.ref)):=by rw [upd_ne (Ne.symm p12)]; exact g5
     have G6:All2 (LI (upd H5 p1 (.lst (bs.map V.ref ++ [.ref c])))) gs (grp Ls i):=G5.mono fun a z hm hz=>by
      unfold LI at hz ⊢
      rw [upd_ne (gne (F4 a hm)).1]; exact hz
     have W6:∀ a,upd H5 p1 (.lst (bs.map V.ref ++ [.ref c])) a = none→Hc a = none:=fun a z=>by
      cases y:Hc a with
      | none=>rfl
      | some o =>
       by_cases c1:a = p1
       ·subst c1; rw [e6] at z; cases z
       ·by_cases c2:a = p2
        ·subst c2; rw [g6] at z; cases z
        ·rw [K6 a o y c1 c2] at z; cases z
     generalize upd H5 p1 (.lst (bs.map V.ref ++ [.ref c])) = H6 at S6 e6 K6 g6 G6 W6 ⊢
     refine⟨.inl ⟨rfl,_,SqL.of g6⟩,?_⟩
     refine⟨by show 1≤sizeLine; decide,?_⟩
     intro p7 n7
     generalize hU7:upd _ p7 _ = H7
     have S7:=(upd_sub n7 hU7).1
     have e7:=(upd_sub n7 hU7).2
     clear hU7
     have hg7:=W6 p7 n7
     walk_at "w"
     have hng:p7 ∉ gs:=fun z=>by
      obtain⟨j,hj⟩:=List.getElem?_of_mem z
      obtain⟨xs,_,hxs⟩:=G6.at hj
      unfold LI at hxs
      rw [n7] at hxs
      cases hxs
     refine⟨_,S7 _ _ g6,?_,_,_,bs ++ [c],gs ++ [p7],rfl,(S6.trans S7).upd (S1.free n2),?_,?_,?_,?_,?_,?_,?_⟩
     ·rw [List.length_map,G6.1]; unfold grp; rw [List.length_map]; exact Nat.lt_of_le_of_lt hfl (by decide)
     ·intro a o z h1 h2
      rw [upd_ne h2]
      exact S7 _ _ (K6 a o z h1 h2)
     ·rw [upd_ne p12,List.map_append]; exact S7 _ _ e6
     ·rw [List.take_add_one,hL]
      show All2 _ _ (fsts (Ls.take i ++ [L]))
      rw [fsts_snoc,if_neg k]
      exact All2.app B4 ⟨i,hc,hL⟩
     ·rw [upd_same,List.map_append]; rfl
     ·intro g hg
      rcases List.mem_append.1 hg with hg | hg
      ·exact F4 g hg
      ·rw [List.mem_singleton.1 hg]; exact hg7
     ·rw [List.nodup_append]
      refine⟨N4,by simp,fun a ha b hb e=>?_⟩
      rw [List.mem_singleton.1 hb] at e
      rw [e] at ha
      exact hng ha
     ·rw [grp_new hL k]
      refine All2.app (G6.mono fun a z hm hz=>?_) ?_
      ·unfold LI at hz ⊢
       rw [upd_ne (gne (F4 a hm)).2]; exact S7 _ _ hz
      ·unfold LI
       rw [upd_ne (gne hg7).2]; exact e7
   ·rintro σ H4 ⟨v3,v4,bs,gs,rfl,S4,K4,f4,B4,g4,F4,N4,G4⟩
    rw [List.length_map,lc] at G4
    walk_at "w"
    exact h p2 gs Ls H4 S4 (S1.free n2) g4 (fun g hg=>⟨TH.free (F4 g hg),by rintro rfl; rw [F4 _ hg] at hc2; cases hc2⟩) N4 hLl Pc G4
  ·exact h.elim
theorem sc_l_machine:FnScope ["_law_purse_here","_law_rows","_law_signs","_law_found","_law_empty","_law_row","_law_entries","_law_sign","_law_entry"] ["_law_purse_here","_law_rows","_law_signs"] (defScope s_l_machine):=⟨rfl,rfl,rfl,by decide +kernel,rfl,by decide +kernel,by decide +kernel⟩
def sp_machine:Sp:=fun vs H Q _=>match vs with
 | [.ref pp,.int rows,.int signs]=>∃ n k:Int,H pp = some (.lst [.int n,.int k])∧(1≤rows∧rows≤4)∧(2≤signs∧signs≤4)∧∀ (q:Addr) (m:Ma) (H':Hp),Pu pp k H H'→H q = none→Mach H' q m→isM m = true→(m.length:Int) = rows→(sgn m:Int) = signs→Q (.ref q) H'
 | _=>False
theorem small_log {j:Int} (h0:0 < j) (h1:j≤1000):0 < j∧j.natAbs.log2 < 9000:=by
 refine⟨h0,?_⟩
 have:j.natAbs.log2 < 10:=(Nat.log2_lt (by omega)).2 (by show _ < 1024; omega)
 omega
theorem isM_of {m:Ma} {rows signs:Int} (h1:(m.length:Int) = rows) (h2:1≤rows) (h3:rows≤4) (h4:2≤signs) (h5:signs≤4)
  (h:∀ r∈m,(r.length:Int) = signs∧∀ e∈r,entryOk rows signs e = true):isM m = true:=by
 cases m with
 | nil=>simp at h1; omega
 | cons r0 m' =>
  have h0:=(h r0 (by simp)).1
  refine isM_mk (by omega) (by omega) (by omega) fun r hr=>⟨by have:=(h r hr).1; omega,?_⟩
  unfold okAll
  rw [h1,h0]
  exact List.all_eq_true.2 (h r hr).2
theorem ok_l_machine (T:Tx K mg a):FnOk P w K mg base CX0 2 a.l_machine a.l_machine_d ["_law_purse_here","_law_rows","_law_signs"] (sp_machine):=by
 have G_l_draw:=ok_l_draw (P:=P) (w:=w) (base:=base) T
 refine T.f_l_machine.ok sc_l_machine (fun vs H Q E h=>?_) (fun cdv A outer s H vs Q E hr h=>?_)
 ·unfold sp_machine at h
  split at h
  ·rfl
  ·exact h.elim
 ·unfold sp_machine at h
  split at h
  ·have nd:=sc_l_machine.nd
   have hu:=hu_of hr
   rename_i pp rows signs
   obtain⟨n,k,hp,⟨hr1,hr4⟩,⟨hs2,hs4⟩,h⟩:=h
   have P0:Pu pp k H H:=Pu.refl ⟨n,hp⟩
   have e0:=hp
   refine⟨_,(pss_cons (ps_set (i:=3) nd rfl (by walk_at "o") (pe_lst pa_nil))
  (pss_cons (ps_set (i:=4) nd rfl (by walk_at "o") (pe_ix (q_ixLK (K:=K) rfl) (pe_lst (pa_cons pe_int (pa_cons pe_int (pa_cons pe_int pa_nil)))) (pe_call G_l_draw (hr.mono (by decide)) rfl T.g_l_draw T.f_l_draw.kp T.b_l_draw .nil pass0 (pa_cons (qv 0) (pa_cons pe_int pa_nil))) (fun _ _=>rfl)))
  (pss_cons (ps_for PassesOwn.never rfl (qi_range1 rfl T.z_range (pa_cons (qv 1) pa_nil)) (pg_name (i:=5) nd rfl (by walk_at "o")) (pss_cons (ps_set (i:=6) nd rfl (by walk_at "o") (pe_lst pa_nil))
    (pss_cons (ps_for PassesOwn.never rfl (qi_range1 rfl T.z_range (pa_cons (qv 2) pa_nil)) (pg_name (i:=7) nd rfl (by walk_at "o")) (pss_cons (ps_set (i:=8) nd rfl (by walk_at "o") (pe_tup (pa_cons (pe_call G_l_draw (hr.mono (by decide)) rfl T.g_l_draw T.f_l_draw.kp T.b_l_draw .nil pass0 (pa_cons (qv 0) (pa_cons (qv 2) pa_nil))) (pa_cons (pe_op q_sub (pe_op q_mul pe_int (pe_call G_l_draw (hr.mono (by decide)) rfl T.g_l_draw T.f_l_draw.kp T.b_l_draw .nil pass0 (pa_cons (qv 0) (pa_cons pe_int pa_nil)))) pe_int) (pa_cons (pe_call G_l_draw (hr.mono (by decide)) rfl T.g_l_draw T.f_l_draw.kp T.b_l_draw .nil pass0 (pa_cons (qv 0) (pa_cons (qv 1) pa_nil))) pa_nil)))))
      (pss_cons (ps_c (pt_c q_eq (pe_call G_l_draw (hr.mono (by decide)) rfl T.g_l_draw T.f_l_draw.kp T.b_l_draw .nil pass0 (pa_cons (qv 0) (pa_cons (qv 4) pa_nil))) pe_int) (pss_one (ps_set (i:=8) nd rfl (by walk_at "o") (pe_tup pa_nil))) pss_nil)
      (pss_one (ps_expr (pe_bm PySem.F.plainAttrs_list PySem.F.slot_list_append PySem.F.type_list_append q_app (qv 6) (pa_cons (qv 8) pa_nil)))))))
    (pss_one (ps_expr (pe_bm PySem.F.plainAttrs_list PySem.F.slot_list_append PySem.F.type_list_append q_app (qv 3) (pa_cons (qv 6) pa_nil)))))))
  (pss_one (ps_ret (qv 3)))))),?_⟩
   have P1:=P0
   have e1:=e0
   refine⟨by show 0≤sizeLine; decide,?_⟩
   intro p4 n4
   generalize hU4:upd _ p4 _ = H4
   have S4:=(upd_sub n4 hU4).1
   have e4:=(upd_sub n4 hU4).2
   clear hU4
   have P4:=P1.sub S4
   have nf:H p4 = none:=P0.free n4
   have hp4:=e4
   have e4:=S4 _ _ e1
   refine⟨by show 3≤sizeLine; decide,?_⟩
   intro p2 n2
   generalize hU2:upd _ p2 _ = H2
   have S2:=(upd_sub n2 hU2).1
   have e2:=(upd_sub n2 hU2).2
   clear hU2
   have P2:=P4.sub S2
   have hp2:H2 p2 = some (.lst (([2,5,12]:List Int).map V.int)):=e2
   have hp4:=S2 _ _ hp4
   have e2:=S2 _ _ e4
   have np24:p2≠pp:=by rintro rfl; rw [e4] at n2; cases n2
   have np4:p4≠pp:=by rintro rfl; rw [e1] at n4; cases n4
   walk_at "w"
   refine⟨by decide,_,_,e2,fun d3 n3 d30 d31=>?_⟩
   have P3:=P2.draw n3
   have Q3:=Pu.of_draw n3 e2
   generalize hg3:upd _ pp _ = H3 at P3 Q3 ⊢
   have e3:H3 pp = some (.lst [.int n3,.int k]):=by rw [← hg3]; exact upd_same
   clear hg3
   walk_at "w"
   have hp3:=Q3.keep _ _ np24 hp2
   have hq3:=Q3.keep _ _ np4 hp4
   obtain⟨y3,hy3,y30,y31⟩:∃ y:Int,atI (([2,5,12]:List Int).map V.int) d3 = some (.int y)∧0 < y∧y≤12:=by
    have:d3 = 0∨d3 = 1∨d3 = 2:=by omega
    rcases this with rfl | rfl | rfl
    ·exact⟨2,rfl,by decide,by decide⟩
    ·exact⟨5,rfl,by decide,by decide⟩
    ·exact⟨12,rfl,by decide,by decide⟩
   refine⟨_,_,SqL.of hp3,hy3,?_⟩
   refine⟨⟨by omega,by omega⟩,?_⟩
   refine for_range (lo:=0) (n:=rows.toNat) (fun i σ H5=>∃ (v5 v6 v7 v8:Option V) (rs:List Addr) (m:Ma),σ = [some (.ref pp),some (.int rows),some (.int signs),some (.ref p4),some (.int y3),v5,v6,v7,v8]∧Pu pp k H H5∧MaR H5 p4 rs m∧m.length = i∧(∀ r∈rs,H r = none)∧∀ r∈m,(r.length:Int) = signs∧∀ e∈r,entryOk rows signs e = true) ?_ ?_ ?_
   ·exact⟨none,none,none,none,[],[],rfl,P3,⟨hq3,by simp,.nil⟩,rfl,by simp,by simp⟩
   ·rintro i σ H5 hi ⟨v5,v6,v7,v8,rs,m,rfl,P5,hm,hml,hrs,hme⟩
    refine⟨by show 0≤sizeLine; decide,?_⟩
    intro p6 n6
    generalize hU6:upd _ p6 _ = H6
    have S6:=(upd_sub n6 hU6).1
    have e6:=(upd_sub n6 hU6).2
    clear hU6
    have P6:=P5.sub S6
    have hm6:=hm.stay (.sub S6)
    have nr:H p6 = none:=P5.free n6
    have nrs:p6 ∉ rs:=hm.out n6
    have npf:p6≠p4:=hm.outp n6
    refine⟨⟨by omega,by omega⟩,?_⟩
    refine for_range (lo:=0) (n:=signs.toNat) (fun j σ H7=>∃ (v7 v8:Option V) (as:List Addr) (es:List En),σ = [some (.ref pp),some (.int rows),some (.int signs),some (.ref p4),some (.int y3),some (.int (0 + i)),some (.ref p6),v7,v8]∧Pu pp k H H7∧MaR H7 p4 rs m∧RowA H7 p6 as es∧es.length = j∧∀ e∈es,entryOk rows signs e = true) ?_ ?_ ?_
    ·exact⟨v7,v8,[],[],rfl,P6,hm6,⟨e6,.nil⟩,rfl,by simp⟩
    ·rintro j σ H7 hj ⟨v7,v8,as,es,rfl,P7,hm7,hr7,hel,hes⟩
     have hj:j < signs.toNat:=hj
     obtain⟨n7,e7⟩:=P7.has
     walk_at "w"
     refine⟨small_log (by omega) (by omega),_,_,e7,fun d8 n8 d80 d81=>?_⟩
     have P8:=P7.draw n8
     have Q8:=Pu.of_draw n8 e7
     generalize hg8:upd _ pp _ = H8 at P8 Q8 ⊢
     have e8:H8 pp = some (.lst [.int n8,.int k]):=by rw [← hg8]; exact upd_same
     clear hg8
     walk_at "w"
     refine⟨by decide,_,_,e8,fun d9 n9 d90 d91=>?_⟩
     have P9:=P8.draw n9
     have Q9:=Pu.of_draw n9 e8
     generalize hg9:upd _ pp _ = H9 at P9 Q9 ⊢
     have e9:H9 pp = some (.lst [.int n9,.int k]):=by rw [← hg9]; exact upd_same
     clear hg9
     walk_at "w"
     refine⟨.inl ⟨by omega,by omega⟩,fun m9 hm9 _=>?_⟩
     have hm9:m9 = 2 * d9:=hm9
     walk_at "w"
     refine⟨small_log (by omega) (by omega),_,_,e9,fun d10 n10 d100 d101=>?_⟩
     have P10:=P9.draw n10
     have Q10:=Pu.of_draw n10 e9
     generalize hg10:upd _ pp _ = H10 at P10 Q10 ⊢
     have e10:H10 pp = some (.lst [.int n10,.int k]):=by rw [← hg10]; exact upd_same
     clear hg10
     walk_at "w"
     refine⟨by show 3≤sizeLine; decide,?_⟩
     intro p11 n11
     generalize hU11:upd _ p11 _ = H11
     have S11:=(upd_sub n11 hU11).1
     have e11:=(upd_sub n11 hU11).2
     clear hU11
     have P11:=P10.sub S11
     have E11:Ent H11 p11 [d8,m9 - 1,d10]:=e11
     have st11:Stay H7 H11:=⟨fun a xs z=>S11 _ _ (((Q8.trans Q9).trans Q10).stay.tup a xs z),fun a xs z=>S11 _ _ (((Q8.trans Q9).trans Q10).stay.refs a xs z)⟩
     have hr11:=hr7.stay st11
     have hm11:=hm7.stay st11
     have ok11:entryOk rows signs [d8,m9 - 1,d10] = true:=by
      show ((decide (0≤d8) && decide (d8 < signs)) && (decide (m9 - 1 = -1) || decide (m9 - 1 = 1)) && (decide (0≤d10) && decide (d10 < rows))) = true
      have:m9 - 1 = -1∨m9 - 1 = 1:=by omega
      simp [d80,d81,d100,d101,this]
     obtain⟨n11,f11⟩:=P11.has
     have e11:=f11
     walk_at "w"
     refine⟨small_log (by omega) (by omega),_,_,e11,fun d13 n13 d130 d131=>?_⟩
     have P13:=P11.draw n13
     have Q13:=Pu.of_draw n13 e11
     generalize hg13:upd _ pp _ = H13 at P13 Q13 ⊢
     have e13:H13 pp = some (.lst [.int n13,.int k]):=by rw [← hg13]; exact upd_same
     clear hg13
     walk_at "w"
     have st13:Stay H11 H13:=(Q13:Pu pp k H11 H13).stay
     have hr13:=hr11.stay st13
     have hm13:=hm11.stay st13
     have E13:=E11.stay st13
     refine ifB.mk (fun hz=>?_) (fun hz=>?_)
     ·walk_at "w"
      refine⟨by show 0≤sizeLine; decide,?_⟩
      intro p14 n14
      generalize hU14:upd _ p14 _ = H14
      have S14:=(upd_sub n14 hU14).1
      have e14:=(upd_sub n14 hU14).2
      clear hU14
      have P14:=P13.sub S14
      have hr14:=hr13.stay (.sub S14)
      have hm14:=hm13.stay (.sub S14)
      have E14:Ent H14 p14 []:=e14
      refine⟨.inl ⟨rfl,_,SqL.of hr14.1⟩,?_⟩
      refine⟨_,hr14.1,?_,_,_,as ++ [p14],es ++ [[]],rfl,P14.set nr,hm14.other hr14.1 npf nrs,hr14.app' E14,by simp [hel],?_⟩
      ·rw [List.length_map,hr14.2.1,hel]; exact Nat.lt_of_lt_of_le hj (Nat.le_trans (show signs.toNat≤4 by omega) (by decide))
      ·intro y hy
       rcases List.mem_append.1 hy with hy | hy
       ·exact hes y hy
       ·rw [List.mem_singleton.1 hy]; rfl
     ·walk_at "w"
      refine⟨.inl ⟨rfl,_,SqL.of hr13.1⟩,?_⟩
      refine⟨_,hr13.1,?_,_,_,as ++ [p11],es ++ [[d8,m9 - 1,d10]],rfl,P13.set nr,hm13.other hr13.1 npf nrs,hr13.app' E13,by simp [hel],?_⟩
      ·rw [List.length_map,hr13.2.1,hel]; exact Nat.lt_of_lt_of_le hj (Nat.le_trans (show signs.toNat≤4 by omega) (by decide))
      ·intro y hy
       rcases List.mem_append.1 hy with hy | hy
       ·exact hes y hy
       ·rw [List.mem_singleton.1 hy]; exact ok11
    ·rintro σ H7 ⟨v7,v8,as,es,rfl,P7,hm7,hr7,hel,hes⟩
     refine⟨.inl ⟨rfl,_,SqL.of hm7.1⟩,?_⟩
     refine⟨_,hm7.1,?_,_,_,_,_,rs ++ [p6],m ++ [es],rfl,P7.set nf,hm7.app' ⟨as,hr7⟩ nrs npf,by simp [hml],?_,?_⟩
     ·rw [List.length_map,hm7.2.2.1,hml]; exact Nat.lt_trans hi (Nat.lt_of_le_of_lt (show rows.toNat≤4 by omega) (by decide))
     ·intro r hr
      rcases List.mem_append.1 hr with hr | hr
      ·exact hrs r hr
      ·rw [List.mem_singleton.1 hr]; exact nr
     ·intro r hr
      rcases List.mem_append.1 hr with hr | hr
      ·exact hme r hr
      ·rw [List.mem_singleton.1 hr]; exact⟨by rw [hel]; omega,hes⟩
   ·rintro σ H5 ⟨v5,v6,v7,v8,rs,m,rfl,P5,hm,hml,hrs,hme⟩
    walk_at "w"
    refine h p4 m H5 P5 nf ⟨rs,hm⟩ (isM_of (rows:=rows) (signs:=signs) (by omega) (by omega) (by omega) (by omega) (by omega) hme) (by omega) ?_
    cases m with
    | nil=>simp at hml; omega
    | cons r m=>have:=(hme r (List.mem_cons_self ..)).1; show (r.length:Int) = signs; omega
  ·exact h.elim
theorem sc_l_copy:FnScope ["_law_machine_here"] ["_law_machine_here"] (defScope s_l_copy):=⟨rfl,rfl,rfl,by decide +kernel,rfl,by decide +kernel,by decide +kernel⟩
def sp_copyF:Sp:=fun vs H Q _=>match vs with
 | [.ref t]=>∃ m:Ma,Mach H t m∧m.length≤4∧∀ (q:Addr) (rs:List Addr) (H':Hp),Sub H H'→H q = none→MaR H' q rs m→(∀ r∈rs,H r = none)→Q (.ref q) H'
 | _=>False
theorem ok_l_copy (T:Tx K mg a):FnOk P w K mg base CX0 1 a.l_copy a.l_copy_d ["_law_machine_here"] (sp_copyF):=by
 refine T.f_l_copy.ok sc_l_copy (fun vs H Q E h=>?_) (fun cdv A outer s H vs Q E hr h=>?_)
 ·unfold sp_copyF at h
  split at h
  ·rfl
  ·exact h.elim
 ·unfold sp_copyF at h
  split at h
  ·have nd:=sc_l_copy.nd
   have hu:=hu_of hr
   rename_i t
   obtain⟨m,⟨rs1,hr1⟩,hn4,h⟩:=h
   refine⟨_,(pss_one (ps_ret (pe_lc (own:=["_law_entries"]) (fr:=[]) rfl (by walk_at "comp_ok") (qi_listK (K:=K) rfl (qv 0)) (fun _ _ _ _=>(pg_name (i:=0) (show List.Nodup (α:=Str) ["_law_entries"] from by decide +kernel) rfl (by walk_at "o"))) (fun _ _ _ _=>pts_nil) (fun _ _ _ _=>(pe_callTy (q_listOfK (K:=K) rfl) rfl T.z_list bt_list (pa_cons (qv 0) pa_nil)))))),?_⟩
   refine⟨⟨_,SqL.of hr1.1⟩,?_⟩
   intro c1 nc1
   refine comp_list (K:=K) (a:=t) (xs:=rs1.map V.ref) (fun i σ H4=>∃ (v:Option V) (rs:List Addr),σ = [v]∧Sub H H4∧MaR H4 c1 rs (m.take i)∧∀ r∈rs,H r = none) ?_ ?_ ?_ ?_
   ·exact⟨none,[],rfl,Sub.new nc1,⟨upd_same,by simp,.nil⟩,by simp⟩
   ·rintro i σ H4 _ ⟨v,rs,rfl,S4,_⟩
    exact SqL.of (S4 _ _ hr1.1)
   ·rintro i x σ H4 hi ⟨v,rs,rfl,S4,M4,N4⟩
    rw [List.getElem?_map] at hi
    obtain⟨c',hc',rfl⟩:=Option.map_eq_some_iff.1 hi
    obtain⟨es,he,as,hE,hA⟩:=hr1.2.2.at hc'
    refine⟨_,.inl (SqL.of (S4 _ _ hE)),?_⟩
    intro p55 n55
    generalize hU55:upd _ p55 _ = H55
    have S55:=(upd_sub n55 hU55).1
    have e55:=(upd_sub n55 hU55).2
    clear hU55
    have M5:=M4.stay (.sub S55)
    have R5:Row H55 p55 es:=⟨as,e55,hA.mono fun _ _ _ z=>S55 _ _ (S4 _ _ z)⟩
    refine⟨_,M5.1,?_,_,rs ++ [p55],rfl,(S4.trans S55).upd nc1,?_,?_⟩
    ·rw [List.length_map,M5.2.2.1,List.length_take]; exact Nat.lt_of_le_of_lt (Nat.min_le_right _ _) (Nat.lt_of_le_of_lt hn4 (by decide))
    ·rw [List.take_add_one,he]
     exact M5.app' R5 (M4.out n55) (M4.outp n55)
    ·intro r hr
     rcases List.mem_append.1 hr with hr | hr
     ·exact N4 r hr
     ·rw [List.mem_singleton.1 hr]; exact S4.free n55
   rintro σ H4 ⟨v,rs,rfl,S4,M4,N4⟩
   rw [List.length_map,hr1.2.2.1,List.take_length] at M4
   exact h c1 rs H4 S4 nc1 M4 N4
  ·exact h.elim
theorem sc_l_plainly_0:FnScope ["_law_found"] ["_law_found"] (defScope s_l_plainly):=⟨rfl,rfl,rfl,by decide +kernel,rfl,by decide +kernel,by decide +kernel⟩
def PlB (v:V):Prop:=v = .non∨(∃ s,v = .str s)∨∃ n,v = .int n
def Pln (H:Hp):Nat→V→Prop
 | 0,v=>PlB v
 | k + 1,v=>PlB v∨∃ a xs,v = .ref a∧(H a = some (.tup xs)∨H a = some (.lst xs))∧∀ x∈xs,Pln H k x
theorem Pln.sub {H H':Hp} (S:Sub H H'):∀ {k:Nat} {v:V},Pln H k v→Pln H' k v
 | 0,_,h=>h
 | k + 1,_,.inl h=>.inl h
 | k + 1,_,.inr ⟨a,xs,e,h1,h2⟩=>.inr ⟨a,xs,e,h1.imp (S _ _) (S _ _),fun x hx=>(h2 x hx).sub S⟩
def sp_plain (k:Nat):Sp:=fun vs H Q _=>match vs with
 | [v]=>Pln H k v∧∀ H',Sub H H'→Q (.bl true) H'
 | _=>False
theorem ok_l_plainly_0 (T:Tx K mg a):FnOk P w K mg base CX0 1 a.l_plainly a.l_plainly_d ["_law_found"] (sp_plain 0):=by
 refine T.f_l_plainly.ok sc_l_plainly_0 (fun vs H Q E h=>?_) (fun cdv A outer s H vs Q E hr h=>?_)
 ·unfold sp_plain at h
  split at h
  ·rfl
  ·exact h.elim
 ·unfold sp_plain at h
  split at h
  ·have nd:=sc_l_plainly_0.nd
   have hu:=hu_of hr
   rename_i v
   obtain⟨hp,h⟩:=h
   refine⟨_,(pss_cons (ps_c (PW.pt (pw_orR (pt_e (pe_callB (q_isiK (K:=K) rfl) rfl T.z_isinstance bt_isinstance (pa_cons (qv 0) (pa_cons (pe_bltn (v:=V.ty "tuple") rfl T.z_tuple bt_tuple rfl) pa_nil)))) (qw_or1 (pt_e (pe_callB (q_isiK (K:=K) rfl) rfl T.z_isinstance bt_isinstance (pa_cons (qv 0) (pa_cons (pe_bltn (v:=V.ty "list") rfl T.z_list bt_list rfl) pa_nil))))))) pss_never pss_nil)
  (pss_cons (ps_c (PW.pt (pw_orR (pt_c op_isN (qv 0) pe_non) (qw_or1 (pt_e (pe_callB (q_isiK (K:=K) rfl) rfl T.z_isinstance bt_isinstance (pa_cons (qv 0) (pa_cons (pe_bltn (v:=V.ty "str") rfl T.z_str bt_str rfl) pa_nil))))))) (pss_one (ps_ret pe_bl)) pss_nil)
  (pss_one (ps_ret (pe_andC (pe_callB (q_isiK (K:=K) rfl) rfl T.z_isinstance bt_isinstance (pa_cons (qv 0) (pa_cons (pe_bltn (v:=V.ty "int") rfl T.z_int bt_int rfl) pa_nil))) (pe_one (pe_notC (pe_callB (q_isiK (K:=K) rfl) rfl T.z_isinstance bt_isinstance (pa_cons (qv 0) (pa_cons (pe_bltn (v:=V.ty "bool") rfl T.z_bool bt_bool rfl) pa_nil)))))))))),?_⟩
   have hp:PlB v:=hp
   rcases hp with rfl | ⟨s,rfl⟩ | ⟨n,rfl⟩
   ·walk_at "w"
    refine⟨_,false,.of .non,rfl,rfl,?_⟩
    walk_at "w"
    refine ifB.no rfl ?_
    refine⟨_,false,.of .non,rfl,rfl,?_⟩
    walk_at "w"
    refine ifB.no rfl ?_
    refine⟨rfl,?_⟩
    walk_at "w"
    refine ifB.yes rfl ?_
    walk_at "w"
    refine ifB.yes rfl ?_
    walk_at "w"
    exact h _ Sub.refl
   ·walk_at "w"
    refine⟨_,false,.of (.str _),rfl,rfl,?_⟩
    walk_at "w"
    refine ifB.no rfl ?_
    refine⟨_,false,.of (.str _),rfl,rfl,?_⟩
    walk_at "w"
    refine ifB.no rfl ?_
    refine⟨rfl,?_⟩
    walk_at "w"
    refine ifB.no rfl ?_
    refine⟨_,true,.of (.str _),rfl,rfl,?_⟩
    walk_at "w"
    refine ifB.yes rfl ?_
    walk_at "w"
    exact h _ Sub.refl
   ·walk_at "w"
    refine⟨_,false,.of (.int _),rfl,rfl,?_⟩
    walk_at "w"
    refine ifB.no rfl ?_
    refine⟨_,false,.of (.int _),rfl,rfl,?_⟩
    walk_at "w"
    refine ifB.no rfl ?_
    refine⟨rfl,?_⟩
    walk_at "w"
    refine ifB.no rfl ?_
    refine⟨_,false,.of (.int _),rfl,rfl,?_⟩
    walk_at "w"
    refine ifB.no rfl ?_
    refine⟨_,true,.of (.int _),rfl,rfl,?_⟩
    walk_at "w"
    refine ifB.yes rfl ?_
    refine⟨_,false,.of (.int _),rfl,rfl,?_⟩
    walk_at "w"
    exact h _ Sub.refl
  ·exact h.elim
theorem sc_l_plainly_1:FnScope ["_law_found"] ["_law_found"] (defScope s_l_plainly):=⟨rfl,rfl,rfl,by decide +kernel,rfl,by decide +kernel,by decide +kernel⟩
theorem ok_l_plainly_1 (T:Tx K mg a):FnOk P w K mg base CX0 2 a.l_plainly a.l_plainly_d ["_law_found"] (sp_plain 1):=by
 have G_l_plainly:=ok_l_plainly_0 (P:=P) (w:=w) (base:=base) T
 refine T.f_l_plainly.ok sc_l_plainly_1 (fun vs H Q E h=>?_) (fun cdv A outer s H vs Q E hr h=>?_)
 ·unfold sp_plain at h
  split at h
  ·rfl
  ·exact h.elim
 ·unfold sp_plain at h
  split at h
  ·have nd:=sc_l_plainly_1.nd
   have hu:=hu_of hr
   rename_i v
   obtain⟨hp,h⟩:=h
   refine⟨_,(pss_cons (ps_c (PW.pt (pw_orR (pt_e (pe_callB (q_isiK (K:=K) rfl) rfl T.z_isinstance bt_isinstance (pa_cons (qv 0) (pa_cons (pe_bltn (v:=V.ty "tuple") rfl T.z_tuple bt_tuple rfl) pa_nil)))) (qw_or1 (pt_e (pe_callB (q_isiK (K:=K) rfl) rfl T.z_isinstance bt_isinstance (pa_cons (qv 0) (pa_cons (pe_bltn (v:=V.ty "list") rfl T.z_list bt_list rfl) pa_nil))))))) (pss_one (ps_ret (pe_cmpR q_eq (pe_callB (q_lenK (K:=K) rfl) rfl T.z_len bt_len (pa_cons (pe_lc (own:=["_law_part"]) (fr:=[]) rfl (by walk_at "comp_ok") (qi_seqK (K:=K) rfl (qv 0)) (fun _ _ _ _=>(pg_name (i:=0) (show List.Nodup (α:=Str) ["_law_part"] from by decide +kernel) rfl (by walk_at "o"))) (fun _ _ _ _=>(pts_one (pt_not (pt_e (pe_call G_l_plainly (hr.mono (by decide)) rfl T.g_l_plainly T.f_l_plainly.kp T.b_l_plainly .nil pass0 (pa_cons (qv 0) pa_nil)))))) (fun _ _ _ _=>(qv 0))) pa_nil)) pe_int (by first | exact nomark _ | rfl)))) pss_nil)
  (pss_cons (ps_c (PW.pt (pw_orR (pt_c op_isN (qv 0) pe_non) (qw_or1 (pt_e (pe_callB (q_isiK (K:=K) rfl) rfl T.z_isinstance bt_isinstance (pa_cons (qv 0) (pa_cons (pe_bltn (v:=V.ty "str") rfl T.z_str bt_str rfl) pa_nil))))))) (pss_one (ps_ret pe_bl)) pss_nil)
  (pss_one (ps_ret (pe_andC (pe_callB (q_isiK (K:=K) rfl) rfl T.z_isinstance bt_isinstance (pa_cons (qv 0) (pa_cons (pe_bltn (v:=V.ty "int") rfl T.z_int bt_int rfl) pa_nil))) (pe_one (pe_notC (pe_callB (q_isiK (K:=K) rfl) rfl T.z_isinstance bt_isinstance (pa_cons (qv 0) (pa_cons (pe_bltn (v:=V.ty "bool") rfl T.z_bool bt_bool rfl) pa_nil)))))))))),?_⟩
   rcases hp with (rfl | ⟨s,rfl⟩ | ⟨n,rfl⟩) | ⟨b,xs,rfl,hb,hall⟩
   ·walk_at "w"
    refine⟨_,false,.of .non,rfl,rfl,?_⟩
    walk_at "w"
    refine ifB.no rfl ?_
    refine⟨_,false,.of .non,rfl,rfl,?_⟩
    walk_at "w"
    refine ifB.no rfl ?_
    refine⟨rfl,?_⟩
    walk_at "w"
    refine ifB.yes rfl ?_
    walk_at "w"
    refine ifB.yes rfl ?_
    walk_at "w"
    exact h _ Sub.refl
   ·walk_at "w"
    refine⟨_,false,.of (.str _),rfl,rfl,?_⟩
    walk_at "w"
    refine ifB.no rfl ?_
    refine⟨_,false,.of (.str _),rfl,rfl,?_⟩
    walk_at "w"
    refine ifB.no rfl ?_
    refine⟨rfl,?_⟩
    walk_at "w"
    refine ifB.no rfl ?_
    refine⟨_,true,.of (.str _),rfl,rfl,?_⟩
    walk_at "w"
    refine ifB.yes rfl ?_
    walk_at "w"
    exact h _ Sub.refl
   ·walk_at "w"
    refine⟨_,false,.of (.int _),rfl,rfl,?_⟩
    walk_at "w"
    refine ifB.no rfl ?_
    refine⟨_,false,.of (.int _),rfl,rfl,?_⟩
    walk_at "w"
    refine ifB.no rfl ?_
    refine⟨rfl,?_⟩
    walk_at "w"
    refine ifB.no rfl ?_
    refine⟨_,false,.of (.int _),rfl,rfl,?_⟩
    walk_at "w"
    refine ifB.no rfl ?_
    refine⟨_,true,.of (.int _),rfl,rfl,?_⟩
    walk_at "w"
    refine ifB.yes rfl ?_
    refine⟨_,false,.of (.int _),rfl,rfl,?_⟩
    walk_at "w"
    exact h _ Sub.refl
   rcases hb with hb | hb
   ·walk_at "w"
    refine⟨_,true,.of (.tup hb),rfl,rfl,?_⟩
    walk_at "w"
    refine ifB.yes rfl ?_
    walk_at "w"
    refine ifB.yes rfl ?_
    walk_at "w"
    refine .inr ⟨⟨_,SqT.of hb⟩,?_⟩
    intro pc nc
    refine comp_tup (K:=K) (a:=b) (xs:=xs) (fun i σ H1=>∃ v,σ = [v]∧Sub H H1∧H1 pc = some (.lst [])) ?_ ?_ ?_ ?_
    ·exact⟨none,rfl,Sub.new nc,upd_same⟩
    ·rintro i σ H1 _ ⟨v,rfl,S1,e1⟩
     exact SqT.of (S1 _ _ hb)
    ·rintro i x σ H1 hx ⟨v,rfl,S1,e1⟩
     refine⟨(hall x (List.mem_of_getElem? hx)).sub S1,fun H2 S2=>?_⟩
     exact⟨_,rfl,S1.trans S2,S2 _ _ e1⟩
    rintro σ H1 ⟨v,rfl,S1,e1⟩
    refine⟨_,.inl (SqL.of e1),?_⟩
    walk_at "w"
    exact h _ S1
   ·walk_at "w"
    refine⟨_,false,.of (.lst hb),rfl,rfl,?_⟩
    walk_at "w"
    refine ifB.no rfl ?_
    refine⟨_,true,.of (.lst hb),rfl,rfl,?_⟩
    walk_at "w"
    refine ifB.yes rfl ?_
    walk_at "w"
    refine .inl ⟨⟨_,SqL.of hb⟩,?_⟩
    intro pc nc
    refine comp_list (K:=K) (a:=b) (xs:=xs) (fun i σ H1=>∃ v,σ = [v]∧Sub H H1∧H1 pc = some (.lst [])) ?_ ?_ ?_ ?_
    ·exact⟨none,rfl,Sub.new nc,upd_same⟩
    ·rintro i σ H1 _ ⟨v,rfl,S1,e1⟩
     exact SqL.of (S1 _ _ hb)
    ·rintro i x σ H1 hx ⟨v,rfl,S1,e1⟩
     refine⟨(hall x (List.mem_of_getElem? hx)).sub S1,fun H2 S2=>?_⟩
     exact⟨_,rfl,S1.trans S2,S2 _ _ e1⟩
    rintro σ H1 ⟨v,rfl,S1,e1⟩
    refine⟨_,.inl (SqL.of e1),?_⟩
    walk_at "w"
    exact h _ S1
  ·exact h.elim
theorem sc_l_plainly_2:FnScope ["_law_found"] ["_law_found"] (defScope s_l_plainly):=⟨rfl,rfl,rfl,by decide +kernel,rfl,by decide +kernel,by decide +kernel⟩
theorem ok_l_plainly_2 (T:Tx K mg a):FnOk P w K mg base CX0 3 a.l_plainly a.l_plainly_d ["_law_found"] (sp_plain 2):=by
 have G_l_plainly:=ok_l_plainly_1 (P:=P) (w:=w) (base:=base) T
 refine T.f_l_plainly.ok sc_l_plainly_2 (fun vs H Q E h=>?_) (fun cdv A outer s H vs Q E hr h=>?_)
 ·unfold sp_plain at h
  split at h
  ·rfl
  ·exact h.elim
 ·unfold sp_plain at h
  split at h
  ·have nd:=sc_l_plainly_2.nd
   have hu:=hu_of hr
   rename_i v
   obtain⟨hp,h⟩:=h
   refine⟨_,(pss_cons (ps_c (PW.pt (pw_orR (pt_e (pe_callB (q_isiK (K:=K) rfl) rfl T.z_isinstance bt_isinstance (pa_cons (qv 0) (pa_cons (pe_bltn (v:=V.ty "tuple") rfl T.z_tuple bt_tuple rfl) pa_nil)))) (qw_or1 (pt_e (pe_callB (q_isiK (K:=K) rfl) rfl T.z_isinstance bt_isinstance (pa_cons (qv 0) (pa_cons (pe_bltn (v:=V.ty "list") rfl T.z_list bt_list rfl) pa_nil))))))) (pss_one (ps_ret (pe_cmpR q_eq (pe_callB (q_lenK (K:=K) rfl) rfl T.z_len bt_len (pa_cons (pe_lc (own:=["_law_part"]) (fr:=[]) rfl (by walk_at "comp_ok") (qi_seqK (K:=K) rfl (qv 0)) (fun _ _ _ _=>(pg_name (i:=0) (show List.Nodup (α:=Str) ["_law_part"] from by decide +kernel) rfl (by walk_at "o"))) (fun _ _ _ _=>(pts_one (pt_not (pt_e (pe_call G_l_plainly (hr.mono (by decide)) rfl T.g_l_plainly T.f_l_plainly.kp T.b_l_plainly .nil pass0 (pa_cons (qv 0) pa_nil)))))) (fun _ _ _ _=>(qv 0))) pa_nil)) pe_int (by first | exact nomark _ | rfl)))) pss_nil)
  (pss_cons (ps_c (PW.pt (pw_orR (pt_c op_isN (qv 0) pe_non) (qw_or1 (pt_e (pe_callB (q_isiK (K:=K) rfl) rfl T.z_isinstance bt_isinstance (pa_cons (qv 0) (pa_cons (pe_bltn (v:=V.ty "str") rfl T.z_str bt_str rfl) pa_nil))))))) (pss_one (ps_ret pe_bl)) pss_nil)
  (pss_one (ps_ret (pe_andC (pe_callB (q_isiK (K:=K) rfl) rfl T.z_isinstance bt_isinstance (pa_cons (qv 0) (pa_cons (pe_bltn (v:=V.ty "int") rfl T.z_int bt_int rfl) pa_nil))) (pe_one (pe_notC (pe_callB (q_isiK (K:=K) rfl) rfl T.z_isinstance bt_isinstance (pa_cons (qv 0) (pa_cons (pe_bltn (v:=V.ty "bool") rfl T.z_bool bt_bool rfl) pa_nil)))))))))),?_⟩
   rcases hp with (rfl | ⟨s,rfl⟩ | ⟨n,rfl⟩) | ⟨b,xs,rfl,hb,hall⟩
   ·walk_at "w"
    refine⟨_,false,.of .non,rfl,rfl,?_⟩
    walk_at "w"
    refine ifB.no rfl ?_
    refine⟨_,false,.of .non,rfl,rfl,?_⟩
    walk_at "w"
    refine ifB.no rfl ?_
    refine⟨rfl,?_⟩
    walk_at "w"
    refine ifB.yes rfl ?_
    walk_at "w"
    refine ifB.yes rfl ?_
    walk_at "w"
    exact h _ Sub.refl
   ·walk_at "w"
    refine⟨_,false,.of (.str _),rfl,rfl,?_⟩
    walk_at "w"
    refine ifB.no rfl ?_
    refine⟨_,false,.of (.str _),rfl,rfl,?_⟩
    walk_at "w"
    refine ifB.no rfl ?_
    refine⟨rfl,?_⟩
    walk_at "w"
    refine ifB.no rfl ?_
    refine⟨_,true,.of (.str _),rfl,rfl,?_⟩
    walk_at "w"
    refine ifB.yes rfl ?_
    walk_at "w"
    exact h _ Sub.refl
   ·walk_at "w"
    refine⟨_,false,.of (.int _),rfl,rfl,?_⟩
    walk_at "w"
    refine ifB.no rfl ?_
    refine⟨_,false,.of (.int _),rfl,rfl,?_⟩
    walk_at "w"
    refine ifB.no rfl ?_
    refine⟨rfl,?_⟩
    walk_at "w"
    refine ifB.no rfl ?_
    refine⟨_,false,.of (.int _),rfl,rfl,?_⟩
    walk_at "w"
    refine ifB.no rfl ?_
    refine⟨_,true,.of (.int _),rfl,rfl,?_⟩
    walk_at "w"
    refine ifB.yes rfl ?_
    refine⟨_,false,.of (.int _),rfl,rfl,?_⟩
    walk_at "w"
    exact h _ Sub.refl
   rcases hb with hb | hb
   ·walk_at "w"
    refine⟨_,true,.of (.tup hb),rfl,rfl,?_⟩
    walk_at "w"
    refine ifB.yes rfl ?_
    walk_at "w"
    refine ifB.yes rfl ?_
    walk_at "w"
    refine .inr ⟨⟨_,SqT.of hb⟩,?_⟩
    intro pc nc
    refine comp_tup (K:=K) (a:=b) (xs:=xs) (fun i σ H1=>∃ v,σ = [v]∧Sub H H1∧H1 pc = some (.lst [])) ?_ ?_ ?_ ?_
    ·exact⟨none,rfl,Sub.new nc,upd_same⟩
    ·rintro i σ H1 _ ⟨v,rfl,S1,e1⟩
     exact SqT.of (S1 _ _ hb)
    ·rintro i x σ H1 hx ⟨v,rfl,S1,e1⟩
     refine⟨(hall x (List.mem_of_getElem? hx)).sub S1,fun H2 S2=>?_⟩
     exact⟨_,rfl,S1.trans S2,S2 _ _ e1⟩
    rintro σ H1 ⟨v,rfl,S1,e1⟩
    refine⟨_,.inl (SqL.of e1),?_⟩
    walk_at "w"
    exact h _ S1
   ·walk_at "w"
    refine⟨_,false,.of (.lst hb),rfl,rfl,?_⟩
    walk_at "w"
    refine ifB.no rfl ?_
    refine⟨_,true,.of (.lst hb),rfl,rfl,?_⟩
    walk_at "w"
    refine ifB.yes rfl ?_
    walk_at "w"
    refine .inl ⟨⟨_,SqL.of hb⟩,?_⟩
    intro pc nc
    refine comp_list (K:=K) (a:=b) (xs:=xs) (fun i σ H1=>∃ v,σ = [v]∧Sub H H1∧H1 pc = some (.lst [])) ?_ ?_ ?_ ?_
    ·exact⟨none,rfl,Sub.new nc,upd_same⟩
    ·rintro i σ H1 _ ⟨v,rfl,S1,e1⟩
     exact SqL.of (S1 _ _ hb)
    ·rintro i x σ H1 hx ⟨v,rfl,S1,e1⟩
     refine⟨(hall x (List.mem_of_getElem? hx)).sub S1,fun H2 S2=>?_⟩
     exact⟨_,rfl,S1.trans S2,S2 _ _ e1⟩
    rintro σ H1 ⟨v,rfl,S1,e1⟩
    refine⟨_,.inl (SqL.of e1),?_⟩
    walk_at "w"
    exact h _ S1
  ·exact h.elim
theorem sc_l_plainly_3:FnScope ["_law_found"] ["_law_found"] (defScope s_l_plainly):=⟨rfl,rfl,rfl,by decide +kernel,rfl,by decide +kernel,by decide +kernel⟩
theorem ok_l_plainly_3 (T:Tx K mg a):FnOk P w K mg base CX0 4 a.l_plainly a.l_plainly_d ["_law_found"] (sp_plain 3):=by
 have G_l_plainly:=ok_l_plainly_2 (P:=P) (w:=w) (base:=base) T
 refine T.f_l_plainly.ok sc_l_plainly_3 (fun vs H Q E h=>?_) (fun cdv A outer s H vs Q E hr h=>?_)
 ·unfold sp_plain at h
  split at h
  ·rfl
  ·exact h.elim
 ·unfold sp_plain at h
  split at h
  ·have nd:=sc_l_plainly_3.nd
   have hu:=hu_of hr
   rename_i v
   obtain⟨hp,h⟩:=h
   refine⟨_,(pss_cons (ps_c (PW.pt (pw_orR (pt_e (pe_callB (q_isiK (K:=K) rfl) rfl T.z_isinstance bt_isinstance (pa_cons (qv 0) (pa_cons (pe_bltn (v:=V.ty "tuple") rfl T.z_tuple bt_tuple rfl) pa_nil)))) (qw_or1 (pt_e (pe_callB (q_isiK (K:=K) rfl) rfl T.z_isinstance bt_isinstance (pa_cons (qv 0) (pa_cons (pe_bltn (v:=V.ty "list") rfl T.z_list bt_list rfl) pa_nil))))))) (pss_one (ps_ret (pe_cmpR q_eq (pe_callB (q_lenK (K:=K) rfl) rfl T.z_len bt_len (pa_cons (pe_lc (own:=["_law_part"]) (fr:=[]) rfl (by walk_at "comp_ok") (qi_seqK (K:=K) rfl (qv 0)) (fun _ _ _ _=>(pg_name (i:=0) (show List.Nodup (α:=Str) ["_law_part"] from by decide +kernel) rfl (by walk_at "o"))) (fun _ _ _ _=>(pts_one (pt_not (pt_e (pe_call G_l_plainly (hr.mono (by decide)) rfl T.g_l_plainly T.f_l_plainly.kp T.b_l_plainly .nil pass0 (pa_cons (qv 0) pa_nil)))))) (fun _ _ _ _=>(qv 0))) pa_nil)) pe_int (by first | exact nomark _ | rfl)))) pss_nil)
  (pss_cons (ps_c (PW.pt (pw_orR (pt_c op_isN (qv 0) pe_non) (qw_or1 (pt_e (pe_callB (q_isiK (K:=K) rfl) rfl T.z_isinstance bt_isinstance (pa_cons (qv 0) (pa_cons (pe_bltn (v:=V.ty "str") rfl T.z_str bt_str rfl) pa_nil))))))) (pss_one (ps_ret pe_bl)) pss_nil)
  (pss_one (ps_ret (pe_andC (pe_callB (q_isiK (K:=K) rfl) rfl T.z_isinstance bt_isinstance (pa_cons (qv 0) (pa_cons (pe_bltn (v:=V.ty "int") rfl T.z_int bt_int rfl) pa_nil))) (pe_one (pe_notC (pe_callB (q_isiK (K:=K) rfl) rfl T.z_isinstance bt_isinstance (pa_cons (qv 0) (pa_cons (pe_bltn (v:=V.ty "bool") rfl T.z_bool bt_bool rfl) pa_nil)))))))))),?_⟩
   rcases hp with (rfl | ⟨s,rfl⟩ | ⟨n,rfl⟩) | ⟨b,xs,rfl,hb,hall⟩
   ·walk_at "w"
    refine⟨_,false,.of .non,rfl,rfl,?_⟩
    walk_at "w"
    refine ifB.no rfl ?_
    refine⟨_,false,.of .non,rfl,rfl,?_⟩
    walk_at "w"
    refine ifB.no rfl ?_
    refine⟨rfl,?_⟩
    walk_at "w"
    refine ifB.yes rfl ?_
    walk_at "w"
    refine ifB.yes rfl ?_
    walk_at "w"
    exact h _ Sub.refl
   ·walk_at "w"
    refine⟨_,false,.of (.str _),rfl,rfl,?_⟩
    walk_at "w"
    refine ifB.no rfl ?_
    refine⟨_,false,.of (.str _),rfl,rfl,?_⟩
    walk_at "w"
    refine ifB.no rfl ?_
    refine⟨rfl,?_⟩
    walk_at "w"
    refine ifB.no rfl ?_
    refine⟨_,true,.of (.str _),rfl,rfl,?_⟩
    walk_at "w"
    refine ifB.yes rfl ?_
    walk_at "w"
    exact h _ Sub.refl
   ·walk_at "w"
    refine⟨_,false,.of (.int _),rfl,rfl,?_⟩
    walk_at "w"
    refine ifB.no rfl ?_
    refine⟨_,false,.of (.int _),rfl,rfl,?_⟩
    walk_at "w"
    refine ifB.no rfl ?_
    refine⟨rfl,?_⟩
    walk_at "w"
    refine ifB.no rfl ?_
    refine⟨_,false,.of (.int _),rfl,rfl,?_⟩
    walk_at "w"
    refine ifB.no rfl ?_
    refine⟨_,true,.of (.int _),rfl,rfl,?_⟩
    walk_at "w"
    refine ifB.yes rfl ?_
    refine⟨_,false,.of (.int _),rfl,rfl,?_⟩
    walk_at "w"
    exact h _ Sub.refl
   rcases hb with hb | hb
   ·walk_at "w"
    refine⟨_,true,.of (.tup hb),rfl,rfl,?_⟩
    walk_at "w"
    refine ifB.yes rfl ?_
    walk_at "w"
    refine ifB.yes rfl ?_
    walk_at "w"
    refine .inr ⟨⟨_,SqT.of hb⟩,?_⟩
    intro pc nc
    refine comp_tup (K:=K) (a:=b) (xs:=xs) (fun i σ H1=>∃ v,σ = [v]∧Sub H H1∧H1 pc = some (.lst [])) ?_ ?_ ?_ ?_
    ·exact⟨none,rfl,Sub.new nc,upd_same⟩
    ·rintro i σ H1 _ ⟨v,rfl,S1,e1⟩
     exact SqT.of (S1 _ _ hb)
    ·rintro i x σ H1 hx ⟨v,rfl,S1,e1⟩
     refine⟨(hall x (List.mem_of_getElem? hx)).sub S1,fun H2 S2=>?_⟩
     exact⟨_,rfl,S1.trans S2,S2 _ _ e1⟩
    rintro σ H1 ⟨v,rfl,S1,e1⟩
    refine⟨_,.inl (SqL.of e1),?_⟩
    walk_at "w"
    exact h _ S1
   ·walk_at "w"
    refine⟨_,false,.of (.lst hb),rfl,rfl,?_⟩
    walk_at "w"
    refine ifB.no rfl ?_
    refine⟨_,true,.of (.lst hb),rfl,rfl,?_⟩
    walk_at "w"
    refine ifB.yes rfl ?_
    walk_at "w"
    refine .inl ⟨⟨_,SqL.of hb⟩,?_⟩
    intro pc nc
    refine comp_list (K:=K) (a:=b) (xs:=xs) (fun i σ H1=>∃ v,σ = [v]∧Sub H H1∧H1 pc = some (.lst [])) ?_ ?_ ?_ ?_
    ·exact⟨none,rfl,Sub.new nc,upd_same⟩
    ·rintro i σ H1 _ ⟨v,rfl,S1,e1⟩
     exact SqL.of (S1 _ _ hb)
    ·rintro i x σ H1 hx ⟨v,rfl,S1,e1⟩
     refine⟨(hall x (List.mem_of_getElem? hx)).sub S1,fun H2 S2=>?_⟩
     exact⟨_,rfl,S1.trans S2,S2 _ _ e1⟩
    rintro σ H1 ⟨v,rfl,S1,e1⟩
    refine⟨_,.inl (SqL.of e1),?_⟩
    walk_at "w"
    exact h _ S1
  ·exact h.elim
theorem sc_l_order:FnScope ["_law_purse_here","_law_many","_law_left","_law_found","_law_k"] ["_law_purse_here","_law_many"] (defScope s_l_order):=⟨rfl,rfl,rfl,by decide +kernel,rfl,by decide +kernel,by decide +kernel⟩
def rgI (k:Nat):List Int:=(List.range k).map fun a=>((a:Nat):Int)
theorem perm_ok {k:Nat} {o:List Int} (h:List.Perm o (rgI k)):PermL k o:=by
 refine⟨by rw [h.length_eq]; unfold rgI; simp,fun x hx=>?_,?_,fun a ha=>h.mem_iff.2 (List.mem_map.2 ⟨a,List.mem_range.2 ha,rfl⟩)⟩
 ·obtain⟨a,ha,rfl⟩:=List.mem_map.1 (h.mem_iff.1 hx)
  have:=List.mem_range.1 ha
  omega
 ·rw [h.nodup_iff]
  unfold rgI
  refine List.Pairwise.map _ (fun a b hab=>?_) List.nodup_range
  intro z
  exact hab (by omega)
theorem er_perm:∀ (le:List Int) (i:Nat) (x:Int),le[i]? = some x→List.Perm (x :: le.eraseIdx i) le
 | [],_,_,h=>by cases h
 | y :: l,0,x,h=>by cases h; exact .refl _
 | y :: l,i + 1,x,h=>(List.Perm.swap y x (l.eraseIdx i)).trans ((er_perm l i x h).cons y)
theorem pop_perm {fo le:List Int} {i:Nat} {x:Int} (h:le[i]? = some x):List.Perm (fo ++ [x] ++ le.eraseIdx i) (fo ++ le):=by
 rw [List.append_assoc]
 exact List.Perm.append_left _ (er_perm le i x h)
def sp_lorder:Sp:=fun vs H Q _=>match vs with
 | [.ref pp,.int n]=>∃ (k:Nat) (a c:Int),n = k∧1≤k∧k≤4∧H pp = some (.lst [.int a,.int c])∧∀ (q:Addr) (o:List Int) (H':Hp),Pu pp c H H'→H q = none→LI H' q o→PermL k o→Q (.ref q) H'
 | _=>False
theorem ok_l_order (T:Tx K mg a):FnOk P w K mg base CX0 2 a.l_order a.l_order_d ["_law_purse_here","_law_many"] (sp_lorder):=by
 have G_l_draw:=ok_l_draw (P:=P) (w:=w) (base:=base) T
 refine T.f_l_order.ok sc_l_order (fun vs H Q E h=>?_) (fun cdv A outer s H vs Q E hr h=>?_)
 ·unfold sp_lorder at h
  split at h
  ·rfl
  ·exact h.elim
 ·unfold sp_lorder at h
  split at h
  ·have nd:=sc_l_order.nd
   have hu:=hu_of hr
   rename_i pp n
   obtain⟨kk,a0,k,rfl,k1,k4,hp,h⟩:=h
   refine⟨_,(@pss_cons _ _ _ _ _ (@ps_set _ _ 2 _ _ _ _ nd rfl (by walk_at "o") (@pe_lrange _ _ _ _ _ _ _ _ rfl rfl T.z_list rfl T.z_range (@pa_cons _ _ _ _ _ pe_int (@pa_cons _ _ _ _ _ (qv 1) pa_nil (by rfl)) (by rfl)) (by rfl) (by rfl) (by rfl)) (by rfl) (by first | exact .inl rfl | exact .inr rfl | assumption)) (@pss_cons _ _ _ _ _ (@ps_set _ _ 3 _ _ _ _ nd rfl (by walk_at "o") (@pe_lst _ _ _ _ (@pa_cons _ _ _ _ _ pe_int pa_nil (by rfl))) (by rfl) (by first | exact .inl rfl | exact .inr rfl | assumption)) (@pss_cons _ _ _ _ _ (@ps_for _ _ _ _ _ _ _ _ PassesOwn.never rfl (@qi_range2 _ _ _ _ _ _ _ rfl T.z_range (@pa_cons _ _ _ _ _ pe_int (@pa_cons _ _ _ _ _ (qv 1) pa_nil (by rfl)) (by rfl)) (by rfl) (by rfl)) (@pg_name _ _ 4 _ nd rfl (by walk_at "o") (by first | exact .inl rfl | exact .inr rfl | assumption)) (@pss_one _ _ _ (@ps_expr _ _ _ _ (@pe_bm _ _ _ _ _ _ _ _ _ _ _ _ PySem.F.plainAttrs_list PySem.F.slot_list_append PySem.F.type_list_append q_app (qv 3) (@pa_cons _ _ _ _ _ (@pe_bm _ _ _ _ _ _ _ _ _ _ _ _ PySem.F.plainAttrs_list PySem.F.slot_list_pop PySem.F.type_list_pop q_popAt (qv 2) (@pa_cons _ _ _ _ _ (@pe_call _ _ _ _ _ _ _ _ _ _ _ _ _ _ _ _ G_l_draw (hr.mono (by decide)) rfl T.g_l_draw T.f_l_draw.kp T.b_l_draw .nil pass0 (@pa_cons _ _ _ _ _ (qv 0) (@pa_cons _ _ _ _ _ (@pe_callB _ _ _ _ _ _ _ _ _ (@q_lenK _ K rfl) rfl T.z_len bt_len (@pa_cons _ _ _ _ _ (qv 2) pa_nil (by rfl)) (by decide) (by decide) (by rfl) (by rfl)) pa_nil (by rfl)) (by rfl)) (by decide) (by rfl) (by rfl)) pa_nil (by rfl)) (by rfl) (by rfl) (by rfl) (by rfl) (by rfl)) pa_nil (by rfl)) (by rfl) (by rfl) (by rfl) (by rfl) (by rfl)) (by rfl))) (by intro _ ; rfl)) (@pss_one _ _ _ (@ps_ret _ _ _ _ (qv 3)))))),?_⟩
   refine⟨⟨by decide,by decide,by omega,by omega,by omega⟩,?_⟩
   intro p1 n1
   generalize hU1:upd _ p1 _ = H1
   have S1:=(upd_sub n1 hU1).1
   have e1:=(upd_sub n1 hU1).2
   clear hU1
   rw [show ((kk:Int) - 1).toNat = kk - 1 by omega] at e1
   refine⟨by show 1≤sizeLine; decide,?_⟩
   intro p2 n2
   generalize hU2:upd _ p2 _ = H2
   have S2:=(upd_sub n2 hU2).1
   have e2:=(upd_sub n2 hU2).2
   clear hU2
   have P2:Pu pp k H H2:=((Pu.refl ⟨a0,hp⟩).sub S1).sub S2
   have h1p:p1≠pp:=by rintro rfl; rw [hp] at n1; cases n1
   have h2p:p2≠pp:=by rintro rfl; rw [S1 _ _ hp] at n2; cases n2
   have h12:p1≠p2:=by rintro rfl; rw [e1] at n2; cases n2
   refine⟨⟨by decide,by decide,by omega,by omega⟩,?_⟩
   refine for_range (lo:=1) (n:=((kk:Int) - 1).toNat) (fun i σ H4=>∃ (v4:Option V) (fo le:List Int),σ = [some (.ref pp),some (.int kk),some (.ref p1),some (.ref p2),v4]∧Pu pp k H H4∧LI H4 p1 le∧LI H4 p2 fo∧fo.length = i + 1∧le.length + i + 1 = kk∧List.Perm (fo ++ le) (rgI kk)) ?_ ?_ ?_
   ·refine⟨_,[0],rgL 1 (kk - 1),rfl,P2,S2 _ _ e1,e2,rfl,by unfold rgL; simp; omega,?_⟩
    have:kk = 1∨kk = 2∨kk = 3∨kk = 4:=by omega
    rcases this with rfl | rfl | rfl | rfl <;> exact .refl _
   ·rintro i σ H4 hi ⟨v4,fo,le,rfl,P4,l4,f4,hf,hle,hpm⟩
    obtain⟨n4',e4⟩:=P4.has
    refine⟨.inl ⟨rfl,_,SqL.of f4⟩,?_⟩
    refine⟨.inl ⟨rfl,_,SqL.of l4⟩,?_⟩
    refine⟨_,.inl (SqL.of l4),?_⟩
    rw [List.length_map]
    walk_at "w"
    refine⟨small_log (by omega) (by omega),_,_,e4,fun d5 n5 d50 d51=>?_⟩
    have P5:=P4.draw n5
    have Q5:=Pu.of_draw n5 e4
    generalize hg5:upd _ pp _ = H5 at P5 Q5 ⊢
    have e5:H5 pp = some (.lst [.int n5,.int k]):=by rw [← hg5]; exact upd_same
    clear hg5
    walk_at "w"
    have l5:LI H5 p1 le:=Q5.keep _ _ h1p l4
    have f5:LI H5 p2 fo:=Q5.keep _ _ h2p f4
    obtain⟨x,hx⟩:∃ x,le[d5.toNat]? = some x:=⟨_,List.getElem?_eq_getElem (by omega)⟩
    refine⟨_,d5.toNat,.int x,l5,⟨by omega,by omega⟩,?_,by rw [List.getElem?_map,hx]; rfl,?_⟩
    ·exact (ixN_seq (by rw [List.length_map]; exact ixN_toNat d50 d51)).1
    refine⟨_,by rw [upd_ne (Ne.symm h12)]; exact f5,?_,_,fo ++ [x],le.eraseIdx d5.toNat,rfl,(P5.set n1).set (S1.free n2),?_,?_,?_,?_,?_⟩
    ·rw [List.length_map]; exact Nat.lt_of_le_of_lt (show _≤8 by omega) (by decide)
    ·unfold LI
     rw [upd_ne h12,upd_same,List.eraseIdx_eq_take_drop_succ,List.eraseIdx_eq_take_drop_succ,List.map_append,List.map_take,List.map_drop]
    ·unfold LI
     rw [upd_same,List.map_append]; rfl
    ·rw [List.length_append,hf]; rfl
    ·rw [List.length_eraseIdx_of_lt (by omega)]; omega
    ·exact (pop_perm hx).trans hpm
   ·rintro σ H4 ⟨v4,fo,le,rfl,P4,l4,f4,hf,hle,hpm⟩
    have:le = []:=List.eq_nil_of_length_eq_zero (by omega)
    subst this
    rw [List.append_nil] at hpm
    walk_at "w"
    exact h p2 fo H4 P4 (S1.free n2) f4 (perm_ok hpm)
  ·exact h.elim
theorem sc_l_named:FnScope ["_law_machine_here","_law_rows","_law_signs","_law_side","_law_found","_law_row","_law_entries","_law_sign","_law_entry"] ["_law_machine_here","_law_rows","_law_signs","_law_side"] (defScope s_l_named):=⟨rfl,rfl,rfl,by decide +kernel,rfl,by decide +kernel,by decide +kernel⟩
def inv (ρ:List Int):List Int:=(List.range ρ.length).map fun a=>((ρ.idxOf ((a:Nat):Int):Nat):Int)
theorem inv_at {ρ:List Int} {x:Int} (h0:0≤x) (h1:x < ρ.length):(inv ρ).getD x.toNat 0 = ((ρ.idxOf x:Nat):Int):=by
 unfold inv
 rw [List.getD_eq_getElem?_getD,List.getElem?_map,List.getElem?_range (by omega)]
 show ((ρ.idxOf ((x.toNat:Nat):Int):Nat):Int) = _
 rw [Int.toNat_of_nonneg h0]
def lnE (m:Ma) (ρ τ:List Int) (t:Int) (r s:Int):En:=nmE (inv ρ) (inv τ) t ((at2 m r.toNat s.toNat).getD [])
def lnM (m:Ma) (ρ τ:List Int) (t:Int):Ma:=ρ.map fun r=>τ.map fun s=>lnE m ρ τ t r s
def sp_lnamed:Sp:=fun vs H Q _=>match vs with
 | [.ref c,.ref pr,.ref ps,.int tn]=>∃ (m:Ma) (ρ τ:List Int),Mach H c m∧isM m = true∧LI H pr ρ∧LI H ps τ∧PermL m.length ρ∧PermL (sgn m) τ∧(tn = 1∨tn = -1) ∧
   ∀ (q:Addr) (rs:List Addr) (H':Hp),Sub H H'→H q = none→MaR H' q rs (lnM m ρ τ tn)→(∀ r∈rs,H r = none)→Q (.ref q) H'
 | _=>False
theorem ok_l_named (T:Tx K mg a):FnOk P w K mg base CX0 1 a.l_named a.l_named_d ["_law_machine_here","_law_rows","_law_signs","_law_side"] (sp_lnamed):=by
 refine T.f_l_named.ok sc_l_named (fun vs H Q E h=>?_) (fun cdv A outer s H vs Q E hr h=>?_)
 ·unfold sp_lnamed at h
  split at h
  ·rfl
  ·exact h.elim
 ·unfold sp_lnamed at h
  split at h
  ·have nd:=sc_l_named.nd
   have hu:=hu_of hr
   rename_i c pr ps tn
   obtain⟨m,ρ,τ,hm,hM,hpr,hps,pR,pS,htn,h⟩:=h
   have M:=OkM.of hM
   have hn4:=M.n4
   have hs4:=M.s4
   obtain⟨rs0,hm0⟩:=hm
   refine⟨_,(@pss_cons _ _ _ _ _ (@ps_set _ _ 4 _ _ _ _ nd rfl (by walk_at "o") (@pe_lst _ _ _ _ pa_nil) (by rfl) (by first | exact .inl rfl | exact .inr rfl | assumption)) (@pss_cons _ _ _ _ _ (@ps_for _ _ _ _ _ _ _ _ PassesOwn.never rfl (@qi_listK _ K _ _ _ rfl (qv 1)) (@pg_name _ _ 5 _ nd rfl (by walk_at "o") (by first | exact .inl rfl | exact .inr rfl | assumption)) (@pss_cons _ _ _ _ _ (@ps_set _ _ 6 _ _ _ _ nd rfl (by walk_at "o") (@pe_lst _ _ _ _ pa_nil) (by rfl) (by first | exact .inl rfl | exact .inr rfl | assumption)) (@pss_cons _ _ _ _ _ (@ps_for _ _ _ _ _ _ _ _ PassesOwn.never rfl (@qi_listK _ K _ _ _ rfl (qv 2)) (@pg_name _ _ 7 _ nd rfl (by walk_at "o") (by first | exact .inl rfl | exact .inr rfl | assumption)) (@pss_cons _ _ _ _ _ (@ps_set _ _ 8 _ _ _ _ nd rfl (by walk_at "o") (@pe_ix _ _ _ _ _ _ _ (@q_ixLK _ K rfl) (@pe_ix _ _ _ _ _ _ _ (@q_ixLK _ K rfl) (qv 0) (qv 5) (fun _ _=>rfl)) (qv 7) (fun _ _=>rfl)) (by rfl) (by first | exact .inl rfl | exact .inr rfl | assumption)) (@pss_cons _ _ _ _ _ (@ps_c _ _ _ _ _ _ _ _ (@pt_c _ _ _ _ _ _ _ _ (@op_neD _ _ hr) (qv 8) (@pe_tup _ _ _ _ _ pa_nil) (by first | exact nomark _ | rfl)) (@pss_one _ _ _ (@ps_set _ _ 8 _ _ _ _ nd rfl (by walk_at "o") (@pe_tup _ _ _ _ _ (@pa_cons _ _ _ _ _ (@pe_bm _ _ _ _ _ _ _ _ _ _ _ _ PySem.F.plainAttrs_list PySem.F.slot_list_index PySem.F.type_list_index q_indexN (qv 2) (@pa_cons _ _ _ _ _ (@pe_ix _ _ _ _ _ _ _ (@q_ixTK _ K rfl) (qv 8) pe_int (fun _ _=>rfl)) pa_nil (by rfl)) (by rfl) (by rfl) (by rfl) (by rfl) (by rfl)) (@pa_cons _ _ _ _ _ (@pe_op _ _ _ _ _ _ _ _ q_mul (qv 3) (@pe_ix _ _ _ _ _ _ _ (@q_ixTK _ K rfl) (qv 8) pe_int (fun _ _=>rfl))) (@pa_cons _ _ _ _ _ (@pe_bm _ _ _ _ _ _ _ _ _ _ _ _ PySem.F.plainAttrs_list PySem.F.slot_list_index PySem.F.type_list_index q_indexN (qv 1) (@pa_cons _ _ _ _ _ (@pe_ix _ _ _ _ _ _ _ (@q_ixTK _ K rfl) (qv 8) pe_int (fun _ _=>rfl)) pa_nil (by rfl)) (by rfl) (by rfl) (by rfl) (by rfl) (by rfl)) pa_nil (by rfl)) (by rfl)) (by rfl))) (by rfl) (by first | exact .inl rfl | exact .inr rfl | assumption))) pss_nil) (@pss_one _ _ _ (@ps_expr _ _ _ _ (@pe_bm _ _ _ _ _ _ _ _ _ _ _ _ PySem.F.plainAttrs_list PySem.F.slot_list_append PySem.F.type_list_append q_app (qv 6) (@pa_cons _ _ _ _ _ (qv 8) pa_nil (by rfl)) (by rfl) (by rfl) (by rfl) (by rfl) (by rfl)) (by rfl))))) (by intro _ ; rfl)) (@pss_one _ _ _ (@ps_expr _ _ _ _ (@pe_bm _ _ _ _ _ _ _ _ _ _ _ _ PySem.F.plainAttrs_list PySem.F.slot_list_append PySem.F.type_list_append q_app (qv 4) (@pa_cons _ _ _ _ _ (qv 6) pa_nil (by rfl)) (by rfl) (by rfl) (by rfl) (by rfl) (by rfl)) (by rfl))))) (by intro _ ; rfl)) (@pss_one _ _ _ (@ps_ret _ _ _ _ (qv 4))))),?_⟩
   refine⟨Nat.zero_le _,?_⟩
   intro p1 n1
   generalize hU1:upd _ p1 _ = H1
   have S1:=(upd_sub n1 hU1).1
   have e1:=(upd_sub n1 hU1).2
   clear hU1
   refine⟨⟨_,SqL.of (S1 _ _ hpr)⟩,?_⟩
   refine for_list (K:=K) (a:=pr) (xs:=ρ.map V.int) (fun i σ H4=>∃ (v5 v6 v7 v8:Option V) (rs:List Addr),σ = [some (.ref c),some (.ref pr),some (.ref ps),some (.int tn),some (.ref p1),v5,v6,v7,v8]∧Sub H H4∧MaR H4 p1 rs ((lnM m ρ τ tn).take i)∧∀ r∈rs,H r = none) ?_ ?_ ?_ ?_
   ·exact⟨_,_,_,_,[],rfl,S1,⟨e1,by simp,.nil⟩,by simp⟩
   ·rintro i σ H4 _ ⟨v5,v6,v7,v8,rs,rfl,S4,_⟩
    exact SqL.of (S4 _ _ hpr)
   ·rintro i x σ H4 hx ⟨v5,v6,v7,v8,rs,rfl,S4,M4,N4⟩
    rw [List.getElem?_map] at hx
    obtain⟨r,hr,rfl⟩:=Option.map_eq_some_iff.1 hx
    obtain⟨r0,r1⟩:=pR.2.1 r (List.mem_of_getElem? hr)
    have hi:i < m.length:=by rw [← pR.1]; exact (List.getElem?_eq_some_iff.1 hr).1
    obtain⟨ra,hra⟩:∃ ra,rs0[r.toNat]? = some ra:=⟨_,List.getElem?_eq_getElem (by rw [hm0.2.2.1]; omega)⟩
    obtain⟨es,he,as,hE,hA⟩:=hm0.2.2.at hra
    have hel:es.length = sgn m:=M.len es (List.mem_of_getElem? he)
    refine⟨Nat.zero_le _,?_⟩
    intro p5 n5
    generalize hU5:upd _ p5 _ = H5
    have S5:=(upd_sub n5 hU5).1
    have e5:=(upd_sub n5 hU5).2
    clear hU5
    have M5:=M4.stay (.sub S5)
    have no5:p5 ∉ rs:=M4.out n5
    refine⟨⟨_,SqL.of ((S4.trans S5) _ _ hps)⟩,?_⟩
    refine for_list (K:=K) (a:=ps) (xs:=τ.map V.int) (fun j σ H6=>∃ (v7 v8:Option V) (bs:List Addr),σ = [some (.ref c),some (.ref pr),some (.ref ps),some (.int tn),some (.ref p1),some (.int r),some (.ref p5),v7,v8]∧Sub H4 H6∧H6 p5 = some (.lst (bs.map V.ref))∧All2 (Ent H6) bs ((τ.take j).map (lnE m ρ τ tn r))) ?_ ?_ ?_ ?_
    ·exact⟨_,_,[],rfl,S5,e5,.nil⟩
    ·rintro j σ H6 _ ⟨v7,v8,bs,rfl,S6,_⟩
     exact SqL.of ((S4.trans S6) _ _ hps)
    ·rintro j x σ H6 hx ⟨v7,v8,bs,rfl,S6,g6,A6⟩
     rw [List.getElem?_map] at hx
     obtain⟨s,hs,rfl⟩:=Option.map_eq_some_iff.1 hx
     obtain⟨s0,s1⟩:=pS.2.1 s (List.mem_of_getElem? hs)
     have hj:j < sgn m:=by rw [← pS.1]; exact (List.getElem?_eq_some_iff.1 hs).1
     obtain⟨d,hd⟩:∃ d,as[s.toNat]? = some d:=⟨_,List.getElem?_eq_getElem (by rw [hA.1,hel]; omega)⟩
     obtain⟨e,hee,hEd⟩:=hA.at hd
     have T6:=S4.trans S6
     have hat:at2 m r.toNat s.toNat = some e:=by unfold at2; rw [he]; exact hee
     have hln:lnE m ρ τ tn r s = nmE (inv ρ) (inv τ) tn e:=by unfold lnE; rw [hat]; rfl
     have hok:=M.ent es (List.mem_of_getElem? he) e (List.mem_of_getElem? hee)
     refine⟨_,.ref ra,SqL.of (T6 _ _ hm0.1),atI_toNat r0 (by rw [List.getElem?_map,hra]; rfl),?_⟩
     refine⟨_,.ref d,SqL.of (T6 _ _ hE),atI_toNat s0 (by rw [List.getElem?_map,hd]; rfl),?_⟩
     refine⟨Nat.zero_le _,?_⟩
     intro p7 n7
     generalize hU7:upd _ p7 _ = H7
     have S7:=(upd_sub n7 hU7).1
     have e7:=(upd_sub n7 hU7).2
     clear hU7
     have E7:Ent H7 d e:=(T6.trans S7) _ _ hEd
     refine⟨_,.tup [],E7.den,by rw [Den]; exact⟨_,_,rfl,e7,rfl⟩,dep_dE1 e,?_⟩
     rw [show eqD (dE e) (.tup []) = decide (e = []) from eqD_dE]
     have htk:(τ.take (j + 1)).map (lnE m ρ τ tn r) = (τ.take j).map (lnE m ρ τ tn r) ++ [lnE m ρ τ tn r s]:=by rw [List.take_add_one,hs,List.map_append]; rfl
     have fin:∀ (v:Addr) (H8:Hp),Sub H7 H8→Ent H8 v (lnE m ρ τ tn r s)→∃ (v7 v8:Option V) (bs':List Addr),[some (.ref c),some (.ref pr),some (.ref ps),some (.int tn),some (.ref p1),some (.int r),some (.ref p5),some (.int s),some (.ref v)] = [some (.ref c),some (.ref pr),some (.ref ps),some (.int tn),some (.ref p1),some (.int r),some (.ref p5),v7,v8]∧Sub H4 (upd H8 p5 (.lst (bs.map V.ref ++ [.ref v])))∧upd H8 p5 (.lst (bs.map V.ref ++ [.ref v])) p5 = some (.lst (bs'.map V.ref))∧All2 (Ent (upd H8 p5 (.lst (bs.map V.ref ++ [.ref v])))) bs' ((τ.take (j + 1)).map (lnE m ρ τ tn r)):=fun v H8 S8 hv=>by
      refine⟨_,_,bs ++ [v],rfl,((S6.trans S7).trans S8).upd n5,by rw [upd_same,List.map_append]; rfl,?_⟩
      rw [htk]
      have o:∀ {a:Addr} {z:En},Ent H8 a z→Ent (upd H8 p5 (.lst (bs.map V.ref ++ [.ref v]))) a z:=fun {a z} hz=>by
       unfold Ent at hz ⊢
       rw [upd_ne]
       ·exact hz
       ·rintro rfl
        have:=S8 _ _ (S7 _ _ g6)
        rw [this] at hz
        cases hz
      exact All2.app (A6.mono fun a z _ hz=>o (S8 _ _ (S7 _ _ hz))) (o hv)
     have hbl:(bs.map V.ref).length < sizeLine:=by rw [List.length_map,A6.1,List.length_map,List.length_take]; exact Nat.lt_of_le_of_lt (Nat.le_trans (Nat.min_le_left _ _) (show _≤4 by omega)) (by decide)
     walk_at "w"
     refine ifB.mk (fun k=>?_) (fun k=>?_)
     ·have k:¬ e = []:=by intro z; rw [z] at k; cases k
      obtain⟨a0,w0,b0,rfl,q0,q1,q2,q3,q4⟩:=entryOk_three hok k
      have E7':H7 d = some (.tup [.int a0,.int w0,.int b0]):=E7
      have inR:∀ {k:Nat} {l:List Int} {x:Int},PermL k l→0≤x→x < k→x∈l:=fun {k l x} P h0 h1=>by
       have:=P.2.2.2 x.toNat (by omega)
       rwa [Int.toNat_of_nonneg h0] at this
      refine⟨.inl ⟨rfl,_,SqL.of ((T6.trans S7) _ _ hps)⟩,?_⟩
      refine⟨_,_,SqT.of E7',rfl,?_⟩
      refine⟨τ,(T6.trans S7) _ _ hps,inR pS q0 q1,by rw [pS.1]; omega,?_⟩
      refine⟨_,_,SqT.of E7',rfl,?_⟩
      refine⟨.inl ⟨by omega,by omega⟩,fun wt hwt _=>?_⟩
      refine⟨.inl ⟨rfl,_,SqL.of ((T6.trans S7) _ _ hpr)⟩,?_⟩
      refine⟨_,_,SqT.of E7',rfl,?_⟩
      refine⟨ρ,(T6.trans S7) _ _ hpr,inR pR q3 q4,by rw [pR.1]; omega,?_⟩
      refine⟨by show 3≤sizeLine; decide,?_⟩
      intro p8 n8
      generalize hU8:upd _ p8 _ = H8
      have S8:=(upd_sub n8 hU8).1
      have e8:=(upd_sub n8 hU8).2
      clear hU8
      have hwt:wt = tn * w0:=hwt
      subst hwt
      refine⟨.inl ⟨rfl,_,SqL.of (S8 _ _ (S7 _ _ g6))⟩,?_⟩
      refine⟨_,S8 _ _ (S7 _ _ g6),hbl,fin p8 H8 S8 ?_⟩
      rw [hln]
      show H8 p8 = some (.tup [.int ((inv τ).getD a0.toNat 0),.int (w0 * tn),.int ((inv ρ).getD b0.toNat 0)])
      rw [inv_at q0 (by rw [pS.1]; exact q1),inv_at q3 (by rw [pR.1]; exact q4),Int.mul_comm w0 tn]
      exact e8
     ·have k:e = []:=by
       by_cases z:e = []
       ·exact z
       ·rw [decide_eq_false z] at k; cases k
      subst k
      refine⟨.inl ⟨rfl,_,SqL.of (S7 _ _ g6)⟩,?_⟩
      refine⟨_,S7 _ _ g6,hbl,fin d H7 (fun _ _ z=>z) ?_⟩
      rw [hln]
      exact E7
    ·rintro σ H6 ⟨v7,v8,bs,rfl,S6,g6,A6⟩
     rw [List.length_map,List.take_length] at A6
     have M6:=M4.stay (.sub S6)
     have R6:Row H6 p5 (τ.map (lnE m ρ τ tn r)):=⟨bs,g6,A6⟩
     have hlr:(lnM m ρ τ tn)[i]? = some (τ.map (lnE m ρ τ tn r)):=by unfold lnM; rw [List.getElem?_map,hr]; rfl
     refine⟨.inl ⟨rfl,_,SqL.of M6.1⟩,?_⟩
     refine⟨_,M6.1,?_,_,_,_,_,rs ++ [p5],rfl,?_,?_,?_⟩
     ·rw [List.length_map,M6.2.2.1,List.length_take]; exact Nat.lt_of_le_of_lt (Nat.le_trans (Nat.min_le_left _ _) (show _≤4 by omega)) (by decide)
     ·exact (S4.trans S6).upd n1
     ·rw [List.take_add_one,hlr]
      exact M6.app' R6 (M4.out n5) (M4.outp n5)
     ·intro r hr
      rcases List.mem_append.1 hr with hr | hr
      ·exact N4 r hr
      ·rw [List.mem_singleton.1 hr]; exact S4.free n5
   ·rintro σ H4 ⟨v5,v6,v7,v8,rs,rfl,S4,M4,N4⟩
    rw [List.length_map,List.take_of_length_le (by unfold lnM; rw [List.length_map]; exact Nat.le_refl _)] at M4
    walk_at "w"
    exact h p1 rs H4 S4 n1 M4 N4
  ·exact h.elim
theorem sc_l_like:FnScope ["_law_purse_here","_law_machine_here","_law_rows","_law_signs"] ["_law_purse_here","_law_machine_here"] (defScope s_l_like):=⟨rfl,rfl,rfl,by decide +kernel,rfl,by decide +kernel,by decide +kernel⟩
theorem lnM_ok {m:Ma} {ρ τ:List Int} {t:Int} (hM:isM m = true) (pR:PermL m.length ρ) (pS:PermL (sgn m) τ) (ht:t = 1∨t = -1):isM (lnM m ρ τ t) = true:=by
 have M:=OkM.of hM
 have hl:(lnM m ρ τ t).length = m.length:=by unfold lnM; rw [List.length_map]; exact pR.1
 have hrow:∀ row∈lnM m ρ τ t,row.length = sgn m:=fun row hr=>by
  obtain⟨r,_,rfl⟩:=List.mem_map.1 hr
  rw [List.length_map]; exact pS.1
 have hs:sgn (lnM m ρ τ t) = sgn m:=by
  have:=M.n1
  cases hT:lnM m ρ τ t with
  | nil=>rw [hT] at hl; simp at hl; omega
  | cons r0 l=>exact hrow r0 (by rw [hT]; simp)
 have inR:∀ {k:Nat} {l:List Int} {x:Int},PermL k l→0≤x→x < k→0≤(inv l).getD x.toNat 0∧(inv l).getD x.toNat 0 < k:=fun {k l x} P h0 h1=>by
  have hm:=P.2.2.2 x.toNat (by omega)
  rw [Int.toNat_of_nonneg h0] at hm
  have:=List.idxOf_lt_length_iff.mpr hm
  have hk:=P.1
  rw [inv_at h0 (by rw [P.1]; exact h1)]
  omega
 refine OkM.isM ⟨by rw [hl]; exact M.n1,by rw [hl]; exact M.n4,by rw [hs]; exact M.s2,by rw [hs]; exact M.s4,fun r hr=>by rw [hs]; exact hrow r hr,fun row hr e he=>?_⟩
 rw [hl,hs]
 obtain⟨r,hr',rfl⟩:=List.mem_map.1 hr
 obtain⟨s,hs',rfl⟩:=List.mem_map.1 he
 have ok0:entryOk m.length (sgn m) ((at2 m r.toNat s.toNat).getD []) = true:=by
  cases q:at2 m r.toNat s.toNat with
  | none=>rfl
  | some e =>
   unfold at2 at q
   cases q':m[r.toNat]? with
   | none=>rw [q'] at q; cases q
   | some es =>
    rw [q'] at q
    exact M.ent es (List.mem_of_getElem? q') e (List.mem_of_getElem? (show es[s.toNat]? = some e from q))
 unfold lnE
 generalize (at2 m r.toNat s.toNat).getD [] = e0 at ok0
 by_cases c:e0 = []
 ·subst c; rfl
 ·obtain⟨s1,w,r1,rfl,a0,a1,a2,a3,a4⟩:=entryOk_three ok0 c
  have b:=inR pS a0 a1
  have d:=inR pR a3 a4
  show ((decide (0≤(inv τ).getD s1.toNat 0) && decide ((inv τ).getD s1.toNat 0 < (sgn m:Int))) && (decide (w * t = -1) || decide (w * t = 1)) && (decide (0≤(inv ρ).getD r1.toNat 0) && decide ((inv ρ).getD r1.toNat 0 < (m.length:Int)))) = true
  have hw:w * t = -1∨w * t = 1:=by rcases a2 with rfl | rfl <;> rcases ht with rfl | rfl <;> decide
  simp only [Bool.and_eq_true,Bool.or_eq_true,decide_eq_true_eq]
  exact⟨⟨b,hw⟩,d⟩
def sp_like:Sp:=fun vs H Q _=>match vs with
 | [.ref pp,.ref c]=>∃ (m:Ma) (a k:Int),Mach H c m∧isM m = true∧H pp = some (.lst [.int a,.int k])∧∀ (q:Addr) (T:Ma) (H':Hp),Pu pp k H H'→H q = none→Mach H' q T→isM T = true→Q (.ref q) H'
 | _=>False
theorem ok_l_like (T:Tx K mg a):FnOk P w K mg base CX0 3 a.l_like a.l_like_d ["_law_purse_here","_law_machine_here"] (sp_like):=by
 have G_l_order:=ok_l_order (P:=P) (w:=w) (base:=base) T
 have G_l_named:=ok_l_named (P:=P) (w:=w) (base:=base) T
 have G_l_draw:=ok_l_draw (P:=P) (w:=w) (base:=base) T
 refine T.f_l_like.ok sc_l_like (fun vs H Q E h=>?_) (fun cdv A outer s H vs Q E hr h=>?_)
 ·unfold sp_like at h
  split at h
  ·rfl
  ·exact h.elim
 ·unfold sp_like at h
  split at h
  ·have nd:=sc_l_like.nd
   have hu:=hu_of hr
   rename_i pp c
   obtain⟨m,a0,k,hm,hM,hp,h⟩:=h
   have M:=OkM.of hM
   have hn1:=M.n1
   have hn4:=M.n4
   have hs2:=M.s2
   have hs4:=M.s4
   obtain⟨rs0,hm0⟩:=id hm
   obtain⟨r0,hr0⟩:∃ r0,rs0[0]? = some r0:=⟨_,List.getElem?_eq_getElem (by rw [hm0.2.2.1]; omega)⟩
   obtain⟨es0,hes0,as0,hr0a,hA0⟩:=hm0.2.2.at hr0
   have hsg:es0.length = sgn m:=M.len es0 (List.mem_of_getElem? hes0)
   refine⟨_,(@pss_cons _ _ _ _ _ (@ps_set _ _ 2 _ _ _ _ nd rfl (by walk_at "o") (@pe_call _ _ _ _ _ _ _ _ _ _ _ _ _ _ _ _ G_l_order (hr.mono (by decide)) rfl T.g_l_order T.f_l_order.kp T.b_l_order .nil pass0 (@pa_cons _ _ _ _ _ (qv 0) (@pa_cons _ _ _ _ _ (@pe_callB _ _ _ _ _ _ _ _ _ (@q_lenK _ K rfl) rfl T.z_len bt_len (@pa_cons _ _ _ _ _ (qv 1) pa_nil (by rfl)) (by decide) (by decide) (by rfl) (by rfl)) pa_nil (by rfl)) (by rfl)) (by decide) (by rfl) (by rfl)) (by rfl) (by first | exact .inl rfl | exact .inr rfl | assumption)) (@pss_cons _ _ _ _ _ (@ps_set _ _ 3 _ _ _ _ nd rfl (by walk_at "o") (@pe_call _ _ _ _ _ _ _ _ _ _ _ _ _ _ _ _ G_l_order (hr.mono (by decide)) rfl T.g_l_order T.f_l_order.kp T.b_l_order .nil pass0 (@pa_cons _ _ _ _ _ (qv 0) (@pa_cons _ _ _ _ _ (@pe_callB _ _ _ _ _ _ _ _ _ (@q_lenK _ K rfl) rfl T.z_len bt_len (@pa_cons _ _ _ _ _ (@pe_ix _ _ _ _ _ _ _ (@q_ixLK _ K rfl) (qv 1) pe_int (fun _ _=>rfl)) pa_nil (by rfl)) (by decide) (by decide) (by rfl) (by rfl)) pa_nil (by rfl)) (by rfl)) (by decide) (by rfl) (by rfl)) (by rfl) (by first | exact .inl rfl | exact .inr rfl | assumption)) (@pss_one _ _ _ (@ps_ret _ _ _ _ (@pe_call _ _ _ _ _ _ _ _ _ _ _ _ _ _ _ _ G_l_named (hr.mono (by decide)) rfl T.g_l_named T.f_l_named.kp T.b_l_named .nil pass0 (@pa_cons _ _ _ _ _ (qv 1) (@pa_cons _ _ _ _ _ (qv 2) (@pa_cons _ _ _ _ _ (qv 3) (@pa_cons _ _ _ _ _ (@pe_op _ _ _ _ _ _ _ _ q_sub (@pe_op _ _ _ _ _ _ _ _ q_mul pe_int (@pe_call _ _ _ _ _ _ _ _ _ _ _ _ _ _ _ _ G_l_draw (hr.mono (by decide)) rfl T.g_l_draw T.f_l_draw.kp T.b_l_draw .nil pass0 (@pa_cons _ _ _ _ _ (qv 0) (@pa_cons _ _ _ _ _ pe_int pa_nil (by rfl)) (by rfl)) (by decide) (by rfl) (by rfl))) pe_int) pa_nil (by rfl)) (by rfl)) (by rfl)) (by rfl)) (by decide) (by rfl) (by rfl)))))),?_⟩
   refine⟨_,.inl (SqL.of hm0.1),?_⟩
   rw [List.length_map,hm0.2.2.1]
   refine⟨m.length,a0,k,rfl,hn1,hn4,hp,fun q1 ρ H1 P1 n1 l1 pR=>?_⟩
   obtain⟨n1',e1⟩:=P1.has
   have hm1:=hm0.stay P1.stay
   have hr1:Row H1 r0 es0:=Row.stay P1.stay ⟨as0,hr0a,hA0⟩
   obtain⟨as1,hr1a,hA1⟩:=hr1
   refine⟨_,_,SqL.of hm1.1,atI_nat (j:=0) (by rw [List.getElem?_map,hr0]; rfl),?_⟩
   refine⟨_,.inl (SqL.of hr1a),?_⟩
   rw [List.length_map,hA1.1,hsg]
   refine⟨sgn m,n1',k,rfl,by omega,hs4,e1,fun q2 τ H2 P2' n2 l2 pS=>?_⟩
   obtain⟨n2',e2⟩:=P2'.has
   have hq1:q1≠pp:=by rintro rfl; rw [hp] at n1; cases n1
   have hq2:q2≠pp:=by rintro rfl; rw [e1] at n2; cases n2
   have l1':LI H2 q1 ρ:=P2'.keep _ _ hq1 l1
   have P2:=P1.trans P2'
   walk_at "w"
   refine⟨by decide,_,_,e2,fun d3 n3 d30 d31=>?_⟩
   have P3:=P2.draw n3
   have Q3:=Pu.of_draw n3 e2
   generalize hg3:upd _ pp _ = H3 at P3 Q3 ⊢
   have e3:H3 pp = some (.lst [.int n3,.int k]):=by rw [← hg3]; exact upd_same
   clear hg3
   walk_at "w"
   refine⟨.inl ⟨by omega,by omega⟩,fun wt hwt _=>?_⟩
   have hwt:wt = 2 * d3:=hwt
   have htn:wt - 1 = 1∨wt - 1 = -1:=by omega
   refine⟨m,ρ,τ,hm.stay P3.stay,hM,Q3.keep _ _ hq1 l1',Q3.keep _ _ hq2 l2,pR,pS,htn,fun q4 rs4 H4 S4 n4 M4 R4=>?_⟩
   exact h q4 _ H4 (P3.sub S4) (P3.free n4) ⟨rs4,M4⟩ (lnM_ok hM pR pS htn)
  ·exact h.elim
theorem sc_l_next:FnScope ["_law_purse_here","_law_machines","_law_way","_law_machine_here","_law_row","_law_sign"] ["_law_purse_here","_law_machines"] (defScope s_l_next):=⟨rfl,rfl,rfl,by decide +kernel,rfl,by decide +kernel,by decide +kernel⟩
theorem put_okE {m:Ma} (hM:isM m = true) {i j:Nat} {es:List En} (h0:m[i]? = some es) {e:En} (he:entryOk m.length (sgn m) e = true):isM (m.set i (es.set j e)) = true:=by
 have M:=OkM.of hM
 have hel:=M.len es (List.mem_of_getElem? h0)
 have hn:=M.n1
 have hrow:∀ r∈m.set i (es.set j e),r.length = sgn m:=fun r hr=>by
  rcases List.mem_or_eq_of_mem_set hr with hr | hr
  ·exact M.len r hr
  ·rw [hr,List.length_set]; exact hel
 have hsg:sgn (m.set i (es.set j e)) = sgn m:=by
  cases hT:m.set i (es.set j e) with
  | nil =>
   have:=congrArg List.length hT
   rw [List.length_set] at this
   have this:m.length = 0:=this
   omega
  | cons r0 l=>exact hrow r0 (by rw [hT]; simp)
 refine OkM.isM ⟨by rw [List.length_set]; exact hn,by rw [List.length_set]; exact M.n4,by rw [hsg]; exact M.s2,by rw [hsg]; exact M.s4,fun r hr=>by rw [hsg]; exact hrow r hr,fun r hr e' he'=>?_⟩
 rw [hsg,List.length_set]
 rcases List.mem_or_eq_of_mem_set hr with hr | hr
 ·exact M.ent r hr e' he'
 ·rw [hr] at he'
  rcases List.mem_or_eq_of_mem_set he' with he' | he'
  ·exact M.ent es (List.mem_of_getElem? h0) e' he'
  ·rw [he']; exact he
def sp_next:Sp:=fun vs H Q _=>match vs with
 | [.ref pp,.ref p]=>∃ (as:List Addr) (ms:List Ma) (a k:Int),H p = some (.lst (as.map V.ref))∧All2 (Mach H) as ms∧(∀ m∈ms,isM m = true)∧ms.length≤20∧H pp = some (.lst [.int a,.int k])∧∀ (q:Addr) (T:Ma) (H':Hp),Pu pp k H H'→H q = none→Mach H' q T→isM T = true→Q (.ref q) H'
 | _=>False
theorem ok_l_next (T:Tx K mg a):FnOk P w K mg base CX0 4 a.l_next a.l_next_d ["_law_purse_here","_law_machines"] (sp_next):=by
 have G_l_draw:=ok_l_draw (P:=P) (w:=w) (base:=base) T
 have G_l_machine:=ok_l_machine (P:=P) (w:=w) (base:=base) T
 have G_l_copy:=ok_l_copy (P:=P) (w:=w) (base:=base) T
 have G_l_like:=ok_l_like (P:=P) (w:=w) (base:=base) T
 refine T.f_l_next.ok sc_l_next (fun vs H Q E h=>?_) (fun cdv A outer s H vs Q E hr h=>?_)
 ·unfold sp_next at h
  split at h
  ·rfl
  ·exact h.elim
 ·unfold sp_next at h
  split at h
  ·have nd:=sc_l_next.nd
   have hu:=hu_of hr
   rename_i pp p
   obtain⟨as,ms,a0,k,hp,hA,hM,hl,e0,h⟩:=h
   have hal:as.length = ms.length:=hA.1
   refine⟨_,(@pss_cons _ _ _ _ _ (@ps_set _ _ 2 _ _ _ _ nd rfl (by walk_at "o") (@pe_call _ _ _ _ _ _ _ _ _ _ _ _ _ _ _ _ G_l_draw (hr.mono (by decide)) rfl T.g_l_draw T.f_l_draw.kp T.b_l_draw .nil pass0 (@pa_cons _ _ _ _ _ (qv 0) (@pa_cons _ _ _ _ _ pe_int pa_nil (by rfl)) (by rfl)) (by decide) (by rfl) (by rfl)) (by rfl) (by first | exact .inl rfl | exact .inr rfl | assumption)) (@pss_cons _ _ _ _ _ (@ps_c _ _ _ _ _ _ _ _ (PW.pt (@pw_orR _ _ _ _ _ _ _ (@pt_c _ _ _ _ _ _ _ _ q_eq (qv 2) pe_int (by first | exact nomark _ | rfl)) (@qw_or1 _ _ _ _ (@pt_c _ _ _ _ _ _ _ _ q_eq (@pe_callB _ _ _ _ _ _ _ _ _ (@q_lenK _ K rfl) rfl T.z_len bt_len (@pa_cons _ _ _ _ _ (qv 1) pa_nil (by rfl)) (by decide) (by decide) (by rfl) (by rfl)) pe_int (by first | exact nomark _ | rfl))))) (@pss_one _ _ _ (@ps_ret _ _ _ _ (@pe_call _ _ _ _ _ _ _ _ _ _ _ _ _ _ _ _ G_l_machine (hr.mono (by decide)) rfl T.g_l_machine T.f_l_machine.kp T.b_l_machine .nil pass0 (@pa_cons _ _ _ _ _ (qv 0) (@pa_cons _ _ _ _ _ (@pe_op _ _ _ _ _ _ _ _ q_add pe_int (@pe_call _ _ _ _ _ _ _ _ _ _ _ _ _ _ _ _ G_l_draw (hr.mono (by decide)) rfl T.g_l_draw T.f_l_draw.kp T.b_l_draw .nil pass0 (@pa_cons _ _ _ _ _ (qv 0) (@pa_cons _ _ _ _ _ pe_int pa_nil (by rfl)) (by rfl)) (by decide) (by rfl) (by rfl))) (@pa_cons _ _ _ _ _ (@pe_op _ _ _ _ _ _ _ _ q_add pe_int (@pe_call _ _ _ _ _ _ _ _ _ _ _ _ _ _ _ _ G_l_draw (hr.mono (by decide)) rfl T.g_l_draw T.f_l_draw.kp T.b_l_draw .nil pass0 (@pa_cons _ _ _ _ _ (qv 0) (@pa_cons _ _ _ _ _ pe_int pa_nil (by rfl)) (by rfl)) (by decide) (by rfl) (by rfl))) pa_nil (by rfl)) (by rfl)) (by rfl)) (by decide) (by rfl) (by rfl)))) pss_nil) (@pss_cons _ _ _ _ _ (@ps_set _ _ 3 _ _ _ _ nd rfl (by walk_at "o") (@pe_call _ _ _ _ _ _ _ _ _ _ _ _ _ _ _ _ G_l_copy (hr.mono (by decide)) rfl T.g_l_copy T.f_l_copy.kp T.b_l_copy .nil pass0 (@pa_cons _ _ _ _ _ (@pe_ix _ _ _ _ _ _ _ (@q_ixLK _ K rfl) (qv 1) (@pe_call _ _ _ _ _ _ _ _ _ _ _ _ _ _ _ _ G_l_draw (hr.mono (by decide)) rfl T.g_l_draw T.f_l_draw.kp T.b_l_draw .nil pass0 (@pa_cons _ _ _ _ _ (qv 0) (@pa_cons _ _ _ _ _ (@pe_callB _ _ _ _ _ _ _ _ _ (@q_lenK _ K rfl) rfl T.z_len bt_len (@pa_cons _ _ _ _ _ (qv 1) pa_nil (by rfl)) (by decide) (by decide) (by rfl) (by rfl)) pa_nil (by rfl)) (by rfl)) (by decide) (by rfl) (by rfl)) (fun _ _=>rfl)) pa_nil (by rfl)) (by decide) (by rfl) (by rfl)) (by rfl) (by first | exact .inl rfl | exact .inr rfl | assumption)) (@pss_cons _ _ _ _ _ (@ps_c _ _ _ _ _ _ _ _ (@pt_c _ _ _ _ _ _ _ _ q_eq (qv 2) pe_int (by first | exact nomark _ | rfl)) (@pss_cons _ _ _ _ _ (@ps_set _ _ 4 _ _ _ _ nd rfl (by walk_at "o") (@pe_call _ _ _ _ _ _ _ _ _ _ _ _ _ _ _ _ G_l_draw (hr.mono (by decide)) rfl T.g_l_draw T.f_l_draw.kp T.b_l_draw .nil pass0 (@pa_cons _ _ _ _ _ (qv 0) (@pa_cons _ _ _ _ _ (@pe_callB _ _ _ _ _ _ _ _ _ (@q_lenK _ K rfl) rfl T.z_len bt_len (@pa_cons _ _ _ _ _ (qv 3) pa_nil (by rfl)) (by decide) (by decide) (by rfl) (by rfl)) pa_nil (by rfl)) (by rfl)) (by decide) (by rfl) (by rfl)) (by rfl) (by first | exact .inl rfl | exact .inr rfl | assumption)) (@pss_cons _ _ _ _ _ (@ps_set _ _ 5 _ _ _ _ nd rfl (by walk_at "o") (@pe_call _ _ _ _ _ _ _ _ _ _ _ _ _ _ _ _ G_l_draw (hr.mono (by decide)) rfl T.g_l_draw T.f_l_draw.kp T.b_l_draw .nil pass0 (@pa_cons _ _ _ _ _ (qv 0) (@pa_cons _ _ _ _ _ (@pe_callB _ _ _ _ _ _ _ _ _ (@q_lenK _ K rfl) rfl T.z_len bt_len (@pa_cons _ _ _ _ _ (@pe_ix _ _ _ _ _ _ _ (@q_ixLK _ K rfl) (qv 3) pe_int (fun _ _=>rfl)) pa_nil (by rfl)) (by decide) (by decide) (by rfl) (by rfl)) pa_nil (by rfl)) (by rfl)) (by decide) (by rfl) (by rfl)) (by rfl) (by first | exact .inl rfl | exact .inr rfl | assumption)) (@pss_one _ _ _ (@ps_asg _ _ _ _ _ _ (@pe_ix _ _ _ _ _ _ _ (@q_ixLK _ K rfl) (@pe_lst _ _ _ _ (@pa_cons _ _ _ _ _ (@pe_tup _ _ _ _ _ pa_nil) (@pa_cons _ _ _ _ _ (@pe_tup _ _ _ _ _ (@pa_cons _ _ _ _ _ pe_int (@pa_cons _ _ _ _ _ pe_int (@pa_cons _ _ _ _ _ pe_int pa_nil (by rfl)) (by rfl)) (by rfl))) (@pa_cons _ _ _ _ _ (@pe_tup _ _ _ _ _ (@pa_cons _ _ _ _ _ pe_int (@pa_cons _ _ _ _ _ (@pe_un _ _ _ _ _ _ q_neg pe_int) (@pa_cons _ _ _ _ _ (qv 4) pa_nil (by rfl)) (by rfl)) (by rfl))) pa_nil (by rfl)) (by rfl)) (by rfl))) (@pe_call _ _ _ _ _ _ _ _ _ _ _ _ _ _ _ _ G_l_draw (hr.mono (by decide)) rfl T.g_l_draw T.f_l_draw.kp T.b_l_draw .nil pass0 (@pa_cons _ _ _ _ _ (qv 0) (@pa_cons _ _ _ _ _ pe_int pa_nil (by rfl)) (by rfl)) (by decide) (by rfl) (by rfl)) (fun _ _=>rfl)) (@pg_sub _ _ _ _ _ _ _ (@pe_ix _ _ _ _ _ _ _ (@q_ixLK _ K rfl) (qv 3) (qv 4) (fun _ _=>rfl)) (qv 5) q_setL (by intro _ ; rfl)) (by rfl) (by rfl) (by rfl))))) pss_nil) (@pss_one _ _ _ (@ps_ret _ _ _ _ (@pe_call _ _ _ _ _ _ _ _ _ _ _ _ _ _ _ _ G_l_like (hr.mono (by decide)) rfl T.g_l_like T.f_l_like.kp T.b_l_like .nil pass0 (@pa_cons _ _ _ _ _ (qv 0) (@pa_cons _ _ _ _ _ (qv 3) pa_nil (by rfl)) (by rfl)) (by decide) (by rfl) (by rfl)))))))),?_⟩
   have P0:Pu pp k H H:=Pu.refl ⟨a0,e0⟩
   have hpp:p≠pp:=by
    rintro rfl
    rw [hp] at e0
    cases as with
    | nil=>cases e0
    | cons x l=>cases e0
   walk_at "w"
   refine⟨by decide,_,_,e0,fun d1 n1 d10 d11=>?_⟩
   have P1:=P0.draw n1
   have Q1:=Pu.of_draw n1 e0
   generalize hg1:upd _ pp _ = H1 at P1 Q1 ⊢
   have e1:H1 pp = some (.lst [.int n1,.int k]):=by rw [← hg1]; exact upd_same
   clear hg1
   walk_at "w"
   have hp1:H1 p = some (.lst (as.map V.ref)):=Q1.keep _ _ hpp hp
   rw [if_neg (show ¬ (false = true) by decide)]
   by_cases c0:d1 = 0
   ·refine ifB.yes (decide_eq_true c0) ?_
    walk_at "w"
    refine ifB.yes rfl ?_
    walk_at "w"
    refine⟨by decide,_,_,e1,fun d2 n2 d20 d21=>?_⟩
    have P2:=P1.draw n2
    have Q2:=Pu.of_draw n2 e1
    generalize hg2:upd _ pp _ = H2 at P2 Q2 ⊢
    have e2:H2 pp = some (.lst [.int n2,.int k]):=by rw [← hg2]; exact upd_same
    clear hg2
    walk_at "w"
    walk_at "w"
    refine⟨by decide,_,_,e2,fun d3 n3 d30 d31=>?_⟩
    have P3:=P2.draw n3
    have Q3:=Pu.of_draw n3 e2
    generalize hg3:upd _ pp _ = H3 at P3 Q3 ⊢
    have e3:H3 pp = some (.lst [.int n3,.int k]):=by rw [← hg3]; exact upd_same
    clear hg3
    walk_at "w"
    refine⟨_,k,e3,⟨by omega,by omega⟩,⟨by omega,by omega⟩,fun tm m H4 P4' nt hm hMm _ _=>?_⟩
    exact h tm m H4 (P3.trans P4') (P3.free nt) hm hMm
   refine ifB.no (decide_eq_false c0) ?_
   refine⟨_,.inl (SqL.of hp1),?_⟩
   rw [List.length_map,hal]
   walk_at "w"
   rw [if_neg (show ¬ (false = true) by decide)]
   by_cases cm:ms.length = 0
   ·refine ifB.yes (decide_eq_true (by omega)) ?_
    walk_at "w"
    refine⟨by decide,_,_,e1,fun d2 n2 d20 d21=>?_⟩
    have P2:=P1.draw n2
    have Q2:=Pu.of_draw n2 e1
    generalize hg2:upd _ pp _ = H2 at P2 Q2 ⊢
    have e2:H2 pp = some (.lst [.int n2,.int k]):=by rw [← hg2]; exact upd_same
    clear hg2
    walk_at "w"
    walk_at "w"
    refine⟨by decide,_,_,e2,fun d3 n3 d30 d31=>?_⟩
    have P3:=P2.draw n3
    have Q3:=Pu.of_draw n3 e2
    generalize hg3:upd _ pp _ = H3 at P3 Q3 ⊢
    have e3:H3 pp = some (.lst [.int n3,.int k]):=by rw [← hg3]; exact upd_same
    clear hg3
    walk_at "w"
    refine⟨_,k,e3,⟨by omega,by omega⟩,⟨by omega,by omega⟩,fun tm m H4 P4' nt hm hMm _ _=>?_⟩
    exact h tm m H4 (P3.trans P4') (P3.free nt) hm hMm
   refine ifB.no (decide_eq_false (by omega)) ?_
   refine⟨_,.inl (SqL.of hp1),?_⟩
   rw [List.length_map,hal]
   walk_at "w"
   refine⟨small_log (by omega) (by omega),_,_,e1,fun d2 n2 d20 d21=>?_⟩
   have P2:=P1.draw n2
   have Q2:=Pu.of_draw n2 e1
   generalize hg2:upd _ pp _ = H2 at P2 Q2 ⊢
   have e2:H2 pp = some (.lst [.int n2,.int k]):=by rw [← hg2]; exact upd_same
   clear hg2
   walk_at "w"
   have hp2:H2 p = some (.lst (as.map V.ref)):=Q2.keep _ _ hpp hp1
   obtain⟨ra,hra⟩:∃ ra,as[d2.toNat]? = some ra:=⟨_,List.getElem?_eq_getElem (by omega)⟩
   obtain⟨m,hm0,hMa⟩:=hA.at hra
   have hMm:=hM m (List.mem_of_getElem? hm0)
   have M:=OkM.of hMm
   have hn1:=M.n1
   have hn4:=M.n4
   have hs2:=M.s2
   have hs4:=M.s4
   refine⟨_,_,SqL.of hp2,atI_toNat (by omega) (by rw [List.getElem?_map,hra]; rfl),?_⟩
   refine⟨m,hMa.stay P2.stay,hn4,fun q3 rs3 H3 S3 n3 M3 R3=>?_⟩
   have P3:=P2.sub S3
   have nq3:H q3 = none:=P2.free n3
   obtain⟨n3',e3⟩:=P3.has
   walk_at "w"
   rw [if_neg (show ¬ (false = true) by decide)]
   by_cases c1:d1 = 1
   ·refine ifB.yes (decide_eq_true c1) ?_
    refine⟨_,.inl (SqL.of M3.1),?_⟩
    rw [List.length_map,M3.2.2.1]
    walk_at "w"
    refine⟨small_log (by omega) (by omega),_,_,e3,fun d4 n4 d40 d41=>?_⟩
    have P4:=P3.draw n4
    have Q4:=Pu.of_draw n4 e3
    generalize hg4:upd _ pp _ = H4 at P4 Q4 ⊢
    have e4:H4 pp = some (.lst [.int n4,.int k]):=by rw [← hg4]; exact upd_same
    clear hg4
    walk_at "w"
    have M4:=M3.stay Q4.stay
    obtain⟨r0,hr0⟩:∃ r0,rs3[0]? = some r0:=⟨_,List.getElem?_eq_getElem (by rw [M3.2.2.1]; omega)⟩
    obtain⟨es0,hes0,as0,hr0a,hA0⟩:=M4.2.2.at hr0
    have hsg:es0.length = sgn m:=M.len es0 (List.mem_of_getElem? hes0)
    refine⟨_,_,SqL.of M4.1,atI_nat (j:=0) (by rw [List.getElem?_map,hr0]; rfl),?_⟩
    refine⟨_,.inl (SqL.of hr0a),?_⟩
    rw [List.length_map,hA0.1,hsg]
    walk_at "w"
    refine⟨small_log (by omega) (by omega),_,_,e4,fun d5 n5 d50 d51=>?_⟩
    have P5:=P4.draw n5
    have Q5:=Pu.of_draw n5 e4
    generalize hg5:upd _ pp _ = H5 at P5 Q5 ⊢
    have e5:H5 pp = some (.lst [.int n5,.int k]):=by rw [← hg5]; exact upd_same
    clear hg5
    walk_at "w"
    have M5:=M4.stay Q5.stay
    refine⟨Nat.zero_le _,?_⟩
    intro p6 n6
    generalize hU6:upd _ p6 _ = H6
    have S6:=(upd_sub n6 hU6).1
    have e6:=(upd_sub n6 hU6).2
    clear hU6
    refine⟨by show 3≤sizeLine; decide,?_⟩
    intro p7 n7
    generalize hU7:upd _ p7 _ = H7
    have S7:=(upd_sub n7 hU7).1
    have e7:=(upd_sub n7 hU7).2
    clear hU7
    refine⟨by show 3≤sizeLine; decide,?_⟩
    intro p8 n8
    generalize hU8:upd _ p8 _ = H8
    have S8:=(upd_sub n8 hU8).1
    have e8:=(upd_sub n8 hU8).2
    clear hU8
    refine⟨by show 3≤sizeLine; decide,?_⟩
    intro p9 n9
    generalize hU9:upd _ p9 _ = H9
    have S9:=(upd_sub n9 hU9).1
    have e9:=(upd_sub n9 hU9).2
    clear hU9
    have f9:=e9
    have S59:=((S6.trans S7).trans S8).trans S9
    have P9:=P5.sub S59
    have e9:=S59 _ _ e5
    walk_at "w"
    refine⟨by decide,_,_,e9,fun d10 n10 d100 d101=>?_⟩
    have P10:=P9.draw n10
    have Q10:=Pu.of_draw n10 e9
    generalize hg10:upd _ pp _ = H10 at P10 Q10 ⊢
    have e10:H10 pp = some (.lst [.int n10,.int k]):=by rw [← hg10]; exact upd_same
    clear hg10
    walk_at "w"
    have hq9:p9≠pp:=by rintro rfl; rw [((S6.trans S7).trans S8) _ _ e5] at n9; cases n9
    have S910:∀ {a:Addr} {e:En},Ent H9 a e→Ent H10 a e:=fun {a e} z=>Q10.keep _ _ (by rintro rfl; unfold Ent at z; rw [e9] at z; cases z) z
    obtain⟨pe,ee,hat,hEe,hok⟩:∃ pe ee,atI [V.ref p6,V.ref p7,V.ref p8] d10 = some (.ref pe)∧Ent H10 pe ee∧entryOk m.length (sgn m) ee = true:=by
     have:d10 = 0∨d10 = 1∨d10 = 2:=by omega
     rcases this with rfl | rfl | rfl
     ·exact⟨p6,[],rfl,S910 (((S7.trans S8).trans S9) _ _ e6),rfl⟩
     ·refine⟨p7,[0,1,0],rfl,S910 ((S8.trans S9) _ _ e7),?_⟩
      show ((decide ((0:Int)≤0) && decide ((0:Int) < (sgn m:Int))) && (decide ((1:Int) = -1) || decide ((1:Int) = 1)) && (decide ((0:Int)≤0) && decide ((0:Int) < (m.length:Int)))) = true
      simp only [Bool.and_eq_true,Bool.or_eq_true,decide_eq_true_eq]
      exact⟨⟨⟨by decide,by omega⟩,.inr trivial⟩,by decide,by omega⟩
     ·refine⟨p8,[1,-1,d4],rfl,S910 (S9 _ _ e8),?_⟩
      show ((decide ((0:Int)≤1) && decide ((1:Int) < (sgn m:Int))) && (decide ((-1:Int) = -1) || decide ((-1:Int) = 1)) && (decide ((0:Int)≤d4) && decide (d4 < (m.length:Int)))) = true
      simp only [Bool.and_eq_true,Bool.or_eq_true,decide_eq_true_eq]
      exact⟨⟨⟨by decide,by omega⟩,.inl trivial⟩,by omega,by omega⟩
    refine⟨_,_,SqL.of (Q10.keep _ _ hq9 f9),hat,?_⟩
    have M10:=(M5.stay (.sub S59)).stay Q10.stay
    obtain⟨r4,hr4⟩:∃ r4,rs3[d4.toNat]? = some r4:=⟨_,List.getElem?_eq_getElem (by rw [M3.2.2.1]; omega)⟩
    obtain⟨es4,hes4,as4,hr4a,hA4⟩:=M10.2.2.at hr4
    have hsg4:es4.length = sgn m:=M.len es4 (List.mem_of_getElem? hes4)
    refine⟨_,_,SqL.of M10.1,atI_toNat (by omega) (by rw [List.getElem?_map,hr4]; rfl),?_⟩
    refine⟨_,d5.toNat,hr4a,ixN_toNat (by omega) (by rw [List.length_map,hA4.1,hsg4]; exact d51),?_⟩
    have M11:=M10.rowSet (j:=d5.toNat) hr4 ⟨hr4a,hA4⟩ hEe
    have P11:=P10.set (o:=.lst ((as4.map V.ref).set d5.toNat (V.ref pe))) (P2.free (R3 r4 (List.mem_of_getElem? hr4)))
    have hT':=put_okE (j:=d5.toNat) hMm hes4 hok
    generalize upd H10 r4 (.lst ((as4.map V.ref).set d5.toNat (V.ref pe))) = H11 at M11 P11 ⊢
    obtain⟨n11',e11⟩:=P11.has
    refine⟨_,n11',k,⟨rs3,M11⟩,hT',e11,fun q12 T H12 P12' n12 hT hTM=>?_⟩
    exact h q12 T H12 (P11.trans P12') (P11.free n12) hT hTM
   refine ifB.no (decide_eq_false c1) ?_
   refine⟨m,n3',k,⟨rs3,M3⟩,hMm,e3,fun q4 T H4 P4' n4 hT hTM=>?_⟩
   exact h q4 T H4 (P3.trans P4') (P3.free n4) hT hTM
  ·exact h.elim
theorem sc_law:FnScope ["_law_script","_law_purse_here","_law_machines","_law_k","_law_keys","_law_handed","_law_due","_law_turn","_law_found","_law_places","_law_one","_law_other","_law_told"] ["_law_script"] (defScope s_law):=⟨rfl,rfl,rfl,by decide +kernel,rfl,by decide +kernel,by decide +kernel⟩
theorem ref_at {as bs:List Addr} (e:as.map V.ref = bs.map V.ref):as = bs:=by
 refine List.ext_getElem? fun i=>?_
 have h:=congrArg (fun l=>l[i]?) e
 simp only [List.getElem?_map] at h
 cases x:as[i]? with
 | none=>rw [x] at h; cases y:bs[i]? with
  | none=>rfl
  | some b=>rw [y] at h; cases h
 | some a=>rw [x] at h; cases y:bs[i]? with
  | none=>rw [y] at h; cases h
  | some b=>rw [y] at h; cases h; rfl
theorem row_mach {H:Hp} {r:Addr} {es:List En} {m:Ma} (hes:1≤es.length) (h:Row H r es) (h':Mach H r m):False:=by
 obtain⟨bs,h1,h2⟩:=h
 obtain⟨rs,g1,_,g2⟩:=h'
 rw [h1] at g1
 have e:bs = rs:=ref_at (HO.lst.inj (Option.some.inj g1))
 obtain⟨b,hb⟩:∃ b,bs[0]? = some b:=⟨_,List.getElem?_eq_getElem (by rw [h2.1]; omega)⟩
 obtain⟨x,_,hx⟩:=h2.at hb
 rw [e] at hb
 obtain⟨y,_,as,hy,_⟩:=g2.at hb
 unfold Ent at hx
 rw [hy] at hx
 cases hx
theorem ma_put {H:Hp} {pm c:Addr} {as:List Addr} {ms:List Ma} {m:Ma} {us:List V} (hp:H pm = some (.lst (as.map V.ref))) (hA:All2 (Mach H) as ms) (h:Mach H c m) (hm:isM m = true):Mach (upd H pm (.lst us)) c m:=by
 have M:=OkM.of hm
 have hn1:=M.n1
 have hs2:=M.s2
 obtain⟨rs,hr⟩:=h
 refine⟨rs,hr.other hp ?_ fun hin=>?_⟩
 ·rintro rfl
  have e:as = rs:=ref_at (HO.lst.inj (Option.some.inj (hp.symm.trans hr.1)))
  obtain⟨r,hr0⟩:∃ r,rs[0]? = some r:=⟨_,List.getElem?_eq_getElem (by rw [hr.2.2.1]; omega)⟩
  obtain⟨es,he,hR⟩:=hr.2.2.at hr0
  rw [← e] at hr0
  obtain⟨m',_,hM'⟩:=hA.at hr0
  exact row_mach (by rw [M.len es (List.mem_of_getElem? he)]; omega) hR hM'
 ·obtain⟨i,hi⟩:=List.getElem?_of_mem hin
  obtain⟨es,he,bs,h1,h2⟩:=hr.2.2.at hi
  have hl:=M.len es (List.mem_of_getElem? he)
  have e:as = bs:=ref_at (HO.lst.inj (Option.some.inj (hp.symm.trans h1)))
  obtain⟨b,hb⟩:∃ b,bs[0]? = some b:=⟨_,List.getElem?_eq_getElem (by rw [h2.1]; omega)⟩
  obtain⟨x,_,hx⟩:=h2.at hb
  rw [← e] at hb
  obtain⟨m',_,rs',g1,_⟩:=hA.at hb
  unfold Ent at hx
  rw [g1] at hx
  cases hx
def KyA (H0 H:Hp) (pt a:Addr) (m:Ma):Prop:=∃ (f:Addr) (L:Ma),H a = some (.tup [.int (m.length:Int),.int (sgn m:Int),.ref f])∧MaN H0 H pt f L∧Lst m L
theorem KyA.stay {H0 H H':Hp} {pt a:Addr} {m:Ma} (S:Sub H H'):KyA H0 H pt a m→KyA H0 H' pt a m:=fun ⟨f,L,h1,h2,h3⟩=>⟨f,L,S _ _ h1,h2.stay S,h3⟩
theorem KyA.put {H0 H:Hp} {pt a:Addr} {m:Ma} {vs us:List V} (hl:H pt = some (.lst vs)):KyA H0 H pt a m→KyA H0 (upd H pt (.lst us)) pt a m:=fun ⟨f,L,h1,h2,h3⟩=>⟨f,L,by rw [upd_ne (by rintro rfl; rw [hl] at h1; cases h1)]; exact h1,h2.put hl,h3⟩
theorem at2_lt {m:Ma} {r s:Nat} {e:En} (hM:isM m = true) (h:at2 m r s = some e):r < m.length∧s < sgn m:=by
 have M:=OkM.of hM
 unfold at2 at h
 cases q:m[r]? with
 | none=>rw [q] at h; cases h
 | some es =>
  rw [q] at h
  refine⟨(List.getElem?_eq_some_iff.1 q).1,?_⟩
  rw [← M.len es (List.mem_of_getElem? q)]
  exact (List.getElem?_eq_some_iff.1 (show es[s]? = some e from h)).1
theorem nmE_ok {k l:Nat} {ρ τ:List Int} {t:Int} {e:En} (pR:PermL k ρ) (pS:PermL l τ) (ht:t = 1∨t = -1) (h:entryOk k l e = true):entryOk k l (nmE ρ τ t e) = true:=by
 by_cases c:e = []
 ·subst c; rfl
 ·obtain⟨s,w,r,rfl,a0,a1,a2,a3,a4⟩:=entryOk_three h c
  have b:=pS.pt (r:=s.toNat) (by omega)
  have d:=pR.pt (r:=r.toNat) (by omega)
  have b1:=pS.2.1 _ (List.mem_of_getElem? b.2.2)
  have d1:=pR.2.1 _ (List.mem_of_getElem? d.2.2)
  show ((decide (0≤τ.getD s.toNat 0) && decide (τ.getD s.toNat 0 < (l:Int))) && (decide (w * t = -1) || decide (w * t = 1)) && (decide (0≤ρ.getD r.toNat 0) && decide (ρ.getD r.toNat 0 < (k:Int)))) = true
  have hw:w * t = -1∨w * t = 1:=by rcases a2 with rfl | rfl <;> rcases ht with rfl | rfl <;> decide
  simp only [Bool.and_eq_true,Bool.or_eq_true,decide_eq_true_eq]
  exact⟨⟨b1,hw⟩,d1⟩
theorem at2_some {m:Ma} (hM:isM m = true) {r s:Nat} (hr:r < m.length) (hs:s < sgn m):∃ e,at2 m r s = some e∧entryOk m.length (sgn m) e = true:=by
 have M:=OkM.of hM
 have e1:m[r]? = some m[r]:=List.getElem?_eq_getElem hr
 have hl:=M.len m[r] (List.getElem_mem hr)
 refine⟨m[r][s]'(by omega),by unfold at2; rw [e1]; exact List.getElem?_eq_getElem (by omega),M.ent _ (List.getElem_mem hr) _ (List.getElem_mem _)⟩
theorem nmd_ok {m T:Ma} {ρ τ:List Int} {t:Int} (hM:isM m = true) (pR:PermL m.length ρ) (pS:PermL (sgn m) τ) (ht:t = 1∨t = -1) (h:Nmd m ρ τ t T):isM T = true∧sgn T = sgn m:=by
 have M:=OkM.of hM
 have hs:sgn T = sgn m:=by
  have h1:=h.1
  have:=M.n1
  cases hT:T with
  | nil=>rw [hT] at h1; simp at h1; omega
  | cons r0 l=>exact h.2.1 r0 (by rw [hT]; simp)
 refine⟨OkM.isM ⟨by rw [h.1]; exact M.n1,by rw [h.1]; exact M.n4,by rw [hs]; exact M.s2,by rw [hs]; exact M.s4,fun r hr=>by rw [hs]; exact h.2.1 r hr,fun row hrow e he=>?_⟩,hs⟩
 obtain⟨a,ha⟩:=List.getElem?_of_mem hrow
 obtain⟨b,hb⟩:=List.getElem?_of_mem he
 have hal:a < m.length:=by rw [← h.1]; exact (List.getElem?_eq_some_iff.1 ha).1
 have hbl:b < sgn m:=by rw [← h.2.1 row hrow]; exact (List.getElem?_eq_some_iff.1 hb).1
 obtain⟨r,hr,rfl⟩:=pR.sur hal
 obtain⟨s,hs',rfl⟩:=pS.sur hbl
 obtain⟨e0,h0,hok⟩:=at2_some hM hr hs'
 have:=h.2.2 r s e0 h0
 unfold at2 at this
 rw [ha] at this
 have this:row[ix τ s]? = some _:=this
 rw [hb] at this
 rw [Option.some.inj this,hs,h.1]
 exact nmE_ok pR pS ht hok
theorem NmS.ok {m T:Ma} (hM:isM m = true) (h:NmS m T):isM T = true∧sgn T = sgn m∧T.length = m.length:=by
 have M:=OkM.of hM
 have:=M.s2
 obtain⟨ρ,τ,t,a1,a2,a3,a4⟩:=h
 obtain⟨b1,b2⟩:=nmd_ok hM (nms_ok M.n1 M.n4 ρ a1) (nms_ok (by omega) M.s4 τ a2) a3 a4
 exact⟨b1,b2,a4.1⟩
theorem Lst.size {m L:Ma} (hM:isM m = true) (h:Lst m L):L.length = m.length∧sgn L = sgn m:=⟨(h.1.ok hM).2.2,(h.1.ok hM).2.1⟩
def dKy (m L:Ma):DD:=.tup [.int (m.length:Int),.int (sgn m:Int),dM L]
theorem dKy_eq {m m' L L':Ma} (hM:isM m = true) (hM':isM m' = true) (h:Lst m L) (h':Lst m' L'):eqD (dKy m L) (dKy m' L') = decide (L = L'):=by
 unfold dKy
 rw [eqD,eqDs,eqDs,eqDs,eqDs,eqD,eqD,kM_dM]
 obtain⟨a1,a2⟩:=h.size hM
 obtain⟨b1,b2⟩:=h'.size hM'
 by_cases c:L = L'
 ·subst c
  rw [← a1,← a2,← b1,← b2]; simp
 ·rw [decide_eq_false c]; simp
theorem dep_dKy {m L:Ma}:dep (dKy m L)≤4:=by
 unfold dKy
 rw [dep]
 refine Nat.succ_le_succ (depL_leK fun d hd=>?_)
 simp only [List.mem_cons,List.not_mem_nil,or_false] at hd
 rcases hd with rfl | rfl | rfl
 ·simp [dep]
 ·simp [dep]
 ·exact dep_dM3
theorem lst_all:∀ (ms:List Ma),(∀ m∈ms,∃ L,Lst m L)→∃ Ls:List Ma,Ls.length = ms.length∧∀ (i:Nat) m L,ms[i]? = some m→Ls[i]? = some L→Lst m L
 | [],_=>⟨[],rfl,fun i m L h=>by cases h⟩
 | m :: ms,h=>by
  obtain⟨L,hL⟩:=h m (by simp)
  obtain⟨Ls,h1,h2⟩:=lst_all ms fun m' hm'=>h m' (by simp [hm'])
  refine⟨L :: Ls,by rw [List.length_cons,List.length_cons,h1],fun i m' L' a b=>?_⟩
  match i,a,b with
  | 0,a,b=>cases a; cases b; exact hL
  | i + 1,a,b=>exact h2 i m' L' a b
theorem lst_same {ms Ls Ls':List Ma} (h1:Ls.length = ms.length) (h2:∀ (i:Nat) m L,ms[i]? = some m→Ls[i]? = some L→Lst m L) (h1':Ls'.length = ms.length) (h2':∀ (i:Nat) m L,ms[i]? = some m→Ls'[i]? = some L→Lst m L):Ls' = Ls:=by
 refine List.ext_getElem? fun i=>?_
 by_cases c:i < ms.length
 ·have e1:Ls[i]? = some (Ls[i]'(by omega)):=List.getElem?_eq_getElem _
  have e2:Ls'[i]? = some (Ls'[i]'(by omega)):=List.getElem?_eq_getElem _
  have em:ms[i]? = some ms[i]:=List.getElem?_eq_getElem c
  rw [e1,e2,lst_one (h2' i _ _ em e2) (h2 i _ _ em e1)]
 ·rw [List.getElem?_eq_none (by omega),List.getElem?_eq_none (by omega)]
theorem ky_den {H0 H:Hp} {pt:Addr} {ks:List Addr} {ms Ls:List Ma} (hA:All2 (KyA H0 H pt) ks ms) (h1:Ls.length = ms.length) (h2:∀ (i:Nat) m L,ms[i]? = some m→Ls[i]? = some L→Lst m L) {i:Nat} {a:Addr} (ha:ks[i]? = some a):∃ m L,ms[i]? = some m∧Ls[i]? = some L∧Lst m L∧Den H (.ref a) (dKy m L):=by
 obtain⟨m,hm,f,L,x1,⟨rs,x2,_⟩,x3⟩:=hA.at ha
 have hil:=(List.getElem?_eq_some_iff.1 hm).1
 have hL:Ls[i]? = some (Ls[i]'(by omega)):=List.getElem?_eq_getElem _
 have e:=lst_one (h2 i _ _ hm hL) x3
 refine⟨m,L,hm,by rw [hL,e],x3,?_⟩
 unfold dKy
 rw [Den]
 refine⟨_,_,rfl,x1,?_⟩
 rw [Dens]
 refine⟨_,_,rfl,by rw [Den],?_⟩
 rw [Dens]
 refine⟨_,_,rfl,by rw [Den],?_⟩
 rw [Dens]
 exact⟨_,_,rfl,Mach.den ⟨rs,x2⟩,by rw [Dens]⟩
theorem cut_toR (o:List Addr) {k:Nat} (h:k≤o.length):cutV (o.map V.ref) none (some (k:Int)) = (o.take k).map V.ref:=by
 unfold cutV
 rw [HT.sIx_nat,HT.sIx_none,List.length_map,List.drop_zero,Nat.sub_zero,Nat.min_eq_left h,List.map_take]
def kds (ms Ls:List Ma) (i:Nat):List DD:=(List.range i).map fun j=>dKy (ms.getD j []) (Ls.getD j [])
theorem kds_den {H0 H:Hp} {pt:Addr} {ks:List Addr} {ms Ls:List Ma} (hA:All2 (KyA H0 H pt) ks ms) (h1:Ls.length = ms.length) (h2:∀ (i:Nat) m L,ms[i]? = some m→Ls[i]? = some L→Lst m L) {i:Nat} (hi:i≤ms.length):DnL H (ks.take i) (kds ms Ls i):=by
 refine⟨by unfold kds; rw [List.length_take,List.length_map,List.length_range,hA.1]; omega,fun j a e ha he=>?_⟩
 have hj:j < i:=by
  have:=(List.getElem?_eq_some_iff.1 he).1
  unfold kds at this
  rwa [List.length_map,List.length_range] at this
 rw [List.getElem?_take_of_lt hj] at ha
 obtain⟨m,L,x1,x2,_,x4⟩:=ky_den hA h1 h2 ha
 unfold kds at he
 rw [List.getElem?_map,List.getElem?_range hj] at he
 cases he
 show Den H (.ref a) (dKy (ms.getD j []) (Ls.getD j []))
 rw [List.getD_eq_getElem?_getD,List.getD_eq_getElem?_getD,x1,x2]
 exact x4
theorem kds_any {ms Ls:List Ma} (hM:∀ m∈ms,isM m = true) (h1:Ls.length = ms.length) (h2:∀ (i:Nat) m L,ms[i]? = some m→Ls[i]? = some L→Lst m L) {i:Nat} (hi:i≤ms.length) {m L:Ma} (hm:isM m = true) (hL:Lst m L):((kds ms Ls i).any fun e=>eqD e (dKy m L)) = decide (L∈fsts (Ls.take i)):=by
 have key:∀ j,j < i→∃ m' L',ms[j]? = some m'∧Ls[j]? = some L'∧eqD (dKy (ms.getD j []) (Ls.getD j [])) (dKy m L) = decide (L' = L):=fun j hj=>by
  have e1:ms[j]? = some (ms[j]'(by omega)):=List.getElem?_eq_getElem _
  have e2:Ls[j]? = some (Ls[j]'(by omega)):=List.getElem?_eq_getElem _
  refine⟨_,_,e1,e2,?_⟩
  rw [List.getD_eq_getElem?_getD,List.getD_eq_getElem?_getD,e1,e2]
  exact dKy_eq (hM _ (List.mem_of_getElem? e1)) hm (h2 j _ _ e1 e2) hL
 rw [Bool.eq_iff_iff,List.any_eq_true,decide_eq_true_eq,(fsts_nodup (Ls.take i)).2.1]
 constructor
 ·rintro ⟨e,he,h⟩
  obtain⟨j,hj,rfl⟩:=List.mem_map.1 he
  obtain⟨m',L',a,b,c⟩:=key j (List.mem_range.1 hj)
  rw [c] at h
  rw [← of_decide_eq_true h]
  exact List.mem_of_getElem? (i:=j) (by rw [List.getElem?_take_of_lt (List.mem_range.1 hj)]; exact b)
 ·intro h
  obtain⟨j,hj⟩:=List.getElem?_of_mem h
  have hji:j < i:=by
   have:=(List.getElem?_eq_some_iff.1 hj).1
   rw [List.length_take] at this
   omega
  rw [List.getElem?_take_of_lt hji] at hj
  obtain⟨m',L',a,b,c⟩:=key j hji
  rw [hj] at b
  cases b
  exact⟨_,List.mem_map.2 ⟨j,List.mem_range.2 hji,rfl⟩,by rw [c,decide_eq_true rfl]⟩
theorem kds_dep {ms Ls:List Ma} {i:Nat}:∀ e∈kds ms Ls i,dep e≤50:=fun e he=>by
 obtain⟨j,_,rfl⟩:=List.mem_map.1 he
 exact Nat.le_trans dep_dKy (by decide)
def dLL (xs:List (List Int)):DD:=.lst (xs.map fun l=>.lst (l.map DD.int))
theorem den_LL {H:Hp} {q:Addr} {gs:List Addr} {xs:List (List Int)} (h:H q = some (.lst (gs.map V.ref))) (hA:All2 (LI H) gs xs):Den H (.ref q) (dLL xs):=by
 unfold dLL
 rw [Den]
 exact⟨_,_,rfl,h,dens_of (fun _ _ z=>den_ints z) hA⟩
theorem dep_LL {xs:List (List Int)}:dep (dLL xs)≤60:=by
 unfold dLL
 rw [dep]
 have:depL (xs.map fun l=>DD.lst (l.map DD.int))≤1:=depL_leK fun d hd=>by
  obtain⟨l,_,rfl⟩:=List.mem_map.1 hd
  rw [dep]
  exact Nat.succ_le_succ (depL_leK (k:=0) fun d hd=>by obtain⟨i,_,rfl⟩:=List.mem_map.1 hd; simp [dep])
 omega
theorem den_Ms {H:Hp} {q:Addr} {as:List Addr} {ms:List Ma} (h:H q = some (.lst (as.map V.ref))) (hA:All2 (Mach H) as ms):Den H (.ref q) (.lst (ms.map dM)):=by
 rw [Den]
 exact⟨_,_,rfl,h,dens_of (fun _ _ z=>z.den) hA⟩
theorem dep_Ms {ms:List Ma}:dep (.lst (ms.map dM))≤60:=by
 rw [dep]
 have:depL (ms.map dM)≤3:=depL_leK fun d hd=>by
  obtain⟨m,_,rfl⟩:=List.mem_map.1 hd
  exact dep_dM3
 omega
theorem pl_LL {H:Hp} {q:Addr} {gs:List Addr} {xs:List (List Int)} (h:H q = some (.lst (gs.map V.ref))) (hA:All2 (LI H) gs xs):Pln H 3 (.ref q) :=
 .inr ⟨q,_,rfl,.inr h,fun x hx=>by
  obtain⟨g,hg,rfl⟩:=List.mem_map.1 hx
  obtain⟨i,hi⟩:=List.getElem?_of_mem hg
  obtain⟨l,_,hl⟩:=hA.at hi
  exact .inr ⟨g,_,rfl,.inr hl,fun y hy=>by
   obtain⟨n,_,rfl⟩:=List.mem_map.1 hy
   exact .inl (.inr (.inr ⟨n,rfl⟩))⟩⟩
def apl (G:List (List Int)) (i:Nat):List (List Int):=G.mapIdx fun j l=>if j < i then l ++ [100 + ((j:Nat):Int)] else l
theorem apl_zero (G:List (List Int)):apl G 0 = G:=by
 refine List.ext_getElem? fun j=>?_
 unfold apl
 rw [List.getElem?_mapIdx]
 cases G[j]? <;> simp
theorem apl_at {G:List (List Int)} {i j:Nat} {l:List Int} (h:G[j]? = some l):(apl G i)[j]? = some (if j < i then l ++ [100 + ((j:Nat):Int)] else l):=by
 unfold apl
 rw [List.getElem?_mapIdx,h]; rfl
theorem apl_succ {G:List (List Int)} {i:Nat} {l:List Int} (h:G[i]? = some l):(apl G i).set i (l ++ [100 + ((i:Nat):Int)]) = apl G (i + 1):=by
 refine List.ext_getElem? fun j=>?_
 have hl:i < (apl G i).length:=by unfold apl; rw [List.length_mapIdx]; exact (List.getElem?_eq_some_iff.1 h).1
 by_cases c:i = j
 ·subst c
  rw [List.getElem?_set_self hl,apl_at h,if_pos (Nat.lt_succ_self _)]
 ·rw [List.getElem?_set_ne c]
  unfold apl
  rw [List.getElem?_mapIdx,List.getElem?_mapIdx]
  cases G[j]? with
  | none=>rfl
  | some x =>
   show some (if j < i then x ++ [100 + ((j:Nat):Int)] else x) = some (if j < i + 1 then x ++ [100 + ((j:Nat):Int)] else x)
   by_cases d:j < i
   ·rw [if_pos d,if_pos (by omega)]
   ·rw [if_neg d,if_neg (by omega)]
def sp_law (K:PySem.W.Frag):Sp:=fun vs H Q _=>match vs with
 | [.ref b]=>∃ ns:List Int,SqL K H b (ns.map V.int)∧ns.length≤63∧∀ H',Q (.bl true) H'
 | _=>False
theorem ok_law (T:Tx K mg a):FnOk P w K mg base CX0 8 a.law a.law_d ["_law_script"] (sp_law K):=by
 have G_l_purse:=ok_l_purse (P:=P) (w:=w) (base:=base) T
 have G_l_draw:=ok_l_draw (P:=P) (w:=w) (base:=base) T
 have G_l_next:=ok_l_next (P:=P) (w:=w) (base:=base) T
 have G_l_copy:=ok_l_copy (P:=P) (w:=w) (base:=base) T
 have G_l_plainly:=ok_l_plainly_3 (P:=P) (w:=w) (base:=base) T
 have G_groups:=ok_groups (P:=P) (w:=w) (base:=base) T
 have G_are_alike:=ok_are_alike (P:=P) (w:=w) (base:=base) T
 have G_least_form:=(ok_least_form (P:=P) (w:=w) (base:=base) T).noE
 refine T.f_law.ok sc_law (fun vs H Q E h=>?_) (fun cdv A outer s H vs Q E hr h=>?_)
 ·unfold sp_law at h
  split at h
  ·rfl
  ·exact h.elim
 ·unfold sp_law at h
  split at h
  ·have nd:=sc_law.nd
   have hu:=hu_of hr
   rename_i b
   obtain⟨ns,hb,hl,h⟩:=h
   refine⟨_,(@pss_cons _ _ _ _ _ (@ps_set _ _ 1 _ _ _ _ nd rfl (by walk_at "o") (@pe_call _ _ _ _ _ _ _ _ _ _ _ _ _ _ _ _ G_l_purse (hr.mono (by decide)) rfl T.g_l_purse T.f_l_purse.kp T.b_l_purse .nil pass0 (@pa_cons _ _ _ _ _ (qv 0) pa_nil (by rfl)) (by decide) (by rfl) (by rfl)) (by rfl) (by first | exact .inl rfl | exact .inr rfl | assumption)) (@pss_cons _ _ _ _ _ (@ps_set _ _ 2 _ _ _ _ nd rfl (by walk_at "o") (@pe_lst _ _ _ _ pa_nil) (by rfl) (by first | exact .inl rfl | exact .inr rfl | assumption)) (@pss_cons _ _ _ _ _ (@ps_for _ _ _ _ _ _ _ _ PassesOwn.never rfl (@qi_range1 _ _ _ _ _ _ rfl T.z_range (@pa_cons _ _ _ _ _ (@pe_op _ _ _ _ _ _ _ _ q_add pe_int (@pe_call _ _ _ _ _ _ _ _ _ _ _ _ _ _ _ _ G_l_draw (hr.mono (by decide)) rfl T.g_l_draw T.f_l_draw.kp T.b_l_draw .nil pass0 (@pa_cons _ _ _ _ _ (qv 1) (@pa_cons _ _ _ _ _ (@pe_ix _ _ _ _ _ _ _ (@q_ixLK _ K rfl) (@pe_lst _ _ _ _ (@pa_cons _ _ _ _ _ pe_int (@pa_cons _ _ _ _ _ pe_int (@pa_cons _ _ _ _ _ pe_int (@pa_cons _ _ _ _ _ pe_int pa_nil (by rfl)) (by rfl)) (by rfl)) (by rfl))) (@pe_call _ _ _ _ _ _ _ _ _ _ _ _ _ _ _ _ G_l_draw (hr.mono (by decide)) rfl T.g_l_draw T.f_l_draw.kp T.b_l_draw .nil pass0 (@pa_cons _ _ _ _ _ (qv 1) (@pa_cons _ _ _ _ _ pe_int pa_nil (by rfl)) (by rfl)) (by decide) (by rfl) (by rfl)) (fun _ _=>rfl)) pa_nil (by rfl)) (by rfl)) (by decide) (by rfl) (by rfl))) pa_nil (by rfl)) (by rfl)) (@pg_name _ _ 3 _ nd rfl (by walk_at "o") (by first | exact .inl rfl | exact .inr rfl | assumption)) (@pss_one _ _ _ (@ps_expr _ _ _ _ (@pe_bm _ _ _ _ _ _ _ _ _ _ _ _ PySem.F.plainAttrs_list PySem.F.slot_list_append PySem.F.type_list_append q_app (qv 2) (@pa_cons _ _ _ _ _ (@pe_call _ _ _ _ _ _ _ _ _ _ _ _ _ _ _ _ G_l_next (hr.mono (by decide)) rfl T.g_l_next T.f_l_next.kp T.b_l_next .nil pass0 (@pa_cons _ _ _ _ _ (qv 1) (@pa_cons _ _ _ _ _ (qv 2) pa_nil (by rfl)) (by rfl)) (by decide) (by rfl) (by rfl)) pa_nil (by rfl)) (by rfl) (by rfl) (by rfl) (by rfl) (by rfl)) (by rfl))) (by intro _ ; rfl)) (@pss_cons _ _ _ _ _ (@ps_set _ _ 4 _ _ _ _ nd rfl (by walk_at "o") (@pe_lc _ _ ["_law_machine_here"] [] _ _ _ _ _ _ _ _ _ rfl (by walk_at "comp_ok") (@qi_listK _ K _ _ _ rfl (qv 2)) (fun _ _ _ _=>(@pg_name _ _ 0 _ (show List.Nodup (α:=Str) ["_law_machine_here"] from by decide +kernel) rfl (by walk_at "o") (by first | exact .inl rfl | exact .inr rfl | assumption))) (fun _ _ _ _=>pts_nil) (fun _ _ _ _=>(@pe_tup _ _ _ _ _ (@pa_cons _ _ _ _ _ (@pe_callB _ _ _ _ _ _ _ _ _ (@q_lenK _ K rfl) rfl T.z_len bt_len (@pa_cons _ _ _ _ _ (qv 0) pa_nil (by rfl)) (by decide) (by decide) (by rfl) (by rfl)) (@pa_cons _ _ _ _ _ (@pe_callB _ _ _ _ _ _ _ _ _ (@q_lenK _ K rfl) rfl T.z_len bt_len (@pa_cons _ _ _ _ _ (@pe_ix _ _ _ _ _ _ _ (@q_ixLK _ K rfl) (qv 0) pe_int (fun _ _=>rfl)) pa_nil (by rfl)) (by decide) (by decide) (by rfl) (by rfl)) (@pa_cons _ _ _ _ _ (@pe_call _ _ _ _ _ _ _ _ _ _ _ _ _ _ _ _ G_least_form (hr.mono (by decide)) rfl T.g_least_form T.f_least_form.kp T.b_least_form .nil pass0 (@pa_cons _ _ _ _ _ (qv 0) pa_nil (by rfl)) (by decide) (by rfl) (by rfl)) pa_nil (by rfl)) (by rfl)) (by rfl)))) (by intro _ ; rfl)) (by rfl) (by first | exact .inl rfl | exact .inr rfl | assumption)) (@pss_cons _ _ _ _ _ (@ps_lc _ _ ["_law_machine_here"] [] _ _ _ _ _ _ _ _ _ 5 _ _ _ rfl nd rfl (by walk_at "o") (by walk_at "comp_ok") (@qi_listK _ K _ _ _ rfl (qv 2)) (fun _ _ _ _=>(@pg_name _ _ 0 _ (show List.Nodup (α:=Str) ["_law_machine_here"] from by decide +kernel) rfl (by walk_at "o") (by first | exact .inl rfl | exact .inr rfl | assumption))) (fun _ _ _ _=>pts_nil) (fun _ _ _ _=>(@pe_call _ _ _ _ _ _ _ _ _ _ _ _ _ _ _ _ G_l_copy (hr.mono (by decide)) rfl T.g_l_copy T.f_l_copy.kp T.b_l_copy .nil pass0 (@pa_cons _ _ _ _ _ (qv 0) pa_nil (by rfl)) (by decide) (by rfl) (by rfl))) (by rfl) (by first | exact .inl rfl | exact .inr rfl | assumption) (by intro _ ; rfl)) (@pss_cons _ _ _ _ _ (@ps_set _ _ 6 _ _ _ _ nd rfl (by walk_at "o") (@pe_lst _ _ _ _ pa_nil) (by rfl) (by first | exact .inl rfl | exact .inr rfl | assumption)) (@pss_cons _ _ _ _ _ (@ps_for _ _ _ _ _ _ _ _ PassesOwn.never rfl (@qi_range1 _ _ _ _ _ _ rfl T.z_range (@pa_cons _ _ _ _ _ (@pe_callB _ _ _ _ _ _ _ _ _ (@q_lenK _ K rfl) rfl T.z_len bt_len (@pa_cons _ _ _ _ _ (qv 4) pa_nil (by rfl)) (by decide) (by decide) (by rfl) (by rfl)) pa_nil (by rfl)) (by rfl)) (@pg_name _ _ 3 _ nd rfl (by walk_at "o") (by first | exact .inl rfl | exact .inr rfl | assumption)) (@pss_one _ _ _ (@ps_c _ _ _ _ _ _ _ _ (@pt_c _ _ _ _ _ _ _ _ (op_notInL hr) (@pe_ix _ _ _ _ _ _ _ (@q_ixLK _ K rfl) (qv 4) (qv 3) (fun _ _=>rfl)) (@pe_slice _ _ _ _ _ _ _ _ _ _ (@q_slLK _ K rfl) (qv 4) po_none (@qo_some _ _ _ (qv 3))) (by first | exact nomark _ | rfl)) (@pss_one _ _ _ (@ps_expr _ _ _ _ (@pe_bm _ _ _ _ _ _ _ _ _ _ _ _ PySem.F.plainAttrs_list PySem.F.slot_list_append PySem.F.type_list_append q_app (qv 6) (@pa_cons _ _ _ _ _ (@pe_lc _ _ ["_law_j"] ([4,3]) _ _ _ _ _ _ _ _ _ rfl (by walk_at "comp_ok") (@qi_range1 _ _ _ _ _ _ rfl T.z_range (@pa_cons _ _ _ _ _ (@pe_callB _ _ _ _ _ _ _ _ _ (@q_lenK _ K rfl) rfl T.z_len bt_len (@pa_cons _ _ _ _ _ (qv 4) pa_nil (by rfl)) (by decide) (by decide) (by rfl) (by rfl)) pa_nil (by rfl)) (by rfl)) (fun _ _ _ _=>(@pg_name _ _ 0 _ (show List.Nodup (α:=Str) ["_law_j","_law_keys","_law_k"] from by decide +kernel) rfl (by walk_at "o") (by first | exact .inl rfl | exact .inr rfl | assumption))) (fun _ _ _ _=>(@pts_one _ _ _ (@pt_c _ _ _ _ _ _ _ _ (@op_eqD _ _ hr) (@pe_ix _ _ _ _ _ _ _ (@q_ixLK _ K rfl) (qv 1) (qv 0) (fun _ _=>rfl)) (@pe_ix _ _ _ _ _ _ _ (@q_ixLK _ K rfl) (qv 1) (qv 2) (fun _ _=>rfl)) (by first | exact nomark _ | rfl)))) (fun _ _ _ _=>(qv 0)) (by intro _ ; rfl)) pa_nil (by rfl)) (by rfl) (by rfl) (by rfl) (by rfl) (by rfl)) (by rfl))) pss_nil)) (by intro _ ; rfl)) (@pss_cons _ _ _ _ _ (@ps_for _ _ _ _ _ _ _ _ PassesOwn.never rfl (@qi_range1 _ _ _ _ _ _ rfl T.z_range (@pa_cons _ _ _ _ _ pe_int pa_nil (by rfl)) (by rfl)) (@pg_name _ _ 7 _ nd rfl (by walk_at "o") (by first | exact .inl rfl | exact .inr rfl | assumption)) (@pss_cons _ _ _ _ _ (@ps_set _ _ 8 _ _ _ _ nd rfl (by walk_at "o") (@pe_call _ _ _ _ _ _ _ _ _ _ _ _ _ _ _ _ G_groups (hr.mono (by decide)) rfl T.g_groups T.f_groups.kp T.b_groups .nil pass0 (@pa_cons _ _ _ _ _ (qv 5) pa_nil (by rfl)) (by decide) (by rfl) (by rfl)) (by rfl) (by first | exact .inl rfl | exact .inr rfl | assumption)) (@pss_cons _ _ _ _ _ (@ps_c _ _ _ _ _ _ _ _ (PW.pt (@pw_orR _ _ _ _ _ _ _ (@pt_not _ _ _ _ (@pt_e _ _ _ (@pe_callB _ _ _ _ _ _ _ _ _ (@q_isiK _ K rfl) rfl T.z_isinstance bt_isinstance (@pa_cons _ _ _ _ _ (qv 8) (@pa_cons _ _ _ _ _ (@pe_bltn _ _ (V.ty "list") _ _ rfl T.z_list bt_list rfl (by decide) (by decide)) pa_nil (by rfl)) (by rfl)) (by decide) (by decide) (by rfl) (by rfl)) (by intro _ ; rfl))) (@pw_orR _ _ _ _ _ _ _ (@pt_not _ _ _ _ (@pt_e _ _ _ (@pe_call _ _ _ _ _ _ _ _ _ _ _ _ _ _ _ _ G_l_plainly (hr.mono (by decide)) rfl T.g_l_plainly T.f_l_plainly.kp T.b_l_plainly .nil pass0 (@pa_cons _ _ _ _ _ (qv 8) pa_nil (by rfl)) (by decide) (by rfl) (by rfl)) (by intro _ ; rfl))) (@pw_orR _ _ _ _ _ _ _ (@pt_c _ _ _ _ _ _ _ _ (@op_neD _ _ hr) (qv 8) (qv 6) (by first | exact nomark _ | rfl)) (@qw_or1 _ _ _ _ (@pt_c _ _ _ _ _ _ _ _ (@op_neD _ _ hr) (qv 5) (qv 2) (by first | exact nomark _ | rfl))))))) (@pss_one _ _ _ (@ps_ret _ _ _ _ pe_bl)) pss_nil) (@pss_cons _ _ _ _ _ (@ps_for _ _ _ _ _ _ _ _ PassesOwn.never rfl (@pi_enum _ _ _ _ _ _ _ _ rfl T.z_enumerate (@pa_cons _ _ _ _ _ (qv 8) pa_nil (by rfl)) (by rfl)) (@qg_tupK _ K _ _ _ _ 2 rfl rfl (@qgs_cons _ _ _ _ _ (@pg_name _ _ 3 _ nd rfl (by walk_at "o") (by first | exact .inl rfl | exact .inr rfl | assumption)) (@qgs_cons _ _ _ _ _ (@pg_name _ _ 9 _ nd rfl (by walk_at "o") (by first | exact .inl rfl | exact .inr rfl | assumption)) qgs_nil (by rfl)) (by rfl)) (by rfl) (by rfl)) (@pss_one _ _ _ (@ps_expr _ _ _ _ (@pe_bm _ _ _ _ _ _ _ _ _ _ _ _ PySem.F.plainAttrs_list PySem.F.slot_list_append PySem.F.type_list_append q_app (qv 9) (@pa_cons _ _ _ _ _ (@pe_op _ _ _ _ _ _ _ _ q_add pe_int (qv 3)) pa_nil (by rfl)) (by rfl) (by rfl) (by rfl) (by rfl) (by rfl)) (by rfl))) (by intro _ ; rfl)) (@pss_one _ _ _ (@ps_c _ _ _ _ _ _ _ _ (@pt_c _ _ _ _ _ _ _ _ (@op_neD _ _ hr) (qv 8) (@pe_lc _ _ ["_law_k"] [6] _ _ _ _ _ _ _ _ _ rfl (by walk_at "comp_ok") (@qi_range1 _ _ _ _ _ _ rfl T.z_range (@pa_cons _ _ _ _ _ (@pe_callB _ _ _ _ _ _ _ _ _ (@q_lenK _ K rfl) rfl T.z_len bt_len (@pa_cons _ _ _ _ _ (qv 6) pa_nil (by rfl)) (by decide) (by decide) (by rfl) (by rfl)) pa_nil (by rfl)) (by rfl)) (fun _ _ _ _=>(@pg_name _ _ 0 _ (show List.Nodup (α:=Str) ["_law_k","_law_due"] from by decide +kernel) rfl (by walk_at "o") (by first | exact .inl rfl | exact .inr rfl | assumption))) (fun _ _ _ _=>pts_nil) (fun _ _ _ _=>(@pe_op _ _ _ _ _ _ _ _ q_cat (@pe_ix _ _ _ _ _ _ _ (@q_ixLK _ K rfl) (qv 1) (qv 0) (fun _ _=>rfl)) (@pe_lst _ _ _ _ (@pa_cons _ _ _ _ _ (@pe_op _ _ _ _ _ _ _ _ q_add pe_int (qv 0)) pa_nil (by rfl))))) (by intro _ ; rfl)) (by first | exact nomark _ | rfl)) (@pss_one _ _ _ (@ps_ret _ _ _ _ pe_bl)) pss_nil))))) (by intro _ ; rfl)) (@pss_cons _ _ _ _ _ (@ps_set _ _ 10 _ _ _ _ nd rfl (by walk_at "o") (@pe_call _ _ _ _ _ _ _ _ _ _ _ _ _ _ _ _ G_l_draw (hr.mono (by decide)) rfl T.g_l_draw T.f_l_draw.kp T.b_l_draw .nil pass0 (@pa_cons _ _ _ _ _ (qv 1) (@pa_cons _ _ _ _ _ (@pe_callB _ _ _ _ _ _ _ _ _ (@q_lenK _ K rfl) rfl T.z_len bt_len (@pa_cons _ _ _ _ _ (qv 2) pa_nil (by rfl)) (by decide) (by decide) (by rfl) (by rfl)) pa_nil (by rfl)) (by rfl)) (by decide) (by rfl) (by rfl)) (by rfl) (by first | exact .inl rfl | exact .inr rfl | assumption)) (@pss_cons _ _ _ _ _ (@ps_for _ _ _ _ _ _ _ _ PassesOwn.never rfl (@qi_range1 _ _ _ _ _ _ rfl T.z_range (@pa_cons _ _ _ _ _ (@pe_callB _ _ _ _ _ _ _ _ _ (@q_lenK _ K rfl) rfl T.z_len bt_len (@pa_cons _ _ _ _ _ (qv 2) pa_nil (by rfl)) (by decide) (by decide) (by rfl) (by rfl)) pa_nil (by rfl)) (by rfl)) (@pg_name _ _ 11 _ nd rfl (by walk_at "o") (by first | exact .inl rfl | exact .inr rfl | assumption)) (@pss_cons _ _ _ _ _ (@ps_set _ _ 12 _ _ _ _ nd rfl (by walk_at "o") (@pe_call _ _ _ _ _ _ _ _ _ _ _ _ _ _ _ _ G_are_alike (hr.mono (by decide)) rfl T.g_are_alike T.f_are_alike.kp T.b_are_alike .nil pass0 (@pa_cons _ _ _ _ _ (@pe_ix _ _ _ _ _ _ _ (@q_ixLK _ K rfl) (qv 5) (qv 10) (fun _ _=>rfl)) (@pa_cons _ _ _ _ _ (@pe_ix _ _ _ _ _ _ _ (@q_ixLK _ K rfl) (qv 5) (qv 11) (fun _ _=>rfl)) pa_nil (by rfl)) (by rfl)) (by decide) (by rfl) (by rfl)) (by rfl) (by first | exact .inl rfl | exact .inr rfl | assumption)) (@pss_one _ _ _ (@ps_c _ _ _ _ _ _ _ _ (PW.pt (@pw_orR _ _ _ _ _ _ _ (@pt_not _ _ _ _ (@pt_e _ _ _ (@pe_callB _ _ _ _ _ _ _ _ _ (@q_isiK _ K rfl) rfl T.z_isinstance bt_isinstance (@pa_cons _ _ _ _ _ (qv 12) (@pa_cons _ _ _ _ _ (@pe_bltn _ _ (V.ty "bool") _ _ rfl T.z_bool bt_bool rfl (by decide) (by decide)) pa_nil (by rfl)) (by rfl)) (by decide) (by decide) (by rfl) (by rfl)) (by intro _ ; rfl))) (@pw_orR _ _ _ _ _ _ _ (@pt_c _ _ _ _ _ _ _ _ q_ne (qv 12) (@pe_cmpR _ _ _ _ _ _ _ _ (@op_eqD _ _ hr) (@pe_ix _ _ _ _ _ _ _ (@q_ixLK _ K rfl) (qv 4) (qv 10) (fun _ _=>rfl)) (@pe_ix _ _ _ _ _ _ _ (@q_ixLK _ K rfl) (qv 4) (qv 11) (fun _ _=>rfl)) (by first | exact nomark _ | rfl)) (by first | exact nomark _ | rfl)) (@qw_or1 _ _ _ _ (@pt_c _ _ _ _ _ _ _ _ (@op_neD _ _ hr) (qv 5) (qv 2) (by first | exact nomark _ | rfl)))))) (@pss_one _ _ _ (@ps_ret _ _ _ _ pe_bl)) pss_nil))) (by intro _ ; rfl)) (@pss_one _ _ _ (@ps_ret _ _ _ _ (@pe_cmpR _ _ _ _ _ _ _ _ (@op_eqD _ _ hr) (@pe_call _ _ _ _ _ _ _ _ _ _ _ _ _ _ _ _ G_groups (hr.mono (by decide)) rfl T.g_groups T.f_groups.kp T.b_groups .nil pass0 (@pa_cons _ _ _ _ _ (@pe_lst _ _ _ _ pa_nil) pa_nil (by rfl)) (by decide) (by rfl) (by rfl)) (@pe_lst _ _ _ _ pa_nil) (by first | exact nomark _ | rfl)))))))))))))),?_⟩
   refine⟨ns,hb,hl,fun pp H1 n k S1 n1 e1=>?_⟩
   have P1:Pu pp k H1 H1:=Pu.refl ⟨n,e1⟩
   refine⟨Nat.zero_le _,?_⟩
   intro p2 n2
   generalize hU2:upd _ p2 _ = H2
   have S2:=(upd_sub n2 hU2).1
   have e2:=(upd_sub n2 hU2).2
   clear hU2
   have f2:=e2
   have P2:=P1.sub S2
   have e2:=S2 _ _ e1
   refine⟨by show 4≤sizeLine; decide,?_⟩
   intro p3 n3
   generalize hU3:upd _ p3 _ = H3
   have S3:=(upd_sub n3 hU3).1
   have e3:=(upd_sub n3 hU3).2
   clear hU3
   have f3:=e3
   have P3:=P2.sub S3
   have e3:=S3 _ _ e2
   walk_at "w"
   refine⟨by decide,_,_,e3,fun d4 n4 d40 d41=>?_⟩
   have P4:=P3.draw n4
   have Q4:=Pu.of_draw n4 e3
   generalize hg4:upd _ pp _ = H4 at P4 Q4 ⊢
   have e4:H4 pp = some (.lst [.int n4,.int k]):=by rw [← hg4]; exact upd_same
   clear hg4
   walk_at "w"
   have h3p:p3≠pp:=by rintro rfl; rw [e2] at n3; cases n3
   have h2p:p2≠pp:=by rintro rfl; rw [e1] at n2; cases n2
   obtain⟨y4,hy4,y48⟩:∃ y:Int,atI [V.int 8,V.int 8,V.int 8,V.int 20] d4 = some (.int y)∧(y = 8∨y = 20):=by
    have:d4 = 0∨d4 = 1∨d4 = 2∨d4 = 3:=by omega
    rcases this with rfl | rfl | rfl | rfl
    ·exact⟨8,rfl,.inl rfl⟩
    ·exact⟨8,rfl,.inl rfl⟩
    ·exact⟨8,rfl,.inl rfl⟩
    ·exact⟨20,rfl,.inr rfl⟩
   refine⟨_,_,SqL.of (Q4.keep _ _ h3p f3),hy4,?_⟩
   have f4:H4 p2 = some (.lst []):=Q4.keep _ _ h2p (S3 _ _ f2)
   walk_at "w"
   refine⟨small_log (by omega) (by omega),_,_,e4,fun d5 n5 d50 d51=>?_⟩
   have P5:=P4.draw n5
   have Q5:=Pu.of_draw n5 e4
   generalize hg5:upd _ pp _ = H5 at P5 Q5 ⊢
   have e5:H5 pp = some (.lst [.int n5,.int k]):=by rw [← hg5]; exact upd_same
   clear hg5
   walk_at "w"
   have f5:H5 p2 = some (.lst []):=Q5.keep _ _ h2p f4
   have hd5:1 + d5≤20:=by omega
   refine⟨⟨by omega,by omega⟩,?_⟩
   refine for_range (lo:=0) (n:=(1 + d5).toNat) (fun i σ H6=>∃ (v3 v4 v5 v6 v7 v8 v9 v10 v11 v12:Option V) (as:List Addr) (ms:List Ma),σ = [some (.ref b),some (.ref pp),some (.ref p2),v3,v4,v5,v6,v7,v8,v9,v10,v11,v12]∧Pu pp k H1 H6∧H6 p2 = some (.lst (as.map V.ref))∧All2 (Mach H6) as ms∧(∀ m∈ms,isM m = true)∧ms.length = i) ?_ ?_ ?_
   ·exact⟨_,_,_,_,_,_,_,_,_,_,[],[],rfl,P5,f5,.nil,by simp,rfl⟩
   ·rintro i σ H6 hi ⟨v3,v4,v5,v6,v7,v8,v9,v10,v11,v12,as,ms,rfl,P6,f6,A6,M6,l6⟩
    obtain⟨n6,e6⟩:=P6.has
    refine⟨.inl ⟨rfl,_,SqL.of f6⟩,?_⟩
    refine⟨as,ms,n6,k,f6,A6,M6,by omega,e6,fun q7 T H7 P7 n7 hT hTM=>?_⟩
    have f7:H7 p2 = some (.lst (as.map V.ref)):=P7.keep _ _ h2p f6
    have A7:All2 (Mach H7) as ms:=A6.mono fun _ _ _ z=>z.stay P7.stay
    refine⟨_,f7,?_,_,_,_,_,_,_,_,_,_,_,as ++ [q7],ms ++ [T],rfl,(P6.trans P7).set n2,?_,?_,?_,?_⟩
    ·rw [List.length_map,A6.1,l6]; exact Nat.lt_of_le_of_lt (show i≤20 by omega) (by decide)
    ·rw [upd_same,List.map_append]; rfl
    ·exact All2.app (A7.monoM fun a m _ hm z=>ma_put f7 A7 z (M6 m hm)) (ma_put f7 A7 hT hTM)
    ·intro m hm
     rcases List.mem_append.1 hm with hm | hm
     ·exact M6 m hm
     ·rw [List.mem_singleton.1 hm]; exact hTM
    ·rw [List.length_append,l6]; rfl
   rintro σ H6 ⟨v3,v4,v5,v6,v7,v8,v9,v10,v11,v12,as,ms,rfl,P6,f6,A6,M6,l6⟩
   have hms:1≤ms.length∧ms.length≤20:=by omega
   have hal:as.length = ms.length:=A6.1
   obtain⟨n6,e6⟩:=P6.has
   refine⟨⟨_,SqL.of f6⟩,?_⟩
   intro pk npk
   refine comp_list (K:=K) (a:=p2) (xs:=as.map V.ref) (fun j σ H7=>∃ (v:Option V) (ks:List Addr),σ = [v]∧Sub H6 H7∧H7 pk = some (.lst (ks.map V.ref))∧All2 (KyA H6 H7 pk) ks (ms.take j)) ?_ ?_ ?_ ?_
   ·exact⟨none,[],rfl,Sub.new npk,upd_same,.nil⟩
   ·rintro j σ H7 _ ⟨v,ks,rfl,S7,_⟩
    exact SqL.of (S7 _ _ f6)
   ·rintro j x σ H7 hj ⟨v,ks,rfl,S7,g7,A7⟩
    rw [List.getElem?_map] at hj
    obtain⟨c,hc,rfl⟩:=Option.map_eq_some_iff.1 hj
    obtain⟨m,hm,hMc⟩:=A6.at hc
    have hmi:=M6 m (List.mem_of_getElem? hm)
    have M:=OkM.of hmi
    have hn1:=M.n1
    obtain⟨rs0,hm0⟩:=hMc.stay (.sub S7)
    obtain⟨r0,hr0⟩:∃ r0,rs0[0]? = some r0:=⟨_,List.getElem?_eq_getElem (by rw [hm0.2.2.1]; omega)⟩
    obtain⟨es0,hes0,as0,hr0a,hA0⟩:=hm0.2.2.at hr0
    have hsg:es0.length = sgn m:=M.len es0 (List.mem_of_getElem? hes0)
    refine⟨_,.inl (SqL.of hm0.1),?_⟩
    rw [List.length_map,hm0.2.2.1]
    refine⟨_,_,SqL.of hm0.1,atI_nat (j:=0) (by rw [List.getElem?_map,hr0]; rfl),?_⟩
    refine⟨_,.inl (SqL.of hr0a),?_⟩
    rw [List.length_map,hA0.1,hsg]
    refine⟨m,⟨rs0,hm0⟩,bd_of hmi,fun _ q8 rs8 L8 H8 S8 n8 M8 R8 hL8=>?_,fun z=>by rw [hmi] at z; cases z⟩
    refine⟨by show 3≤sizeLine; decide,?_⟩
    intro p9 n9
    generalize hU9:upd _ p9 _ = H9
    have S9:=(upd_sub n9 hU9).1
    have e9:=(upd_sub n9 hU9).2
    clear hU9
    have g9:=S9 _ _ (S8 _ _ g7)
    have hq8:q8≠pk:=by rintro rfl; rw [g7] at n8; cases n8
    have hN8:MaN H6 H9 pk q8 L8:=MaN.stay S9 ⟨rs8,M8,⟨S7.free n8,hq8⟩,fun r hr=>⟨S7.free (R8 r hr),by rintro rfl; rw [R8 _ hr] at g7; cases g7⟩⟩
    have hK9:KyA H6 H9 pk p9 m:=⟨q8,L8,e9,hN8,hL8⟩
    refine⟨_,g9,?_,_,ks ++ [p9],rfl,((S7.trans S8).trans S9).upd npk,?_,?_⟩
    ·rw [List.length_map,A7.1,List.length_take]; exact Nat.lt_of_le_of_lt (Nat.le_trans (Nat.min_le_right _ _) hms.2) (by decide)
    ·rw [upd_same,List.map_append]; rfl
    ·rw [List.take_add_one,hm]
     exact All2.app (A7.mono fun _ _ _ z=>((z.stay S8).stay S9).put g9) (hK9.put g9)
   rintro σ H7 ⟨v',ks,rfl,S7,g7,A7⟩
   rw [List.length_map,hal,List.take_length] at A7
   obtain⟨Ls,hLl,hLs⟩:=lst_all ms fun m hm=>by
    obtain⟨i,hi⟩:=List.getElem?_of_mem hm
    have hik:i < ks.length:=by rw [A7.1]; exact (List.getElem?_eq_some_iff.1 hi).1
    obtain⟨f,L,_,_,hL⟩:=A7.2 i _ m (List.getElem?_eq_getElem hik) hi
    exact⟨L,hL⟩
   have hkl:ks.length = ms.length:=A7.1
   refine⟨⟨_,SqL.of (S7 _ _ f6)⟩,?_⟩
   intro ph nph
   refine comp_list (K:=K) (a:=p2) (xs:=as.map V.ref) (fun j σ H8=>∃ (v:Option V) (hs:List Addr),σ = [v]∧Sub H7 H8∧H8 ph = some (.lst (hs.map V.ref))∧All2 (MaN H7 H8 ph) hs (ms.take j)) ?_ ?_ ?_ ?_
   ·exact⟨none,[],rfl,Sub.new nph,upd_same,.nil⟩
   ·rintro j σ H8 _ ⟨v,hs,rfl,S8,_⟩
    exact SqL.of ((S7.trans S8) _ _ f6)
   ·rintro j x σ H8 hj ⟨v,hs,rfl,S8,g8,A8⟩
    rw [List.getElem?_map] at hj
    obtain⟨c,hc,rfl⟩:=Option.map_eq_some_iff.1 hj
    obtain⟨m,hm,hMc⟩:=A6.at hc
    have M:=OkM.of (M6 m (List.mem_of_getElem? hm))
    refine⟨m,hMc.stay (.sub (S7.trans S8)),M.n4,fun q9 rs9 H9 S9 n9 M9 R9=>?_⟩
    have g9:=S9 _ _ g8
    have hq9:q9≠ph:=by rintro rfl; rw [g8] at n9; cases n9
    have hN9:MaN H7 H9 ph q9 m:=⟨rs9,M9,⟨S8.free n9,hq9⟩,fun r hr=>⟨S8.free (R9 r hr),by rintro rfl; rw [R9 _ hr] at g8; cases g8⟩⟩
    refine⟨_,g9,?_,_,hs ++ [q9],rfl,(S8.trans S9).upd nph,?_,?_⟩
    ·rw [List.length_map,A8.1,List.length_take]; exact Nat.lt_of_le_of_lt (Nat.le_trans (Nat.min_le_right _ _) hms.2) (by decide)
    ·rw [upd_same,List.map_append]; rfl
    ·rw [List.take_add_one,hm]
     exact All2.app (A8.mono fun _ _ _ z=>(z.stay S9).put g9) (hN9.put g9)
   rintro σ H8 ⟨v'',hs,rfl,S8,g8,A8⟩
   rw [List.length_map,hal,List.take_length] at A8
   have K8:All2 (KyA H6 H8 pk) ks ms:=A7.mono fun _ _ _ z=>z.stay S8
   have gk8:=S8 _ _ g7
   refine⟨Nat.zero_le _,?_⟩
   intro p9 n9
   generalize hU9:upd _ p9 _ = H9
   have S9:=(upd_sub n9 hU9).1
   have e9:=(upd_sub n9 hU9).2
   clear hU9
   refine⟨_,.inl (SqL.of (S9 _ _ gk8)),?_⟩
   rw [List.length_map,hkl]
   refine⟨⟨by omega,by omega⟩,?_⟩
   refine for_range (lo:=0) (n:=(ms.length:Int).toNat) (fun i σ H10=>∃ (v3 v7 v8 v9 v10 v11 v12:Option V) (ds:List Addr),σ = [some (.ref b),some (.ref pp),some (.ref p2),v3,some (.ref pk),some (.ref ph),some (.ref p9),v7,v8,v9,v10,v11,v12]∧Sub H8 H10∧H10 p9 = some (.lst (ds.map V.ref))∧(∀ d∈ds,d≠p9)∧All2 (LI H10) ds ((fsts (Ls.take i)).map (wh Ls ms.length))) ?_ ?_ ?_
   ·exact⟨_,_,_,_,_,_,_,[],rfl,S9,e9,by simp,.nil⟩
   ·rintro i σ H10 hi ⟨v3,v7,v8,v9,v10,v11,v12,ds,rfl,S10,g10,N10,A10⟩
    have hi':i < ms.length:=by omega
    rw [show (0:Int) + (i:Int) = (i:Int) by omega]
    obtain⟨a,ha⟩:∃ a,ks[i]? = some a:=⟨_,List.getElem?_eq_getElem (by omega)⟩
    have K10:All2 (KyA H6 H10 pk) ks ms:=K8.mono fun _ _ _ z=>z.stay S10
    obtain⟨m,L,hm,hL,hLm,_⟩:=ky_den K10 hLl hLs ha
    have gk10:=S10 _ _ gk8
    have hmi:=M6 m (List.mem_of_getElem? hm)
    refine⟨_,_,SqL.of gk10,atI_nat (by rw [List.getElem?_map,ha]; rfl),?_⟩
    refine⟨_,SqL.of gk10,?_⟩
    intro p11 n11
    generalize hU11:upd _ p11 _ = H11
    have S11:=(upd_sub n11 hU11).1
    have e11:=(upd_sub n11 hU11).2
    clear hU11
    rw [cut_toR ks (by omega)] at e11
    have K11:All2 (KyA H6 H11 pk) ks ms:=K10.mono fun _ _ _ z=>z.stay S11
    obtain⟨m',L',hm',hL',_,hD11⟩:=ky_den K11 hLl hLs ha
    rw [hm] at hm'
    cases hm'
    rw [hL] at hL'
    cases hL'
    refine⟨_,_,_,e11,kds_den K11 hLl hLs (Nat.le_of_lt hi'),hD11,kds_dep,?_⟩
    rw [if_pos rfl,kds_any M6 hLl hLs (Nat.le_of_lt hi') hmi hLm]
    have g11:=S11 _ _ g10
    have gk11:=S11 _ _ gk10
    walk_at "w"
    refine ifB.mk (fun c=>?_) (fun c=>?_)
    ·have c:L ∉ fsts (Ls.take i):=fun z=>by rw [decide_eq_true z] at c; cases c
     refine⟨.inl ⟨rfl,_,SqL.of g11⟩,?_⟩
     refine⟨_,.inl (SqL.of gk11),?_⟩
     rw [List.length_map,hkl]
     refine⟨⟨by omega,by omega⟩,?_⟩
     intro pj npj
     refine comp_range (lo:=0) (n:=(ms.length:Int).toNat) (fun j σ H12=>∃ (v:Option V),σ = [v,some (.ref pk),some (.int i)]∧Sub H11 H12∧LI H12 pj (wh Ls j L)) ?_ ?_ ?_
     ·exact⟨none,rfl,Sub.new npj,upd_same⟩
     ·rintro j σ H12 hj ⟨v,rfl,S12,g12⟩
      rw [show (0:Int) + (j:Int) = (j:Int) by omega]
      have hj':j < ms.length:=by omega
      obtain⟨a2,ha2⟩:∃ a,ks[j]? = some a:=⟨_,List.getElem?_eq_getElem (by omega)⟩
      have K12:All2 (KyA H6 H12 pk) ks ms:=K11.mono fun _ _ _ z=>z.stay S12
      obtain⟨m1,L1,hm1,hL1,hLm1,hDj⟩:=ky_den K12 hLl hLs ha2
      obtain⟨m3,L3,hm3,hL3,hLm3,hDi⟩:=ky_den K12 hLl hLs ha
      rw [hL] at hL3
      cases hL3
      refine⟨_,_,SqL.of (S12 _ _ gk11),atI_nat (by rw [List.getElem?_map,ha2]; rfl),?_⟩
      refine⟨_,_,SqL.of (S12 _ _ gk11),atI_nat (by rw [List.getElem?_map,ha]; rfl),?_⟩
      refine⟨_,_,hDj,hDi,Nat.le_trans dep_dKy (by decide),?_⟩
      rw [dKy_eq (M6 _ (List.mem_of_getElem? hm1)) (M6 _ (List.mem_of_getElem? hm3)) hLm1 hLm3]
      have hw:=wh_succ Ls j L
      by_cases c2:L1 = L
      ·rw [decide_eq_true c2]
       refine⟨_,g12,?_,_,rfl,S12.upd npj,?_⟩
       ·rw [List.length_map]
        unfold wh
        rw [List.length_map]
        exact Nat.lt_of_le_of_lt (List.length_filter_le _ _) (by rw [List.length_range]; exact Nat.lt_of_le_of_lt (show j≤20 by omega) (by decide))
       ·rw [hw,if_pos (by rw [hL1,c2])]
        unfold LI
        rw [upd_same,List.map_append]; rfl
      ·rw [decide_eq_false c2]
       refine⟨_,rfl,S12,?_⟩
       rw [hw,if_neg (by rw [hL1]; intro z; exact c2 (Option.some.inj z)),List.append_nil]
       exact g12
     rintro σ H12 ⟨v,rfl,S12,g12⟩
     rw [Int.toNat_natCast] at g12
     have npj':pj≠p9:=by rintro rfl; rw [g11] at npj; cases npj
     refine⟨_,S12 _ _ g11,?_,_,_,_,_,_,_,_,ds ++ [pj],rfl,((S10.trans S11).trans S12).upd n9,?_,?_,?_⟩
     ·rw [List.length_map,A10.1,List.length_map]
      have:=(fsts_nodup (Ls.take i)).2.2
      rw [List.length_take] at this
      exact Nat.lt_of_le_of_lt (show _≤20 by omega) (by decide)
     ·rw [upd_same,List.map_append]; rfl
     ·intro d hd
      rcases List.mem_append.1 hd with hd | hd
      ·exact N10 d hd
      ·rw [List.mem_singleton.1 hd]; exact npj'
     ·rw [List.take_add_one,hL]
      show All2 _ _ ((fsts (Ls.take i ++ [L])).map _)
      rw [fsts_snoc,if_neg c,List.map_append]
      refine All2.app (A10.mono fun a z hm hz=>?_) ?_
      ·unfold LI at hz ⊢
       rw [upd_ne (N10 a hm)]; exact S12 _ _ (S11 _ _ hz)
      ·unfold LI at g12 ⊢
       rw [upd_ne npj']; exact g12
    ·have c:L∈fsts (Ls.take i):=by
      by_cases z:L∈fsts (Ls.take i)
      ·exact z
      ·rw [decide_eq_false z] at c; cases c
     refine⟨_,_,_,_,_,_,_,ds,rfl,S10.trans S11,g11,N10,?_⟩
     rw [List.take_add_one,hL]
     show All2 _ ds ((fsts (Ls.take i ++ [L])).map _)
     rw [fsts_snoc,if_pos c]
     exact A10.mono fun _ _ _ z=>S11 _ _ z
   rintro σ H10 ⟨v3,v7,v8,v9,v10,v11,v12,ds,rfl,S10,g10,N10,A10⟩
   rw [Int.toNat_natCast] at A10
   have A10:All2 (LI H10) ds (grp Ls ms.length):=A10
   have hHand:∀ {H':Hp},Sub H8 H'→All2 (Mach H') hs ms:=fun S=>A8.mono fun _ _ _ z=>(z.stay S).elim fun rs y=>⟨rs,y.1⟩
   have hOwn:∀ {H':Hp},Sub H8 H'→All2 (Mach H') as ms:=fun S=>A6.mono fun _ _ _ z=>z.stay (.sub ((S7.trans S8).trans S))
   refine⟨⟨by decide,by decide⟩,?_⟩
   refine for_range (lo:=0) (n:=(2:Int).toNat) (fun i σ H11=>∃ (v3 v7 v8 v9 v10 v11 v12:Option V),σ = [some (.ref b),some (.ref pp),some (.ref p2),v3,some (.ref pk),some (.ref ph),some (.ref p9),v7,v8,v9,v10,v11,v12]∧Sub H10 H11) ?_ ?_ ?_
   ·exact⟨_,_,_,_,_,_,_,rfl,fun _ _ z=>z⟩
   ·rintro i σ H11 hi ⟨v3,v7,v8,v9,v10,v11,v12,rfl,S11⟩
    have S811:=S10.trans S11
    refine⟨hs,ms,S811 _ _ g8,hHand S811,M6,hms.2,fun q12 gs Ls' H12 S12 n12 g12 F12 N12 hl12 hLs12 A12=>?_⟩
    have hLe:Ls' = Ls:=lst_same hLl hLs hl12 hLs12
    subst hLe
    have S812:=S811.trans S12
    have ds12:All2 (LI H12) ds (grp Ls' ms.length):=A10.mono fun _ _ _ z=>(S11.trans S12) _ _ z
    refine⟨_,true,.of (.lst g12),rfl,rfl,?_⟩
    walk_at "w"
    refine ifB.no rfl ?_
    refine⟨pl_LL g12 A12,fun H13 S13=>?_⟩
    have S813:=S812.trans S13
    have A13:All2 (LI H13) gs (grp Ls' ms.length):=A12.mono fun _ _ _ z=>S13 _ _ z
    have d13:All2 (LI H13) ds (grp Ls' ms.length):=ds12.mono fun _ _ _ z=>S13 _ _ z
    walk_at "w"
    refine ifB.no rfl ?_
    refine⟨_,_,den_LL (S13 _ _ g12) A13,den_LL (((S11.trans S12).trans S13) _ _ g10) d13,dep_LL,?_⟩
    rw [eqD_refl]
    walk_at "w"
    refine ifB.no rfl ?_
    refine⟨_,_,den_Ms (S813 _ _ g8) (hHand S813),den_Ms (((S7.trans S8).trans S813) _ _ f6) (hOwn S813),dep_Ms,?_⟩
    rw [eqD_refl]
    walk_at "w"
    refine ifB.no rfl ?_
    refine⟨⟨_,SqL.of (S13 _ _ g12)⟩,?_⟩
    refine for_enum (K:=K) (a:=q12) (xs:=gs.map V.ref) (fun i σ H14=>∃ (v3 v7 v9 v10 v11 v12:Option V),σ = [some (.ref b),some (.ref pp),some (.ref p2),v3,some (.ref pk),some (.ref ph),some (.ref p9),v7,some (.ref q12),v9,v10,v11,v12]∧Sub H11 H14∧H14 q12 = some (.lst (gs.map V.ref))∧All2 (LI H14) gs (apl (grp Ls' ms.length) i)) ?_ ?_ ?_ ?_
    ·exact⟨_,_,_,_,_,_,rfl,S12.trans S13,S13 _ _ g12,by rw [apl_zero]; exact A13⟩
    ·rintro i σ H14 _ ⟨v3,v7,v9,v10,v11,v12,rfl,S14,g14,_⟩
     exact SqL.of g14
    ·rintro i x σ H14 qt hx ⟨v3,v7,v9,v10,v11,v12,rfl,S14,g14,A14⟩ nq
     rw [List.getElem?_map] at hx
     obtain⟨c,hc,rfl⟩:=Option.map_eq_some_iff.1 hx
     have S15:Sub H14 (upd H14 qt (.tup [.int i,.ref c])):=Sub.new nq
     have e15:upd H14 qt (.tup [.int i,.ref c]) qt = some (.tup [.int i,.ref c]):=upd_same
     generalize upd H14 qt (.tup [.int i,.ref c]) = H15 at S15 e15 ⊢
     have A15:All2 (LI H15) gs (apl (grp Ls' ms.length) i):=A14.mono fun _ _ _ z=>S15 _ _ z
     have g15:=S15 _ _ g14
     obtain⟨l,hgl,_⟩:=A12.at hc
     have hcl:H15 c = some (.lst (l.map V.int)):=A15.2 i c l hc (by rw [apl_at hgl,if_neg (Nat.lt_irrefl _)])
     have hll:l.length≤20:=by
      unfold grp at hgl
      rw [List.getElem?_map] at hgl
      obtain⟨F,_,rfl⟩:=Option.map_eq_some_iff.1 hgl
      unfold wh
      rw [List.length_map]
      exact Nat.le_trans (List.length_filter_le _ _) (by rw [List.length_range]; exact hms.2)
     refine⟨_,SqT.of e15,rfl,?_⟩
     refine⟨.inl ⟨rfl,_,SqL.of hcl⟩,?_⟩
     refine⟨_,hcl,?_,_,_,_,_,_,_,rfl,(S14.trans S15).upd (F12 c (List.mem_of_getElem? hc)).1,?_,?_⟩
     ·rw [List.length_map]; exact Nat.lt_of_le_of_lt hll (by decide)
     ·rw [upd_ne (Ne.symm (F12 c (List.mem_of_getElem? hc)).2)]; exact g15
     ·rw [← apl_succ hgl]
      have:=li_set (ys:=l ++ [100 + ((i:Nat):Int)]) A15 N12 hc
      rw [List.map_append] at this
      exact this
    rintro σ H14 ⟨v3,v7,v9,v10,v11,v12,rfl,S14,g14,A14⟩
    rw [List.length_map,A12.1] at A14
    have d14:All2 (LI H14) ds (grp Ls' ms.length):=A10.mono fun _ _ _ z=>(S11.trans S14) _ _ z
    have gd14:=(S11.trans S14) _ _ g10
    have hdl:ds.length = (grp Ls' ms.length).length:=A10.1
    have hgl20:(grp Ls' ms.length).length≤20:=by
     unfold grp
     rw [List.length_map]
     have:=(fsts_nodup (Ls'.take ms.length)).2.2
     rw [List.length_take] at this
     omega
    refine⟨_,.inl (SqL.of gd14),?_⟩
    rw [List.length_map,hdl]
    refine⟨⟨by omega,by omega⟩,?_⟩
    intro pl npl
    refine comp_range (lo:=0) (n:=(((grp Ls' ms.length).length:Nat):Int).toNat) (fun j σ H15=>∃ (v:Option V) (es:List Addr),σ = [v,some (.ref p9)]∧Sub H14 H15∧H15 pl = some (.lst (es.map V.ref))∧(∀ e∈es,e≠pl)∧All2 (LI H15) es ((apl (grp Ls' ms.length) (grp Ls' ms.length).length).take j)) ?_ ?_ ?_
    ·exact⟨none,[],rfl,Sub.new npl,upd_same,by simp,.nil⟩
    ·rintro j σ H15 hj ⟨v,es,rfl,S15,g15,N15,A15⟩
     have hj':j < (grp Ls' ms.length).length:=by omega
     rw [show (0:Int) + (j:Int) = (j:Int) by omega]
     obtain⟨c,hc⟩:∃ c,ds[j]? = some c:=⟨_,List.getElem?_eq_getElem (by omega)⟩
     obtain⟨l,hgl,hcl⟩:=d14.at hc
     have hcl15:H15 c = some (.lst (l.map V.int)):=S15 _ _ hcl
     refine⟨_,_,SqL.of (S15 _ _ gd14),atI_nat (by rw [List.getElem?_map,hc]; rfl),?_⟩
     refine⟨by show 1≤sizeLine; decide,?_⟩
     intro p16 n16
     generalize hU16:upd _ p16 _ = H16
     have S16:=(upd_sub n16 hU16).1
     have e16:=(upd_sub n16 hU16).2
     clear hU16
     refine⟨_,_,S16 _ _ hcl15,e16,?_,?_⟩
     ·have hll:l.length≤20:=by
       unfold grp at hgl
       rw [List.getElem?_map] at hgl
       obtain⟨F,_,rfl⟩:=Option.map_eq_some_iff.1 hgl
       unfold wh
       rw [List.length_map]
       exact Nat.le_trans (List.length_filter_le _ _) (by rw [List.length_range]; exact hms.2)
      rw [List.length_map]; exact Nat.le_trans (show _≤30 by show _ + 1≤30; omega) (by decide)
     intro p17 n17
     generalize hU17:upd _ p17 _ = H17
     have S17:=(upd_sub n17 hU17).1
     have e17:=(upd_sub n17 hU17).2
     clear hU17
     have e17:LI H17 p17 (l ++ [100 + ((j:Nat):Int)]):=by
      unfold LI
      rw [e17,List.map_append]; rfl
     have T17:=S16.trans S17
     have hne:p17≠pl:=by rintro rfl; rw [S16 _ _ g15] at n17; cases n17
     refine⟨_,T17 _ _ g15,?_,_,es ++ [p17],rfl,(S15.trans T17).upd npl,?_,?_,?_⟩
     ·rw [List.length_map,A15.1,List.length_take]; exact Nat.lt_of_le_of_lt (Nat.le_trans (Nat.min_le_left _ _) (show j≤20 by omega)) (by decide)
     ·rw [upd_same,List.map_append]; rfl
     ·intro r hr
      rcases List.mem_append.1 hr with hr | hr
      ·exact N15 r hr
      ·rw [List.mem_singleton.1 hr]; exact hne
     ·rw [List.take_add_one,apl_at hgl,if_pos hj']
      refine All2.app (A15.mono fun a z ha hz=>?_) ?_
      ·unfold LI at hz ⊢
       rw [upd_ne (N15 a ha)]; exact T17 _ _ hz
      ·unfold LI at e17 ⊢
       rw [upd_ne hne]; exact e17
    rintro σ H15 ⟨v',es,rfl,S15,g15,_,A15⟩
    rw [Int.toNat_natCast,List.take_of_length_le (by unfold apl; rw [List.length_mapIdx]; exact Nat.le_refl _)] at A15
    refine⟨_,_,den_LL (S15 _ _ g14) (A14.mono fun _ _ _ z=>S15 _ _ z),den_LL g15 A15,dep_LL,?_⟩
    rw [eqD_refl]
    walk_at "w"
    refine ifB.no rfl ?_
    exact⟨_,_,_,_,_,_,_,rfl,(S11.trans S14).trans S15⟩
   rintro σ H11 ⟨v3,v7,v8,v9,v10,v11,v12,rfl,S11⟩
   have S811:=S10.trans S11
   have fm11:=((S7.trans S8).trans S811) _ _ f6
   obtain⟨n11,e11⟩:∃ n:Int,H11 pp = some (.lst [.int n,.int k]):=⟨n6,((S7.trans S8).trans S811) _ _ e6⟩
   have P11:Pu pp k H11 H11:=Pu.refl ⟨n11,e11⟩
   refine⟨_,.inl (SqL.of fm11),?_⟩
   rw [List.length_map,hal]
   walk_at "w"
   refine⟨small_log (by omega) (by omega),_,_,e11,fun d12 n12 d120 d121=>?_⟩
   have P12:=P11.draw n12
   have Q12:=Pu.of_draw n12 e11
   generalize hg12:upd _ pp _ = H12 at P12 Q12 ⊢
   have e12:H12 pp = some (.lst [.int n12,.int k]):=by rw [← hg12]; exact upd_same
   clear hg12
   walk_at "w"
   have hne:∀ {a:Addr} {xs:List Addr},H11 a = some (.lst (xs.map V.ref))→H12 a = some (.lst (xs.map V.ref)):=fun {a xs} z=>Q12.stay.refs _ _ z
   have h12:All2 (Mach H12) hs ms:=(hHand S811).mono fun _ _ _ z=>z.stay Q12.stay
   have o12:All2 (Mach H12) as ms:=(hOwn S811).mono fun _ _ _ z=>z.stay Q12.stay
   have gh12:=hne (S811 _ _ g8)
   have gm12:=hne fm11
   have gk12:=hne (S811 _ _ gk8)
   have hhl:hs.length = ms.length:=h12.1
   have ky:∀ {H':Hp},Sub H12 H'→∀ {i:Nat} {a:Addr},ks[i]? = some a→∃ m L,ms[i]? = some m∧Ls[i]? = some L∧Lst m L∧Den H' (.ref a) (dKy m L):=fun {H'} S {i a} ha=>by
    obtain⟨m,hm,f,L,x1,⟨rs,x2,_⟩,x3⟩:=K8.at ha
    have x1':H' a = some (.tup [.int (m.length:Int),.int (sgn m:Int),.ref f]):=S _ _ (Q12.keep _ _ (by rintro rfl; rw [S811 _ _ x1] at e11; cases e11) (S811 _ _ x1))
    have x2':Mach H' f L:=((Mach.stay (.sub S811) ⟨rs,x2⟩).stay Q12.stay).stay (.sub S)
    have hil:=(List.getElem?_eq_some_iff.1 hm).1
    have hL:Ls[i]? = some (Ls[i]'(by omega)):=List.getElem?_eq_getElem _
    have e:=lst_one (hLs i _ _ hm hL) x3
    refine⟨m,L,hm,by rw [hL,e],x3,?_⟩
    unfold dKy
    rw [Den]
    refine⟨_,_,rfl,x1',?_⟩
    rw [Dens]
    refine⟨_,_,rfl,by rw [Den],?_⟩
    rw [Dens]
    refine⟨_,_,rfl,by rw [Den],?_⟩
    rw [Dens]
    exact⟨_,_,rfl,x2'.den,by rw [Dens]⟩
   obtain⟨ao,hao⟩:∃ a,hs[d12.toNat]? = some a:=⟨_,List.getElem?_eq_getElem (by omega)⟩
   obtain⟨ko,hko⟩:∃ a,ks[d12.toNat]? = some a:=⟨_,List.getElem?_eq_getElem (by omega)⟩
   obtain⟨mo,hmo,hMo⟩:=h12.at hao
   have hmoi:=M6 mo (List.mem_of_getElem? hmo)
   refine⟨_,.inl (SqL.of gm12),?_⟩
   rw [List.length_map,hal]
   refine⟨⟨by omega,by omega⟩,?_⟩
   refine for_range (lo:=0) (n:=(ms.length:Int).toNat) (fun i σ H13=>∃ (v11 v12:Option V),σ = [some (.ref b),some (.ref pp),some (.ref p2),v3,some (.ref pk),some (.ref ph),some (.ref p9),v7,v8,v9,some (.int d12),v11,v12]∧Sub H12 H13) ?_ ?_ ?_
   ·exact⟨_,_,rfl,fun _ _ z=>z⟩
   ·rintro i σ H13 hi ⟨v11,v12,rfl,S13⟩
    have hi':i < ms.length:=by omega
    rw [show (0:Int) + (i:Int) = (i:Int) by omega]
    obtain⟨ai,hai⟩:∃ a,hs[i]? = some a:=⟨_,List.getElem?_eq_getElem (by omega)⟩
    obtain⟨ki,hki⟩:∃ a,ks[i]? = some a:=⟨_,List.getElem?_eq_getElem (by omega)⟩
    obtain⟨mi,hmi,hMi⟩:=h12.at hai
    have hmii:=M6 mi (List.mem_of_getElem? hmi)
    refine⟨_,_,SqL.of (S13 _ _ gh12),atI_toNat (by omega) (by rw [List.getElem?_map,hao]; rfl),?_⟩
    refine⟨_,_,SqL.of (S13 _ _ gh12),atI_nat (by rw [List.getElem?_map,hai]; rfl),?_⟩
    refine⟨mo,mi,hMo.stay (.sub S13),hmoi,hMi.stay (.sub S13),hmii,fun L L' H14 S14 hL hL'=>?_⟩
    have T14:=S13.trans S14
    obtain⟨m1,L1,y1,y2,y3,y4⟩:=ky T14 hko
    obtain⟨m2,L2,z1,z2,z3,z4⟩:=ky T14 hki
    rw [hmo] at y1
    cases y1
    rw [hmi] at z1
    cases z1
    have w1:=lst_one y3 hL
    have w2:=lst_one z3 hL'
    subst w1 w2
    refine⟨_,true,.of (.bl _),rfl,rfl,?_⟩
    walk_at "w"
    refine ifB.no rfl ?_
    refine⟨_,_,SqL.of (T14 _ _ gk12),atI_toNat (by omega) (by rw [List.getElem?_map,hko]; rfl),?_⟩
    refine⟨_,_,SqL.of (T14 _ _ gk12),atI_nat (by rw [List.getElem?_map,hki]; rfl),?_⟩
    refine⟨_,_,y4,z4,Nat.le_trans dep_dKy (by decide),?_⟩
    rw [dKy_eq hmoi hmii y3 z3]
    walk_at "w"
    rw [if_pos rfl,decide_eq_true rfl]
    refine ifB.no rfl ?_
    refine⟨_,_,den_Ms (T14 _ _ gh12) (h12.mono fun _ _ _ z=>z.stay (.sub T14)),den_Ms (T14 _ _ gm12) (o12.mono fun _ _ _ z=>z.stay (.sub T14)),dep_Ms,?_⟩
    rw [eqD_refl]
    walk_at "w"
    refine ifB.no rfl ?_
    exact⟨_,_,rfl,T14⟩
   rintro σ H13 ⟨v11,v12,rfl,S13⟩
   refine⟨Nat.zero_le _,?_⟩
   intro p14 n14
   generalize hU14:upd _ p14 _ = H14
   have S14:=(upd_sub n14 hU14).1
   have e14:=(upd_sub n14 hU14).2
   clear hU14
   refine⟨[],[],e14,.nil,by simp,Nat.zero_le _,fun q15 gs Ls' H15 S15 n15 g15 F15 N15 hl15 _ A15=>?_⟩
   refine⟨Nat.zero_le _,?_⟩
   intro p16 n16
   generalize hU16:upd _ p16 _ = H16
   have S16:=(upd_sub n16 hU16).1
   have e16:=(upd_sub n16 hU16).2
   clear hU16
   have hgs:gs = []:=List.eq_nil_of_length_eq_zero (by
    have hL0:Ls' = []:=List.eq_nil_of_length_eq_zero hl15
    rw [A15.1,hL0]; rfl)
   subst hgs
   have g16:H16 q15 = some (.lst []):=S16 _ _ g15
   refine⟨.lst [],.lst [],by rw [Den]; exact⟨_,_,rfl,g16,by rw [Dens]⟩,by rw [Den]; exact⟨_,_,rfl,e16,by rw [Dens]⟩,dep_ints [],?_⟩
   rw [eqD_refl]
   exact h _
  ·exact h.elim
end
theorem all_mk {l:PySem.W.OpenLaw} {w:World} {K:PySem.W.Frag} {h:Heap} {mg:Str→Option Value} {fa:Addr} {tk_MOST_ROWS tk_LEAST_SIGNS tk_MOST_SIGNS:Tok} {xZ0 xZ1 xZ2 xZ3 xZ4 xZ5 xZ6 xZ11 xZ12 xZ13 xZ14 xZ15 xZ16 xZ17 xZ18 xZ19 xZ23 xZ24 xZ25 xZ26 xZ27 xZ28 x_MillError x_NoMachine:Addr} (X:K.In h) (G:h.Ns mainGlobals mg) (hfa:mg "law" = some (.ref fa))
  {odZ0 anZ0 odZ1 anZ1 odZ2 anZ2 odZ3 anZ3 odZ4 anZ4 odZ5 anZ5 odZ6 anZ6 odZ11 anZ11 odZ12 anZ12 odZ13 anZ13 odZ14 anZ14 odZ15 anZ15 odZ16 anZ16 odZ17 anZ17 odZ18 anZ18 odZ19 anZ19 odZ23 anZ23 odZ24 anZ24 odZ25 anZ25 odZ26 anZ26 odZ27 anZ27 odZ28 anZ28:Option Addr} {slZ0 slZ1 slZ2 slZ3 slZ4 slZ5 slZ6 slZ11 slZ12 slZ13 slZ14 slZ15 slZ16 slZ17 slZ18 slZ19 slZ23 slZ24 slZ25 slZ26 slZ27 slZ28:Array (Option Value)} {ocZ0 kVZ0 dcZ0 pmZ0 cdZ0 ctZ0 ocZ1 kVZ1 dcZ1 pmZ1 cdZ1 ctZ1 ocZ2 kVZ2 dcZ2 pmZ2 cdZ2 ctZ2 ocZ3 kVZ3 dcZ3 pmZ3 cdZ3 ctZ3 ocZ4 kVZ4 dcZ4 pmZ4 cdZ4 ctZ4 ocZ5 kVZ5 dcZ5 pmZ5 cdZ5 ctZ5 ocZ6 kVZ6 dcZ6 pmZ6 cdZ6 ctZ6 ocZ11 kVZ11 dcZ11 pmZ11 cdZ11 ctZ11 ocZ12 kVZ12 dcZ12 pmZ12 cdZ12 ctZ12 ocZ13 kVZ13 dcZ13 pmZ13 cdZ13 ctZ13 ocZ14 kVZ14 dcZ14 pmZ14 cdZ14 ctZ14 ocZ15 kVZ15 dcZ15 pmZ15 cdZ15 ctZ15 ocZ16 kVZ16 dcZ16 pmZ16 cdZ16 ctZ16 ocZ17 kVZ17 dcZ17 pmZ17 cdZ17 ctZ17 ocZ18 kVZ18 dcZ18 pmZ18 cdZ18 ctZ18 ocZ19 kVZ19 dcZ19 pmZ19 cdZ19 ctZ19 ocZ23 kVZ23 dcZ23 pmZ23 cdZ23 ctZ23 ocZ24 kVZ24 dcZ24 pmZ24 cdZ24 ctZ24 ocZ25 kVZ25 dcZ25 pmZ25 cdZ25 ctZ25 ocZ26 kVZ26 dcZ26 pmZ26 cdZ26 ctZ26 ocZ27 kVZ27 dcZ27 pmZ27 cdZ27 ctZ27 ocZ28 kVZ28 dcZ28 pmZ28 cdZ28 ctZ28:Value}
  {cx_MillError cx_NoMachine:ClassData}
  (aZ0:PySem.W.nsIn K mainGlobals "_law_mixed" = some (some (.ref xZ0)))
  (lZ0:K.lookup xZ0 = some ⟨ocZ0,odZ0,.func (PySem.W.fnOf "_law_mixed" "_law_mixed" (defArgs s_l_mixed) (defBody s_l_mixed) (defScope s_l_mixed) .none kVZ0 dcZ0 pmZ0 anZ0 cdZ0 ctZ0),slZ0⟩)
  (cZ0:PySem.W.codeIn K cdZ0 "_law_mixed" = true)
  (kZ0:PySem.W.keepIn K (.ref xZ0) = true)
  (aZ1:PySem.W.nsIn K mainGlobals "_law_draw" = some (some (.ref xZ1)))
  (lZ1:K.lookup xZ1 = some ⟨ocZ1,odZ1,.func (PySem.W.fnOf "_law_draw" "_law_draw" (defArgs s_l_draw) (defBody s_l_draw) (defScope s_l_draw) .none kVZ1 dcZ1 pmZ1 anZ1 cdZ1 ctZ1),slZ1⟩)
  (cZ1:PySem.W.codeIn K cdZ1 "_law_draw" = true)
  (kZ1:PySem.W.keepIn K (.ref xZ1) = true)
  (aZ2:PySem.W.nsIn K mainGlobals "_law_purse" = some (some (.ref xZ2)))
  (lZ2:K.lookup xZ2 = some ⟨ocZ2,odZ2,.func (PySem.W.fnOf "_law_purse" "_law_purse" (defArgs s_l_purse) (defBody s_l_purse) (defScope s_l_purse) .none kVZ2 dcZ2 pmZ2 anZ2 cdZ2 ctZ2),slZ2⟩)
  (cZ2:PySem.W.codeIn K cdZ2 "_law_purse" = true)
  (kZ2:PySem.W.keepIn K (.ref xZ2) = true)
  (aZ3:PySem.W.nsIn K mainGlobals "is_entry" = some (some (.ref xZ3)))
  (lZ3:K.lookup xZ3 = some ⟨ocZ3,odZ3,.func (PySem.W.fnOf "is_entry" "is_entry" (defArgs s_is_entry) (defBody s_is_entry) (defScope s_is_entry) .none kVZ3 dcZ3 pmZ3 anZ3 cdZ3 ctZ3),slZ3⟩)
  (cZ3:PySem.W.codeIn K cdZ3 "is_entry" = true)
  (kZ3:PySem.W.keepIn K (.ref xZ3) = true)
  (aZ4:PySem.W.nsIn K mainGlobals "is_row" = some (some (.ref xZ4)))
  (lZ4:K.lookup xZ4 = some ⟨ocZ4,odZ4,.func (PySem.W.fnOf "is_row" "is_row" (defArgs s_is_row) (defBody s_is_row) (defScope s_is_row) .none kVZ4 dcZ4 pmZ4 anZ4 cdZ4 ctZ4),slZ4⟩)
  (cZ4:PySem.W.codeIn K cdZ4 "is_row" = true)
  (kZ4:PySem.W.keepIn K (.ref xZ4) = true)
  (aZ5:PySem.W.nsIn K mainGlobals "is_machine" = some (some (.ref xZ5)))
  (lZ5:K.lookup xZ5 = some ⟨ocZ5,odZ5,.func (PySem.W.fnOf "is_machine" "is_machine" (defArgs s_is_machine) (defBody s_is_machine) (defScope s_is_machine) .none kVZ5 dcZ5 pmZ5 anZ5 cdZ5 ctZ5),slZ5⟩)
  (cZ5:PySem.W.codeIn K cdZ5 "is_machine" = true)
  (kZ5:PySem.W.keepIn K (.ref xZ5) = true)
  (aZ6:PySem.W.nsIn K mainGlobals "must_machine" = some (some (.ref xZ6)))
  (lZ6:K.lookup xZ6 = some ⟨ocZ6,odZ6,.func (PySem.W.fnOf "must_machine" "must_machine" (defArgs s_must_machine) (defBody s_must_machine) (defScope s_must_machine) .none kVZ6 dcZ6 pmZ6 anZ6 cdZ6 ctZ6),slZ6⟩)
  (cZ6:PySem.W.codeIn K cdZ6 "must_machine" = true)
  (kZ6:PySem.W.keepIn K (.ref xZ6) = true)
  (aZ11:PySem.W.nsIn K mainGlobals "orders" = some (some (.ref xZ11)))
  (lZ11:K.lookup xZ11 = some ⟨ocZ11,odZ11,.func (PySem.W.fnOf "orders" "orders" (defArgs s_orders) (defBody s_orders) (defScope s_orders) .none kVZ11 dcZ11 pmZ11 anZ11 cdZ11 ctZ11),slZ11⟩)
  (cZ11:PySem.W.codeIn K cdZ11 "orders" = true)
  (kZ11:PySem.W.keepIn K (.ref xZ11) = true)
  (aZ12:PySem.W.nsIn K mainGlobals "namings" = some (some (.ref xZ12)))
  (lZ12:K.lookup xZ12 = some ⟨ocZ12,odZ12,.func (PySem.W.fnOf "namings" "namings" (defArgs s_namings) (defBody s_namings) (defScope s_namings) .none kVZ12 dcZ12 pmZ12 anZ12 cdZ12 ctZ12),slZ12⟩)
  (cZ12:PySem.W.codeIn K cdZ12 "namings" = true)
  (kZ12:PySem.W.keepIn K (.ref xZ12) = true)
  (aZ13:PySem.W.nsIn K mainGlobals "named_entry" = some (some (.ref xZ13)))
  (lZ13:K.lookup xZ13 = some ⟨ocZ13,odZ13,.func (PySem.W.fnOf "named_entry" "named_entry" (defArgs s_named_entry) (defBody s_named_entry) (defScope s_named_entry) .none kVZ13 dcZ13 pmZ13 anZ13 cdZ13 ctZ13),slZ13⟩)
  (cZ13:PySem.W.codeIn K cdZ13 "named_entry" = true)
  (kZ13:PySem.W.keepIn K (.ref xZ13) = true)
  (aZ14:PySem.W.nsIn K mainGlobals "named" = some (some (.ref xZ14)))
  (lZ14:K.lookup xZ14 = some ⟨ocZ14,odZ14,.func (PySem.W.fnOf "named" "named" (defArgs s_named) (defBody s_named) (defScope s_named) .none kVZ14 dcZ14 pmZ14 anZ14 cdZ14 ctZ14),slZ14⟩)
  (cZ14:PySem.W.codeIn K cdZ14 "named" = true)
  (kZ14:PySem.W.keepIn K (.ref xZ14) = true)
  (aZ15:PySem.W.nsIn K mainGlobals "least_form" = some (some (.ref xZ15)))
  (lZ15:K.lookup xZ15 = some ⟨ocZ15,odZ15,.func (PySem.W.fnOf "least_form" "least_form" (defArgs s_least_form) (defBody s_least_form) (defScope s_least_form) .none kVZ15 dcZ15 pmZ15 anZ15 cdZ15 ctZ15),slZ15⟩)
  (cZ15:PySem.W.codeIn K cdZ15 "least_form" = true)
  (kZ15:PySem.W.keepIn K (.ref xZ15) = true)
  (aZ16:PySem.W.nsIn K mainGlobals "are_alike" = some (some (.ref xZ16)))
  (lZ16:K.lookup xZ16 = some ⟨ocZ16,odZ16,.func (PySem.W.fnOf "are_alike" "are_alike" (defArgs s_are_alike) (defBody s_are_alike) (defScope s_are_alike) .none kVZ16 dcZ16 pmZ16 anZ16 cdZ16 ctZ16),slZ16⟩)
  (cZ16:PySem.W.codeIn K cdZ16 "are_alike" = true)
  (kZ16:PySem.W.keepIn K (.ref xZ16) = true)
  (aZ17:PySem.W.nsIn K mainGlobals "groups" = some (some (.ref xZ17)))
  (lZ17:K.lookup xZ17 = some ⟨ocZ17,odZ17,.func (PySem.W.fnOf "groups" "groups" (defArgs s_groups) (defBody s_groups) (defScope s_groups) .none kVZ17 dcZ17 pmZ17 anZ17 cdZ17 ctZ17),slZ17⟩)
  (cZ17:PySem.W.codeIn K cdZ17 "groups" = true)
  (kZ17:PySem.W.keepIn K (.ref xZ17) = true)
  (aZ18:PySem.W.nsIn K mainGlobals "_law_machine" = some (some (.ref xZ18)))
  (lZ18:K.lookup xZ18 = some ⟨ocZ18,odZ18,.func (PySem.W.fnOf "_law_machine" "_law_machine" (defArgs s_l_machine) (defBody s_l_machine) (defScope s_l_machine) .none kVZ18 dcZ18 pmZ18 anZ18 cdZ18 ctZ18),slZ18⟩)
  (cZ18:PySem.W.codeIn K cdZ18 "_law_machine" = true)
  (kZ18:PySem.W.keepIn K (.ref xZ18) = true)
  (aZ19:PySem.W.nsIn K mainGlobals "_law_copy" = some (some (.ref xZ19)))
  (lZ19:K.lookup xZ19 = some ⟨ocZ19,odZ19,.func (PySem.W.fnOf "_law_copy" "_law_copy" (defArgs s_l_copy) (defBody s_l_copy) (defScope s_l_copy) .none kVZ19 dcZ19 pmZ19 anZ19 cdZ19 ctZ19),slZ19⟩)
  (cZ19:PySem.W.codeIn K cdZ19 "_law_copy" = true)
  (kZ19:PySem.W.keepIn K (.ref xZ19) = true)
  (aZ23:PySem.W.nsIn K mainGlobals "_law_plainly" = some (some (.ref xZ23)))
  (lZ23:K.lookup xZ23 = some ⟨ocZ23,odZ23,.func (PySem.W.fnOf "_law_plainly" "_law_plainly" (defArgs s_l_plainly) (defBody s_l_plainly) (defScope s_l_plainly) .none kVZ23 dcZ23 pmZ23 anZ23 cdZ23 ctZ23),slZ23⟩)
  (cZ23:PySem.W.codeIn K cdZ23 "_law_plainly" = true)
  (kZ23:PySem.W.keepIn K (.ref xZ23) = true)
  (aZ24:PySem.W.nsIn K mainGlobals "_law_order" = some (some (.ref xZ24)))
  (lZ24:K.lookup xZ24 = some ⟨ocZ24,odZ24,.func (PySem.W.fnOf "_law_order" "_law_order" (defArgs s_l_order) (defBody s_l_order) (defScope s_l_order) .none kVZ24 dcZ24 pmZ24 anZ24 cdZ24 ctZ24),slZ24⟩)
  (cZ24:PySem.W.codeIn K cdZ24 "_law_order" = true)
  (kZ24:PySem.W.keepIn K (.ref xZ24) = true)
  (aZ25:PySem.W.nsIn K mainGlobals "_law_named" = some (some (.ref xZ25)))
  (lZ25:K.lookup xZ25 = some ⟨ocZ25,odZ25,.func (PySem.W.fnOf "_law_named" "_law_named" (defArgs s_l_named) (defBody s_l_named) (defScope s_l_named) .none kVZ25 dcZ25 pmZ25 anZ25 cdZ25 ctZ25),slZ25⟩)
  (cZ25:PySem.W.codeIn K cdZ25 "_law_named" = true)
  (kZ25:PySem.W.keepIn K (.ref xZ25) = true)
  (aZ26:PySem.W.nsIn K mainGlobals "_law_like" = some (some (.ref xZ26)))
  (lZ26:K.lookup xZ26 = some ⟨ocZ26,odZ26,.func (PySem.W.fnOf "_law_like" "_law_like" (defArgs s_l_like) (defBody s_l_like) (defScope s_l_like) .none kVZ26 dcZ26 pmZ26 anZ26 cdZ26 ctZ26),slZ26⟩)
  (cZ26:PySem.W.codeIn K cdZ26 "_law_like" = true)
  (kZ26:PySem.W.keepIn K (.ref xZ26) = true)
  (aZ27:PySem.W.nsIn K mainGlobals "_law_next" = some (some (.ref xZ27)))
  (lZ27:K.lookup xZ27 = some ⟨ocZ27,odZ27,.func (PySem.W.fnOf "_law_next" "_law_next" (defArgs s_l_next) (defBody s_l_next) (defScope s_l_next) .none kVZ27 dcZ27 pmZ27 anZ27 cdZ27 ctZ27),slZ27⟩)
  (cZ27:PySem.W.codeIn K cdZ27 "_law_next" = true)
  (kZ27:PySem.W.keepIn K (.ref xZ27) = true)
  (aZ28:PySem.W.nsIn K mainGlobals "law" = some (some (.ref xZ28)))
  (lZ28:K.lookup xZ28 = some ⟨ocZ28,odZ28,.func (PySem.W.fnOf "law" "law" (defArgs s_law) (defBody s_law) (defScope s_law) .none kVZ28 dcZ28 pmZ28 anZ28 cdZ28 ctZ28),slZ28⟩)
  (cZ28:PySem.W.codeIn K cdZ28 "law" = true)
  (kZ28:PySem.W.keepIn K (.ref xZ28) = true)
  (gt:PySem.W.specialIn K (.builtin "object.__class__") "__get__" = some (some (.builtin "getset_descriptor.__get__")))
  (tk:PySem.W.takesIn K (.builtin "object.__class__") = some true)
  (a_MillError:PySem.W.nsIn K mainGlobals "MillError" = some (some (.ref x_MillError)))
  (i_MillError:PySem.W.excIn K x_MillError veMro "ValueError.__new__" = true)
  (k_MillError:PySem.W.keepIn K (.ref x_MillError) = true)
  (ga_MillError:PySem.W.findIn K (.ref x_MillError) "__getattribute__" = some (some (.builtin "BaseException.__getattribute__")))
  (na_MillError:PySem.W.findIn K (.ref x_MillError) "__getattr__" = some none)
  (cl_MillError:PySem.W.findIn K (.ref x_MillError) "__class__" = some (some (.builtin "object.__class__")))
  (mo_MillError:PySem.W.mroIn K x_MillError (.type "object") = some true)
  (mb_MillError:PySem.W.mroIn K x_MillError (.type "BaseException") = some true)
  (ci_MillError:PySem.W.clsIn K x_MillError = some cx_MillError)
  (mr_MillError:cx_MillError.mro = [.ref x_MillError] ++ veMro)
  (ty_MillError:PySem.W.typeIn K (.ref x_MillError) = some (.type "type"))
  (a_NoMachine:PySem.W.nsIn K mainGlobals "NoMachine" = some (some (.ref x_NoMachine)))
  (i_NoMachine:PySem.W.excIn K x_NoMachine veMro "ValueError.__new__" = true)
  (k_NoMachine:PySem.W.keepIn K (.ref x_NoMachine) = true)
  (ga_NoMachine:PySem.W.findIn K (.ref x_NoMachine) "__getattribute__" = some (some (.builtin "BaseException.__getattribute__")))
  (na_NoMachine:PySem.W.findIn K (.ref x_NoMachine) "__getattr__" = some none)
  (cl_NoMachine:PySem.W.findIn K (.ref x_NoMachine) "__class__" = some (some (.builtin "object.__class__")))
  (mo_NoMachine:PySem.W.mroIn K x_NoMachine (.type "object") = some true)
  (mb_NoMachine:PySem.W.mroIn K x_NoMachine (.type "BaseException") = some true)
  (ci_NoMachine:PySem.W.clsIn K x_NoMachine = some cx_NoMachine)
  (mr_NoMachine:cx_NoMachine.mro = [.ref x_NoMachine,.ref x_MillError] ++ veMro)
  (ty_NoMachine:PySem.W.typeIn K (.ref x_NoMachine) = some (.type "type"))
  (z_ValueError:PySem.W.nsIn K mainGlobals "ValueError" = some none)
  (z_abs:PySem.W.nsIn K mainGlobals "abs" = some none)
  (z_all:PySem.W.nsIn K mainGlobals "all" = some none)
  (z_bool:PySem.W.nsIn K mainGlobals "bool" = some none)
  (z_dict:PySem.W.nsIn K mainGlobals "dict" = some none)
  (z_enumerate:PySem.W.nsIn K mainGlobals "enumerate" = some none)
  (z_int:PySem.W.nsIn K mainGlobals "int" = some none)
  (z_isinstance:PySem.W.nsIn K mainGlobals "isinstance" = some none)
  (z_len:PySem.W.nsIn K mainGlobals "len" = some none)
  (z_list:PySem.W.nsIn K mainGlobals "list" = some none)
  (z_max:PySem.W.nsIn K mainGlobals "max" = some none)
  (z_min:PySem.W.nsIn K mainGlobals "min" = some none)
  (z_range:PySem.W.nsIn K mainGlobals "range" = some none)
  (z_sorted:PySem.W.nsIn K mainGlobals "sorted" = some none)
  (z_str:PySem.W.nsIn K mainGlobals "str" = some none)
  (z_tuple:PySem.W.nsIn K mainGlobals "tuple" = some none)
  (z_zip:PySem.W.nsIn K mainGlobals "zip" = some none)
  (nd:[x_MillError,x_NoMachine].Nodup)
  (q_MOST_ROWS:PySem.W.nsIn K mainGlobals "MOST_ROWS" = some (some (.int 4 tk_MOST_ROWS)))
  (q_LEAST_SIGNS:PySem.W.nsIn K mainGlobals "LEAST_SIGNS" = some (some (.int 2 tk_LEAST_SIGNS)))
  (q_MOST_SIGNS:PySem.W.nsIn K mainGlobals "MOST_SIGNS" = some (some (.int 4 tk_MOST_SIGNS)))
  : ∃ fd:FuncData,(∀ (s:Shared) (v:Value),BindsTo s fd ⟨[v],[]⟩ [("_law_script",v)])∧∀ base:Heap,K.In base→base.Ns mainGlobals mg→FnOk l.prog w K mg base CX0 8 fa fd ["_law_script"] (sp_law K):=by
 have e:=hfa.symm.trans (PySem.W.mg_of X G aZ28)
 have e':xZ28 = fa:=by cases e; rfl
 subst e'
 have FZ0:=fun_mk (st:=s_l_mixed) lZ0 cZ0 kZ0
 have bZ0:=FZ0.binds (ps:=["_law_cell","_law_k"]) fun _ _ _ _ _ _=>us2 (fun _ _=>rfl)
 have FZ1:=fun_mk (st:=s_l_draw) lZ1 cZ1 kZ1
 have bZ1:=FZ1.binds (ps:=["_law_purse_here","_law_out_of"]) fun _ _ _ _ _ _=>us2 (fun _ _=>rfl)
 have FZ2:=fun_mk (st:=s_l_purse) lZ2 cZ2 kZ2
 have bZ2:=FZ2.binds (ps:=["_law_script"]) fun _ _ _ _ _ _=>us1 (fun _=>rfl)
 have FZ3:=fun_mk (st:=s_is_entry) lZ3 cZ3 kZ3
 have bZ3:=FZ3.binds (ps:=["entry","rows","signs"]) fun _ _ _ _ _ _=>us3 (fun _ _ _=>rfl)
 have FZ4:=fun_mk (st:=s_is_row) lZ4 cZ4 kZ4
 have bZ4:=FZ4.binds (ps:=["row","rows","signs"]) fun _ _ _ _ _ _=>us3 (fun _ _ _=>rfl)
 have FZ5:=fun_mk (st:=s_is_machine) lZ5 cZ5 kZ5
 have bZ5:=FZ5.binds (ps:=["machine"]) fun _ _ _ _ _ _=>us1 (fun _=>rfl)
 have FZ6:=fun_mk (st:=s_must_machine) lZ6 cZ6 kZ6
 have bZ6:=FZ6.binds (ps:=["machine"]) fun _ _ _ _ _ _=>us1 (fun _=>rfl)
 have FZ11:=fun_mk (st:=s_orders) lZ11 cZ11 kZ11
 have bZ11:=FZ11.binds (ps:=["things"]) fun _ _ _ _ _ _=>us1 (fun _=>rfl)
 have FZ12:=fun_mk (st:=s_namings) lZ12 cZ12 kZ12
 have bZ12:=FZ12.binds (ps:=["many"]) fun _ _ _ _ _ _=>us1 (fun _=>rfl)
 have FZ13:=fun_mk (st:=s_named_entry) lZ13 cZ13 kZ13
 have bZ13:=FZ13.binds (ps:=["entry","row_names","sign_names","turn"]) fun _ _ _ _ _ _=>us4 (fun _ _ _ _=>rfl)
 have FZ14:=fun_mk (st:=s_named) lZ14 cZ14 kZ14
 have bZ14:=FZ14.binds (ps:=["machine","row_names","sign_names","turn"]) fun _ _ _ _ _ _=>us4 (fun _ _ _ _=>rfl)
 have FZ15:=fun_mk (st:=s_least_form) lZ15 cZ15 kZ15
 have bZ15:=FZ15.binds (ps:=["machine"]) fun _ _ _ _ _ _=>us1 (fun _=>rfl)
 have FZ16:=fun_mk (st:=s_are_alike) lZ16 cZ16 kZ16
 have bZ16:=FZ16.binds (ps:=["one","other"]) fun _ _ _ _ _ _=>us2 (fun _ _=>rfl)
 have FZ17:=fun_mk (st:=s_groups) lZ17 cZ17 kZ17
 have bZ17:=FZ17.binds (ps:=["machines"]) fun _ _ _ _ _ _=>us1 (fun _=>rfl)
 have FZ18:=fun_mk (st:=s_l_machine) lZ18 cZ18 kZ18
 have bZ18:=FZ18.binds (ps:=["_law_purse_here","_law_rows","_law_signs"]) fun _ _ _ _ _ _=>us3 (fun _ _ _=>rfl)
 have FZ19:=fun_mk (st:=s_l_copy) lZ19 cZ19 kZ19
 have bZ19:=FZ19.binds (ps:=["_law_machine_here"]) fun _ _ _ _ _ _=>us1 (fun _=>rfl)
 have FZ23:=fun_mk (st:=s_l_plainly) lZ23 cZ23 kZ23
 have bZ23:=FZ23.binds (ps:=["_law_found"]) fun _ _ _ _ _ _=>us1 (fun _=>rfl)
 have FZ24:=fun_mk (st:=s_l_order) lZ24 cZ24 kZ24
 have bZ24:=FZ24.binds (ps:=["_law_purse_here","_law_many"]) fun _ _ _ _ _ _=>us2 (fun _ _=>rfl)
 have FZ25:=fun_mk (st:=s_l_named) lZ25 cZ25 kZ25
 have bZ25:=FZ25.binds (ps:=["_law_machine_here","_law_rows","_law_signs","_law_side"]) fun _ _ _ _ _ _=>us4 (fun _ _ _ _=>rfl)
 have FZ26:=fun_mk (st:=s_l_like) lZ26 cZ26 kZ26
 have bZ26:=FZ26.binds (ps:=["_law_purse_here","_law_machine_here"]) fun _ _ _ _ _ _=>us2 (fun _ _=>rfl)
 have FZ27:=fun_mk (st:=s_l_next) lZ27 cZ27 kZ27
 have bZ27:=FZ27.binds (ps:=["_law_purse_here","_law_machines"]) fun _ _ _ _ _ _=>us2 (fun _ _=>rfl)
 have FZ28:=fun_mk (st:=s_law) lZ28 cZ28 kZ28
 have bZ28:=FZ28.binds (ps:=["_law_script"]) fun _ _ _ _ _ _=>us1 (fun _=>rfl)
 have T:Tx K mg ⟨xZ0,_,xZ1,_,xZ2,_,xZ3,_,xZ4,_,xZ5,_,xZ6,_,xZ11,_,xZ12,_,xZ13,_,xZ14,_,xZ15,_,xZ16,_,xZ17,_,xZ18,_,xZ19,_,xZ23,_,xZ24,_,xZ25,_,xZ26,_,xZ27,_,xZ28,_,x_MillError,x_NoMachine⟩:=⟨FZ0,bZ0,PySem.W.mg_of X G aZ0,FZ1,bZ1,PySem.W.mg_of X G aZ1,FZ2,bZ2,PySem.W.mg_of X G aZ2,FZ3,bZ3,PySem.W.mg_of X G aZ3,FZ4,bZ4,PySem.W.mg_of X G aZ4,FZ5,bZ5,PySem.W.mg_of X G aZ5,FZ6,bZ6,PySem.W.mg_of X G aZ6,FZ11,bZ11,PySem.W.mg_of X G aZ11,FZ12,bZ12,PySem.W.mg_of X G aZ12,FZ13,bZ13,PySem.W.mg_of X G aZ13,FZ14,bZ14,PySem.W.mg_of X G aZ14,FZ15,bZ15,PySem.W.mg_of X G aZ15,FZ16,bZ16,PySem.W.mg_of X G aZ16,FZ17,bZ17,PySem.W.mg_of X G aZ17,FZ18,bZ18,PySem.W.mg_of X G aZ18,FZ19,bZ19,PySem.W.mg_of X G aZ19,FZ23,bZ23,PySem.W.mg_of X G aZ23,FZ24,bZ24,PySem.W.mg_of X G aZ24,FZ25,bZ25,PySem.W.mg_of X G aZ25,FZ26,bZ26,PySem.W.mg_of X G aZ26,FZ27,bZ27,PySem.W.mg_of X G aZ27,FZ28,bZ28,PySem.W.mg_of X G aZ28,⟨i_MillError,k_MillError⟩,⟨ga_MillError,na_MillError,cl_MillError,gt,tk,mo_MillError,mb_MillError,by rw [ci_MillError]; rfl⟩,PySem.W.mg_of X G a_MillError,⟨⟨_,ci_MillError,mr_MillError⟩,ty_MillError⟩,⟨i_NoMachine,k_NoMachine⟩,⟨ga_NoMachine,na_NoMachine,cl_NoMachine,gt,tk,mo_NoMachine,mb_NoMachine,by rw [ci_NoMachine]; rfl⟩,PySem.W.mg_of X G a_NoMachine,⟨⟨_,ci_NoMachine,mr_NoMachine⟩,ty_NoMachine⟩,⟨_,PySem.W.mg_of X G q_MOST_ROWS,⟨_,rfl⟩⟩,⟨_,PySem.W.mg_of X G q_LEAST_SIGNS,⟨_,rfl⟩⟩,⟨_,PySem.W.mg_of X G q_MOST_SIGNS,⟨_,rfl⟩⟩,PySem.W.mg_none_of X G z_ValueError,PySem.W.mg_none_of X G z_abs,PySem.W.mg_none_of X G z_all,PySem.W.mg_none_of X G z_bool,PySem.W.mg_none_of X G z_dict,PySem.W.mg_none_of X G z_enumerate,PySem.W.mg_none_of X G z_int,PySem.W.mg_none_of X G z_isinstance,PySem.W.mg_none_of X G z_len,PySem.W.mg_none_of X G z_list,PySem.W.mg_none_of X G z_max,PySem.W.mg_none_of X G z_min,PySem.W.mg_none_of X G z_range,PySem.W.mg_none_of X G z_sorted,PySem.W.mg_none_of X G z_str,PySem.W.mg_none_of X G z_tuple,PySem.W.mg_none_of X G z_zip,nd⟩
 exact⟨_,fun s v=>.of_eq rfl,fun base _ _=>ok_law T⟩
theorem walk {l:PySem.W.OpenLaw} {q:Program} {loose:List Str} {XP:(Str→Option Value)→Heap→Prop} {YP:World→Heap→Prop} {d:DefRec} {K:Params→PySem.W.Frag} (hn:l.most = some 63) (hdf:d.params.defaults = [])
  (hY:∀ (w:World) (h:Heap),YP w h→(K w.params).In h)
  (F:∀ (w:World) (mg:Str→Option Value) (fa:Addr) (h:Heap),(K w.params).In h→h.Ns mainGlobals mg→mg d.name = some (.ref fa) →
   ∃ fd:FuncData,(∀ (s:Shared) (u:Value),BindsTo s fd ⟨[u],[]⟩ [("_law_script",u)])∧∀ base:Heap,(K w.params).In base→base.Ns mainGlobals mg→FnOk l.prog w (K w.params) mg base CX0 8 fa fd ["_law_script"] (sp_law (K w.params))) :
  PySem.W.WalkO q loose XP YP l.row.toRowW d [] (fun f vs=>PySem.call f vs) :=
 L2.walk_of (n:=63) (k:=8) (x:="_law_script") (CX:=fun _=>CX0) (sp:=fun w=>sp_law (K w.params)) hn (by decide) hdf ⟨rfl,by decide,by decide⟩ hY F (fun _ _ a ns hl _ hS=>⟨ns,hS,hl,fun _=>rfl⟩) fun _ _ _ _ _ z=>z
end Law
def PySem.W.Fast.tw3036479262204069178:Unit:=()
def PySem.W.Fast.tw8574393030531235284:Unit:=()
def PySem.W.Fast.tw15766101477829626329:Unit:=()
def PySem.W.Fast.tw2613874013796240595:Unit:=()
def PySem.W.Fast.tw2868214416803458439:Unit:=()
def PySem.W.Fast.tw4872845342012448587:Unit:=()
def PySem.W.Fast.tw17450691753720421992:Unit:=()
def PySem.W.Fast.tw16567503714241465848:Unit:=()
def PySem.W.Fast.tw2087044060905806764:Unit:=()
def PySem.W.Fast.tw6071047943830713667:Unit:=()
def PySem.W.Fast.tw3236419988828952967:Unit:=()
def PySem.W.Fast.tw8072321613043875302:Unit:=()
def PySem.W.Fast.tw7675596832665260435:Unit:=()
def PySem.W.Fast.tw7882961754508058552:Unit:=()
def PySem.W.Fast.tw16007734421615542541:Unit:=()
def PySem.W.Fast.tw14668575658813153317:Unit:=()
def PySem.W.Fast.tw17769885909425312182:Unit:=()
def PySem.W.Fast.tw13030816817889864662:Unit:=()
def PySem.W.Fast.tw13662303213743680339:Unit:=()
def PySem.W.Fast.tw2398120875988941582:Unit:=()
def PySem.W.Fast.tw13036333648207140427:Unit:=()
def PySem.W.Fast.tw16948129498130401260:Unit:=()
def PySem.W.Fast.tw18313539594153861965:Unit:=()
def PySem.W.Fast.tw7276493536578430361:Unit:=()
def PySem.W.Fast.tw7144741393170230404:Unit:=()
def PySem.W.Fast.tw1378181364913236286:Unit:=()
def PySem.W.Fast.tw4295932032437099378:Unit:=()
def PySem.W.Fast.tw7911590915529126733:Unit:=()
def PySem.W.Fast.tw12107925279365070518:Unit:=()
def PySem.W.Fast.tw3989771037637284340:Unit:=()
def PySem.W.Fast.tw12876466887338899278:Unit:=()
def PySem.W.Fast.tw12915634945588151320:Unit:=()
def PySem.W.Fast.tw14114291153500590478:Unit:=()
def PySem.W.Fast.tw4724764173871027497:Unit:=()
def PySem.W.Fast.tw17115426272412572179:Unit:=()
def PySem.W.Fast.tw16149293017344076370:Unit:=()
def PySem.W.Fast.tw3634507556563923461:Unit:=()
def PySem.W.Fast.tw9805927140861024877:Unit:=()
def PySem.W.Fast.tw14207659353975950969:Unit:=()
def PySem.W.Fast.tw9997762196040933525:Unit:=()
def PySem.W.Fast.tw643875687911517391:Unit:=()
def PySem.W.Fast.tw3650811153743531556:Unit:=()
def PySem.W.Fast.tw294305161391464942:Unit:=()
def PySem.W.Fast.tw1797527841586421155:Unit:=()
def PySem.W.Fast.tw14466446607088567043:Unit:=()
def PySem.W.Fast.tw7413786867343775757:Unit:=()
def PySem.W.Fast.tw13729579295672788339:Unit:=()
def PySem.W.Fast.tw4143334280932127365:Unit:=()
def PySem.W.Fast.tw1317561145459171373:Unit:=()
def PySem.W.Fast.tw2587656791112772575:Unit:=()
def PySem.W.Fast.tw9039207646786243737:Unit:=()
def PySem.W.Fast.tw5806897503456930431:Unit:=()
def PySem.W.Fast.tw18439084957972981924:Unit:=()
def PySem.W.Fast.tw11566177355356228850:Unit:=()
def PySem.W.Fast.tw7961225152984469050:Unit:=()
def PySem.W.Fast.tw15539652311912143051:Unit:=()
def PySem.W.Fast.tw4016750734014966225:Unit:=()
def PySem.W.Fast.tw10499034043667075511:Unit:=()
def PySem.W.Fast.tw6458312453413944303:Unit:=()
def PySem.W.Fast.tw13059875443697105129:Unit:=()
def PySem.W.Fast.tw1443141862868925983:Unit:=()
def PySem.W.Fast.tw14173204826669709459:Unit:=()
def PySem.W.Fast.tw1846498921257451600:Unit:=()
def PySem.W.Fast.tw14176638201174555932:Unit:=()
def PySem.W.Fast.tw18055087347482904087:Unit:=()
def PySem.W.Fast.tw5395407566647879380:Unit:=()
def PySem.W.Fast.tw308749362429351833:Unit:=()
def PySem.W.Fast.tw13331759714692594819:Unit:=()
def PySem.W.Fast.tw16599525075259715233:Unit:=()
def PySem.W.Fast.tw12262996637025618252:Unit:=()
def PySem.W.Fast.tw15293891349663156415:Unit:=()
def PySem.W.Fast.tw812581501496400168:Unit:=()
def PySem.W.Fast.tw4791994659887140992:Unit:=()
def PySem.W.Fast.tw7226058278061953020:Unit:=()
def PySem.W.Fast.tw13701403816243104664:Unit:=()
def PySem.W.Fast.tw18353981612994904160:Unit:=()
def PySem.W.Fast.tw74904563835460067:Unit:=()
def PySem.W.Fast.tw9579547626070071024:Unit:=()
def PySem.W.Fast.tw4090826001169095303:Unit:=()
def PySem.W.Fast.tw3638120464975374137:Unit:=()
def PySem.W.Fast.tw17016233743501367365:Unit:=()
def PySem.W.Fast.tw8212686010640488204:Unit:=()
def PySem.W.Fast.tw3780452941441009667:Unit:=()
def PySem.W.Fast.tw5374571057672520935:Unit:=()
def PySem.W.Fast.tw5252925198897150005:Unit:=()
def PySem.W.Fast.tw12154872711699399014:Unit:=()
def PySem.W.Fast.tw16454345481511361797:Unit:=()
def PySem.W.Fast.tw12252282807017654220:Unit:=()
def PySem.W.Fast.tw12592524810284429420:Unit:=()
def PySem.W.Fast.tw18014506266479827517:Unit:=()
def PySem.W.Fast.tw3867070863919466461:Unit:=()
def PySem.W.Fast.tw9316580025684815841:Unit:=()
def PySem.W.Fast.tw11847304677714934578:Unit:=()
def PySem.W.Fast.tw4210399965203050794:Unit:=()
def PySem.W.Fast.tw8419646454619461817:Unit:=()
def PySem.W.Fast.tw15801454339292216297:Unit:=()
def PySem.W.Fast.tw16900544621993909192:Unit:=()
def PySem.W.Fast.tw1425052985814449747:Unit:=()
def PySem.W.Fast.tw9736779613458682846:Unit:=()
def PySem.W.Fast.tw3336974117633747607:Unit:=()
def PySem.W.Fast.tw12346624794533669573:Unit:=()
def PySem.W.Fast.tw2271846667002960837:Unit:=()
open PySem PySem.W PyProof.Rows
set_option maxRecDepth 100000 in
set_option maxHeartbeats 0 in
theorem PySem.Challenge.cw_endnever_k54_like_ones_and_groups_holds : PySem.Challenge.rw_endnever_k54_like_ones_and_groups.Holds := by
 w_on; o_law; k_head; (case hw=>w_witness2)
 k_fill
 refine Law.walk (l:=PySem.Challenge.rw_endnever_k54_like_ones_and_groups) rfl rfl (fun w h Y=>PySem.W.kIn_of Y) ?F
 case F =>
  intro w mg fa h KX G hmg
  refine' Law.all_mk KX G hmg ?aZ0 ?lZ0 ?cZ0 ?kZ0 ?aZ1 ?lZ1 ?cZ1 ?kZ1 ?aZ2 ?lZ2 ?cZ2 ?kZ2 ?aZ3 ?lZ3 ?cZ3 ?kZ3 ?aZ4 ?lZ4 ?cZ4 ?kZ4 ?aZ5 ?lZ5 ?cZ5 ?kZ5 ?aZ6 ?lZ6 ?cZ6 ?kZ6 ?aZ11 ?lZ11 ?cZ11 ?kZ11 ?aZ12 ?lZ12 ?cZ12 ?kZ12 ?aZ13 ?lZ13 ?cZ13 ?kZ13 ?aZ14 ?lZ14 ?cZ14 ?kZ14 ?aZ15 ?lZ15 ?cZ15 ?kZ15 ?aZ16 ?lZ16 ?cZ16 ?kZ16 ?aZ17 ?lZ17 ?cZ17 ?kZ17 ?aZ18 ?lZ18 ?cZ18 ?kZ18 ?aZ19 ?lZ19 ?cZ19 ?kZ19 ?aZ23 ?lZ23 ?cZ23 ?kZ23 ?aZ24 ?lZ24 ?cZ24 ?kZ24 ?aZ25 ?lZ25 ?cZ25 ?kZ25 ?aZ26 ?lZ26 ?cZ26 ?kZ26 ?aZ27 ?lZ27 ?cZ27 ?kZ27 ?aZ28 ?lZ28 ?cZ28 ?kZ28 ?gt ?tk ?a_MillError ?i_MillError ?k_MillError ?ga_MillError ?na_MillError ?cl_MillError ?mo_MillError ?mb_MillError ?ci_MillError ?mr_MillError ?ty_MillError ?a_NoMachine ?i_NoMachine ?k_NoMachine ?ga_NoMachine ?na_NoMachine ?cl_NoMachine ?mo_NoMachine ?mb_NoMachine ?ci_NoMachine ?mr_NoMachine ?ty_NoMachine ?z_ValueError ?z_abs ?z_all ?z_bool ?z_dict ?z_enumerate ?z_int ?z_isinstance ?z_len ?z_list ?z_max ?z_min ?z_range ?z_sorted ?z_str ?z_tuple ?z_zip ?nd ?q_MOST_ROWS ?q_LEAST_SIGNS ?q_MOST_SIGNS
  (case aZ0=>k_is)
  (case lZ0=>k_is)
  (case cZ0=>k_is)
  (case kZ0=>k_is)
  (case aZ1=>k_is)
  (case lZ1=>k_is)
  (case cZ1=>k_is)
  (case kZ1=>k_is)
  (case aZ2=>k_is)
  (case lZ2=>k_is)
  (case cZ2=>k_is)
  (case kZ2=>k_is)
  (case aZ3=>k_is)
  (case lZ3=>k_is)
  (case cZ3=>k_is)
  (case kZ3=>k_is)
  (case aZ4=>k_is)
  (case lZ4=>k_is)
  (case cZ4=>k_is)
  (case kZ4=>k_is)
  (case aZ5=>k_is)
  (case lZ5=>k_is)
  (case cZ5=>k_is)
  (case kZ5=>k_is)
  (case aZ6=>k_is)
  (case lZ6=>k_is)
  (case cZ6=>k_is)
  (case kZ6=>k_is)
  (case aZ11=>k_is)
  (case lZ11=>k_is)
  (case cZ11=>k_is)
  (case kZ11=>k_is)
  (case aZ12=>k_is)
  (case lZ12=>k_is)
  (case cZ12=>k_is)
  (case kZ12=>k_is)
  (case aZ13=>k_is)
  (case lZ13=>k_is)
  (case cZ13=>k_is)
  (case kZ13=>k_is)
  (case aZ14=>k_is)
  (case lZ14=>k_is)
  (case cZ14=>k_is)
  (case kZ14=>k_is)
  (case aZ15=>k_is)
  (case lZ15=>k_is)
  (case cZ15=>k_is)
  (case kZ15=>k_is)
  (case aZ16=>k_is)
  (case lZ16=>k_is)
  (case cZ16=>k_is)
  (case kZ16=>k_is)
  (case aZ17=>k_is)
  (case lZ17=>k_is)
  (case cZ17=>k_is)
  (case kZ17=>k_is)
  (case aZ18=>k_is)
  (case lZ18=>k_is)
  (case cZ18=>k_is)
  (case kZ18=>k_is)
  (case aZ19=>k_is)
  (case lZ19=>k_is)
  (case cZ19=>k_is)
  (case kZ19=>k_is)
  (case aZ23=>k_is)
  (case lZ23=>k_is)
  (case cZ23=>k_is)
  (case kZ23=>k_is)
  (case aZ24=>k_is)
  (case lZ24=>k_is)
  (case cZ24=>k_is)
  (case kZ24=>k_is)
  (case aZ25=>k_is)
  (case lZ25=>k_is)
  (case cZ25=>k_is)
  (case kZ25=>k_is)
  (case aZ26=>k_is)
  (case lZ26=>k_is)
  (case cZ26=>k_is)
  (case kZ26=>k_is)
  (case aZ27=>k_is)
  (case lZ27=>k_is)
  (case cZ27=>k_is)
  (case kZ27=>k_is)
  (case aZ28=>k_is)
  (case lZ28=>k_is)
  (case cZ28=>k_is)
  (case kZ28=>k_is)
  (case gt=>k_is)
  (case tk=>k_is)
  (case a_MillError=>k_is)
  (case i_MillError=>k_exc)
  (case k_MillError=>k_is)
  (case ga_MillError=>k_is)
  (case na_MillError=>k_is)
  (case cl_MillError=>k_is)
  (case mo_MillError=>k_is)
  (case mb_MillError=>k_is)
  (case ci_MillError=>k_is)
  (case mr_MillError=>rfl)
  (case ty_MillError=>k_is)
  (case a_NoMachine=>k_is)
  (case i_NoMachine=>k_exc)
  (case k_NoMachine=>k_is)
  (case ga_NoMachine=>k_is)
  (case na_NoMachine=>k_is)
  (case cl_NoMachine=>k_is)
  (case mo_NoMachine=>k_is)
  (case mb_NoMachine=>k_is)
  (case ci_NoMachine=>k_is)
  (case mr_NoMachine=>rfl)
  (case ty_NoMachine=>k_is)
  (case z_ValueError=>k_is)
  (case z_abs=>k_is)
  (case z_all=>k_is)
  (case z_bool=>k_is)
  (case z_dict=>k_is)
  (case z_enumerate=>k_is)
  (case z_int=>k_is)
  (case z_isinstance=>k_is)
  (case z_len=>k_is)
  (case z_list=>k_is)
  (case z_max=>k_is)
  (case z_min=>k_is)
  (case z_range=>k_is)
  (case z_sorted=>k_is)
  (case z_str=>k_is)
  (case z_tuple=>k_is)
  (case z_zip=>k_is)
  (case nd=>decide)
  (case q_MOST_ROWS=>k_is)
  (case q_LEAST_SIGNS=>k_is)
  (case q_MOST_SIGNS=>k_is)
